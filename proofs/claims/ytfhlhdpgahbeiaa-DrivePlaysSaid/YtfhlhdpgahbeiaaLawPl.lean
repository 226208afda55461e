/-
  The law DrivePlays as a walk.
-/
import Derived.Test.YtfhlhdpgahbeiaaBuilt
import Derived.Test.YtfhlhdpgahbeiaaAwk
namespace Go.Proofs.Ytfhlhdpgahbeiaa
open Go.RowKit Go.Maps
set_option linter.unusedVariables false

set_option maxRecDepth 40000 in
set_option maxHeartbeats 4000000 in
theorem plays_law {w : World} {A0 : Option Addr} {n0 c0 : Nat} {os : List Od} (h : Ol w A0 n0 os) (hn : n0 ≤ 140737488355328) :
    Calls Try.prog 3 #[.slice A0 n0 c0] w fun e w' => e = .returned (.bool true) ∧ Below w.heap.size w w' := by
  have hbu := built_any (c0 := c0) h hn
  clear h
  go_enter Try.func3, Try.ntmps3
  go_wp2_with fail
  refine hbu.mono ?_
  rintro e w1 ⟨pb, mb, gs, st, ar, lf, A, c, rfl, hR, hb1⟩
  clear hR hbu
  go_wp2_with fail
  refine (awake_any _).mono ?_
  rintro e w2 ⟨rfl, hb2⟩
  go_wp2_with fail
  go_ret
  refine ⟨rfl, ?_⟩
  exact (hb1.alloc hb1.size _).trans (hb2.mono (by have := hb1.size; simp; omega))
end Go.Proofs.Ytfhlhdpgahbeiaa
