/-
  A log's Roll.
-/
import Derived.Test.YtnbomifnbhijbaaGreatDoorWaD
namespace Go.Proofs.YtnbomifnbhijbaaGreatDoor
open Go.RowKit Go.Maps
set_option linter.unusedVariables false

def rollX (x : Ws) : Ws × Int × Int := if (syncX x).2 = 0 then ({ (syncX x).1 with seg := min (syncX x).1.seg 999999 + 1 }, min (syncX x).1.seg 999999 + 1, 0) else ((syncX x).1, 0, (syncX x).2)
set_option maxHeartbeats 4000000 in
theorem roll_any {w0 w : World} {pl pb mb : Nat} {gs : List Gm} {x : Ws} (h : Wl w0 w pl pb mb gs x) :
    Calls Tryz.prog 28 #[.pointer (some ⟨pl, 0, none⟩)] w fun e w' => e = .returned (.tuple #[.int .i64 (rollX x).2.1, .int .i64 (rollX x).2.2]) ∧ WlPost w0 w pl pb mb gs (rollX x).1 w' := by
  have hsy := lsync_any h
  unfold rollX
  generalize (syncX x).1 = y at hsy ⊢
  generalize (syncX x).2 = cd at hsy ⊢
  by_cases hc : cd = 0
  · rw [if_pos hc]
    subst hc
    go_enter Tryz.func28, Tryz.ntmps28
    go_wp2_with (go_at_call 26; refine hsy.mono ?_; rintro e w1 ⟨rfl, gs1, hw1, hS1⟩; have m1 := hw1.lg.cell (k := 1) rfl; have f1 := hw1.lg.frozen 1; have b1 := hw1.seg1; have b2 := hw1.seg2)
    go_ret2
    have hL : Lg (w1.setCell ⟨pl, 1, none⟩ (.int .i64 (min y.seg 999999 + 1))) pl pb (min y.seg 999999 + 1) y.dd := Blk.set hw1.lg 1 _
    have := hw1.log (stp_set rfl) hL (by omega) (by omega)
    exact ⟨rfl, gs1, this.1, hS1.trans this.2⟩
  · rw [if_neg hc]
    go_enter Tryz.func28, Tryz.ntmps28
    go_wp2_with (go_at_call 26; refine hsy.mono ?_; rintro e w1 ⟨rfl, hw1⟩)
    go_ret2
    exact ⟨rfl, hw1⟩
end Go.Proofs.YtnbomifnbhijbaaGreatDoor
