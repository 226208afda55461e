/-
  The law FrameSums, as a walk: it answers true and writes nothing that was there.
-/
import Derived.Test.YtacpbcahmhnhbaaDoorAwake
namespace Go.Proofs.YtacpbcahmhnhbaaDoor
open Go.RowKit Num Crc

/-- True, and nothing older is written. -/
def Good (w : World) (e : Ending) (w' : World) : Prop := e = .returned (.bool true) ∧ Below w.heap.size w w'

set_option maxRecDepth 20000 in
set_option maxHeartbeats 1600000 in
theorem sums_law (A : Option Addr) (n c : Nat) (l : List UInt8) (w : World) (hL : Laid w) (hs : Sl w A n (bv l)) (hn : n ≤ 140737488351232) (hnc : n ≤ c) :
    Calls Tryd.prog 5 #[.slice A n c] w (Good w) := by
  have hl := hs.len
  subst hl
  have GL := Lib.hid hL
  clear hL
  go_enter Tryd.func5, Tryd.ntmps5
  go_wp2_with fail
  refine (awake_any w GL.out).mono ?_
  rintro e w1 ⟨rfl, hb1⟩
  go_wp2_with fail
  refine (own_any A _ c l _ (hs.below hb1) (by omega)).mono ?_
  rintro e w2 ⟨A2, c2, rfl, hown2, hb2⟩
  have hb12 := hb1.trans (hb2.mono hb1.size)
  go_wp2_with fail
  refine (sum_any A2 _ c2 l _ (GL.out.keep hb12) (own_sl hown2) (by omega)).mono ?_
  rintro e w3 ⟨rfl, rfl⟩
  go_wp2_with fail
  refine (refSum_any A _ c l _ (hs.below hb12) (by omega)).mono ?_
  rintro e w4 ⟨rfl, rfl⟩
  go_wp2_with fail
  go_ret
  exact ⟨by simp, hb12⟩

end Go.Proofs.YtacpbcahmhnhbaaDoor
