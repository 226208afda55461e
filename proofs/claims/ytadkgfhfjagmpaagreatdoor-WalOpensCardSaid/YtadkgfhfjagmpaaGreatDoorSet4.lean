/-
  A box of four cells stored anew.
-/
import Derived.Test.YtadkgfhfjagmpaaGreatDoorGRe
namespace Go.Proofs.YtadkgfhfjagmpaaGreatDoor
open Go.RowKit Go.Maps
set_option linter.unusedVariables false

theorem set4_block (m : Nat) (W : World) (v0 v1 v2 v3 : Value) (n : Nat) (h : n ≠ m) : ((((W.setCell ⟨m, 0, none⟩ v0).setCell ⟨m, 1, none⟩ v1).setCell ⟨m, 2, none⟩ v2).setCell ⟨m, 3, none⟩ v3).heap[n]? = W.heap[n]? :=
  (setCell_other _ _ _ h).trans ((setCell_other _ _ _ h).trans ((setCell_other _ _ _ h).trans (setCell_other _ _ _ h)))
theorem set4_below {B m : Nat} {w W : World} (hb : Below B w W) (hm : B ≤ m) (v0 v1 v2 v3 : Value) : Below B w ((((W.setCell ⟨m, 0, none⟩ v0).setCell ⟨m, 1, none⟩ v1).setCell ⟨m, 2, none⟩ v2).setCell ⟨m, 3, none⟩ v3) := by
  refine ⟨?_, ?_, ?_, ?_, fun k hk' => ?_⟩
  · simp only [setCell_os]; exact hb.os
  · simp only [setCell_tape]; exact hb.tape
  · simp only [setCell_output]; exact hb.output
  · simp only [setCell_size]; exact hb.size
  · rw [set4_block _ _ _ _ _ _ _ (by omega)]; exact hb.block k hk'
theorem Blk.box {W : World} {m : Nat} {A A' : Option Addr} {n n' c c' : Nat} {st lf st' lf' : Int} {ar ar' : Bool} (h : Blk W m (dcs A n c st ar lf) 35) :
    Blk ((((W.setCell ⟨m, 0, none⟩ (.slice A' n' c')).setCell ⟨m, 1, none⟩ (.int .i64 st')).setCell ⟨m, 2, none⟩ (.bool ar')).setCell ⟨m, 3, none⟩ (.int .i64 lf')) m (dcs A' n' c' st' ar' lf') 35 :=
  (((h.set 0 (.slice A' n' c')).set 1 (.int .i64 st')).set 2 (.bool ar')).set 3 (.int .i64 lf')
end Go.Proofs.YtadkgfhfjagmpaaGreatDoor
