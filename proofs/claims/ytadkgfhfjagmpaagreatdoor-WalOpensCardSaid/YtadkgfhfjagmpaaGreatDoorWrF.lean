/-
  The reference of the log: Append.
-/
import Derived.Test.YtadkgfhfjagmpaaGreatDoorWrD
import Derived.Deep.CutBlock
namespace Go.Proofs.YtadkgfhfjagmpaaGreatDoor
open Go.RowKit Go.Maps Num Crc
set_option linter.unusedVariables false

theorem old_same (s : List UInt8) (fs : List Fm) : (oldFm s fs).data = (oldL s fs).data ∧ (oldFm s fs).syn = (oldL s fs).syn := by
  unfold oldFm oldL
  cases findK Fm.name s fs <;> exact ⟨rfl, rfl⟩
theorem fileA_old (fs : List Fm) (seg : Int) : ∃ v0 v2 ok, fileA fs seg = .tuple #[.agg #[.string v0, .string (str (oldL (fname seg) fs).data), .int .i64 v2], .bool ok] := by
  unfold fileA oldL
  cases findK Fm.name (fname seg) fs with
  | none => exact ⟨_, _, _, rfl⟩
  | some f => exact ⟨_, _, _, rfl⟩
theorem appF_dapp {y : Ws} (h1 : 1 ≤ y.seg) (h2 : y.seg ≤ 999999) (b : List UInt8) : appF (fname y.seg) b.length y.fs y.ar y.lf = (dappX y b).2 := by
  have hv : vname (fname y.seg) = true := by
    unfold fname
    rw [if_pos ⟨h1, h2⟩]
    exact vname_wname _
  unfold appF dappX
  rw [if_neg (by rw [hv]; simp), (old_same _ _).1]
  split
  · rfl
  · split <;> rfl
theorem rdapp_any (y : Ws) (hy : Wx y) (h2 : y.seg ≤ 999999) (b : List UInt8) (hb : b.length ≤ 140737488355328) (A : Option Addr) (c : Nat) (V : World) (lo : Nat) (hown : V.ownsRow lo 108 3 (.slice A y.fs.length c) y.fs.length (fcs y.fs)) (hlo : lo ≤ V.heap.size) :
    Calls Tryz.prog 74 #[xdr A c y, .string (str (fname y.seg)), .string (str b)] V fun e w' => ∃ A5 c5, e = .returned (.tuple #[xdr A5 c5 (dappX y b).1, .int .i64 (dappX y b).2]) ∧
      w'.ownsRow lo 108 3 (.slice A5 (dappX y b).1.fs.length c5) (dappX y b).1.fs.length (fcs (dappX y b).1.fs) ∧ Below V.heap.size V w' := by
  refine (rappend_any A y.fs.length c y.fs y.st y.ar y.lf (fname y.seg) b V lo hown rfl hlo (by have := hy.few; omega) (by have := fname_len y.seg; omega) hb (fun f hf => (hy.sy f hf).2)).mono ?_
  intro e w' hq
  rw [appF_dapp hy.seg1 h2] at hq
  unfold dappX at hq ⊢
  by_cases c1 : (findK Fm.name (fname y.seg) y.fs = none ∧ 256 ≤ y.fs.length) ∨ 262144 < (oldL (fname y.seg) y.fs).data.length + b.length
  · rw [if_pos c1] at hq ⊢
    obtain ⟨A5, c5, q1, q2, q3⟩ := hq
    exact ⟨A5, c5, q1, q2, q3⟩
  · rw [if_neg c1] at hq ⊢
    cases hd : dead y.ar y.lf with
    | true =>
      simp only [hd, if_true] at hq ⊢
      obtain ⟨A5, c5, q1, q2, q3⟩ := hq
      exact ⟨A5, c5, q1, q2, q3⟩
    | false =>
      simp only [hd, Bool.false_eq_true, if_false, if_true] at hq ⊢
      rw [(old_same _ _).1, (old_same _ _).2] at hq
      obtain ⟨A5, c5, q1, q2, q3⟩ := hq
      exact ⟨A5, c5, q1, q2, q3⟩
theorem dapp_wx {y : Ws} (hy : Wx y) (h2 : y.seg ≤ 999999) (b : List UInt8) : Wx (dappX y b).1 ∧ (dappX y b).1.seg = y.seg ∧ (dappX y b).1.dd = y.dd := by
  have hv : vname (fname y.seg) = true := by
    unfold fname
    rw [if_pos ⟨hy.seg1, h2⟩]
    exact vname_wname _
  unfold dappX
  by_cases c1 : (findK Fm.name (fname y.seg) y.fs = none ∧ 256 ≤ y.fs.length) ∨ 262144 < (oldL (fname y.seg) y.fs).data.length + b.length
  · rw [if_pos c1]; exact ⟨hy, rfl, rfl⟩
  · rw [if_neg c1]
    split
    · exact ⟨hy, rfl, rfl⟩
    · refine ⟨⟨?_, fun f hf => ?_, fun f hf => ?_, hy.seg1⟩, rfl, rfl⟩
      · cases hf : findK Fm.name (fname y.seg) y.fs with
        | none =>
          have := length_with (key := Fm.name) (⟨fname y.seg, (oldL (fname y.seg) y.fs).data ++ b, (oldL (fname y.seg) y.fs).syn⟩ : Fm) y.fs
          have : y.fs.length < 256 := by
            rcases Nat.lt_or_ge y.fs.length 256 with h | h
            · exact h
            · exact absurd (.inl ⟨hf, h⟩) c1
          simp only
          omega
        | some g =>
          have hg := find_some hf
          exact Nat.le_trans (length_with_old (key := Fm.name) _ _ ⟨g, hg.1, hg.2⟩) hy.few
      · rcases mem_with hf with rfl | hf
        · exact hv
        · exact hy.vn f hf
      · rcases mem_with hf with rfl | hf
        · have hsz : (oldL (fname y.seg) y.fs).data.length + b.length ≤ 262144 := by
            rcases Nat.lt_or_ge 262144 ((oldL (fname y.seg) y.fs).data.length + b.length) with h | h
            · exact absurd (.inr h) c1
            · exact h
          have hsy : (oldL (fname y.seg) y.fs).syn ≤ (oldL (fname y.seg) y.fs).data.length := by
            unfold oldL
            cases hq : findK Fm.name (fname y.seg) y.fs with
            | none => simp [emptyF]
            | some g => exact (hy.sy g (find_some hq).1).1
          simp only [List.length_append]
          omega
        · exact hy.sy f hf
theorem roll_wx {x : Ws} (h : Wx x) (h2 : x.seg ≤ 1000000) : Wx (rollX x).1 ∧ (rollX x).1.seg ≤ 1000000 ∧ ((rollX x).2.2 = 0 ∨ (rollX x).2.2 = 6) ∧ ((rollX x).2.2 = 0 → (rollX x).1.dd = (syncX x).1.dd) := by
  obtain ⟨h1, h3, h4⟩ := syncX_bnd h
  unfold rollX
  rcases h4 with e | e
  · rw [if_pos e]
    refine ⟨⟨h1.few, h1.vn, h1.sy, ?_⟩, ?_, .inl rfl, fun _ => rfl⟩
    · have := h1.seg1
      simp only
      omega
    · simp only; omega
  · rw [if_neg (by rw [e]; decide)]
    exact ⟨h1, by rw [h3]; exact h2, .inr e, fun h => absurd (e.symm.trans h) (by decide)⟩
theorem sync_dd {x : Ws} (h : x.dd = false) (h0 : (syncX x).2 = 0) : (syncX x).1.dd = false := by
  unfold syncX at h0 ⊢
  rw [if_neg (by rw [h]; simp)] at h0 ⊢
  split
  · exact h
  · rename_i f hf
    rw [hf] at h0
    simp only at h0
    split at h0
    · rename_i hc; rw [if_pos hc]; exact h
    · rename_i hc
      rw [if_neg hc]
      split at h0
      · cases h0
      · rename_i hd; rw [if_neg hd]; exact h
end Go.Proofs.YtadkgfhfjagmpaaGreatDoor
