/-
  The search of a skip list: ahead, before, first.
-/
import Derived.Test.YtjlebmpgjliacaaMeA
namespace Go.Proofs.Ytjlebmpgjliacaa
open Go.RowKit
set_option linter.unusedVariables false

theorem Tb.key {w : World} {tb : Nat} {N : List Nd} {cnt byt : Int} (h : Tb w tb N cnt byt) {j : Nat} {m : Nd} (hm : N[j]? = some m) : w.cell? ⟨m.blk, 0, none⟩ = some (.string (str m.e.key)) ∧ w.cell? ⟨m.blk, 1, none⟩ = some (.int .i64 m.e.seq) ∧ w.cell? ⟨m.blk, 2, none⟩ = some (.bool m.e.del) ∧ w.cell? ⟨m.blk, 3, none⟩ = some (.string (str m.e.val)) ∧ w.cell? ⟨m.blk, 4, none⟩ = some (.int .i64 m.num) :=
  ⟨(h.nd j m hm).cell rfl, (h.nd j m hm).cell rfl, (h.nd j m hm).cell rfl, (h.nd j m hm).cell rfl, (h.nd j m hm).cell rfl⟩
set_option maxHeartbeats 1000000 in
theorem ahead_any {w : World} {tb : Nat} {N : List Nd} {cnt byt : Int} (h : Tb w tb N cnt byt) {j : Nat} {m : Nd} (hm : N[j]? = some m) (key : List UInt8) (seq : Int) :
    Calls Try.prog 25 #[.pointer (some ⟨m.blk, 0, none⟩), .string (str key), .int .i64 seq] w fun e w' => e = .returned (.bool (m.e.ahead key seq)) ∧ ∃ q, w' = w.drewN q := by
  obtain ⟨c0, c1, -, -, -⟩ := h.key hm
  unfold En.ahead
  rw [← bless_eq]
  clear h hm
  generalize m.e.key = k at *
  generalize m.e.seq = s at *
  go_enter Try.func25, Try.ntmps25
  have htl : ∀ l : List UInt8, (str l).toList = l := fun l => ByteArray.toList_mk l
  cases h1 : Op.bytesLess k key with
  | true =>
    have g1 : Op.bytesLess (str k).toList (str key).toList = true := by rw [htl, htl]; exact h1
    clear htl
    go_wp2_with fail
    go_ret
    exact ⟨rfl, 0, rfl⟩
  | false =>
    have g1 : Op.bytesLess (str k).toList (str key).toList = false := by rw [htl, htl]; exact h1
    cases h2 : (k == key) with
    | true =>
      obtain rfl : k = key := by simpa using h2
      clear htl h2
      go_wp2_with fail
      go_ret
      exact ⟨by simp, 0, rfl⟩
    | false =>
      have g2 : ((str k).toList == (str key).toList) = false := by rw [htl, htl]; exact h2
      have g3 : ¬ (str k).toList = (str key).toList := by rw [htl, htl]; simpa using h2
      clear htl h2
      go_wp2_with fail
      go_ret
      exact ⟨by simp, 0, rfl⟩

/-- The array of the last nodes: from level j up it is filled. -/
def lasts (tb : Nat) (N : List Nd) (p j : Nat) : List Value := (List.range 12).map fun L => if j ≤ L then Value.pointer (some ⟨ba tb N (lastP N L p), 0, none⟩) else .pointer none
theorem lasts_len (tb : Nat) (N : List Nd) (p j : Nat) : (lasts tb N p j).length = 12 := by simp [lasts]
theorem lasts_set (tb : Nat) (N : List Nd) (p : Nat) {j : Nat} (hj : j < 12) {u : Value} (hu : u = .pointer (some ⟨ba tb N (lastP N j p), 0, none⟩)) : (lasts tb N p (j + 1)).toArray.setIfInBounds j u = (lasts tb N p j).toArray := by
  subst hu
  apply Array.ext'
  simp only [List.setIfInBounds_toArray]
  apply List.ext_getElem?
  intro k
  rw [List.getElem?_set]
  simp only [lasts_len]
  by_cases e : j = k
  · subst e
    rw [if_pos rfl, if_pos hj]
    simp [lasts, hj]
  · rw [if_neg e]
    simp only [lasts, List.getElem?_map]
    cases hk : (List.range 12)[k]? with
    | none => rfl
    | some q =>
      have hq : q = k := by rw [List.getElem?_range (by have := (List.getElem?_eq_some_iff.1 hk).1; simpa using this)] at hk; exact (Option.some.inj hk).symm
      subst hq
      simp only [Option.map_some]
      by_cases h1 : j ≤ q
      · rw [if_pos h1, if_pos (by omega)]
      · rw [if_neg h1, if_neg (by omega)]
theorem lasts_zero (tb : Nat) (N : List Nd) (p : Nat) : lasts tb N p 12 = List.replicate 12 (.pointer none) := by
  unfold lasts
  rw [List.map_congr_left (g := fun _ => Value.pointer none) (fun L hL => by rw [if_neg (by have := List.mem_range.1 hL; omega)])]
  rfl
end Go.Proofs.Ytjlebmpgjliacaa
