/-
  A node put into a skip list, level by level: lists and memory, without walks.
-/
import Derived.Test.YtjlebmpgjliacaaMeE
namespace Go.Proofs.Ytjlebmpgjliacaa
open Go.RowKit
set_option linter.unusedVariables false

def ins (N : List Nd) (p : Nat) (x : Nd) : List Nd := N.take p ++ x :: N.drop p
section
variable {N : List Nd} {p : Nat} {x : Nd}
theorem ins_len (hp1 : p ≤ N.length) : (ins N p x).length = N.length + 1 := by
  unfold ins
  rw [List.length_append, List.length_take, List.length_cons, List.length_drop]; omega
theorem ins_lt {j : Nat} (hp1 : p ≤ N.length) (h : j < p) : (ins N p x)[j]? = N[j]? := by
  unfold ins
  rw [List.getElem?_append_left (by rw [List.length_take]; omega), List.getElem?_take, if_pos h]
theorem ins_at (hp1 : p ≤ N.length) : (ins N p x)[p]? = some x := by
  unfold ins
  rw [List.getElem?_append_right (by rw [List.length_take]; omega), List.length_take, Nat.min_eq_left hp1, Nat.sub_self]
  rfl
theorem ins_gt {j : Nat} (hp1 : p ≤ N.length) (h : p ≤ j) : (ins N p x)[j + 1]? = N[j]? := by
  unfold ins
  rw [List.getElem?_append_right (by rw [List.length_take]; omega), List.length_take, Nat.min_eq_left hp1, show j + 1 - p = (j - p) + 1 from by omega, List.getElem?_cons_succ, List.getElem?_drop, show p + (j - p) = j from by omega]
theorem ins_drop_lt {i : Nat} (hp1 : p ≤ N.length) (h : i ≤ p) : (ins N p x).drop i = (N.drop i).take (p - i) ++ x :: N.drop p := by
  unfold ins
  rw [List.drop_append, List.length_take, Nat.min_eq_left hp1, show i - p = 0 from by omega, List.drop_zero, List.take_drop, show i + (p - i) = p from by omega]
theorem ins_drop_gt {i : Nat} (hp1 : p ≤ N.length) (h : p ≤ i) : (ins N p x).drop (i + 1) = N.drop i := by
  unfold ins
  rw [List.drop_append, List.length_take, Nat.min_eq_left hp1, List.drop_of_length_le (by rw [List.length_take]; omega), List.nil_append, show i + 1 - p = (i - p) + 1 from by omega, List.drop_succ_cons, List.drop_drop, show p + (i - p) = i from by omega]
theorem hp_lt {i : Nat} (hp1 : p ≤ N.length) (h : i ≤ p) : hp (ins N p x) i = hp N i := by
  cases i with
  | zero => rfl
  | succ i => simp only [hp, ins_lt hp1 (show i < p from h)]
theorem hp_x (hp1 : p ≤ N.length) : hp (ins N p x) (p + 1) = x.h := by simp only [hp, ins_at hp1]
theorem hp_gt {i : Nat} (hp1 : p ≤ N.length) (h : p < i) : hp (ins N p x) (i + 1) = hp N i := by
  cases i with
  | zero => omega
  | succ i => simp only [hp, ins_gt hp1 (show p ≤ i by omega)]
theorem ba_lt {tb i : Nat} (hp1 : p ≤ N.length) (h : i ≤ p) : ba tb (ins N p x) i = ba tb N i := by
  cases i with
  | zero => rfl
  | succ i => simp only [ba, ins_lt hp1 (show i < p from h)]
/-- What stands between a position and p. -/
def segN (N : List Nd) (p i L : Nat) : Option Nd := ((N.drop i).take (p - i)).find? fun n => decide (L < n.h)
theorem nx_ins {i L : Nat} (hp1 : p ≤ N.length) (h : i ≤ p) : nxN (ins N p x) i L = if L < hp N i then (match segN N p i L with | some n => some n | none => if L < x.h then some x else (N.drop p).find? fun n => decide (L < n.h)) else none := by
  unfold nxN segN
  rw [hp_lt hp1 h, ins_drop_lt hp1 h, List.find?_append, List.find?_cons]
  split
  · cases ((N.drop i).take (p - i)).find? fun n => decide (L < n.h) with
    | some n => rfl
    | none =>
      by_cases hx : L < x.h
      · simp [hx]
      · simp [hx]
  · rfl
theorem nx_old {i L : Nat} (h : i ≤ p) : nxN N i L = if L < hp N i then (match segN N p i L with | some n => some n | none => (N.drop p).find? fun n => decide (L < n.h)) else none := by
  unfold nxN segN
  have e : N.drop i = (N.drop i).take (p - i) ++ N.drop p := by
    conv => lhs; rw [← List.take_append_drop (p - i) (N.drop i)]
    rw [List.drop_drop, show i + (p - i) = p from by omega]
  split
  · conv => lhs; rw [e]
    rw [List.find?_append]
    cases ((N.drop i).take (p - i)).find? fun n => decide (L < n.h) <;> rfl
  · rfl
theorem nx_ins_x {L : Nat} (hp1 : p ≤ N.length) : nxN (ins N p x) (p + 1) L = if L < x.h then (N.drop p).find? (fun n => decide (L < n.h)) else none := by
  unfold nxN
  rw [hp_x hp1, ins_drop_gt hp1 (Nat.le_refl _)]
theorem nx_ins_gt {i L : Nat} (hp1 : p ≤ N.length) (h : p < i) : nxN (ins N p x) (i + 1) L = nxN N i L := by
  unfold nxN
  rw [hp_gt hp1 h, ins_drop_gt hp1 (Nat.le_of_lt h)]
theorem seg_none {i L : Nat} (hp1 : p ≤ N.length) (h : i ≤ p) (hl : L < hp N i) : segN N p i L = none ↔ lastP N L p = i := by
  constructor
  · intro hs
    refine lastP_eq hl h hp1 fun j h1 h2 m hm => ?_
    unfold segN at hs
    rw [List.find?_eq_none] at hs
    have h4 : ((N.drop i).take (p - i))[j - i]? = some m := by rw [List.getElem?_take, if_pos (by omega), List.getElem?_drop, show i + (j - i) = j from by omega]; exact hm
    simpa using hs m (List.mem_of_getElem? h4)
  · intro hs
    unfold segN
    rw [List.find?_eq_none]
    intro m hm
    obtain ⟨j, hj⟩ := List.getElem?_of_mem hm
    rw [List.getElem?_take] at hj
    split at hj
    · rename_i hjl
      rw [List.getElem?_drop] at hj
      have := lastP_after (N := N) (L := L) p (i + j) (by omega) (by omega) m hj
      simpa using this
    · cases hj
end
/-- The node with its tower up to k. -/
def Nd.to (x : Nd) (k : Nat) : Nd := { x with h := k }
theorem to_lt {x : Nd} {k L : Nat} (h : L ≠ k) : (L < (x.to (k + 1)).h) = (L < (x.to k).h) := propext ⟨fun (e : L < k + 1) => (show L < k by omega), fun (e : L < k) => (show L < k + 1 by omega)⟩
/-- One level more: what each position's next is. -/
theorem nx_level {N : List Nd} {p k : Nat} {x : Nd} (hp1 : p ≤ N.length) (hk : k < 12) {i L : Nat} (hi : i ≤ N.length + 1) :
    pnt (nxN (ins N p (x.to (k + 1))) i L) = if L = k ∧ i = lastP N k p then .pointer (some ⟨x.blk, 0, none⟩) else if L = k ∧ i = p + 1 then pnt (nxN (ins N p (x.to k)) (lastP N k p) k) else pnt (nxN (ins N p (x.to k)) i L) := by
  have hlp := lastP_le N k p
  have hlh := lastP_hp (N := N) hk p
  rcases Nat.lt_or_ge p i with h | h
  · have hne : ¬ (L = k ∧ i = lastP N k p) := by omega
    simp only [if_neg hne]
    obtain ⟨i, rfl⟩ : ∃ i', i = i' + 1 := ⟨i - 1, by omega⟩
    rcases Nat.lt_or_ge p i with h2 | h2
    · have hn2 : ¬ (L = k ∧ i + 1 = p + 1) := by omega
      simp only [if_neg hn2]
      rw [nx_ins_gt hp1 h2, nx_ins_gt hp1 h2]
    · obtain rfl : i = p := by omega
      by_cases hL : L = k
      · subst hL
        simp only [and_self, if_true]
        rw [nx_ins_x hp1, nx_ins hp1 hlp, if_pos hlh, (seg_none hp1 hlp hlh).2 rfl]
        simp [Nd.to]
      · simp only [hL, false_and, if_false]
        rw [nx_ins_x hp1, nx_ins_x hp1]
        simp only [to_lt hL]
  · have hn2 : ¬ (L = k ∧ i = p + 1) := by omega
    simp only [if_neg hn2]
    rw [nx_ins hp1 h, nx_ins hp1 h]
    by_cases hl : L < hp N i
    · simp only [if_pos hl]
      cases hs : segN N p i L with
      | some n =>
        have hne : ¬ (L = k ∧ i = lastP N k p) := by
          rintro ⟨rfl, rfl⟩
          rw [(seg_none hp1 h hl).2 rfl] at hs
          cases hs
        simp only [if_neg hne]
      | none =>
        have hi2 := (seg_none hp1 h hl).1 hs
        by_cases hL : L = k
        · subst hL
          have hy2 : L < (x.to (L + 1)).h := Nat.lt_succ_self L
          simp only [if_pos hy2, hi2, and_self, if_true]
          rfl
        · have hne : ¬ (L = k ∧ i = lastP N k p) := fun e => hL e.1
          simp only [if_neg hne, to_lt hL]
          split <;> rfl
    · have hne : ¬ (L = k ∧ i = lastP N k p) := by
        rintro ⟨rfl, rfl⟩
        exact hl hlh
      simp only [if_neg hl, if_neg hne]
/-- A node without a tower is nowhere linked. -/
theorem nx_base {N : List Nd} {p : Nat} {x : Nd} (hp1 : p ≤ N.length) {i L : Nat} (h : i ≤ p) : nxN (ins N p (x.to 0)) i L = nxN N i L := by
  rw [nx_ins hp1 h, nx_old h]
  simp [Nd.to]
end Go.Proofs.Ytjlebmpgjliacaa
