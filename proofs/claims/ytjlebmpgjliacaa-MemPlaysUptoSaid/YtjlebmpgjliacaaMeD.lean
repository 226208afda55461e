/-
  A skip list's small calls: first, check, newNode, New, Len, Bytes.
-/
import Derived.Test.YtjlebmpgjliacaaMeC
import Derived.Test.YtjlebmpgjliacaaClo
namespace Go.Proofs.Ytjlebmpgjliacaa
open Go.RowKit
set_option linter.unusedVariables false

set_option maxHeartbeats 1600000 in
theorem sclone_any (s : ByteArray) (w : World) (hlim : s.size ≤ 281474976710656) : Calls Try.prog 26 #[.string s] w fun e w' => e = .returned (.string s) ∧ Below w.heap.size w w' := by
  go_enter Try.func26, Try.ntmps26
  go_wp2_with (go_at_call 27; refine (str_clone _ _ hlim).mono ?_; rintro e w' ⟨rfl, hb⟩)
  go_ret
  exact ⟨rfl, hb⟩

/-- All towers reach level 0. -/
def Tall (N : List Nd) : Prop := ∀ n ∈ N, 1 ≤ n.h
theorem lastP_zero {N : List Nd} (h : Tall N) : ∀ p, p ≤ N.length → lastP N 0 p = p
  | 0, _ => rfl
  | p + 1, hp1 => by
    have hl : N[p]? = some N[p] := List.getElem?_eq_getElem (by omega)
    unfold lastP
    rw [if_pos (by rw [hp_get hl]; exact h _ (List.getElem_mem _))]
theorem nx_zero {N : List Nd} (h : Tall N) {p : Nat} (hp1 : p ≤ N.length) : nxN N p 0 = N[p]? := by
  unfold nxN
  have hpp : 0 < hp N p := by
    cases p with
    | zero => exact (show 0 < 12 by decide)
    | succ p =>
      have hl : N[p]? = some N[p] := List.getElem?_eq_getElem (by omega)
      rw [hp_get hl]; exact h _ (List.getElem_mem _)
  rw [if_pos hpp]
  have e : (N.drop p).find? (fun n => decide (0 < n.h)) = (N.drop p).head? := by
    cases hd : N.drop p with
    | nil => rfl
    | cons a r =>
      have ha : a ∈ N := List.mem_of_mem_drop (by rw [hd]; simp)
      rw [List.find?_cons_of_pos (by have := h a ha; simp; omega)]
      rfl
  rw [e, List.head?_drop]
set_option maxRecDepth 20000 in
set_option maxHeartbeats 1000000 in
theorem first_any {w : World} {tb : Nat} {N : List Nd} {cnt byt : Int} (h : Tb w tb N cnt byt) (hT : Tall N) {key : List UInt8} {seq : Int} {p : Nat} (hs : Split N key seq p) :
    Calls Try.prog 17 #[.pointer (some ⟨tb, 0, none⟩), .string (str key), .int .i64 seq] w fun e w' => e = .returned (pnt N[p]?) ∧ Below w.heap.size w w' := by
  have hbf := before_any h hs
  have hn : ∀ V, Below w.heap.size w V → V.cell? ⟨ba tb N p, 5, none⟩ = some (pnt N[p]?) := fun V hV => by
    have := (h.below hV (Nat.le_refl _)).next (i := p) (L := 0) hs.le (by decide)
    rwa [nx_zero hT hs.le] at this
  have hl : (lasts tb N p 0).toArray = #[Value.pointer (some ⟨ba tb N (lastP N 0 p), 0, none⟩), .pointer (some ⟨ba tb N (lastP N 1 p), 0, none⟩), .pointer (some ⟨ba tb N (lastP N 2 p), 0, none⟩), .pointer (some ⟨ba tb N (lastP N 3 p), 0, none⟩), .pointer (some ⟨ba tb N (lastP N 4 p), 0, none⟩), .pointer (some ⟨ba tb N (lastP N 5 p), 0, none⟩), .pointer (some ⟨ba tb N (lastP N 6 p), 0, none⟩), .pointer (some ⟨ba tb N (lastP N 7 p), 0, none⟩), .pointer (some ⟨ba tb N (lastP N 8 p), 0, none⟩), .pointer (some ⟨ba tb N (lastP N 9 p), 0, none⟩), .pointer (some ⟨ba tb N (lastP N 10 p), 0, none⟩), .pointer (some ⟨ba tb N (lastP N 11 p), 0, none⟩)] := rfl
  rw [hl, lastP_zero hT p hs.le] at hbf
  have HN := Lib.hid hn
  clear h hT hs hn hl
  generalize ba tb N (lastP N 1 p) = a1 at *
  generalize ba tb N (lastP N 2 p) = a2 at *
  generalize ba tb N (lastP N 3 p) = a3 at *
  generalize ba tb N (lastP N 4 p) = a4 at *
  generalize ba tb N (lastP N 5 p) = a5 at *
  generalize ba tb N (lastP N 6 p) = a6 at *
  generalize ba tb N (lastP N 7 p) = a7 at *
  generalize ba tb N (lastP N 8 p) = a8 at *
  generalize ba tb N (lastP N 9 p) = a9 at *
  generalize ba tb N (lastP N 10 p) = a10 at *
  generalize ba tb N (lastP N 11 p) = a11 at *
  generalize ba tb N p = a0 at *
  have hix : ∀ V, (Instr.index 46 (.agg #[.pointer (some ⟨a0, 0, none⟩), .pointer (some ⟨a1, 0, none⟩), .pointer (some ⟨a2, 0, none⟩), .pointer (some ⟨a3, 0, none⟩), .pointer (some ⟨a4, 0, none⟩), .pointer (some ⟨a5, 0, none⟩), .pointer (some ⟨a6, 0, none⟩), .pointer (some ⟨a7, 0, none⟩), .pointer (some ⟨a8, 0, none⟩), .pointer (some ⟨a9, 0, none⟩), .pointer (some ⟨a10, 0, none⟩), .pointer (some ⟨a11, 0, none⟩)]) (.int .i64 0)).run Try.prog V = .ok (.pointer (some ⟨a0, 0, none⟩)) V := fun V => by
    simp [Instr.index, run_underlying Try.underlying46, asIntOf, go_sem]
  go_enter Try.func17, Try.ntmps17
  go_wp2_with (go_at_call 21; refine hbf.mono ?_; rintro e w1 ⟨rfl, hb⟩; have c0 := HN.out w1 hb)
  go_ret
  exact ⟨rfl, hb⟩
end Go.Proofs.Ytjlebmpgjliacaa
