/-
  The law WalOpens: rows of slices that were handed in, without walks.
-/
import Derived.Test.YtadkgfhfjagmpaaGreatDoorOpA
import Derived.Test.YtadkgfhfjagmpaaGreatDoorGDa
namespace Go.Proofs.YtadkgfhfjagmpaaGreatDoor
open Go.RowKit Go.Maps Num Crc
set_option linter.unusedVariables false

/-- A row of slices that were handed in, as lists of bytes. -/
def Hnd (w : World) (vs : List Value) (ls : List (List UInt8)) : Prop :=
  vs.length = ls.length ∧ ∀ (i : Nat) (l : List UInt8), ls[i]? = some l → ∃ (K : Option Addr) (c : Nat), vs[i]? = some (Value.slice K l.length c) ∧ Sl w K l.length (bv l) ∧ l.length ≤ c
theorem Hnd.nil (w : World) : Hnd w [] [] := ⟨rfl, fun i l h => by simp at h⟩
theorem Hnd.below {w w' : World} {vs : List Value} {ls : List (List UInt8)} (h : Hnd w vs ls) (hb : Below w.heap.size w w') : Hnd w' vs ls :=
  ⟨h.1, fun i l hl => by
    obtain ⟨K, c, h1, h2, h3⟩ := h.2 i l hl
    exact ⟨K, c, h1, h2.below hb, h3⟩⟩
theorem Hnd.snoc {w : World} {vs : List Value} {bs : List (List UInt8)} (h : Hnd w vs bs) {K : Option Addr} {c : Nat} {l : List UInt8} (hr : Sl w K l.length (bv l)) (hc : l.length ≤ c) : Hnd w (vs ++ [.slice K l.length c]) (bs ++ [l]) :=
  ⟨by simp [h.1], fun i l' hl => by
    by_cases hi : i < bs.length
    · rw [List.getElem?_append_left hi] at hl
      obtain ⟨K', c', h1, h2⟩ := h.2 i l' hl
      exact ⟨K', c', by rw [List.getElem?_append_left (by rw [h.1]; exact hi)]; exact h1, h2⟩
    · rw [List.getElem?_append_right (by omega)] at hl
      obtain ⟨hi2, he⟩ := List.getElem?_eq_some_iff.1 hl
      simp at hi2
      have hi3 : i = bs.length := by omega
      subst hi3
      simp at he
      subst he
      exact ⟨K, c, by rw [List.getElem?_append_right (by rw [h.1]; exact Nat.le_refl _), h.1]; simp, hr, hc⟩⟩
theorem Hnd.br {w : World} {base n c : Nat} {A : Option Addr} {vs : List Value} {bs : List (List UInt8)} (h : Hnd w vs bs) (ho : w.ownsRow base 28 1 (.slice A n c) n vs) : Br w A n bs := by
  have hl : vs.length = n := by have := ho.1; omega
  refine ⟨by rw [← h.1, hl], fun hn => ?_⟩
  obtain ⟨b, o, e, hc⟩ := (own_sl ho).2 hn
  refine ⟨b, o, e, fun i l hil => ?_⟩
  obtain ⟨K, cl, h1, h2, h3⟩ := h.2 i l hil
  exact ⟨K, cl, hc i _ h1, h2, h3⟩
end Go.Proofs.YtadkgfhfjagmpaaGreatDoor
