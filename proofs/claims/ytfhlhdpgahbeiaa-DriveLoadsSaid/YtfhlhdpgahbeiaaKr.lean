/-
  A slice of slices of numbers as it lies in memory.
-/
import Derived.Test.YtfhlhdpgahbeiaaOd
namespace Go.Proofs.Ytfhlhdpgahbeiaa
open Go.RowKit Go.Maps
set_option linter.unusedVariables false

def Kr (w : World) (A : Option Addr) (n : Nat) (ks : List (List Int)) : Prop :=
  ks.length = n ∧ (0 < n → ∃ b o : Nat, A = some ⟨b, o, none⟩ ∧ ∀ i l, ks[i]? = some l → ∃ K c, w.cell? ⟨b, o + i, none⟩ = some (.slice K l.length c) ∧ Sl w K l.length (iv l) ∧ l.length ≤ c)
theorem Kr.none_ (w : World) : Kr w none 0 [] := ⟨rfl, fun h => by omega⟩
theorem Kr.below {w w' : World} {A : Option Addr} {n : Nat} {ks : List (List Int)} (h : Kr w A n ks) (hb : Below w.heap.size w w') : Kr w' A n ks :=
  ⟨h.1, fun hn => by
    obtain ⟨b, o, e, hc⟩ := h.2 hn
    refine ⟨b, o, e, fun i l hl => ?_⟩
    obtain ⟨K, c, h1, h2, h3⟩ := hc i l hl
    exact ⟨K, c, (World.cell?_of_block (w := w) (hb.block _ (World.block_lt_of_cell? w _ h1))).trans h1, h2.below hb, h3⟩⟩
theorem Kr.at_ {w : World} {A : Option Addr} {n : Nat} {ks : List (List Int)} {i : Nat} (h : Kr w A n ks) (hi : i < n) : ∃ (b o : Nat) (K : Option Addr) (l : List Int) (c : Nat), A = some ⟨b, o, none⟩ ∧ w.cell? ⟨b, o + i, none⟩ = some (.slice K l.length c) ∧ Sl w K l.length (iv l) ∧ l.length ≤ c := by
  obtain ⟨b, o, e, hc⟩ := h.2 (by omega)
  have hl : i < ks.length := by have := h.1; omega
  obtain ⟨K, c, h1, h2, h3⟩ := hc i _ (List.getElem?_eq_getElem hl)
  exact ⟨b, o, K, _, c, e, h1, h2, h3⟩
end Go.Proofs.Ytfhlhdpgahbeiaa
