/-
  A slice of slices of bytes as it lies in memory.
-/
import Derived.Test.YtnbomifnbhijbaaGreatDoorDrA
namespace Go.Proofs.YtnbomifnbhijbaaGreatDoor
open Go.RowKit Go.Maps
set_option linter.unusedVariables false

/-- A slice of slices of bytes as it lies in memory. -/
def Br (w : World) (A : Option Addr) (n : Nat) (bs : List (List UInt8)) : Prop :=
  bs.length = n ∧ (0 < n → ∃ b o : Nat, A = some ⟨b, o, none⟩ ∧ ∀ i l, bs[i]? = some l → ∃ K c, w.cell? ⟨b, o + i, none⟩ = some (.slice K l.length c) ∧ Sl w K l.length (bv l) ∧ l.length ≤ c)
theorem Br.none_ (w : World) : Br w none 0 [] := ⟨rfl, fun h => by omega⟩
theorem Br.below {w w' : World} {A : Option Addr} {n : Nat} {ks : List (List UInt8)} (h : Br w A n ks) (hb : Below w.heap.size w w') : Br w' A n ks :=
  ⟨h.1, fun hn => by
    obtain ⟨b, o, e, hc⟩ := h.2 hn
    refine ⟨b, o, e, fun i l hl => ?_⟩
    obtain ⟨K, c, h1, h2, h3⟩ := hc i l hl
    exact ⟨K, c, (World.cell?_of_block (w := w) (hb.block _ (World.block_lt_of_cell? w _ h1))).trans h1, h2.below hb, h3⟩⟩
theorem Br.at_ {w : World} {A : Option Addr} {n : Nat} {ks : List (List UInt8)} {i : Nat} (h : Br w A n ks) (hi : i < n) : ∃ (b o : Nat) (K : Option Addr) (l : List UInt8) (c : Nat), A = some ⟨b, o, none⟩ ∧ ks[i]? = some l ∧ w.cell? ⟨b, o + i, none⟩ = some (.slice K l.length c) ∧ Sl w K l.length (bv l) ∧ l.length ≤ c := by
  obtain ⟨b, o, e, hc⟩ := h.2 (by omega)
  have hl : i < ks.length := by have := h.1; omega
  obtain ⟨K, c, h1, h2, h3⟩ := hc i _ (List.getElem?_eq_getElem hl)
  exact ⟨b, o, K, _, c, e, List.getElem?_eq_getElem hl, h1, h2, h3⟩

end Go.Proofs.YtnbomifnbhijbaaGreatDoor
