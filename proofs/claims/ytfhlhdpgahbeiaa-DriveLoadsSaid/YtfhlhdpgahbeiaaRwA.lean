/-
  Copies of files in memory: rows of bytes, listed in a row.
-/
import Derived.Test.YtfhlhdpgahbeiaaLoA
import Derived.Test.YtfhlhdpgahbeiaaDrI
namespace Go.Proofs.Ytfhlhdpgahbeiaa
open Go.RowKit Go.Maps
set_option linter.unusedVariables false

theorem rowEl : El Try.prog 32 33 (.slice none 0 0) 24 := ⟨Try.underlying32, by kernel_rfl, rfl⟩
theorem strEl : El Try.prog 31 9 (.string ByteArray.empty) 16 := ⟨Try.underlying31, by kernel_rfl, rfl⟩

/-- Each of the listed slices owns its bytes. -/
def RowsC (w : World) (base : Nat) (vs : List Value) (bs : List (List UInt8)) : Prop :=
  vs.length = bs.length ∧ ∀ (i : Nat) (l : List UInt8), bs[i]? = some l → ∃ (K : Option Addr) (c : Nat), vs[i]? = some (Value.slice K l.length c) ∧ w.ownsRow base 5 1 (.slice K l.length c) l.length (bv l)
theorem RowsC.nil (w : World) (base : Nat) : RowsC w base [] [] := ⟨rfl, fun i l h => by simp at h⟩
theorem own_below {w w' : World} {B e n : Nat} {v : Value} {xs : List Value} (h : w.ownsRow B e 1 v n xs) (hb : Below w.heap.size w w') : w'.ownsRow B e 1 v n xs :=
  own_at h fun k hk => by
    obtain ⟨cur, hbk⟩ := own_blk_type h hk
    exact hb.block k hbk.lt
theorem RowsC.below {w w' : World} {base : Nat} {vs : List Value} {bs : List (List UInt8)} (h : RowsC w base vs bs) (hb : Below w.heap.size w w') : RowsC w' base vs bs :=
  ⟨h.1, fun i l hl => by
    obtain ⟨K, c, h1, h2⟩ := h.2 i l hl
    exact ⟨K, c, h1, own_below h2 hb⟩⟩
theorem own_apart {a b : World} {B B2 e e2 n n2 : Nat} {v v2 : Value} {xs xs2 : List Value} (h : a.ownsRow B e 1 v n xs) (ho : a.ownsRow B2 e2 1 v2 n2 xs2) (hg : a.grownBy b v2.ownBlock) (hne : e ≠ e2) : b.ownsRow B e 1 v n xs :=
  own_at h fun k hk => by
    obtain ⟨cur, hbk⟩ := own_blk_type h hk
    refine hg.block k hbk.lt fun e' => ?_
    obtain ⟨cur2, hbk2⟩ := own_blk_type ho e'.symm
    exact hne (by
      unfold Blk at hbk hbk2
      rw [hbk] at hbk2
      injection hbk2 with hbk2; injection hbk2)
theorem RowsC.grown {a b : World} {base B2 n2 : Nat} {vs : List Value} {bs : List (List UInt8)} {v2 : Value} {xs2 : List Value} (h : RowsC a base vs bs) (ho : a.ownsRow B2 33 1 v2 n2 xs2) (hg : a.grownBy b v2.ownBlock) : RowsC b base vs bs :=
  ⟨h.1, fun i l hl => by
    obtain ⟨K, c, h1, h2⟩ := h.2 i l hl
    exact ⟨K, c, h1, own_apart h2 ho hg (by decide)⟩⟩
theorem RowsC.snoc {w : World} {base : Nat} {vs : List Value} {bs : List (List UInt8)} (h : RowsC w base vs bs) {K : Option Addr} {c : Nat} {l : List UInt8} (hr : w.ownsRow base 5 1 (.slice K l.length c) l.length (bv l)) : RowsC w base (vs ++ [.slice K l.length c]) (bs ++ [l]) :=
  ⟨by simp [h.1], fun i l' hl => by
    by_cases hi : i < bs.length
    · rw [List.getElem?_append_left hi] at hl
      obtain ⟨K', c', h1, h2⟩ := h.2 i l' hl
      exact ⟨K', c', by rw [List.getElem?_append_left (by rw [h.1]; exact hi)]; exact h1, h2⟩
    · rw [List.getElem?_append_right (by omega)] at hl
      obtain ⟨hi2, he⟩ := List.getElem?_eq_some_iff.1 hl
      simp at hi2
      have hi3 : i = bs.length := by omega
      subst hi3
      simp at he
      subst he
      exact ⟨K, c, by rw [List.getElem?_append_right (by rw [h.1]; exact Nat.le_refl _), h.1]; simp, hr⟩⟩
theorem RowsC.br {w : World} {base n c : Nat} {A : Option Addr} {vs : List Value} {bs : List (List UInt8)} (h : RowsC w base vs bs) (ho : w.ownsRow base 33 1 (.slice A n c) n vs) : Br w A n bs := by
  have hl : vs.length = n := by have := ho.1; omega
  refine ⟨by rw [← h.1, hl], fun hn => ?_⟩
  obtain ⟨b, o, e, hc⟩ := (own_sl ho).2 hn
  refine ⟨b, o, e, fun i l hil => ?_⟩
  obtain ⟨K, cl, h1, h2⟩ := h.2 i l hil
  exact ⟨K, cl, hc i _ h1, own_sl h2, own_le h2⟩

/-- Each of the listed slices owns a row, whatever it holds; all lie below LB. -/
def RowsA (w : World) (base LB : Nat) (vs : List Value) (bs : List (List UInt8)) : Prop :=
  ∀ (i : Nat) (l : List UInt8), bs[i]? = some l → ∃ (K : Option Addr) (c : Nat) (xs : List Value), vs[i]? = some (Value.slice K l.length c) ∧ w.ownsRow base 5 1 (.slice K l.length c) l.length xs ∧ ∀ k, (Value.slice K l.length c).ownBlock = some k → k < LB
theorem RowsC.any {w : World} {base : Nat} {vs : List Value} {bs : List (List UInt8)} (h : RowsC w base vs bs) : RowsA w base w.heap.size vs bs := fun i l hl => by
  obtain ⟨K, c, h1, h2⟩ := h.2 i l hl
  refine ⟨K, c, _, h1, h2, fun k hk => ?_⟩
  obtain ⟨cur, hbk⟩ := own_blk_type h2 hk
  exact hbk.lt
theorem RowsA.below {w w' : World} {base LB : Nat} {vs : List Value} {bs : List (List UInt8)} (h : RowsA w base LB vs bs) (hb : Below w.heap.size w w') : RowsA w' base LB vs bs := fun i l hl => by
  obtain ⟨K, c, xs, h1, h2, h3⟩ := h i l hl
  exact ⟨K, c, xs, h1, own_below h2 hb, h3⟩
theorem RowsA.set {w : World} {base LB : Nat} {vs : List Value} {bs : List (List UInt8)} (h : RowsA w base LB vs bs) (g j : Nat) (u : Value) : RowsA (w.setCell ⟨g, j, none⟩ u) base LB vs bs := fun i l hl => by
  obtain ⟨K, c, xs, h1, h2, h3⟩ := h i l hl
  by_cases hg : (Value.slice K l.length c).ownBlock = some g
  · rcases h2.2 with ⟨e1, _⟩ | ⟨g', cap, cur, e1, _⟩
    · rw [e1] at hg; cases hg
    · have e2 := e1
      rw [e1] at hg
      cases hg
      injection e1 with ea _ ec
      subst ea
      exact ⟨_, c, _, h1, (h2.stored j u).1, h3⟩
  · exact ⟨K, c, xs, h1, own_at h2 fun k hk => setCell_other _ _ _ (fun (e : k = g) => hg (e ▸ hk)), h3⟩
end Go.Proofs.Ytfhlhdpgahbeiaa
