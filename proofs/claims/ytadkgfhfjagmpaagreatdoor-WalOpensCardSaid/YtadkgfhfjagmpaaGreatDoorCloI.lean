/-
  A slice of numbers, opened (the law WalOpens).
-/
import Derived.Test.YtadkgfhfjagmpaaGreatDoorCloW
namespace Go.Proofs.YtadkgfhfjagmpaaGreatDoor
open Go.ChangeShapes Go.WideShapes Go.ChangeAt Go.RowKit Go.Deep
set_option linter.unusedVariables false

theorem cellsInt : Tryz.prog.cellsOf 3 = 1 := by kernel_rfl
/-- A slice of numbers in a cell, opened. -/
theorem ints_of {H : Type} {enc : TypeId × Value → H} {W : World} {base n : Nat} {v : Value} {y : DataW H × List MemPlace}
    (h : DataW.trod enc Tryz.prog W base (fun _ => true) true n 22 [v] = some y) :
    ∃ (A : Option Addr) (l : List Int) (c : Nat), v = .slice A l.length c ∧ Sl W A l.length (iv l) ∧ l.length ≤ c ∧ c ≤ maxLen := by
  rcases open_ints Tryz.underlying22 Tryz.underlying3 cellsInt h with ⟨hcs, hx⟩ | ⟨x, len, cap, zs, hcs, _, hl, hm, hz, hx, hcell, hwz⟩
  · simp at hcs
    subst hcs
    exact ⟨none, [], 0, rfl, ⟨rfl, fun h => by cases h⟩, Nat.le_refl _, Nat.zero_le _⟩
  · simp at hcs
    subst hcs
    have hz' : zs.length = cap := by simpa using hz
    have hll : (zs.take len).length = len := by simp; omega
    refine ⟨some x, zs.take len, cap, by rw [hll], ?_, by omega, hm⟩
    rw [hll]
    refine ⟨by rw [iv_len, hll], fun h0 => ?_⟩
    obtain ⟨b, off, spot⟩ := x
    have hc0 := hcell 0 (by omega)
    have hspot : spot = none := by simpa [Addr.add] using World.cell?_spot hc0
    subst hspot
    refine ⟨b, off, rfl, fun j u hu => ?_⟩
    have hj : j < len := by
      have := (List.getElem?_eq_some_iff.1 hu).1
      rw [iv_len] at this; omega
    have hcj := hcell j (by omega)
    rw [add_plain] at hcj
    have hzj : j < zs.length := by omega
    rw [iv_get (by omega)] at hu
    injection hu with hu
    rw [hcj, ← hu]
    simp [List.getD, hzj]
theorem open_ints1 {H : Type} {enc : TypeId × Value → H} {W : World} {base : Nat} {a : Option Addr} {len cap : Nat} {d : DataW H} {p : List MemPlace}
    (hj : DataW.Trod enc Tryz.prog W base (fun _ => true) true 22 (Value.slice a len cap) d p) : ∃ l, Sl W a len (iv l) ∧ len ≤ cap := by
  obtain ⟨fuel, hf⟩ := hj
  obtain ⟨A, l, c, e, hs, hc, _⟩ := ints_of (v := .slice a len cap) (y := (d, p)) hf
  injection e with e1 e2 e3
  subst e1 e2 e3
  exact ⟨l, hs, hc⟩
end Go.Proofs.YtadkgfhfjagmpaaGreatDoor
