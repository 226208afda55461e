/-
  A slice of slices of numbers, opened.
-/
import Derived.Test.YtfhlhdpgahbeiaaCloD
import Derived.Test.YtfhlhdpgahbeiaaKr
namespace Go.Proofs.Ytfhlhdpgahbeiaa
open Go.ChangeShapes Go.WideShapes Go.ChangeAt Go.RowKit
set_option linter.unusedVariables false

theorem cellsRowI : Try.prog.cellsOf 41 = 1 := by kernel_rfl
theorem bytesRowI : Try.prog.bytesOf 41 = 24 := by kernel_rfl
theorem sl_ints {W : World} {A : Option Addr} {L : Nat} {zs : List Int} (hA : A = none → L = 0) (hL : L ≤ zs.length)
    (hcell : ∀ a', A = some a' → ∀ c, c < L → W.cell? (a'.add c) = some (.int .i64 (zs.getD c 0))) : Sl W A (zs.take L).length (iv (zs.take L)) := by
  have hlen : (zs.take L).length = L := by simp; omega
  rw [hlen]
  refine ⟨by rw [iv_len, hlen], fun h0 => ?_⟩
  cases A with
  | none => have := hA rfl; omega
  | some x =>
    obtain ⟨b, off, spot⟩ := x
    have hc0 := hcell _ rfl 0 (by omega)
    have hspot : spot = none := by simpa [Addr.add] using World.cell?_spot hc0
    subst hspot
    refine ⟨b, off, rfl, fun j u hu => ?_⟩
    have hj : j < L := by
      have := (List.getElem?_eq_some_iff.1 hu).1
      rw [iv_len] at this; omega
    have hcj := hcell _ rfl j hj
    rw [add_plain] at hcj
    have hzj : j < zs.length := by omega
    rw [iv_get (by omega)] at hu
    injection hu with hu
    rw [hcj, ← hu]
    simp [List.getD, hzj]
theorem open_introws {H : Type} {enc : TypeId × Value → H} {W : World} {base : Nat} {a : Option Addr} {len cap : Nat} {d : DataW H} {p : List MemPlace}
    (hj : DataW.Trod enc Try.prog W base (fun _ => true) true 45 (Value.slice a len cap) d p) (hw : ∀ m ∈ d.weights Try.prog 45, m ≤ reachBytes) :
    ∃ ks, Kr W a len ks ∧ len ≤ cap ∧ len ≤ 140737488351232 := by
  obtain ⟨fuel, hf⟩ := hj
  rcases Deep.open_int_rows Try.underlying45 Try.underlying41 Try.underlying3 cellsRowI cellsInt hf with ⟨hcs, hx⟩ | ⟨x, ln, c, A, L, C, Z, hcs, _, hl, hm, hx, hr⟩
  · simp [Value.cells] at hcs
    obtain ⟨rfl, rfl, rfl⟩ := hcs
    exact ⟨[], Kr.none_ W, Nat.le_refl _, Nat.zero_le _⟩
  · simp [Value.cells] at hcs
    obtain ⟨rfl, rfl, rfl⟩ := hcs
    injection hx with h1 _
    subst h1
    have hcap : len ≤ 140737488351232 := by
      have := hw (cap * 24) (by rw [DataW.weights, Try.underlying45]; simp only [bytesRowI]; refine List.mem_cons.2 (.inl ?_); simp; omega)
      simp [reachBytes] at this
      omega
    refine ⟨(List.range len).map fun r => (Z r).take (L r), ⟨by simp, fun h0 => ?_⟩, hl, hcap⟩
    obtain ⟨b, off, spot⟩ := x
    have hc0 := (hr 0 (by omega)).1
    have hspot : spot = none := by simpa [Addr.add] using World.cell?_spot hc0
    subst hspot
    refine ⟨b, off, rfl, fun i l hil => ?_⟩
    have hi : i < len := by
      have := (List.getElem?_eq_some_iff.1 hil).1
      simpa using this
    simp [hi] at hil
    subst hil
    obtain ⟨g1, h2, h3, h4, h5, h6, h7⟩ := hr i (by omega)
    have hrow : ((Z i).take (L i)).length = L i := by simp; omega
    refine ⟨A i, C i, ?_, sl_ints (fun h => by have := h6 h; omega) (by omega) (fun a' ha c hc => (h7 a' ha).2 c (by omega)), by omega⟩
    rw [hrow, ← add_plain]
    exact g1
end Go.Proofs.Ytfhlhdpgahbeiaa
