/-
  An array of four bytes by value, opened.
-/
import Derived.Test.YtacpbcahmhnhbaaDoorCloseA
import Derived.Laws.IdiomArrays
namespace Go.Proofs.YtacpbcahmhnhbaaDoor
open Go.ChangeShapes Go.WideShapes Go.ChangeAt Go.RowKit

theorem cells4 : Tryd.prog.cellsOf 52 = 4 := by kernel_rfl
theorem byte_of_trod {H : Type} {enc : TypeId × Value → H} {W : World} {base : Nat} {sp : Nat → Bool} {held : Bool} {n : Nat} {c : Value} {y : DataW H × List MemPlace}
    (h : DataW.trod enc Tryd.prog W base sp held n 5 [c] = some y) : ∃ b : UInt8, c = .int .u8 (b.toNat : Int) ∧ y = (.lit (.int .u8 (b.toNat : Int)), []) := by
  obtain ⟨z, e1, rfl, hw⟩ := DataW.trod_int Tryd.underlying5 h
  simp at e1
  have hb : 0 ≤ z ∧ z < 256 := by
    simp [Lit.wf, IntKind.min, IntKind.max, IntKind.bits, IntKind.signed] at hw
    omega
  have e : ((UInt8.ofNat z.toNat).toNat : Int) = z := by
    rw [UInt8.toNat_ofNat']; omega
  exact ⟨UInt8.ofNat z.toNat, by rw [e1, e], by rw [e]⟩
theorem open_arr4 {H : Type} {enc : TypeId × Value → H} {W : World} {base b0 : Nat} {r : Reach} {v : Value} {d : DataW H} {p : List MemPlace}
    (hv : Value.okWide Tryd.prog W r b0 52 v) (h : DataW.Trod enc Tryd.prog W base (fun _ => true) true 52 v d p) :
    ∃ t0 t1 t2 t3 : UInt8, v = .agg #[.int .u8 t0.toNat, .int .u8 t1.toNat, .int .u8 t2.toNat, .int .u8 t3.toNat] ∧
      d = .agg [.lit (.int .u8 t0.toNat), .lit (.int .u8 t1.toNat), .lit (.int .u8 t2.toNat), .lit (.int .u8 t3.toNat)] := by
  simp only [Value.okWide, Tryd.underlying52] at hv
  obtain ⟨cs, rfl, hsz, _⟩ := hv
  rw [cells4] at hsz
  obtain ⟨l⟩ := cs
  match l, hsz with
  | [c0, c1, c2, c3], _ =>
    obtain ⟨fuel, hf⟩ := h
    obtain ⟨y0, y1, y2, y3, n, hx, h0, h1, h2, h3⟩ := trod_array4 Tryd.underlying52 cellsU8 hf
    obtain ⟨t0, rfl, rfl⟩ := byte_of_trod h0
    obtain ⟨t1, rfl, rfl⟩ := byte_of_trod h1
    obtain ⟨t2, rfl, rfl⟩ := byte_of_trod h2
    obtain ⟨t3, rfl, rfl⟩ := byte_of_trod h3
    injection hx with hx _
    exact ⟨t0, t1, t2, t3, rfl, hx⟩
end Go.Proofs.YtacpbcahmhnhbaaDoor
