/-
  The opening of the struct At of the layer's law MemOwn.
-/
import Derived.Test.YtjlebmpgjliacaaCloM
import Derived.Lib.SmallJoins
namespace Go.Proofs.Ytjlebmpgjliacaa
open Go.ChangeShapes Go.WideShapes Go.ChangeAt Go.RowKit
set_option linter.unusedVariables false

theorem open_at {H : Type} {enc : TypeId × Value → H} {W : World} {base b0 : Nat} {v : Value} {d : DataW H} {p : List MemPlace} {r : Reach}
    (hv : Value.okWide Try.prog W r b0 41 v) (h : DataW.Trod enc Try.prog W base (fun _ => true) true 41 v d p) :
    ∃ (s : ByteArray) (x : Int), v = .agg #[.string s, .int .i64 x] ∧ (-9223372036854775808 ≤ x ∧ x ≤ 9223372036854775807) := by
  obtain ⟨v0, v1, y0, y1, n, rfl, _, _, t0, t1⟩ := Go.Joins.open_agg2 Try.underlying41 (by kernel_rfl) (by kernel_rfl) hv h
  obtain ⟨s, hs, _, _⟩ := DataW.trod_string Try.underlying9 t0
  obtain ⟨k, hk, _, hw⟩ := DataW.trod_int Try.underlying3 t1
  simp at hs hk
  subst hs hk
  exact ⟨s, k, rfl, i64_bounds hw⟩
end Go.Proofs.Ytjlebmpgjliacaa
