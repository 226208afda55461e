/-
  Two lists of the same entries, compared by the reference.
-/
import Derived.Test.YtjlebmpgjliacaaMeP
namespace Go.Proofs.Ytjlebmpgjliacaa
open Go.RowKit Go.Shelf
set_option linter.unusedVariables false

theorem Sle.drewN {w : World} {A : Option Addr} {n : Nat} {es : List En} (h : Sle w A n es) (q : Nat) : Sle (w.drewN q) A n es := ⟨h.1, fun hn => by
  obtain ⟨b, o, e, hc⟩ := h.2 hn
  exact ⟨b, o, e, fun k x hx j hj => hc k x hx j hj⟩⟩
theorem below_dN4 (w : World) (q : Nat) : Below w.heap.size w (w.drewN q) := ⟨rfl, rfl, rfl, Nat.le_refl _, fun _ _ => rfl⟩
set_option maxRecDepth 20000 in
set_option maxHeartbeats 4000000 in
theorem same4_any (A B : Option Addr) (n c c' : Nat) (es : List En) (w : World) (hA : Sle w A n es) (hB : Sle w B n es) (hn : n ≤ 1000000) (hc : n ≤ c) (hc' : n ≤ c') :
    Calls Try.prog 10 #[.slice A n c, .slice B n c'] w fun r w' => r = .returned (.bool true) ∧ Below w.heap.size w w' := by
  have HA := Lib.hid hA
  have HB := Lib.hid hB
  clear hA hB
  have hnI : (n : Int) ≤ 1000000 := by omega
  have hcI : (n : Int) ≤ c := by omega
  have hcI' : (n : Int) ≤ c' := by omega
  go_enter Try.func10, Try.ntmps10
  go_wp2_with fail
  go_loopw [13] (fun s13 wr => ∃ (i : Nat), i ≤ n ∧ s13 = .int .i64 i ∧ Below w.heap.size w wr) (fun s13 _ => n - (intOf s13).toNat)
  case atStart => exact ⟨0, Nat.zero_le _, rfl, Below.refl _ _⟩
  case round =>
    obtain ⟨i, hi, rfl, hb0⟩ := hrel
    by_cases hin : i < n
    · have hcN : (i : Int) < n := by omega
      obtain ⟨b, o, e, rfl, he, z0, z1, z2, z3⟩ := HA.out.at_ hin
      obtain ⟨b', o', e', rfl, he', y0, y1, y2, y3⟩ := HB.out.at_ hin
      rw [he] at he'
      obtain rfl := Option.some.inj he'
      have k : ∀ {a : Addr} {u : Value}, w.cell? a = some u → ∀ V, Below w.heap.size w V → V.cell? a = some u := fun h V hV => (hV.cell (World.block_lt_of_cell? w _ h)).trans h
      have z0 := k z0
      have z1 := k z1
      have z2 := k z2
      have z3 := k z3
      have y0 := k y0
      have y1 := k y1
      have y2 := k y2
      have y3 := k y3
      obtain ⟨key, seq, del, val⟩ := e
      simp only at z0 z1 z2 z3 y0 y1 y2 y3
      generalize str key = s1 at z0 y0
      generalize str val = s2 at z3 y3
      clear he he' k
      go_wp2_with fail
      go_region_held (fun V => Below w.heap.size w V) (first | assumption | exact Below.drew (by assumption)) (fail)
      have hb1 : Below w.heap.size w wr.drew := Below.drew hb0
      go_wp2_with fail
      exact ⟨⟨i + 1, by omega, by go_num, hb1⟩, by simp only [intOf]; omega⟩
    · have hcN : ¬ (i : Int) < n := by omega
      go_wp2_with fail
      go_ret
      exact ⟨rfl, hb0⟩
end Go.Proofs.Ytjlebmpgjliacaa
