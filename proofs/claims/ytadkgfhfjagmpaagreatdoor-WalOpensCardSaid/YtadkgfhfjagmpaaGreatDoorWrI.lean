/-
  The reference's question whether two lists of numbers are the same: for such as are.
-/
import Derived.Test.YtadkgfhfjagmpaaGreatDoorWrE
namespace Go.Proofs.YtadkgfhfjagmpaaGreatDoor
open Go.RowKit Go.Maps
set_option linter.unusedVariables false

theorem ints_at {w : World} {A : Option Addr} {n : Nat} {xs : List Int} (h : Sl w A n (xs.map (Value.int .i64))) {k : Nat} (hk : k < n) : ∃ (b o : Nat) (x : Int), A = some ⟨b, o, none⟩ ∧ xs[k]? = some x ∧ w.cell? ⟨b, o + k, none⟩ = some (.int .i64 x) := by
  obtain ⟨b, o, u, e, hu, hc⟩ := h.at_ hk
  rw [List.getElem?_map] at hu
  cases hx : xs[k]? with
  | none => rw [hx] at hu; cases hu
  | some x =>
    rw [hx] at hu
    cases hu
    exact ⟨b, o, x, e, rfl, hc⟩
set_option maxHeartbeats 4000000 in
theorem ints_any (A B : Option Addr) (n m c d : Nat) (xs : List Int) (w : World) (hA : Sl w A n (xs.map (Value.int .i64))) (hB : Sl w B m (xs.map (Value.int .i64))) (hn : n ≤ 100000) :
    Calls Tryz.prog 86 #[.slice A n c, .slice B m d] w fun e w' => e = .returned (.bool true) ∧ Below w.heap.size w w' := by
  have h1 := hA.1
  have h2 := hB.1
  rw [List.length_map] at h1 h2
  obtain rfl : n = m := by omega
  clear h1 h2
  go_enter Tryz.func86, Tryz.ntmps86
  go_wp2_with fail
  go_loopw [5, 13] (fun s5 s13 wr => ∃ (k : Nat), k ≤ n ∧ s13 = .int .i64 k ∧ Below w.heap.size w wr) (fun _ k _ => n - (intOf k).toNat)
  case atStart => exact ⟨0, Nat.zero_le _, rfl, Below.refl _ _⟩
  case round =>
    obtain ⟨k, hk, rfl, hb⟩ := hrel
    by_cases hkn : k < n
    · have hcN : (k : Int) < n := by omega
      obtain ⟨b1, o1, x, rfl, hx, c1⟩ := ints_at (hA.below hb) hkn
      obtain ⟨b2, o2, y, rfl, hy, c2⟩ := ints_at (hB.below hb) hkn
      obtain rfl : x = y := Option.some.inj (hx.symm.trans hy)
      have HB := Lib.hid hb
      clear hx hy hb
      go_wp2_with fail
      go_quiet (fail)
      go_wp2_with fail
      exact ⟨⟨k + 1, by omega, by go_num, HB.out.trans ((show Below wr.heap.size wr (wr.drewN nq) from ⟨rfl, rfl, rfl, Nat.le_refl _, fun _ _ => rfl⟩).mono HB.out.size)⟩, by simp only [intOf]; omega⟩
    · have hcN : ¬ (k : Int) < n := by omega
      go_wp2_with fail
      go_ret
      exact ⟨rfl, hb⟩
end Go.Proofs.YtadkgfhfjagmpaaGreatDoor
