/-
  What a filter answers, by the reference.
-/
import Derived.Test.YtnbomifnbhijbaaBlE
namespace Go.Proofs.Ytnbomifnbhijbaa
open Go.RowKit
set_option linter.unusedVariables false

theorem below_drawnB (w : World) (q : Nat) : Below w.heap.size w (w.drewN q) := ⟨rfl, rfl, rfl, Nat.le_refl _, fun _ _ => rfl⟩
theorem iv_get (l : List Nat) {j : Nat} {u : Value} (h : (iv l)[j]? = some u) : ∃ p, l[j]? = some p ∧ u = .int .i64 ((p : Nat) : Int) := by
  unfold iv at h
  rw [List.getElem?_map] at h
  cases hl : l[j]? with
  | none => rw [hl] at h; cases h
  | some p => rw [hl] at h; exact ⟨p, rfl, (Option.some.inj h).symm⟩
theorem bit_ref (y r : Nat) (hy : y < 2 ^ 8) : (((y : Int) / 2 ^ r).tmod 2 == 0) = true ↔ y.testBit r = false := by
  have h1 : (y : Int) / 2 ^ r = ((y / 2 ^ r : Nat) : Int) := by push_cast; rfl
  have h3 : ((y : Int) / 2 ^ r).tmod 2 = ((y / 2 ^ r % 2 : Nat) : Int) := by
    rw [h1, Int.tmod_eq_emod_of_nonneg (Int.natCast_nonneg _)]; omega
  rw [h3, Nat.testBit_eq_decide_div_mod_eq]
  have : y / 2 ^ r % 2 < 2 := Nat.mod_lt _ (by omega)
  generalize y / 2 ^ r % 2 = z at this
  rcases (by omega : z = 0 ∨ z = 1) with rfl | rfl <;> simp
set_option maxRecDepth 100000 in
set_option maxHeartbeats 4000000 in
theorem rmay_any (n c : Nat) (A : Option Addr) (f l : List UInt8) (hl : l.length ≤ 4611686018427387904) (w : World) (hS : Sl w A n (bv f)) (hn : n ≤ 4611686018427387904) (hc : n ≤ c) :
    Calls Try.prog 28 #[.slice A n c, .string (str l)] w fun e w' => e = .returned (.bool (Bl.may f l)) ∧ Below w.heap.size w w' := by
  have hfl : f.length = n := hS.len
  by_cases h1 : (n : Int) - 1 < 1
  · have hm : Bl.may f l = true := by unfold Bl.may; rw [if_pos (by omega)]
    go_enter Try.func28, Try.ntmps28
    go_wp2_with fail
    go_ret
    exact ⟨by first | rfl | (rw [hm]; rfl), Below.refl _ _⟩
  · by_cases h2 : (1048576 : Int) ≤ (n : Int) - 1
    · have hm : Bl.may f l = true := by unfold Bl.may; rw [if_pos (by omega)]
      go_enter Try.func28, Try.ntmps28
      go_wp2_with fail
      go_ret
      exact ⟨by first | rfl | (rw [hm]; rfl), Below.refl _ _⟩
    · obtain ⟨b, o, hsl, rfl, hcell⟩ := hS.byte (k := n - 1) (by omega)
      have x0 := hcell
      obtain ⟨k, hk⟩ : ∃ k : Nat, k = f[n - 1].toNat := ⟨_, rfl⟩
      have hk2 : k < 256 := by rw [hk]; have := f[n - 1].toNat_lt; omega
      have hgd : f.getD (f.length - 1) 0 = f[n - 1] := by
        rw [List.getD_eq_getElem?_getD, hfl, List.getElem?_eq_getElem hsl]; rfl
      have hmay : Bl.may f l = if k < 1 ∨ 16 < k then true else (Bl.places l (8 * (n - 1)) k).all (Bl.has f) := by
        unfold Bl.may
        rw [if_neg (by omega), hgd, ← hk, hfl]
      rw [← hk] at x0
      have g1 : (1 : Int) ≤ (n : Int) - 1 := by omega
      have g2 : (n : Int) - 1 < 1048576 := by omega
      have HM := Lib.hid (And.intro hmay (And.intro hfl hS))
      clear h1 h2 hmay hgd hk hcell hfl hS
      by_cases h3 : (k : Int) < 1
      · go_enter Try.func28, Try.ntmps28
        go_wp2_with fail
        go_ret
        exact ⟨by rw [HM.out.1, if_pos (by omega)]; rfl, Below.refl _ _⟩
      · by_cases h4 : (16 : Int) < k
        · go_enter Try.func28, Try.ntmps28
          go_wp2_with fail
          go_ret
          exact ⟨by rw [HM.out.1, if_pos (by omega)]; rfl, Below.refl _ _⟩
        · have hrp := rplaces_any l hl (8 * (n - 1)) k (by omega) (by omega) (by omega) w
          rw [show ((8 * (n - 1) : Nat) : Int) = 8 * ((n : Int) - 1) by omega] at hrp
          go_enter Try.func28, Try.ntmps28
          go_wp2_with (go_at_call 38; refine hrp.mono ?_; rintro e w1 ⟨A1, c1, rfl, ho1, hb1⟩; have H1 := Lib.hid (And.intro ho1 hb1); clear ho1 hb1 hrp)
          clear x0
          go_loopw [7] (fun s7 wr => ∃ j : Nat, j ≤ k ∧ s7 = .int .i64 j ∧ (∀ p ∈ (Bl.places l (8 * (n - 1)) k).take j, Bl.has f p = true) ∧ Below w1.heap.size w1 wr) (fun j _ => k - (intOf j).toNat)
          case atStart => exact ⟨0, Nat.zero_le _, rfl, by simp, Below.refl _ _⟩
          case round =>
            obtain ⟨j, hj, rfl, hall, hbr⟩ := hrel
            have hbw := H1.out.2.trans (hbr.mono H1.out.2.size)
            by_cases hin : j < k
            · have hcN : (j : Int) < k := by omega
              have hS1 := (own_sl H1.out.1).below hbr
              obtain ⟨b1, o1, u, rfl, hu, x1⟩ := hS1.at_ hin
              obtain ⟨p, hp, rfl⟩ := iv_get _ hu
              have hpl : p < 8 * (n - 1) := Bl.places_lt l (n := 8 * (n - 1)) (by omega) k p (List.mem_of_getElem? hp)
              obtain ⟨b', o', hql, hb', hce⟩ := HM.out.2.2.byte (k := p / 8) (by omega)
              cases hb'
              have x3 := (hbw.cell (World.block_lt_of_cell? w _ hce)).trans hce
              have hy := f[p / 8].toNat_lt
              have hhas : Bl.has f p = (f[p / 8].toNat).testBit (p % 8) := by
                unfold Bl.has
                rw [List.getD_eq_getElem?_getD, List.getElem?_eq_getElem hql]; rfl
              generalize f[p / 8].toNat = y at x3 hy hhas
              have HH := Lib.hid (And.intro hall (And.intro hbr (And.intro hbw (And.intro hhas (And.intro hp hu)))))
              clear hall hbr hbw hhas hp hu hce hS1
              go_wp2_with fail
              go_quiet (fail)
              clear x1 x3
              go_wp2_with fail
              · rename_i hcond
                have hans : Bl.may f l = false := by
                  rw [HM.out.1, if_neg (by omega), Bool.eq_false_iff]
                  intro hc2
                  rw [List.all_eq_true] at hc2
                  have h5 := hc2 p (List.mem_of_getElem? HH.out.2.2.2.2.1)
                  rw [HH.out.2.2.2.1, (bit_ref y (p % 8) hy).1 hcond] at h5
                  cases h5
                go_ret
                exact ⟨by rw [hans]; rfl, HH.out.2.2.1.trans ((below_drawnB wr nq).mono HH.out.2.2.1.size)⟩
              · rename_i hcond
                refine ⟨⟨j + 1, by omega, by go_num, fun z hz => ?_, HH.out.2.1.trans ((below_drawnB wr nq).mono HH.out.2.1.size)⟩, by simp only [intOf]; omega⟩
                rw [List.take_add_one, HH.out.2.2.2.2.1] at hz
                rcases List.mem_append.1 hz with hz | hz
                · exact HH.out.1 z hz
                · simp at hz
                  subst hz
                  rw [HH.out.2.2.2.1]
                  cases ht : y.testBit (z % 8) with
                  | true => rfl
                  | false => rw [(bit_ref y (z % 8) hy).2 ht] at hcond; cases hcond
            · have hcN : ¬ (j : Int) < k := by omega
              obtain rfl : j = k := by omega
              have hans : Bl.may f l = true := by
                rw [HM.out.1, if_neg (by omega), List.all_eq_true]
                rwa [List.take_of_length_le (by rw [Bl.places_len]; exact Nat.le_refl _)] at hall
              have HH := Lib.hid (And.intro hbw hans)
              clear hall hbr hbw hans
              go_wp2_with fail
              go_ret
              exact ⟨by rw [HH.out.2]; rfl, HH.out.1⟩
end Go.Proofs.Ytnbomifnbhijbaa
