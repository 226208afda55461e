/-
  The law FrameTakes, as a walk: it answers true and writes nothing that was there.
-/
import Derived.Test.YtacpbcahmhnhbaaDoorFrameI
import Derived.Test.YtacpbcahmhnhbaaDoorLawSums
namespace Go.Proofs.YtacpbcahmhnhbaaDoor
open Go.RowKit Num Crc
set_option linter.unusedVariables false

theorem scan_len : ∀ (k : Nat) (l : List UInt8), l.length ≤ k → (scan l).1.length ≤ l.length := by
  intro k
  induction k with
  | zero =>
    intro l hl
    have : l = [] := List.eq_nil_of_length_eq_zero (by omega)
    subst this
    rw [scan_stop (by decide +kernel)]; simp
  | succ k ih =>
    intro l hl
    by_cases h : (tk l).2 = 0
    · rw [scan_stop h]; simp
    · have h1 := tk_le l
      rw [scan_step h]
      have h2 := ih (l.drop (tk l).2) (by rw [List.length_drop]; omega)
      rw [List.length_drop] at h2
      simp only [List.length_cons]; omega

set_option maxRecDepth 20000 in
set_option maxHeartbeats 6400000 in
theorem takes_law (A : Option Addr) (n c : Nat) (l : List UInt8) (w : World) (hL : Laid w) (hs : Sl w A n (bv l)) (hn : n ≤ 2000000) (hnc : n ≤ c) :
    Calls Tryd.prog 7 #[.slice A n c] w (Good w) := by
  have hl := hs.len
  subst hl
  have GL := Lib.hid hL
  clear hL
  have hqs := tk_short l
  have hql := tk_le l
  obtain ⟨q, m, hqm⟩ : ∃ q m, tk l = (q, m) := ⟨_, _, rfl⟩
  rw [hqm] at hqs hql
  obtain ⟨ls, j, hlj⟩ : ∃ ls j, scan l = (ls, j) := ⟨_, _, rfl⟩
  have HQ := Lib.hid hqm
  have HS := Lib.hid hlj
  simp only at hqs hql
  clear hqm hlj
  go_enter Tryd.func7, Tryd.ntmps7
  go_wp2_with fail
  refine (awake_any w GL.out).mono ?_
  rintro e w1 ⟨rfl, hb1⟩
  go_wp2_with fail
  refine (own_any A _ c l _ (hs.below hb1) (by omega)).mono ?_
  rintro e w2 ⟨A2, c2, rfl, hown2, hb2⟩
  have hb12 := hb1.trans (hb2.mono hb1.size)
  go_wp2_with fail
  refine (take_any A2 _ c2 l _ (GL.out.keep hb12) (own_sl hown2) (by omega) (own_le hown2)).mono ?_
  rw [HQ.out]
  rintro e w3 ⟨A3, c3, rfl, hown3, hb3⟩
  have hb13 := hb12.trans (hb3.mono hb12.size)
  have hs3 := own_sl hown3
  clear hown2 hown3 hb12 hb2 hb3
  generalize hev : (if m = 0 then (10 : Int) else 0) = ev
  have HE := Lib.hid hev
  clear hev
  simp only at hs3 ⊢
  go_wp2_with fail
  refine (refTake_any A _ c l _ (hs.below hb13) (by omega) hnc).mono ?_
  rw [HQ.out]
  rintro e w4 ⟨A4, c4, rfl, hown4, hb4⟩
  have hb14 := hb13.trans (hb4.mono hb13.size)
  have hs34 := hs3.below hb4
  have hs4 := own_sl hown4
  clear hown4 hs3
  simp only at hs34 hs4 ⊢
  go_wp2_with fail
  refine (own_any A _ c l _ (hs.below hb14) (by omega)).mono ?_
  rintro e w5 ⟨A5, c5, rfl, hown5, hb5⟩
  have hb15 := hb14.trans (hb5.mono hb14.size)
  go_wp2_with fail
  refine (scan_any A5 _ c5 l _ (GL.out.keep hb15) (own_sl hown5) (by omega) (own_le hown5)).mono ?_
  rw [HS.out]
  rintro e w6 ⟨A6, c6, vs6, rfl, hown6, heach6, hb6⟩
  have hb16 := hb15.trans (hb6.mono hb15.size)
  simp only at hown6 heach6 ⊢
  go_wp2_with fail
  refine (refScan_any A _ c l _ (hs.below hb16) (by omega) hnc).mono ?_
  rw [HS.out]
  rintro e w7 ⟨A7, c7, vs7, rfl, hown7, heach7, hb7⟩
  have hb17 := hb16.trans (hb7.mono hb16.size)
  have hb47 : Below w4.heap.size w4 w7 := hb5.trans ((hb6.mono hb5.size).trans (hb7.mono (Nat.le_trans hb5.size hb6.size)))
  have hc3 := run_str (P := Tryd.prog) (c := c3) (hs34.below hb47) 23 5 9 Tryd.underlying23 Tryd.underlying5 Tryd.underlying9
  have hc4 := run_str (P := Tryd.prog) (c := c4) (hs4.below hb47) 23 5 9 Tryd.underlying23 Tryd.underlying5 Tryd.underlying9
  simp only at hown7 heach7 ⊢
  have hlsl : ls.length ≤ 140737488351232 := by
    have h := scan_len l.length l (Nat.le_refl _)
    rw [HS.out] at h
    simp only at h; omega
  have hsame := same_any A6 A7 ls.length c6 ls.length c7 vs6 vs7 ls ls w7 ((own_sl hown6).below hb7) (own_sl hown7) (heach6.toS.keep hb7.block) heach7.toS hlsl hlsl
  have HSM := Lib.hid hsame
  clear hsame hown5 hown6 hown7 heach6 heach7 hs34 hs4
  have hee : ev = if m = 0 then 10 else 0 := HE.out.symm
  by_cases hm0 : m = 0
  · rw [if_pos hm0] at hee
    subst hee hm0
    go_wp2_with (go_at_call 29; refine HSM.out.mono ?_; rintro e w8 ⟨rfl, hb8⟩)
    go_ret
    exact ⟨by simp, hb17.trans (hb8.mono hb17.size)⟩
  · rw [if_neg hm0] at hee
    subst hee
    have hm1 : (0 : Int) < m := by omega
    have hm2 : 0 < m := by omega
    go_wp2_with (go_at_call 29; refine HSM.out.mono ?_; rintro e w8 ⟨rfl, hb8⟩)
    go_ret
    exact ⟨by simp, hb17.trans (hb8.mono hb17.size)⟩
end Go.Proofs.YtacpbcahmhnhbaaDoor
