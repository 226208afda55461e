/-
  The law FrameSeals, as a walk: it answers true and writes nothing that was there.
-/
import Derived.Test.YtacpbcahmhnhbaaDoorLawSums
import Derived.Test.YtacpbcahmhnhbaaDoorFrameG
namespace Go.Proofs.YtacpbcahmhnhbaaDoor
open Go.RowKit Num Crc

/-- What was sealed is taken back, whatever stands behind it. -/
theorem tk_seal {p : List UInt8} (hp : p.length ≤ 4096) (r : List UInt8) : tk (seal_ p ++ r) = (p, (seal_ p).length) := by
  have ht : tu (seal_ p ++ r) = (p.length, (vint p.length).length) := by
    unfold seal_
    rw [List.append_assoc, tu_vint (by omega)]
  have hv := vint_pos p.length
  unfold tk
  rw [ht]
  have hl := seal_len p
  have e4 : (List.drop (vint p.length).length (seal_ p ++ r)).take 4 = sumle (Crc.sum p) := by
    unfold seal_
    rw [List.append_assoc, List.drop_left, List.append_assoc, List.take_append_of_le_length (by rw [sumle_len]; omega)]
    exact List.take_of_length_le (by rw [sumle_len]; omega)
  have ep : (List.drop ((vint p.length).length + 4) (seal_ p ++ r)).take p.length = p := by
    rw [← List.drop_drop]
    unfold seal_
    rw [List.append_assoc, List.drop_left, List.append_assoc, show 4 = (sumle (Crc.sum p)).length from rfl, List.drop_left, List.take_left]
  simp only [ep, e4, if_true]
  rw [if_neg (by rw [List.length_append, hl]; omega), hl]

set_option maxRecDepth 20000 in
set_option maxHeartbeats 6400000 in
theorem seals_law (A : Option Addr) (n c : Nat) (p : List UInt8) (B : Option Addr) (m d : Nat) (r : List UInt8) (w : World) (hL : Laid w) (hs : Sl w A n (bv p)) (hn : n ≤ 2000000) (hr : Sl w B m (bv r)) (hm : m ≤ 2000000) :
    Calls Tryd.prog 6 #[.slice A n c, .slice B m d] w (Good w) := by
  have hl := hs.len
  subst hl
  have hml := hr.len
  subst hml
  have GL := Lib.hid hL
  clear hL
  by_cases hbig : (4096 : Int) < p.length
  · go_enter Tryd.func6, Tryd.ntmps6
    go_wp2_with fail
    refine (awake_any w GL.out).mono ?_
    rintro e w1 ⟨rfl, hb1⟩
    go_wp2_with fail
    refine (own_any A _ c p _ (hs.below hb1) (by omega)).mono ?_
    rintro e w2 ⟨A2, c2, rfl, hown2, hb2⟩
    have hb12 := hb1.trans (hb2.mono hb1.size)
    go_wp2_with fail
    refine (seal_long A2 _ c2 _ (by omega)).mono ?_
    rintro e w3 ⟨rfl, rfl⟩
    go_wp2_with fail
    go_ret
    exact ⟨rfl, hb12⟩
  · have hpl : p.length ≤ 4096 := by omega
    obtain ⟨S, hS⟩ : ∃ S, S = seal_ p := ⟨_, rfl⟩
    have hSl : S.length ≤ 5000 := by
      have h10 := vint_len10 (n := p.length) (by omega)
      rw [hS, seal_len]; omega
    have hSp : 0 < S.length := by rw [hS, seal_len]; omega
    have HT := Lib.hid (show tk (S ++ r) = (p, S.length) by rw [hS]; exact tk_seal hpl r)
    have HSE := Lib.hid hS
    clear hS
    go_enter Tryd.func6, Tryd.ntmps6
    go_wp2_with fail
    refine (awake_any w GL.out).mono ?_
    rintro e w1 ⟨rfl, hb1⟩
    go_wp2_with fail
    refine (own_any A _ c p _ (hs.below hb1) (by omega)).mono ?_
    rintro e w2 ⟨A2, c2, rfl, hown2, hb2⟩
    have hb12 := hb1.trans (hb2.mono hb1.size)
    go_wp2_with fail
    have hct := seal_any A2 _ c2 p _ (GL.out.keep hb12) (own_sl hown2) hpl
    rw [← HSE.out] at hct
    refine hct.mono ?_
    rintro e w3 ⟨A3, c3, rfl, hown3, hb3⟩
    clear hct
    have hb13 := hb12.trans (hb3.mono hb12.size)
    have hs3 := own_sl hown3
    go_wp2_with fail
    refine (own_any A3 _ c3 S _ hs3 (by omega)).mono ?_
    rintro e w4 ⟨A4, c4, rfl, hown4, hb4⟩
    have hb14 := hb13.trans (hb4.mono hb13.size)
    go_wp2_with (at_builtin; refine wpList_app _ rfl (.tmp 30) (.tmp 31) 23 rfl _ bytesEl (by decide) _ _ _ rfl hown4 _ _ _ _ rfl (hr.below hb14) (bv_one _) (by omega) hb4.size ?_; intro A5 c5 w5 hown5 hg5 hat5)
    have hb35 : Below w3.heap.size w3 w5 := hb4.trans ((Below.refl _ w4).grown hg5 hb4.size (own_blk hown4))
    have hb15 := hb13.trans (hb35.mono hb13.size)
    have hs35 := hs3.below hb35
    rw [← bv_app] at hown5
    have hs5 := own_sl hown5
    clear hg5 hat5 hown4 hown3 hown2 hb4 hb14 hs3 hb3 hb35
    refine (take_any A5 _ c5 _ w5 (GL.out.keep hb15) hs5 (by omega) (own_le hown5)).mono ?_
    rintro e w6 ⟨A6, c6, rfl, hown6, hb6⟩
    rw [HT.out] at hown6 ⊢
    have hb16 := hb15.trans (hb6.mono hb15.size)
    have hs36 := hs35.below hb6
    have hs6 := own_sl hown6
    have hsz : ¬ (S.length = 0) := by omega
    simp only [hsz, if_false]
    have hcS : ∀ V : World, Below w6.heap.size w6 V → ∀ c', (convert 23 9 (.slice A3 S.length c')).run Tryd.prog V = .ok (.string ⟨S.toArray⟩) V := fun V hV c' =>
      run_str (P := Tryd.prog) (hs36.below hV) 23 5 9 Tryd.underlying23 Tryd.underlying5 Tryd.underlying9
    have hcq : ∀ V : World, Below w6.heap.size w6 V → ∀ c', (convert 23 9 (.slice A6 p.length c')).run Tryd.prog V = .ok (.string ⟨p.toArray⟩) V := fun V hV c' =>
      run_str (P := Tryd.prog) (hs6.below hV) 23 5 9 Tryd.underlying23 Tryd.underlying5 Tryd.underlying9
    have hcp : ∀ V : World, Below w6.heap.size w6 V → ∀ c', (convert 23 9 (.slice A p.length c')).run Tryd.prog V = .ok (.string ⟨p.toArray⟩) V := fun V hV c' =>
      run_str (P := Tryd.prog) ((hs.below hb16).below hV) 23 5 9 Tryd.underlying23 Tryd.underlying5 Tryd.underlying9
    have HRS := Lib.hid (show ∀ V, Sl V A p.length (bv p) → Calls Tryd.prog 25 #[.slice A p.length c] V (Fresh V S) from fun V hV => by
      rw [HSE.out]; exact refSeal_any A _ c p V hV (by omega))
    go_wp2_with fail
    go_cut [4] (fun s4 wx => s4 = .bool true ∧ Below w.heap.size w wx)
    case first =>
      have hb0 : Below w6.heap.size w6 w6.drew := (Below.refl _ _).drew
      go_region_held (fun V => Below w6.heap.size w6 V) (first | exact hb0 | exact hb0.trans (by assumption)) (first | (go_at_call 25; refine (HRS.out _ ((hs.below hb16).below hb0)).mono ?_; rintro e w7 ⟨A7, c7, rfl, hown7, hb7⟩; have hcv7 := run_str (P := Tryd.prog) (c := c7) (own_sl hown7) 23 5 9 Tryd.underlying23 Tryd.underlying5 Tryd.underlying9; have hb07 : Below w6.heap.size w6 w7 := hb0.trans hb7))
      all_goals (go_wp2_with fail; go_meet; exact ⟨rfl, hb16.trans (Below.mono (by assumption) hb16.size)⟩)
    case rest =>
      obtain ⟨rfl, hbx⟩ := hcut
      clear hcS hcq hcp
      go_wp2_with fail
      go_ret
      exact ⟨rfl, hbx⟩
end Go.Proofs.YtacpbcahmhnhbaaDoor
