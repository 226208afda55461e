/-
  The law FrameTexts, as a walk: it answers true and writes nothing that was there.
-/
import Derived.Test.YtacpbcahmhnhbaaDoorLawSums
import Derived.BigGuardPart
namespace Go.Proofs.YtacpbcahmhnhbaaDoor
open Go.RowKit Num Crc

set_option maxRecDepth 20000 in
set_option maxHeartbeats 6400000 in
theorem texts_law (s : ByteArray) (hss : s.size ≤ 2000000) (A : Option Addr) (n c : Nat) (l : List UInt8) (w : World) (hL : Laid w) (hs : Sl w A n (bv l)) (hn : n ≤ 2000000) (hnc : n ≤ c) :
    Calls Tryd.prog 4 #[.string s, .slice A n c] w (Good w) := by
  have hl := hs.len
  subst hl
  have h10 := vint_len10 (n := s.size) (by omega)
  obtain ⟨X, hX⟩ : ∃ X, X = vint s.size ++ s.data.toList := ⟨_, rfl⟩
  have hXl : X.length ≤ 2000010 := by
    rw [hX, List.length_append, show s.data.toList.length = s.size from rfl]; omega
  have htt : tt (X ++ l) = (s.data.toList, X.length) := by
    have h := tt_text (s := s.data.toList) (by show s.size < _; omega) l
    rw [hX, show s.size = s.data.toList.length from rfl, h]
    simp
  have HT := Lib.hid htt
  have HQ := Lib.hid hX
  have GL := Lib.hid hL
  clear hL htt hX
  go_enter Tryd.func4, Tryd.ntmps4
  go_wp2_with fail
  refine (awake_any w GL.out).mono ?_
  rintro e w1 ⟨rfl, hb1⟩
  go_wp2_with fail
  have hct := text_any s (by omega) w1
  rw [← HQ.out] at hct
  refine hct.mono ?_
  rintro e w2 ⟨A2, c2, rfl, hown2, hb2⟩
  clear hct
  have hb12 := hb1.trans (hb2.mono hb1.size)
  have hsl2 := own_sl hown2
  go_wp2_with fail
  refine (own_any A2 _ c2 X _ hsl2 (by omega)).mono ?_
  rintro e w3 ⟨A3, c3, rfl, hown3, hb3⟩
  have hb13 := hb12.trans (hb3.mono hb12.size)
  go_wp2_with (at_builtin; refine wpList_app _ rfl (.tmp 16) (.tmp 17) 23 rfl _ bytesEl (by decide) _ _ _ rfl hown3 _ _ _ _ rfl (hs.below hb13) (bv_one _) (by omega) hb3.size ?_; intro A4 c4 w4 hown4 hg4 hat4)
  have hb34 : Below w2.heap.size w2 w4 := hb3.trans ((Below.refl _ w3).grown hg4 hb3.size (own_blk hown3))
  have hb14 := hb12.trans (hb34.mono hb12.size)
  have hsx := hsl2.below hb34
  rw [← bv_app] at hown4
  have hs4 := own_sl hown4
  clear hg4 hat4 hown3 hown2 hb3 hb13 hsl2 hb2 hb34
  refine (takeText_any A4 _ c4 _ w4 hs4 (by omega) (own_le hown4)).mono ?_
  rintro e w5 ⟨rfl, rfl⟩
  rw [HT.out]
  have hs' := hs.below hb14
  have hcx : ∀ V : World, Below w4.heap.size w4 V → ∀ c', (convert 23 9 (.slice A2 X.length c')).run Tryd.prog V = .ok (.string ⟨X.toArray⟩) V := fun V hV c' =>
    run_str (P := Tryd.prog) (hsx.below hV) 23 5 9 Tryd.underlying23 Tryd.underlying5 Tryd.underlying9
  have refTextX : ∀ V : World, Calls Tryd.prog 19 #[.string s] V (Fresh V X) := fun V => by
    rw [HQ.out]; exact refText_any s (by omega) V
  have RX := Lib.hid refTextX
  clear refTextX
  go_wp2_with fail
  go_cut [38] (fun s38 wx => s38 = .bool false ∧ Below w.heap.size w wx)
  case first =>
    have hb0 : Below w4.heap.size w4 w4.drew := (Below.refl _ _).drew
    go_region_held (fun V => Below w4.heap.size w4 V) (first | exact hb0 | exact hb0.trans (by assumption)) (first | (go_at_call 19; refine (RX.out _).mono ?_; rintro e w6 ⟨A6, c6, rfl, hown6, hb6⟩; have hcv1 := run_str (P := Tryd.prog) (c := c6) (own_sl hown6) 23 5 9 Tryd.underlying23 Tryd.underlying5 Tryd.underlying9; have hb06 : Below w4.heap.size w4 w6 := hb0.trans hb6))
    all_goals (go_wp2_with fail; go_meet; exact ⟨rfl, hb14.trans (Below.mono (by assumption) hb14.size)⟩)
  case rest =>
    obtain ⟨rfl, hbx⟩ := hcut
    clear hcx
    rename_i wx
    go_wp2_with fail
    refine (own_any A _ c l _ (hs.below hbx) (by omega)).mono ?_
    rintro e w7 ⟨A7, c7, rfl, hown7, hb7⟩
    have hb17 := hbx.trans (hb7.mono hbx.size)
    go_wp2_with fail
    refine (takeText_any A7 _ c7 l _ (own_sl hown7) (by omega) (own_le hown7)).mono ?_
    rintro e w8 ⟨rfl, rfl⟩
    go_wp2_with fail
    refine (refTakeText_any A _ c l _ (hs.below hb17) (by omega) hnc).mono ?_
    rintro e w9 ⟨rfl, hb9⟩
    go_wp2_with fail
    go_ret
    exact ⟨by simp, hb17.trans (hb9.mono hb17.size)⟩
end Go.Proofs.YtacpbcahmhnhbaaDoor
