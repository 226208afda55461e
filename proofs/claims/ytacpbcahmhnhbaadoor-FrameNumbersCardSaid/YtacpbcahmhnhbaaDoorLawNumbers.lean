/-
  The law FrameNumbers, as a walk: it answers true and writes nothing that was there.
-/
import Derived.Test.YtacpbcahmhnhbaaDoorLawSums
import Derived.BigGuardPart
namespace Go.Proofs.YtacpbcahmhnhbaaDoor
open Go.RowKit Num Crc

set_option maxRecDepth 20000 in
set_option maxHeartbeats 6400000 in
theorem numbers_law (x : Nat) (hx : x < 18446744073709551616) (A : Option Addr) (n c : Nat) (l : List UInt8) (w : World) (hL : Laid w) (hs : Sl w A n (bv l)) (hn : n ≤ 140737488351232) (hnc : n ≤ c) :
    Calls Tryd.prog 3 #[.int .u64 x, .slice A n c] w (Good w) := by
  have hl := hs.len
  subst hl
  have h10 := vint_len10 hx
  have htu := tu_vint hx l
  have HX := Lib.hid hx
  have HT := Lib.hid htu
  have GL := Lib.hid hL
  clear hL hx htu
  go_enter Tryd.func3, Tryd.ntmps3
  go_wp2_with fail
  refine (awake_any w GL.out).mono ?_
  rintro e w1 ⟨rfl, hb1⟩
  go_wp2_with fail
  refine (uint_any x HX.out _).mono ?_
  rintro e w2 ⟨A2, c2, rfl, hown2, hb2⟩
  have hb12 := hb1.trans (hb2.mono hb1.size)
  have hsl2 := own_sl hown2
  go_wp2_with fail
  refine (own_any A2 _ c2 (vint x) _ hsl2 (by omega)).mono ?_
  rintro e w3 ⟨A3, c3, rfl, hown3, hb3⟩
  have hb13 := hb12.trans (hb3.mono hb12.size)
  go_wp2_with (at_builtin; refine wpList_app _ rfl (.tmp 16) (.tmp 17) 23 rfl _ bytesEl (by decide) _ _ _ rfl hown3 _ _ _ _ rfl (hs.below hb13) (bv_one _) (by omega) hb3.size ?_; intro A4 c4 w4 hown4 hg4 hat4)
  have hb34 : Below w2.heap.size w2 w4 := hb3.trans ((Below.refl _ w3).grown hg4 hb3.size (own_blk hown3))
  have hb14 := hb12.trans (hb34.mono hb12.size)
  have hsx := hsl2.below hb34
  rw [← bv_app] at hown4
  have hs4 := own_sl hown4
  clear hg4 hat4 hown3 hown2 hb3 hb13 hsl2 hb2 hb34 hown4
  refine (takeUint_any A4 _ c4 _ w4 hs4 (by omega)).mono ?_
  rintro e w5 ⟨rfl, rfl⟩
  rw [HT.out]
  have hs' := hs.below hb14
  have hcx : ∀ V : World, Below w4.heap.size w4 V → ∀ c', (convert 23 9 (.slice A2 (vint x).length c')).run Tryd.prog V = .ok (.string ⟨(vint x).toArray⟩) V := fun V hV c' =>
    run_str (P := Tryd.prog) (hsx.below hV) 23 5 9 Tryd.underlying23 Tryd.underlying5 Tryd.underlying9
  go_wp2_with fail
  go_cut [38] (fun s38 wx => s38 = .bool false ∧ Below w.heap.size w wx)
  case first =>
    have hb0 : Below w4.heap.size w4 w4.drew := (Below.refl _ _).drew
    go_region_held (fun V => Below w4.heap.size w4 V) (first | exact hb0 | exact hb0.trans (by assumption)) (first | (go_at_call 15; refine (refUint_any x HX.out _).mono ?_; rintro e w6 ⟨A6, c6, rfl, hown6, hb6⟩; have hcv1 := run_str (P := Tryd.prog) (c := c6) (own_sl hown6) 23 5 9 Tryd.underlying23 Tryd.underlying5 Tryd.underlying9; have hb06 : Below w4.heap.size w4 w6 := hb0.trans hb6))
    all_goals (go_wp2_with fail; go_meet; exact ⟨rfl, hb14.trans (Below.mono (by assumption) hb14.size)⟩)
  case rest =>
    obtain ⟨rfl, hbx⟩ := hcut
    clear hcx
    rename_i wx
    go_wp2_with fail
    refine (own_any A _ c l _ (hs.below hbx) (by omega)).mono ?_
    rintro e w7 ⟨A7, c7, rfl, hown7, hb7⟩
    have hb17 := hbx.trans (hb7.mono hbx.size)
    go_wp2_with fail
    refine (takeUint_any A7 _ c7 l _ (own_sl hown7) (by omega)).mono ?_
    rintro e w8 ⟨rfl, rfl⟩
    go_wp2_with fail
    refine (refTakeUint_any A _ c l _ (hs.below hb17) (by omega) hnc).mono ?_
    rintro e w9 ⟨rfl, hb9⟩
    go_wp2_with fail
    go_ret
    exact ⟨by simp, hb17.trans (hb9.mono hb17.size)⟩
end Go.Proofs.YtacpbcahmhnhbaaDoor
