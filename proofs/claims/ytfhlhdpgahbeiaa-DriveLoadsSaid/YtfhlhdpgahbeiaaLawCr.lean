/-
  The law DriveCrashes as a walk.
-/
import Derived.Test.YtfhlhdpgahbeiaaBuilt
import Derived.Test.YtfhlhdpgahbeiaaAwk
import Derived.Test.YtfhlhdpgahbeiaaCrL
import Derived.Test.YtfhlhdpgahbeiaaKr
namespace Go.Proofs.Ytfhlhdpgahbeiaa
open Go.RowKit Go.Maps
set_option linter.unusedVariables false

theorem Below.al {wr W : World} (h : Below wr.heap.size wr W) (o : Obj) : Below wr.heap.size wr (W.alloc o) := h.alloc h.size o
theorem tr2 {wr W V : World} (h : Below wr.heap.size wr W) (k : Below W.heap.size W V) : Below wr.heap.size wr V := h.trans (k.mono h.size)

/-- Behind the two losses of power. -/
def C7 (wr wx : World) (s11 s12 : Value) : Prop :=
  ∃ pc mc hs A3 c3 Mn, s11 = .pointer (some ⟨pc, 0, none⟩) ∧ s12 = .pointer (some ⟨Mn, 0, none⟩) ∧ Rel wx wr.heap.size pc mc hs 0 false 0 A3 c3 ∧ Blk wx Mn (dcs A3 hs.length c3 0 false 0) 26 ∧ wr.heap.size ≤ Mn ∧ Below wr.heap.size wr wx

theorem C7.mk_ {wr X : World} {pc mc m : Nat} {hs : List Gm} {A3 : Option Addr} {c3 : Nat} {cs : Array Value} (hR : Rel X wr.heap.size pc mc hs 0 false 0 A3 c3) (hm : Blk X m cs 26) (hcs : ∃ A' n' c' st' ar' lf', cs = dcs A' n' c' st' ar' lf') (hle : wr.heap.size ≤ m) (hb : Below wr.heap.size wr X) :
    C7 wr ((((X.setCell ⟨m, 0, none⟩ (.slice A3 hs.length c3)).setCell ⟨m, 1, none⟩ (.int .i64 0)).setCell ⟨m, 2, none⟩ (.bool false)).setCell ⟨m, 3, none⟩ (.int .i64 0)) (.pointer (some ⟨pc, 0, none⟩)) (.pointer (some ⟨m, 0, none⟩)) := by
  obtain ⟨A', n', c', st', ar', lf', rfl⟩ := hcs
  exact ⟨pc, mc, hs, A3, c3, m, rfl, rfl, hR.box hm _ _ _ _, hm.box, hle, set4_below hb hle _ _ _ _⟩
theorem C7.al {wr w4 : World} {pc mc : Nat} {hs : List Gm} {A3 : Option Addr} {c3 : Nat} (hR : Rel w4 wr.heap.size pc mc hs 0 false 0 A3 c3) (hb : Below wr.heap.size wr w4) :
    C7 wr (w4.alloc (dobj (dcs A3 hs.length c3 0 false 0))) (.pointer (some ⟨pc, 0, none⟩)) (.pointer (some ⟨w4.heap.size, 0, none⟩)) :=
  ⟨pc, mc, hs, A3, c3, _, rfl, rfl, hR.below ((Below.refl _ _).alloc (Nat.le_refl _) _), Blk.new w4 _ _, hb.size, Below.al hb _⟩
theorem rel_of {wr V' w3 V w4 : World} {pc mc : Nat} {hs : List Gm} {A3 : Option Addr} {c3 : Nat} (hD3 : Dr w3 pc mc hs 0 false 0) (hf3 : ∀ k, foot pc mc hs k → V'.heap.size ≤ k) (hV' : Below wr.heap.size wr V') (h34 : Below w3.heap.size w3 w4)
    (ho : w4.ownsRow V.heap.size 70 3 (.slice A3 hs.length c3) hs.length (fcs (hs.map Gm.f))) (hV : Below wr.heap.size wr V) (h4 : Below wr.heap.size wr w4) (hv : ∀ y ∈ hs, vname y.name = true) : Rel w4 wr.heap.size pc mc hs 0 false 0 A3 c3 :=
  ⟨hD3.below h34 (Nat.le_refl _), own3_base ho (B' := wr.heap.size) hV.size, hv, fun k hk => Nat.le_trans hV'.size (hf3 k hk), h4.size⟩
theorem via_alloc {w3 w4 : World} {o : Obj} (h : Below (w3.alloc o).heap.size (w3.alloc o) w4) : Below w3.heap.size w3 w4 := ((Below.refl _ w3).alloc (Nat.le_refl _) o).trans (h.mono (by simp))

/-- Where the loop over the further calls stands. -/
def PlL (w wr : World) (M : Nat) (v : Value) : Prop := ∃ pb mb gs st ar lf A c, v = .pointer (some ⟨pb, 0, none⟩) ∧ Rel wr w.heap.size pb mb gs st ar lf A c ∧ Below w.heap.size w wr ∧ Blk wr M (dcs A gs.length c st ar lf) 26
theorem PlL.next {w wr w2 : World} {M pb mb pb2 mb2 : Nat} {gs gs2 : List Gm} {st lf st2 lf2 : Int} {ar ar2 : Bool} {A A2 : Option Addr} {c c2 : Nat} (h : Rel wr w.heap.size pb mb gs st ar lf A c) (hb : Below w.heap.size w wr) (hm : Blk wr M (dcs A gs.length c st ar lf) 26) (hM : w.heap.size ≤ M)
    (hr : Rel w2 w.heap.size pb2 mb2 gs2 st2 ar2 lf2 A2 c2) (hs : Stp wr w2 (foot pb mb gs) (foot pb2 mb2 gs2)) :
    Blk w2 M (dcs A gs.length c st ar lf) 26 ∧ PlL w ((((w2.setCell ⟨M, 0, none⟩ (.slice A2 gs2.length c2)).setCell ⟨M, 1, none⟩ (.int .i64 st2)).setCell ⟨M, 2, none⟩ (.bool ar2)).setCell ⟨M, 3, none⟩ (.int .i64 lf2)) M (.pointer (some ⟨pb2, 0, none⟩)) := by
  have hm2 : Blk w2 M (dcs A gs.length c st ar lf) 26 := hm.keep (hs.oth.block M hm.lt (box_foot h.dr hm))
  exact ⟨hm2, _, _, _, _, _, _, _, _, rfl, hr.box hm2 _ _ _ _, set4_below (hb.trans (hs.oth.below h.flo h.le)) hM _ _ _ _, hm2.box⟩

set_option maxRecDepth 40000 in
set_option maxHeartbeats 8000000 in
theorem crashes_law {w : World} {A0 : Option Addr} {n0 c0 : Nat} {os : List Od} (h : Ol w A0 n0 os) (hn : n0 ≤ 140737488355328) {K1 : Option Addr} {n1 c1 : Nat} {ks : List (List Int)} (hK : Kr w K1 n1 ks) (hn1 : n1 ≤ 140737488355328)
    {A2 : Option Addr} {n2 c2 : Nat} {os2 : List Od} (h2 : Ol w A2 n2 os2) (hn2 : n2 ≤ 140737488355328) :
    Calls Try.prog 5 #[.slice A0 n0 c0, .slice K1 n1 c1, .slice A2 n2 c2] w fun e w' => e = .returned (.bool true) ∧ Below w.heap.size w w' := by
  have hbu := built_any (c0 := c0) h hn
  have HK := Lib.hid hK
  have H2 := Lib.hid h2
  clear h hK h2
  go_enter Try.func5, Try.ntmps5
  go_wp2_with fail
  refine hbu.mono ?_
  rintro e w1 ⟨pb, mb, gs, st, ar, lf, A, c, rfl, hR, hb1⟩
  have hfew := hR.dr.few
  have HR := Lib.hid hR
  clear hR hbu
  go_wp2_with fail
  refine (awake_any _).mono ?_
  rintro e w2 ⟨rfl, hb2⟩
  have hb12 : Below w1.heap.size w1 w2 := ((Below.refl _ w1).alloc (Nat.le_refl _) _).trans (hb2.mono (by simp))
  have HR2 := Lib.hid (HR.out.below hb12)
  have hm2 : Blk w2 w1.heap.size (dcs A gs.length c st ar lf) 26 := (Blk.new w1 (dcs A gs.length c st ar lf) 26).keep (hb2.block _ (by simp))
  have HM2 := Lib.hid hm2
  have hb02 : Below w.heap.size w w2 := hb1.trans (hb12.mono hb1.size)
  have HK2 := Lib.hid (HK.out.below hb02)
  have HO2 := Lib.hid (H2.out.keep hb02)
  clear hb2 hb12 hm2
  go_wp2_with fail
  go_loopw [9, 10] (fun ok j wr => ∃ i : Nat, i ≤ n1 ∧ j = .int .i64 i ∧ ok = .bool true ∧ Below w2.heap.size w2 wr) (fun _ j _ => n1 - (intOf j).toNat)
  case atStart => exact ⟨0, Nat.zero_le _, rfl, rfl, Below.refl _ _⟩
  case round =>
    obtain ⟨i, hi, rfl, rfl, hb⟩ := hrel
    by_cases hin : i < n1
    · by_cases h12 : i < 12
      · have hcN : (i : Int) < n1 := by omega
        have hc12 : (i : Int) < 12 := by omega
        have hi0 : (0 : Int) ≤ i := by omega
        obtain ⟨bk, ok_, K, l, ck, rfl, k0, hKs, hkc⟩ := (HK2.out.below hb).at_ hin
        have hRr := HR2.out.below hb
        have hmr := HM2.out.keep (hb.block _ HM2.out.lt)
        have hKl : bk < wr.heap.size := World.block_lt_of_cell? wr _ k0
        have HD : Hid (∀ V, Below wr.heap.size wr V → Dr V pb mb gs st ar lf) := fun V hV => hRr.dr.below hV (Nat.le_refl _)
        have HF : Hid (∀ V, Below wr.heap.size wr V → Fl V A gs.length (gs.map Gm.f)) := fun V hV => hRr.fl.below hV
        have HKS : Hid (∀ V, Below wr.heap.size wr V → Sl V K l.length (iv l)) := fun V hV => hKs.below hV
        have dk : ∀ V, Below wr.heap.size wr V → V.cell? ⟨bk, ok_ + i, none⟩ = some (.slice K l.length ck) := fun V hV => (hV.cell (p := ⟨bk, ok_ + i, none⟩) hKl).trans k0
        have dc0 : ∀ V, Below wr.heap.size wr V → V.cell? ⟨w1.heap.size, 0, none⟩ = some (.slice A gs.length c) := fun V hV => (hmr.keep (hV.block _ hmr.lt)).cell rfl
        have dc1 : ∀ V, Below wr.heap.size wr V → V.cell? ⟨w1.heap.size, 1, none⟩ = some (.int .i64 st) := fun V hV => (hmr.keep (hV.block _ hmr.lt)).cell rfl
        have dc2 : ∀ V, Below wr.heap.size wr V → V.cell? ⟨w1.heap.size, 2, none⟩ = some (.bool ar) := fun V hV => (hmr.keep (hV.block _ hmr.lt)).cell rfl
        have dc3 : ∀ V, Below wr.heap.size wr V → V.cell? ⟨w1.heap.size, 3, none⟩ = some (.int .i64 lf) := fun V hV => (hmr.keep (hV.block _ hmr.lt)).cell rfl
        have HSY := Lib.hid (file_len hRr.dr)
        have HRR := Lib.hid hRr
        clear k0 hKs hRr hmr
        go_wp2_with fail
        go_cut [11, 12] (fun s11 s12 wx => C7 wr wx s11 s12)
        case first =>
          have hb0 : Below wr.heap.size wr wr.drew := (Below.refl _ _).drew
          have le0 : wr.heap.size ≤ wr.heap.size := Nat.le_refl _
          go_region_held (fun V => Below wr.heap.size wr V) (first | assumption | exact Below.al (by assumption) _ | exact set4_below (by assumption) (by assumption) _ _ _ _ | exact set4_below (Below.al (by assumption) _) (by assumption) _ _ _ _) (first
            | (go_at_call 15; refine (crash_any (HD.out _ (by assumption)) K l.length ck l (HKS.out _ (by assumption)) hkc).mono ?_; rintro e w3 ⟨pc, mc, hs, rfl, hhs, hD3, hb3, hf3⟩
               have hbb3 : Below wr.heap.size wr w3 := tr2 (by assumption) hb3
               have le3 : wr.heap.size ≤ w3.heap.size := hbb3.size
               have hfl3 : ∀ k, foot pc mc hs k → wr.heap.size ≤ k := fun k hk => Nat.le_trans (Below.size (by assumption)) (hf3 k hk)
               try (have hm3 : Blk w3 wr.heap.size zcs 26 := (Blk.new wr.drew zcs 26).keep (hb3.block _ (by simp)))
               have HD3 := Lib.hid hD3
               have HF3 := Lib.hid hfl3
               clear hD3 hf3 hfl3)
            | (go_at_call 16; refine (rcrash_any A gs.length c (gs.map Gm.f) st ar lf K l.length ck l _ (HF.out _ (by assumption)) hfew (HKS.out _ (by assumption)) HSY.out).mono ?_; intro e w4 hfr; obtain ⟨A3, c3, rfl, ho4, hb4⟩ := FreshD.ans hfr hhs
               have hbb4 : Below wr.heap.size wr w4 := tr2 (by assumption) hb4
               have le4 : wr.heap.size ≤ w4.heap.size := hbb4.size
               have h34 : Below w3.heap.size w3 w4 := by first | exact hb4 | exact via_alloc hb4
               have HR4 := Lib.hid (rel_of (wr := wr) (V' := wr) HD3.out HF3.out (Below.refl _ _) h34 ho4 (by assumption) hbb4 (vn_crash HRR.out.vn hhs))
               try (have hm4 := hm3.keep (hb4.block _ hm3.lt); have r0 : w4.cell? ⟨wr.heap.size, 0, none⟩ = some (.slice none 0 0) := hm4.cell rfl; have r1 : w4.cell? ⟨wr.heap.size, 1, none⟩ = some (.int .i64 0) := hm4.cell rfl; have r2 : w4.cell? ⟨wr.heap.size, 2, none⟩ = some (.bool false) := hm4.cell rfl; have r3 : w4.cell? ⟨wr.heap.size, 3, none⟩ = some (.int .i64 0) := hm4.cell rfl; have f0 := hm4.frozen 0; have f1 := hm4.frozen 1; have f2 := hm4.frozen 2; have f3 := hm4.frozen 3; have HM4 := Lib.hid hm4; clear hm4)
               try (have hm4 : Blk w4 w3.heap.size zcs 26 := (Blk.new w3 zcs 26).keep (hb4.block _ (by simp)); have r0 : w4.cell? ⟨w3.heap.size, 0, none⟩ = some (.slice none 0 0) := hm4.cell rfl; have r1 : w4.cell? ⟨w3.heap.size, 1, none⟩ = some (.int .i64 0) := hm4.cell rfl; have r2 : w4.cell? ⟨w3.heap.size, 2, none⟩ = some (.bool false) := hm4.cell rfl; have r3 : w4.cell? ⟨w3.heap.size, 3, none⟩ = some (.int .i64 0) := hm4.cell rfl; have f0 := hm4.frozen 0; have f1 := hm4.frozen 1; have f2 := hm4.frozen 2; have f3 := hm4.frozen 3; have HM4 := Lib.hid hm4; clear hm4)
               clear ho4 hfr))
          all_goals
            go_wp2_with fail
            go_meet
            first
              | exact C7.mk_ HR4.out HM4.out ⟨_, _, _, _, _, _, rfl⟩ (by assumption) hbb4
              | exact C7.al HR4.out hbb4
        case rest =>
          obtain ⟨pc, mc, hs, A3, c3, Mn, rfl, rfl, hR7, hm7, hMn, hb7⟩ := hcut
          clear dk dc0 dc1 dc2 dc3
          have d0 : wc.cell? ⟨Mn, 0, none⟩ = some (.slice A3 hs.length c3) := hm7.cell rfl
          have d1 : wc.cell? ⟨Mn, 1, none⟩ = some (.int .i64 0) := hm7.cell rfl
          have d2 : wc.cell? ⟨Mn, 2, none⟩ = some (.bool false) := hm7.cell rfl
          have d3 : wc.cell? ⟨Mn, 3, none⟩ = some (.int .i64 0) := hm7.cell rfl
          have ht7 := tells_any hR7.dr A3 c3 hR7.fl hR7.vn
          have H7 := Lib.hid (And.intro hR7 (And.intro hm7 (And.intro hMn hb7)))
          clear hR7 hm7 hMn hb7
          go_wp2_with fail
          refine ht7.mono ?_
          rintro e w8 ⟨rfl, hb8⟩
          have hD8 := H7.out.1.dr.below hb8 (Nat.le_refl _)
          have hde := dead_any hD8
          have hst := steps_any hD8
          have hz : dead false 0 = false := rfl
          rw [hz] at hde
          have hbr8 : Below wr.heap.size wr w8 := tr2 H7.out.2.2.2 hb8
          have hPL : PlL wr w8 Mn (.pointer (some ⟨pc, 0, none⟩)) := ⟨_, _, _, _, _, _, _, _, rfl, H7.out.1.below hb8, hbr8, H7.out.2.1.keep (hb8.block _ H7.out.2.1.lt)⟩
          have HPL := Lib.hid hPL
          have HMn := Lib.hid H7.out.2.2.1
          clear ht7 hD8 hz hPL
          go_wp2_with fail
          refine hde.mono ?_
          rintro e w9 ⟨rfl, rfl⟩
          clear hde
          go_wp2_with fail
          refine hst.mono ?_
          rintro e w10 ⟨rfl, rfl⟩
          clear hst d0 d1 d2 d3
          go_wp2_with fail
          obtain ⟨wo, rfl⟩ : ∃ wo : World, wo = wr := ⟨_, rfl⟩
          go_loopw [9, 11, 13] (fun ok d j wr => ∃ k : Nat, k ≤ n2 ∧ j = .int .i64 k ∧ ok = .bool true ∧ PlL wo wr Mn d) (fun _ _ j _ => n2 - (intOf j).toNat)
          case atStart => exact ⟨0, Nat.zero_le _, rfl, rfl, HPL.out⟩
          case round =>
            obtain ⟨k, hk, rfl, rfl, pd, md, gd, sd, ad, ld, Ad, cd, rfl, hRd, hbd, hmd⟩ := hrel
            have d0 : wr.cell? ⟨Mn, 0, none⟩ = some (.slice Ad gd.length cd) := hmd.cell rfl
            have d1 : wr.cell? ⟨Mn, 1, none⟩ = some (.int .i64 sd) := hmd.cell rfl
            have d2 : wr.cell? ⟨Mn, 2, none⟩ = some (.bool ad) := hmd.cell rfl
            have d3 : wr.cell? ⟨Mn, 3, none⟩ = some (.int .i64 ld) := hmd.cell rfl
            by_cases hkn : k < n2 ∧ k < 5
            · obtain ⟨hkn, h5⟩ := hkn
              have hkN : (k : Int) < n2 := by omega
              have hk5 : (k : Int) < 5 := by omega
              have hk0 : (0 : Int) ≤ k := by omega
              obtain ⟨b, off, o, rfl, ho, hok, x0, x1, x2, x3, x4, x5⟩ := ((HO2.out.keep hb).keep hbd).at_ hkn
              have hp := play_any (w := wr.drew) (W0 := wo) hRd.drew hbd.drew o ((HO2.out.keep hb).2.1 o (List.mem_of_getElem? ho))
              have HRD := Lib.hid (And.intro hRd (And.intro hbd hmd))
              clear hRd hbd hmd hok ho
              go_wp2_with fail
              go_region_with (go_at_call 14; refine hp.mono ?_; rintro e w12 ⟨pb2, mb2, gs2, st2, ar2, lf2, A3x, c3x, rfl, hR2, hS2⟩
                              obtain ⟨hm12, hL12⟩ := PlL.next HRD.out.1 HRD.out.2.1 HRD.out.2.2 HMn.out hR2 ((Below.stp (S := foot pd md gd) (Below.refl wr.heap.size wr).drew).trans hS2)
                              have d0 : w12.cell? ⟨Mn, 0, none⟩ = some (.slice Ad gd.length cd) := hm12.cell rfl
                              have d1 : w12.cell? ⟨Mn, 1, none⟩ = some (.int .i64 sd) := hm12.cell rfl
                              have d2 : w12.cell? ⟨Mn, 2, none⟩ = some (.bool ad) := hm12.cell rfl
                              have d3 : w12.cell? ⟨Mn, 3, none⟩ = some (.int .i64 ld) := hm12.cell rfl
                              have f0 := hm12.frozen 0
                              have f1 := hm12.frozen 1
                              have f2 := hm12.frozen 2
                              have f3 := hm12.frozen 3
                              have HL12 := Lib.hid hL12
                              clear hm12 hL12 hR2 hS2)
              all_goals
                go_wp2_with fail
                go_roundw
                case rel => exact ⟨k + 1, by omega, by go_num, rfl, HL12.out⟩
                case measure => simp [intOf]; omega
            · have hq : ¬ ((k : Int) < n2 ∧ (k : Int) < 5) := by omega
              have hb2r : Below w2.heap.size w2 wr := hb.trans (hbd.mono hb.size)
              have hte := tells_any (HR2.out.below hb2r).dr A c (HR2.out.below hb2r).fl HR2.out.vn
              have hmr := HM2.out.keep (hb2r.block _ HM2.out.lt)
              have m0 : wr.cell? ⟨w1.heap.size, 0, none⟩ = some (.slice A gs.length c) := hmr.cell rfl
              have m1 : wr.cell? ⟨w1.heap.size, 1, none⟩ = some (.int .i64 st) := hmr.cell rfl
              have m2 : wr.cell? ⟨w1.heap.size, 2, none⟩ = some (.bool ar) := hmr.cell rfl
              have m3 : wr.cell? ⟨w1.heap.size, 3, none⟩ = some (.int .i64 lf) := hmr.cell rfl
              have HB2 := Lib.hid hb2r
              clear hRd hbd hmd hmr d0 d1 d2 d3 hb2r
              by_cases hk0 : k < n2
              · have hkN : (k : Int) < n2 := by omega
                have hk5 : ¬ (k : Int) < 5 := by omega
                clear hq hkn
                go_wp2_with fail
                refine hte.mono ?_
                rintro e w13 ⟨rfl, hb13⟩
                clear hte
                go_wp2_with fail
                exact ⟨⟨i + 1, by omega, by go_num, rfl, tr2 HB2.out hb13⟩, by simp [intOf]; omega⟩
              · have hkN : ¬ (k : Int) < n2 := by omega
                clear hq hkn
                go_wp2_with fail
                refine hte.mono ?_
                rintro e w13 ⟨rfl, hb13⟩
                clear hte
                go_wp2_with fail
                exact ⟨⟨i + 1, by omega, by go_num, rfl, tr2 HB2.out hb13⟩, by simp [intOf]; omega⟩
      · have hcN : (i : Int) < n1 := by omega
        have hc12 : ¬ (i : Int) < 12 := by omega
        go_wp2_with fail
        go_ret
        exact ⟨rfl, hb02.trans (hb.mono hb02.size)⟩
    · have hcN : ¬ (i : Int) < n1 := by omega
      go_wp2_with fail
      go_ret
      exact ⟨rfl, hb02.trans (hb.mono hb02.size)⟩
end Go.Proofs.Ytfhlhdpgahbeiaa
