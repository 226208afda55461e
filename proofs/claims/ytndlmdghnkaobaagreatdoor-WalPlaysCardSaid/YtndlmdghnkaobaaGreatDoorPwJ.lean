/-
  One call of the wal's script: Crash.
-/
import Derived.Test.YtndlmdghnkaobaaGreatDoorPwA
import Derived.Test.YtndlmdghnkaobaaGreatDoorPwP
import Derived.Deep.RegionHeld
import Derived.Deep.CutBlock
namespace Go.Proofs.YtndlmdghnkaobaaGreatDoor
open Go.RowKit Go.Maps Num Crc
set_option linter.unusedVariables false

set_option maxRecDepth 40000 in
set_option maxHeartbeats 40000000 in
theorem pw_crash {w0 w : World} {pl pb mb : Nat} {gs : List Gm} {x : Ws} {A : Option Addr} {c : Nat} (h : Pw w0 w pl pb mb gs x A c) (P : Option Addr) (np cp : Nat) (N : Int) (hN1 : 1 ≤ N) (hN2 : N ≤ 999999) (K : Option Addr) (kn kc : Nat) (ks : List Int) (hK : ∀ V, Below w0.heap.size w0 V → Sl V K kn (iv ks)) (hkc : kn ≤ kc) :
    Calls Tryz.prog 8 #[.pointer (some ⟨pb, 0, none⟩), .pointer (some ⟨pl, 0, none⟩), xdr A c x, xlg x, .agg #[.int .i64 5, .slice P np cp, .int .i64 N, .slice K kn kc]] w (PlayW w0 w (wfoot pl pb mb gs)) := by
  have hm0 := Mc.start h (op3 5 P np cp N K kn kc)
  have hx0 := Bp.start w A c x (op3 5 P np cp N K kn kc)
  have hc1 := crash_any (hm0.oc.below (V' := (w5 w A c x (op3 5 P np cp N K kn kc)).drew) ((Below.refl _ _).drew)).dr K kn kc ks (hK _ (hm0.oc.below (V' := (w5 w A c x (op3 5 P np cp N K kn kc)).drew) ((Below.refl _ _).drew)).bel) hkc
  have H0 := Lib.hid hm0.oc
  have HX0 := Lib.hid hx0
  have HK := Lib.hid hK
  have HWX := Lib.hid h.wl.wx
  have d0 := hx0.d.cell (k := 0) rfl
  have d1 := hx0.d.cell (k := 1) rfl
  have d2 := hx0.d.cell (k := 2) rfl
  have d3 := hx0.d.cell (k := 3) rfl
  have l0 := hx0.l.cell (k := 0) rfl
  have l1 := hx0.l.cell (k := 1) rfl
  have o0 := hx0.o.cell (k := 0) rfl
  have o1 := hx0.o.cell (k := 1) rfl
  have o2 := hx0.o.cell (k := 2) rfl
  have o3 := hx0.o.cell (k := 3) rfl
  clear h hm0 hx0 hK
  go_enter Tryz.func8, Tryz.ntmps8
  generalize hU : w5 w A c x (op3 5 P np cp N K kn kc) = U at *
  go_wp2_with fail
  have hbd : Below U.heap.size U U.drew := (Below.refl _ _).drew
  go_cut [0] from 18 to 195 (fun s0 wx => ∃ pb2 mb2 hs z A3 c3, s0 = .pointer (some ⟨pb2, 0, none⟩) ∧ Oc w0 w wx (wfoot pl pb mb gs) pb2 mb2 hs z A3 c3 ∧ Bp w wx A3 c3 z x (op3 5 P np cp N K kn kc))
  case first =>
    go_region_with (first
      | (go_at_call 29; refine hc1.mono ?_; rintro e w2 ⟨pb2, mb2, hs, rfl, hhs, hD2, hb2, hf2⟩
         have hb02 : Below U.heap.size U w2 := hbd.trans (hb2.mono hbd.size)
         have hx2 := HX0.out.below hb02
         have hc2 := rcrash_any A x.fs.length c x.fs x.st x.ar x.lf K kn kc ks w2 (own_fl (H0.out.below hb02).own) HWX.out.few (HK.out w2 (H0.out.below hb02).bel) HWX.out.sy
         have d0 := hx2.d.cell (k := 0) rfl
         have d1 := hx2.d.cell (k := 1) rfl
         have d2 := hx2.d.cell (k := 2) rfl
         have d3 := hx2.d.cell (k := 3) rfl
         have o0 := hx2.o.cell (k := 0) rfl
         have o1 := hx2.o.cell (k := 1) rfl
         have o2 := hx2.o.cell (k := 2) rfl
         have o3 := hx2.o.cell (k := 3) rfl
         have HC2 := Lib.hid (And.intro hhs (And.intro hD2 hf2))
         clear hx2 hhs hD2 hf2 hb2)
      | (go_at_call 30; refine hc2.mono ?_; rintro e w3 ⟨A3, c3, rfl, ho3, hb3⟩
         have hb03 : Below U.heap.size U w3 := hb02.trans (hb3.mono hb02.size)
         have hx3 := HX0.out.below hb03
         obtain ⟨z, hz⟩ : ∃ z : Ws, z = ⟨(crash x.fs ks).1, 0, false, 0, x.seg, x.dd⟩ := ⟨_, rfl⟩
         have hoc := H0.out.crash (V' := w3) (z := z) (A' := A3) (c' := c3) ks hb03 (HC2.out.2.1.below hb3 (Nat.le_refl _)) (fun k hk => by have := HC2.out.2.2 k hk; have := hbd.size; omega) HC2.out.1 (own3_base ho3 hb02.size) (by rw [hz]) (by rw [hz]) (by rw [hz]) (by rw [hz])
         have hss := hoc.setD hx3
         simp only [hz] at hss
         have HSS := Lib.hid hss
         have d0 := hx3.d.cell (k := 0) rfl
         have d1 := hx3.d.cell (k := 1) rfl
         have d2 := hx3.d.cell (k := 2) rfl
         have d3 := hx3.d.cell (k := 3) rfl
         have e0 := hx3.d.frozen 0
         have e1 := hx3.d.frozen 1
         have e2 := hx3.d.frozen 2
         have e3 := hx3.d.frozen 3
         have hh0 := hx3.l.frozen 0
         have hh1 := hx3.l.frozen 1
         clear hx3 hoc hss ho3 hb3))
    all_goals
      go_wp2_with fail
      go_meet
      exact ⟨pb2, mb2, hs, _, A3, c3, rfl, HSS.out.1, HSS.out.2⟩
  case rest =>
    obtain ⟨pb2, mb2, hs, z, A3, c3, rfl, hoc, hxc⟩ := hcut
    clear d0 d1 d2 d3 l0 l1 o0 o1 o2 o3
    obtain ⟨U3, rfl⟩ : ∃ U3 : World, U3 = wc := ⟨_, rfl⟩
    clear hc1 hbd H0 HX0 HK HWX
    have hop := hoc.open_ N hN1 hN2
    have hro := fun V hV => (hoc.below (V' := V) hV).ropen N hN1 hN2
    have hnl : (psF N z.fs (segs (z.fs.map Fm.name))).length ≤ 256 * 262144 := by
      have h1 := segs_len (z.fs.map Fm.name)
      have h2 := hoc.names
      rw [List.length_map] at h1
      exact Nat.le_trans (psF_len h2.2.2 N _) (Nat.mul_le_mul_right _ (by omega))
    have hsb := segO_bnd (segs (z.fs.map Fm.name)) N hN1 (by omega) (fun n => segs_bound)
    generalize psF N z.fs (segs (z.fs.map Fm.name)) = ps at *
    generalize segO N (segs (z.fs.map Fm.name)) = sg at *
    have HRO := Lib.hid hro
    have H0 := Lib.hid hoc
    have HX0 := Lib.hid hxc
    have d0 := hxc.d.cell (k := 0) rfl
    have d1 := hxc.d.cell (k := 1) rfl
    have d2 := hxc.d.cell (k := 2) rfl
    have d3 := hxc.d.cell (k := 3) rfl
    have l0 := hxc.l.cell (k := 0) rfl
    have l1 := hxc.l.cell (k := 1) rfl
    have o0 := hxc.o.cell (k := 0) rfl
    have o1 := hxc.o.cell (k := 1) rfl
    have o2 := hxc.o.cell (k := 2) rfl
    have o3 := hxc.o.cell (k := 3) rfl
    clear hoc hxc hro
    go_wp2_with fail
    refine hop.mono ?_
    rintro e w2 ⟨pl2, A2, c2, vs2, rfl, hlg, hpl2, ho2, he2, hb2⟩
    have hx2 := HX0.out.below hb2
    clear d0 d1 d2 d3 l0 l1 o0 o1 o2 o3
    have d0 := hx2.d.cell (k := 0) rfl
    have d1 := hx2.d.cell (k := 1) rfl
    have d2 := hx2.d.cell (k := 2) rfl
    have d3 := hx2.d.cell (k := 3) rfl
    have l0 := hx2.l.cell (k := 0) rfl
    have l1 := hx2.l.cell (k := 1) rfl
    have o0 := hx2.o.cell (k := 0) rfl
    have o1 := hx2.o.cell (k := 1) rfl
    have o2 := hx2.o.cell (k := 2) rfl
    have o3 := hx2.o.cell (k := 3) rfl
    have HO2 := Lib.hid (And.intro hlg (And.intro ho2 he2))
    clear hx2 hlg ho2 he2 hop
    go_wp2_with fail
    refine (HRO.out _ hb2).mono ?_
    rintro e w3 ⟨A7, c7, vs7, rfl, ho7, he7, hb3⟩
    have hb23 : Below w2.heap.size w2 (w3.alloc (lobj (lcs sg false))) := hb3.alloc hb3.size _
    have hb4 : Below U3.heap.size U3 (w3.alloc (lobj (lcs sg false))) := hb2.trans (hb23.mono hb2.size)
    have hb34 : Below w3.heap.size w3 (w3.alloc (lobj (lcs sg false))) := (Below.refl _ _).alloc (Nat.le_refl _) _
    have hx4 := HX0.out.below hb4
    have hyb := Blk.new w3 (lcs sg false) 35
    have hsm := fun W (hW : Below (w3.alloc (lobj (lcs sg false))).heap.size (w3.alloc (lobj (lcs sg false))) W) => same_any A2 A7 ps.length c2 ps.length c7 vs2 vs7 ps ps W (((own_sl HO2.out.2.1).below hb23).below hW) (((own_sl ho7).below hb34).below hW) ((HO2.out.2.2.below hb23).below hW).toS ((he7.below hb34).below hW).toS (by omega) (by omega)
    rw [show decide (ps = ps) = true from by simp] at hsm
    have HSM := Lib.hid hsm
    clear d0 d1 d2 d3 l0 l1 o0 o1 o2 o3
    have d0 := hx4.d.cell (k := 0) rfl
    have d1 := hx4.d.cell (k := 1) rfl
    have d2 := hx4.d.cell (k := 2) rfl
    have d3 := hx4.d.cell (k := 3) rfl
    have l0 := hx4.l.cell (k := 0) rfl
    have l1 := hx4.l.cell (k := 1) rfl
    have o0 := hx4.o.cell (k := 0) rfl
    have o1 := hx4.o.cell (k := 1) rfl
    have o2 := hx4.o.cell (k := 2) rfl
    have o3 := hx4.o.cell (k := 3) rfl
    obtain ⟨y, hy⟩ : ∃ y : Ws, y = { z with seg := sg, dd := false } := ⟨_, rfl⟩
    have hmy : Mc w0 w (w3.alloc (lobj (lcs sg false))) (wfoot pl pb mb gs) pl2 pb2 mb2 hs y A3 c3 y := H0.out.opened (by rw [hy]; exact HO2.out.1.keep (hb23.block _ HO2.out.1.lt)) hpl2 hb4 (by rw [hy]) (by rw [hy]) (by rw [hy]) (by rw [hy]) (by rw [hy]; exact hsb.1) (by rw [hy]; exact hsb.2)
    have hxy : Bp w (w3.alloc (lobj (lcs sg false))) A3 c3 y x (op3 5 P np cp N K kn kc) := hx4.drv (by rw [hy]) (by rw [hy]) (by rw [hy]) (by rw [hy])
    have e1 : y.seg = sg := by rw [hy]
    have e2 : y.dd = false := by rw [hy]
    have e3 : w.heap.size + 5 ≤ w3.heap.size := Nat.le_trans (Nat.le_trans H0.out.big hb2.size) hb3.size
    have HMY := Lib.hid (And.intro hmy hxy)
    have HE := Lib.hid (And.intro e1 e2)
    clear hx4 hsm hb2 hb3 hb23 hb4 hb34 ho7 he7 HO2 HRO hmy hxy hy e1 e2 H0 HX0 hsb hpl2
    go_wp2_with fail
    refine (HSM.out _ (Below.refl _ _)).mono ?_
    rintro e w4 ⟨rfl, hb5⟩
    have hm4 := HMY.out.1.below hb5
    have hx4 := HMY.out.2.below hb5
    have hyb4 := hyb.keep (hb5.block _ hyb.lt)
    have y0 := hyb4.cell (k := 0) rfl
    have y1 := hyb4.cell (k := 1) rfl
    clear d0 d1 d2 d3 l0 l1 o0 o1 o2 o3
    have d0 := hx4.d.cell (k := 0) rfl
    have d1 := hx4.d.cell (k := 1) rfl
    have d2 := hx4.d.cell (k := 2) rfl
    have d3 := hx4.d.cell (k := 3) rfl
    have l0 := hx4.l.cell (k := 0) rfl
    have l1 := hx4.l.cell (k := 1) rfl
    have o0 := hx4.o.cell (k := 0) rfl
    have o1 := hx4.o.cell (k := 1) rfl
    have o2 := hx4.o.cell (k := 2) rfl
    have o3 := hx4.o.cell (k := 3) rfl
    have h0 := hx4.l.frozen 0
    have h1 := hx4.l.frozen 1
    have h5 := hm4.setL hx4
    rw [HE.out.1, HE.out.2] at h5
    have H5 := Lib.hid h5
    clear hm4 hx4 hyb hyb4 hb5 h5 HSM HMY
    go_wp2_with fail
    go_region_with (fail)
    have hm5 := H5.out.1.below (V' := ((w4.setCell ⟨w.heap.size + 1, 0, none⟩ (.int .i64 sg)).setCell ⟨w.heap.size + 1, 1, none⟩ (.bool false)).drew) ((Below.refl _ _).drew)
    have hx5 := H5.out.2.below (V' := ((w4.setCell ⟨w.heap.size + 1, 0, none⟩ (.int .i64 sg)).setCell ⟨w.heap.size + 1, 1, none⟩ (.bool false)).drew) ((Below.refl _ _).drew)
    have H4 := Lib.hid hm5
    have HX4 := Lib.hid hx5
    clear hm5 hx5 H5 y0 y1 h0 h1 HE
    clear d0 d1 d2 d3 l0 l1 o0 o1 o2 o3
    go_wp2_with fail
    generalize ((w4.setCell ⟨w.heap.size + 1, 0, none⟩ (.int .i64 sg)).setCell ⟨w.heap.size + 1, 1, none⟩ (.bool false)).drew = V4 at *
    have hkd0 : ∀ V, Below (w.heap.size + 3) V4 V → V.cell? ⟨w.heap.size, 0, none⟩ = some (.slice A3 y.fs.length c3) := fun V hV => (HX4.out.low hV).1.cell rfl
    have hkd1 : ∀ V, Below (w.heap.size + 3) V4 V → V.cell? ⟨w.heap.size, 1, none⟩ = some (.int .i64 y.st) := fun V hV => (HX4.out.low hV).1.cell rfl
    have hkd2 : ∀ V, Below (w.heap.size + 3) V4 V → V.cell? ⟨w.heap.size, 2, none⟩ = some (.bool y.ar) := fun V hV => (HX4.out.low hV).1.cell rfl
    have hkd3 : ∀ V, Below (w.heap.size + 3) V4 V → V.cell? ⟨w.heap.size, 3, none⟩ = some (.int .i64 y.lf) := fun V hV => (HX4.out.low hV).1.cell rfl
    have hkl0 : ∀ V, Below (w.heap.size + 3) V4 V → V.cell? ⟨w.heap.size + 1, 0, none⟩ = some (.int .i64 y.seg) := fun V hV => (HX4.out.low hV).2.cell rfl
    have hkl1 : ∀ V, Below (w.heap.size + 3) V4 V → V.cell? ⟨w.heap.size + 1, 1, none⟩ = some (.bool y.dd) := fun V hV => (HX4.out.low hV).2.cell rfl
    have hkx := fun (V : World) (hV : Below V4.heap.size V4 V) => keepB (w := w) A3 c3 y H4.out.big V hV
    have HKX := Lib.hid hkx
    have hseg := fun (V : World) (hV : Below V4.heap.size V4 V) => lseg_any (H4.out.wl.below hV)
    have hsgs := fun (V : World) (hV : Below V4.heap.size V4 V) => lsegs_any (H4.out.wl.below hV)
    have hrsg := fun (V : World) (hV : Below V4.heap.size V4 V) => (H4.out.pw.below hV).rsegs
    have htls := fun (V : World) (hV : Below V4.heap.size V4 V) => (H4.out.pw.below hV).tells
    have hnl : (segs (y.fs.map Fm.name)).length ≤ 256 := by
      have h1 := segs_len (y.fs.map Fm.name)
      have h2 := H4.out.wl.wx.few
      rw [List.length_map] at h1
      omega
    generalize segs (y.fs.map Fm.name) = ns at hsgs hrsg hnl
    have HSEG := Lib.hid hseg
    have HSGS := Lib.hid hsgs
    have HRSG := Lib.hid hrsg
    have HTLS := Lib.hid htls
    have hb0 : Below V4.heap.size V4 V4.drew := (Below.refl _ _).drew
    have hs0 := (hkx _ hb0).1
    clear hseg hsgs hrsg htls hkx
    go_region_held (fun V => Below (w.heap.size + 3) V4 V) (with_reducible assumption) (first
      | (go_at_call 17; refine (HSEG.out _ (by assumption)).mono ?_; rintro e w' ⟨rfl, rfl⟩)
      | (go_at_call 19; refine (HSGS.out _ (by assumption)).mono ?_; rintro e w6 ⟨A6, c6, rfl, ho6, hb6⟩; have hb06 : Below V4.heap.size V4 w6 := Below.trans (by assumption) (hb6.mono ((by assumption : Below V4.heap.size V4 _).size)); have hs06 := (HKX.out _ hb06).1)
      | (go_at_call 33; refine (HRSG.out _ hb06).mono ?_; rintro e w7 ⟨A7, c7, rfl, ho7, hb7⟩; have hb07 : Below V4.heap.size V4 w7 := hb06.trans (hb7.mono hb06.size); have hs07 := (HKX.out _ hb07).1)
      | (go_at_call 32; refine (ints_any A6 A7 _ _ c6 c7 ns w7 ((own_sl ho6).below hb7) (own_sl ho7) (by omega)).mono ?_; rintro e w8 ⟨rfl, hb8⟩; have hb08 : Below V4.heap.size V4 w8 := hb07.trans (hb8.mono hb07.size); have hs08 := (HKX.out _ hb08).1)
      | (go_at_call 14; refine (HTLS.out _ hb08).mono ?_; rintro e w9 ⟨rfl, hb9⟩; have hb09 : Below V4.heap.size V4 w9 := hb08.trans (hb9.mono hb08.size)
         obtain ⟨hs09, hs10, hs11⟩ := HKX.out w9 hb09
         have hx9 := HX4.out.below hb09
         have z0 := hx9.rd.cell (k := 0) rfl
         have z1 := hx9.rd.cell (k := 1) rfl
         have z2 := hx9.rd.cell (k := 2) rfl
         have z3 := hx9.rd.cell (k := 3) rfl
         have z4 := hx9.rl.cell (k := 0) rfl
         have z5 := hx9.rl.cell (k := 1) rfl
         have q0 := hx9.rd.frozen 0
         have q1 := hx9.rd.frozen 1
         have q2 := hx9.rd.frozen 2
         have q3 := hx9.rd.frozen 3
         have q4 := hx9.rl.frozen 0
         have q5 := hx9.rl.frozen 1
         clear hx9))
    go_wp2_with fail
    exact end_playW H4.out HX4.out hb09 rfl rfl rfl rfl rfl rfl rfl
end Go.Proofs.YtndlmdghnkaobaaGreatDoor
