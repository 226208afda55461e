/-
  One call of the wal's script: Append.
-/
import Derived.Test.YtndlmdghnkaobaaGreatDoorPwA
import Derived.Test.YtndlmdghnkaobaaGreatDoorWrN
import Derived.Test.YtndlmdghnkaobaaGreatDoorGWb
import Derived.Deep.RegionHeld
import Derived.Deep.CutBlock
namespace Go.Proofs.YtndlmdghnkaobaaGreatDoor
open Go.RowKit Go.Maps Num Crc
set_option linter.unusedVariables false

set_option maxRecDepth 40000 in
set_option maxHeartbeats 40000000 in
theorem pw_append {w0 w : World} {pl pb mb : Nat} {gs : List Gm} {x : Ws} {A : Option Addr} {c : Nat} (h : Pw w0 w pl pb mb gs x A c) (kd : Int) (hk1 : kd ≠ 1) (hk2 : kd ≠ 2) (hk3 : kd ≠ 3) (hk4 : kd ≠ 4) (hk5 : kd ≠ 5) (hk6 : kd ≠ 6) (P : Option Addr) (np cp : Nat) (p : List UInt8) (hp : ∀ V, Below w0.heap.size w0 V → Sl V P np (bv p)) (hnp : np ≤ 140737488355328) (hcp : np ≤ cp) (N : Int) (K : Option Addr) (kn kc : Nat) :
    Calls Tryz.prog 8 #[.pointer (some ⟨pb, 0, none⟩), .pointer (some ⟨pl, 0, none⟩), xdr A c x, xlg x, .agg #[.int .i64 kd, .slice P np cp, .int .i64 N, .slice K kn kc]] w (PlayW w0 w (wfoot pl pb mb gs)) := by
  have hm0 := Mc.start h (op3 kd P np cp N K kn kc)
  have hx0 := Bp.start w A c x (op3 kd P np cp N K kn kc)
  have hwx := h.wl.wx
  obtain ⟨pp, hpp⟩ : ∃ pp, pp = p.take 700 := ⟨_, rfl⟩
  have hl7 : pp.length ≤ 700 := by rw [hpp, List.length_take]; omega
  have hcut : ∀ V, Below w0.heap.size w0 V → Calls Tryz.prog 31 #[.slice P np cp] V fun e w' => ∃ A' c', e = .returned (.slice A' pp.length c') ∧ w'.ownsRow V.heap.size 5 1 (.slice A' pp.length c') pp.length (bv pp) ∧ Below V.heap.size V w' := fun V hV => by
    have := cut_any P np cp p V (hp _ hV) hnp hcp
    rw [← hpp] at this
    exact this
  have hcu := hcut (w5 w A c x (op3 kd P np cp N K kn kc)) hm0.wl.bel
  have HCU := Lib.hid hcut
  clear hcut hpp
  have H0 := Lib.hid hm0
  have HX0 := Lib.hid hx0
  have HW := Lib.hid hwx
  have hle := h.wl.bel.size
  have hsg2 := h.wl.seg2
  have d0 := hx0.d.cell (k := 0) rfl
  have d1 := hx0.d.cell (k := 1) rfl
  have d2 := hx0.d.cell (k := 2) rfl
  have d3 := hx0.d.cell (k := 3) rfl
  have l0 := hx0.l.cell (k := 0) rfl
  have l1 := hx0.l.cell (k := 1) rfl
  have o0 := hx0.o.cell (k := 0) rfl
  have o1 := hx0.o.cell (k := 1) rfl
  have o2 := hx0.o.cell (k := 2) rfl
  have o3 := hx0.o.cell (k := 3) rfl
  clear h hm0 hx0 hwx hp
  go_enter Tryz.func8, Tryz.ntmps8
  generalize hU : w5 w A c x (op3 kd P np cp N K kn kc) = U at *
  go_upto_block 0 with fail
  go_cut [0, 1, 15, 16, 17] from 18 to 195 (fun s0 s1 s15 s16 s17 wx => ∃ gs2 y A3 c3 cd, s0 = .pointer (some ⟨pb, 0, none⟩) ∧ s1 = .pointer (some ⟨pl, 0, none⟩) ∧ s15 = .int .i64 cd ∧ s16 = .int .i64 cd ∧ s17 = .bool true ∧ Mc w0 w wx (wfoot pl pb mb gs) pl pb mb gs2 y A3 c3 y ∧ Bp w wx A3 c3 y y (op3 kd P np cp N K kn kc))
  case first =>
    go_wp2_with fail
    refine hcu.mono ?_
    rintro e w1 ⟨A1, c1, rfl, ho1, hb1⟩
    have hm1 := H0.out.below hb1
    have hx1 := HX0.out.below hb1
    have hcc := lappend_any hm1.wl A1 pp.length c1 pp (own_sl ho1)
    have H1 := Lib.hid hm1
    have HX1 := Lib.hid hx1
    clear d0 d1 d2 d3 l0 l1 o0 o1 o2 o3
    have d0 := hx1.d.cell (k := 0) rfl
    have d1 := hx1.d.cell (k := 1) rfl
    have d2 := hx1.d.cell (k := 2) rfl
    have d3 := hx1.d.cell (k := 3) rfl
    have l0 := hx1.l.cell (k := 0) rfl
    have l1 := hx1.l.cell (k := 1) rfl
    have o0 := hx1.o.cell (k := 0) rfl
    have o1 := hx1.o.cell (k := 1) rfl
    have o2 := hx1.o.cell (k := 2) rfl
    have o3 := hx1.o.cell (k := 3) rfl
    clear hm1 hx1 H0 HX0 ho1 hb1 hcu
    go_wp2_with fail
    refine hcc.mono ?_
    rintro e w2 ⟨rfl, hp2⟩
    obtain ⟨gs2, hm2, hx2⟩ := H1.out.call HX1.out hp2
    have H2 := Lib.hid hm2
    have HX2 := Lib.hid hx2
    clear d0 d1 d2 d3 l0 l1 o0 o1 o2 o3
    have d0 := hx2.d.cell (k := 0) rfl
    have d1 := hx2.d.cell (k := 1) rfl
    have d2 := hx2.d.cell (k := 2) rfl
    have d3 := hx2.d.cell (k := 3) rfl
    have l0 := hx2.l.cell (k := 0) rfl
    have l1 := hx2.l.cell (k := 1) rfl
    have o0 := hx2.o.cell (k := 0) rfl
    have o1 := hx2.o.cell (k := 1) rfl
    have o2 := hx2.o.cell (k := 2) rfl
    have o3 := hx2.o.cell (k := 3) rfl
    clear hm2 hx2 hp2 hcc H1 HX1
    have hcu := fun (V : World) (hV : Below w2.heap.size w2 V) => HCU.out V (H2.out.below hV).wl.bel
    have hrc := fun (V : World) (hV : Below w2.heap.size w2 V) P1 np1 cp1 hs1 hn1 => rlappend_any x HW.out hsg2 P1 np1 cp1 pp A c V w0.heap.size hs1 hn1 (H2.out.below hV).own (by have := (H2.out.below hV).stp.oth.size; omega)
    have HCU := Lib.hid hcu
    generalize (appX x pp).1 = y at *
    generalize (appX x pp).2 = cd at *
    have HRC := Lib.hid hrc
    clear hcu hrc
    go_wp2_with fail
    have hkd0 : ∀ V, Below w2.heap.size w2 V → V.cell? ⟨w.heap.size, 0, none⟩ = some (.slice A x.fs.length c) := fun V hV => (HX2.out.below hV).d.cell rfl
    have hkd1 : ∀ V, Below w2.heap.size w2 V → V.cell? ⟨w.heap.size, 1, none⟩ = some (.int .i64 x.st) := fun V hV => (HX2.out.below hV).d.cell rfl
    have hkd2 : ∀ V, Below w2.heap.size w2 V → V.cell? ⟨w.heap.size, 2, none⟩ = some (.bool x.ar) := fun V hV => (HX2.out.below hV).d.cell rfl
    have hkd3 : ∀ V, Below w2.heap.size w2 V → V.cell? ⟨w.heap.size, 3, none⟩ = some (.int .i64 x.lf) := fun V hV => (HX2.out.below hV).d.cell rfl
    have hkl0 : ∀ V, Below w2.heap.size w2 V → V.cell? ⟨w.heap.size + 1, 0, none⟩ = some (.int .i64 x.seg) := fun V hV => (HX2.out.below hV).l.cell rfl
    have hkl1 : ∀ V, Below w2.heap.size w2 V → V.cell? ⟨w.heap.size + 1, 1, none⟩ = some (.bool x.dd) := fun V hV => (HX2.out.below hV).l.cell rfl
    have hko1 : ∀ V, Below w2.heap.size w2 V → V.cell? ⟨w.heap.size + 1 + 1, 1, none⟩ = some (.slice P np cp) := fun V hV => (HX2.out.below hV).o.cell rfl
    clear d0 d1 d2 d3 l0 l1 o0 o1 o2 o3
    have hb20 : Below w2.heap.size w2 w2.drew := (Below.refl _ _).drew
    go_region_with (first
      | (go_at_call 31; refine (HCU.out _ (by first | assumption | exact Below.refl _ _)).mono ?_; rintro e w6 ⟨A6, c6, rfl, ho6, hb6⟩; have hb26 : Below w2.heap.size w2 w6 := Below.trans (by first | assumption | exact Below.refl _ _) (hb6.mono (by first | exact (by assumption : Below w2.heap.size w2 _).size | exact Nat.le_refl _)))
      | (go_at_call 16; refine (HRC.out _ hb26 A6 pp.length c6 (own_sl ho6) (by omega)).mono ?_
         rintro e w3 ⟨A3, c3, rfl, ho3, hb3⟩
         have hm3 := (H2.out.below hb26).below hb3
         have hx3 := (HX2.out.below hb26).below hb3
         have HF := Lib.hid (hm3.setDL hx3 ho3)
         have d0 := hx3.d.cell (k := 0) rfl
         have d1 := hx3.d.cell (k := 1) rfl
         have d2 := hx3.d.cell (k := 2) rfl
         have d3 := hx3.d.cell (k := 3) rfl
         have l0 := hx3.l.cell (k := 0) rfl
         have l1 := hx3.l.cell (k := 1) rfl
         have e0 := hx3.d.frozen 0
         have e1 := hx3.d.frozen 1
         have e2 := hx3.d.frozen 2
         have e3 := hx3.d.frozen 3
         have h0 := hx3.l.frozen 0
         have h1 := hx3.l.frozen 1
         clear hm3 hx3 ho3 hb3 ho6 hb6))
    all_goals
      go_wp2_with fail
      go_meet
      exact ⟨gs2, y, A3, c3, cd, rfl, rfl, rfl, rfl, rfl, HF.out.1, HF.out.2⟩
  case rest =>
    obtain ⟨gs3, y, A3, c3, cd, rfl, rfl, rfl, rfl, rfl, hm4, hx4⟩ := hcut
    clear d0 d1 d2 d3 l0 l1 o0 o1 o2 o3 hcu HCU H0 HX0
    have H4 := Lib.hid hm4
    have HX4 := Lib.hid hx4
    obtain ⟨V4, rfl⟩ : ∃ V4 : World, V4 = wc := ⟨_, rfl⟩
    clear hm4 hx4
    go_wp2_with fail
    have hkd0 : ∀ V, Below (w.heap.size + 3) V4 V → V.cell? ⟨w.heap.size, 0, none⟩ = some (.slice A3 y.fs.length c3) := fun V hV => (HX4.out.low hV).1.cell rfl
    have hkd1 : ∀ V, Below (w.heap.size + 3) V4 V → V.cell? ⟨w.heap.size, 1, none⟩ = some (.int .i64 y.st) := fun V hV => (HX4.out.low hV).1.cell rfl
    have hkd2 : ∀ V, Below (w.heap.size + 3) V4 V → V.cell? ⟨w.heap.size, 2, none⟩ = some (.bool y.ar) := fun V hV => (HX4.out.low hV).1.cell rfl
    have hkd3 : ∀ V, Below (w.heap.size + 3) V4 V → V.cell? ⟨w.heap.size, 3, none⟩ = some (.int .i64 y.lf) := fun V hV => (HX4.out.low hV).1.cell rfl
    have hkl0 : ∀ V, Below (w.heap.size + 3) V4 V → V.cell? ⟨w.heap.size + 1, 0, none⟩ = some (.int .i64 y.seg) := fun V hV => (HX4.out.low hV).2.cell rfl
    have hkl1 : ∀ V, Below (w.heap.size + 3) V4 V → V.cell? ⟨w.heap.size + 1, 1, none⟩ = some (.bool y.dd) := fun V hV => (HX4.out.low hV).2.cell rfl
    have hkx := fun (V : World) (hV : Below V4.heap.size V4 V) => keepB (w := w) A3 c3 y H4.out.big V hV
    have HKX := Lib.hid hkx
    have hseg := fun (V : World) (hV : Below V4.heap.size V4 V) => lseg_any (H4.out.wl.below hV)
    have hsgs := fun (V : World) (hV : Below V4.heap.size V4 V) => lsegs_any (H4.out.wl.below hV)
    have hrsg := fun (V : World) (hV : Below V4.heap.size V4 V) => (H4.out.pw.below hV).rsegs
    have htls := fun (V : World) (hV : Below V4.heap.size V4 V) => (H4.out.pw.below hV).tells
    have hnl : (segs (y.fs.map Fm.name)).length ≤ 256 := by
      have h1 := segs_len (y.fs.map Fm.name)
      have h2 := H4.out.wl.wx.few
      rw [List.length_map] at h1
      omega
    generalize segs (y.fs.map Fm.name) = ns at hsgs hrsg hnl
    have HSEG := Lib.hid hseg
    have HSGS := Lib.hid hsgs
    have HRSG := Lib.hid hrsg
    have HTLS := Lib.hid htls
    have hb0 : Below V4.heap.size V4 V4.drew := (Below.refl _ _).drew
    have hs0 := (hkx _ hb0).1
    clear hseg hsgs hrsg htls hkx
    go_region_held (fun V => Below (w.heap.size + 3) V4 V) (with_reducible assumption) (first
      | (go_at_call 17; refine (HSEG.out _ (by assumption)).mono ?_; rintro e w' ⟨rfl, rfl⟩)
      | (go_at_call 19; refine (HSGS.out _ (by assumption)).mono ?_; rintro e w6 ⟨A6, c6, rfl, ho6, hb6⟩; have hb06 : Below V4.heap.size V4 w6 := Below.trans (by assumption) (hb6.mono ((by assumption : Below V4.heap.size V4 _).size)); have hs06 := (HKX.out _ hb06).1)
      | (go_at_call 33; refine (HRSG.out _ hb06).mono ?_; rintro e w7 ⟨A7, c7, rfl, ho7, hb7⟩; have hb07 : Below V4.heap.size V4 w7 := hb06.trans (hb7.mono hb06.size); have hs07 := (HKX.out _ hb07).1)
      | (go_at_call 32; refine (ints_any A6 A7 _ _ c6 c7 ns w7 ((own_sl ho6).below hb7) (own_sl ho7) (by omega)).mono ?_; rintro e w8 ⟨rfl, hb8⟩; have hb08 : Below V4.heap.size V4 w8 := hb07.trans (hb8.mono hb07.size); have hs08 := (HKX.out _ hb08).1)
      | (go_at_call 14; refine (HTLS.out _ hb08).mono ?_; rintro e w9 ⟨rfl, hb9⟩; have hb09 : Below V4.heap.size V4 w9 := hb08.trans (hb9.mono hb08.size)
         obtain ⟨hs09, hs10, hs11⟩ := HKX.out w9 hb09
         have hx9 := HX4.out.below hb09
         have z0 := hx9.rd.cell (k := 0) rfl
         have z1 := hx9.rd.cell (k := 1) rfl
         have z2 := hx9.rd.cell (k := 2) rfl
         have z3 := hx9.rd.cell (k := 3) rfl
         have z4 := hx9.rl.cell (k := 0) rfl
         have z5 := hx9.rl.cell (k := 1) rfl
         have q0 := hx9.rd.frozen 0
         have q1 := hx9.rd.frozen 1
         have q2 := hx9.rd.frozen 2
         have q3 := hx9.rd.frozen 3
         have q4 := hx9.rl.frozen 0
         have q5 := hx9.rl.frozen 1
         clear hx9))
    go_wp2_with fail
    exact end_playW H4.out HX4.out hb09 rfl rfl rfl rfl rfl rfl rfl
end Go.Proofs.YtndlmdghnkaobaaGreatDoor
