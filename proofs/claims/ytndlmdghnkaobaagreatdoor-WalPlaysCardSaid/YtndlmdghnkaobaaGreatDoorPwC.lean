/-
  One call of the wal's script: Roll.
-/
import Derived.Test.YtndlmdghnkaobaaGreatDoorPwA
import Derived.Test.YtndlmdghnkaobaaGreatDoorWrD
import Derived.Deep.RegionHeld
import Derived.Deep.CutBlock
namespace Go.Proofs.YtndlmdghnkaobaaGreatDoor
open Go.RowKit Go.Maps Num Crc
set_option linter.unusedVariables false

set_option maxRecDepth 40000 in
set_option maxHeartbeats 40000000 in
theorem pw_roll {w0 w : World} {pl pb mb : Nat} {gs : List Gm} {x : Ws} {A : Option Addr} {c : Nat} (h : Pw w0 w pl pb mb gs x A c) (P : Option Addr) (np cp : Nat) (N : Int) (K : Option Addr) (kn kc : Nat) :
    Calls Tryz.prog 8 #[.pointer (some ⟨pb, 0, none⟩), .pointer (some ⟨pl, 0, none⟩), xdr A c x, xlg x, .agg #[.int .i64 2, .slice P np cp, .int .i64 N, .slice K kn kc]] w (PlayW w0 w (wfoot pl pb mb gs)) := by
  have hm0 := Mc.start h (op3 2 P np cp N K kn kc)
  have hx0 := Bp.start w A c x (op3 2 P np cp N K kn kc)
  have hwx := h.wl.wx
  have hnd := h.wl.nodup
  have hcc := roll_any hm0.wl
  have H0 := Lib.hid hm0
  have HX0 := Lib.hid hx0
  have HW := Lib.hid (And.intro hwx hnd)
  have hle := h.wl.bel.size
  have hsg2 := h.wl.seg2
  have d0 := hx0.d.cell (k := 0) rfl
  have d1 := hx0.d.cell (k := 1) rfl
  have d2 := hx0.d.cell (k := 2) rfl
  have d3 := hx0.d.cell (k := 3) rfl
  have l0 := hx0.l.cell (k := 0) rfl
  have l1 := hx0.l.cell (k := 1) rfl
  have o0 := hx0.o.cell (k := 0) rfl
  have o1 := hx0.o.cell (k := 1) rfl
  have o2 := hx0.o.cell (k := 2) rfl
  have o3 := hx0.o.cell (k := 3) rfl
  clear h hm0 hx0 hwx hnd
  go_enter Tryz.func8, Tryz.ntmps8
  generalize hU : w5 w A c x (op3 2 P np cp N K kn kc) = U at *
  go_wp2_with fail
  refine hcc.mono ?_
  rintro e w2 ⟨rfl, hp2⟩
  obtain ⟨gs2, hm2, hx2⟩ := H0.out.call HX0.out hp2
  have hrc := rlroll_any x HW.out.1 hsg2 A c w2 w0.heap.size hm2.own (by have := hm2.stp.oth.size; omega)
  have H2 := Lib.hid hm2
  have HX2 := Lib.hid hx2
  clear d0 d1 d2 d3 l0 l1 o0 o1 o2 o3
  have d0 := hx2.d.cell (k := 0) rfl
  have d1 := hx2.d.cell (k := 1) rfl
  have d2 := hx2.d.cell (k := 2) rfl
  have d3 := hx2.d.cell (k := 3) rfl
  have l0 := hx2.l.cell (k := 0) rfl
  have l1 := hx2.l.cell (k := 1) rfl
  have o0 := hx2.o.cell (k := 0) rfl
  have o1 := hx2.o.cell (k := 1) rfl
  have o2 := hx2.o.cell (k := 2) rfl
  have o3 := hx2.o.cell (k := 3) rfl
  clear hm2 hx2 hp2 hcc H0 HX0
  generalize (rollX x).1 = y at *
  generalize (rollX x).2.1 = nn at *
  generalize (rollX x).2.2 = cd at *
  go_wp2_with fail
  refine hrc.mono ?_
  rintro e w3 ⟨A3, c3, rfl, ho3, hb3⟩
  have hm3 := H2.out.below hb3
  have hx3 := HX2.out.below hb3
  obtain ⟨hm4, hx4⟩ := hm3.setDL hx3 ho3
  clear d0 d1 d2 d3 l0 l1 o0 o1 o2 o3
  have d0 := hx3.d.cell (k := 0) rfl
  have d1 := hx3.d.cell (k := 1) rfl
  have d2 := hx3.d.cell (k := 2) rfl
  have d3 := hx3.d.cell (k := 3) rfl
  have l0 := hx3.l.cell (k := 0) rfl
  have l1 := hx3.l.cell (k := 1) rfl
  have e0 := hx3.d.frozen 0
  have e1 := hx3.d.frozen 1
  have e2 := hx3.d.frozen 2
  have e3 := hx3.d.frozen 3
  have h0 := hx3.l.frozen 0
  have h1 := hx3.l.frozen 1
  have o0 := hx3.o.cell (k := 0) rfl
  have o1 := hx3.o.cell (k := 1) rfl
  have o2 := hx3.o.cell (k := 2) rfl
  have o3 := hx3.o.cell (k := 3) rfl
  have H4 := Lib.hid hm4
  have HX4 := Lib.hid hx4
  clear hm3 hx3 hm4 hx4 ho3 hb3 hrc H2 HX2
  go_wp2_with fail
  clear d0 d1 d2 d3 l0 l1 e0 e1 e2 e3 h0 h1 o0 o1 o2 o3
  generalize (((((w3.setCell ⟨w.heap.size, 0, none⟩ (.slice A3 y.fs.length c3)).setCell ⟨w.heap.size, 1, none⟩ (.int .i64 y.st)).setCell ⟨w.heap.size, 2, none⟩ (.bool y.ar)).setCell ⟨w.heap.size, 3, none⟩ (.int .i64 y.lf)).setCell ⟨w.heap.size + 1, 0, none⟩ (.int .i64 y.seg)).setCell ⟨w.heap.size + 1, 1, none⟩ (.bool y.dd) = V4 at *
  have hkd0 : ∀ V, Below (w.heap.size + 3) V4 V → V.cell? ⟨w.heap.size, 0, none⟩ = some (.slice A3 y.fs.length c3) := fun V hV => (HX4.out.low hV).1.cell rfl
  have hkd1 : ∀ V, Below (w.heap.size + 3) V4 V → V.cell? ⟨w.heap.size, 1, none⟩ = some (.int .i64 y.st) := fun V hV => (HX4.out.low hV).1.cell rfl
  have hkd2 : ∀ V, Below (w.heap.size + 3) V4 V → V.cell? ⟨w.heap.size, 2, none⟩ = some (.bool y.ar) := fun V hV => (HX4.out.low hV).1.cell rfl
  have hkd3 : ∀ V, Below (w.heap.size + 3) V4 V → V.cell? ⟨w.heap.size, 3, none⟩ = some (.int .i64 y.lf) := fun V hV => (HX4.out.low hV).1.cell rfl
  have hkl0 : ∀ V, Below (w.heap.size + 3) V4 V → V.cell? ⟨w.heap.size + 1, 0, none⟩ = some (.int .i64 y.seg) := fun V hV => (HX4.out.low hV).2.cell rfl
  have hkl1 : ∀ V, Below (w.heap.size + 3) V4 V → V.cell? ⟨w.heap.size + 1, 1, none⟩ = some (.bool y.dd) := fun V hV => (HX4.out.low hV).2.cell rfl
  have hkx := fun (V : World) (hV : Below V4.heap.size V4 V) => keepB (w := w) A3 c3 y H4.out.big V hV
  have HKX := Lib.hid hkx
  have hseg := fun (V : World) (hV : Below V4.heap.size V4 V) => lseg_any (H4.out.wl.below hV)
  have hsgs := fun (V : World) (hV : Below V4.heap.size V4 V) => lsegs_any (H4.out.wl.below hV)
  have hrsg := fun (V : World) (hV : Below V4.heap.size V4 V) => (H4.out.pw.below hV).rsegs
  have htls := fun (V : World) (hV : Below V4.heap.size V4 V) => (H4.out.pw.below hV).tells
  have hnl : (segs (y.fs.map Fm.name)).length ≤ 256 := by
    have h1 := segs_len (y.fs.map Fm.name)
    have h2 := H4.out.wl.wx.few
    rw [List.length_map] at h1
    omega
  generalize segs (y.fs.map Fm.name) = ns at hsgs hrsg hnl
  have HSEG := Lib.hid hseg
  have HSGS := Lib.hid hsgs
  have HRSG := Lib.hid hrsg
  have HTLS := Lib.hid htls
  have hb0 : Below V4.heap.size V4 V4.drew := (Below.refl _ _).drew
  have hs0 := (hkx _ hb0).1
  clear hseg hsgs hrsg htls hkx
  go_region_held (fun V => Below (w.heap.size + 3) V4 V) (with_reducible assumption) (first
    | (go_at_call 17; refine (HSEG.out _ (by assumption)).mono ?_; rintro e w' ⟨rfl, rfl⟩)
    | (go_at_call 19; refine (HSGS.out _ (by assumption)).mono ?_; rintro e w6 ⟨A6, c6, rfl, ho6, hb6⟩; have hb06 : Below V4.heap.size V4 w6 := Below.trans (by assumption) (hb6.mono ((by assumption : Below V4.heap.size V4 _).size)); have hs06 := (HKX.out _ hb06).1)
    | (go_at_call 33; refine (HRSG.out _ hb06).mono ?_; rintro e w7 ⟨A7, c7, rfl, ho7, hb7⟩; have hb07 : Below V4.heap.size V4 w7 := hb06.trans (hb7.mono hb06.size); have hs07 := (HKX.out _ hb07).1)
    | (go_at_call 32; refine (ints_any A6 A7 _ _ c6 c7 ns w7 ((own_sl ho6).below hb7) (own_sl ho7) (by omega)).mono ?_; rintro e w8 ⟨rfl, hb8⟩; have hb08 : Below V4.heap.size V4 w8 := hb07.trans (hb8.mono hb07.size); have hs08 := (HKX.out _ hb08).1)
    | (go_at_call 14; refine (HTLS.out _ hb08).mono ?_; rintro e w9 ⟨rfl, hb9⟩; have hb09 : Below V4.heap.size V4 w9 := hb08.trans (hb9.mono hb08.size)
       obtain ⟨hs09, hs10, hs11⟩ := HKX.out w9 hb09
       have hx9 := HX4.out.below hb09
       have z0 := hx9.rd.cell (k := 0) rfl
       have z1 := hx9.rd.cell (k := 1) rfl
       have z2 := hx9.rd.cell (k := 2) rfl
       have z3 := hx9.rd.cell (k := 3) rfl
       have z4 := hx9.rl.cell (k := 0) rfl
       have z5 := hx9.rl.cell (k := 1) rfl
       have q0 := hx9.rd.frozen 0
       have q1 := hx9.rd.frozen 1
       have q2 := hx9.rd.frozen 2
       have q3 := hx9.rd.frozen 3
       have q4 := hx9.rl.frozen 0
       have q5 := hx9.rl.frozen 1
       clear hx9))
  go_wp2_with fail
  exact end_playW H4.out HX4.out hb09 rfl rfl rfl rfl rfl rfl rfl
end Go.Proofs.YtndlmdghnkaobaaGreatDoor
