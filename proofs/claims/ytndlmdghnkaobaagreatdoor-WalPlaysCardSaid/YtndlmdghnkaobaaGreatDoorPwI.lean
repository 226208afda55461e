/-
  One call of the wal's script: Open, out of range.
-/
import Derived.Test.YtndlmdghnkaobaaGreatDoorPwA
import Derived.Test.YtndlmdghnkaobaaGreatDoorGPo
import Derived.Deep.RegionHeld
import Derived.Deep.CutBlock
namespace Go.Proofs.YtndlmdghnkaobaaGreatDoor
open Go.RowKit Go.Maps Num Crc
set_option linter.unusedVariables false

set_option maxRecDepth 40000 in
set_option maxHeartbeats 40000000 in
theorem pw_open_bad {w0 w : World} {pl pb mb : Nat} {gs : List Gm} {x : Ws} {A3 : Option Addr} {c3 : Nat} (h : Pw w0 w pl pb mb gs x A3 c3) (P : Option Addr) (np cp : Nat) (N : Int) (hN : N < 1 ∨ 999999 < N) (K : Option Addr) (kn kc : Nat) :
    Calls Tryz.prog 8 #[.pointer (some ⟨pb, 0, none⟩), .pointer (some ⟨pl, 0, none⟩), xdr A3 c3 x, xlg x, .agg #[.int .i64 4, .slice P np cp, .int .i64 N, .slice K kn kc]] w (PlayW w0 w (wfoot pl pb mb gs)) := by
  have hm0 := Mc.start h (op3 4 P np cp N K kn kc)
  have hx0 := Bp.start w A3 c3 x (op3 4 P np cp N K kn kc)
  have hop := fun V => wopen_bad pb N hN V
  have hro := fun V => ropen_bad A3 x.fs.length c3 x.st x.ar x.lf N hN V
  have H0 := Lib.hid hm0
  have HX0 := Lib.hid hx0
  have d0 := hx0.d.cell (k := 0) rfl
  have d1 := hx0.d.cell (k := 1) rfl
  have d2 := hx0.d.cell (k := 2) rfl
  have d3 := hx0.d.cell (k := 3) rfl
  have l0 := hx0.l.cell (k := 0) rfl
  have l1 := hx0.l.cell (k := 1) rfl
  have o0 := hx0.o.cell (k := 0) rfl
  have o1 := hx0.o.cell (k := 1) rfl
  have o2 := hx0.o.cell (k := 2) rfl
  have o3 := hx0.o.cell (k := 3) rfl
  clear h hm0 hx0 
  go_enter Tryz.func8, Tryz.ntmps8
  generalize hU : w5 w A3 c3 x (op3 4 P np cp N K kn kc) = U at *
  go_wp2_with fail
  refine (hop _).mono ?_
  rintro e w2 ⟨rfl, hb2⟩
  have hx2 := HX0.out.below hb2
  clear d0 d1 d2 d3 l0 l1 o0 o1 o2 o3
  have d0 := hx2.d.cell (k := 0) rfl
  have d1 := hx2.d.cell (k := 1) rfl
  have d2 := hx2.d.cell (k := 2) rfl
  have d3 := hx2.d.cell (k := 3) rfl
  have l0 := hx2.l.cell (k := 0) rfl
  have l1 := hx2.l.cell (k := 1) rfl
  have o0 := hx2.o.cell (k := 0) rfl
  have o1 := hx2.o.cell (k := 1) rfl
  have o2 := hx2.o.cell (k := 2) rfl
  have o3 := hx2.o.cell (k := 3) rfl
  go_wp2_with fail
  refine (hro _).mono ?_
  rintro e w3 ⟨rfl, hb3⟩
  have hb4 : Below U.heap.size U (w3.alloc (lobj (lcs 0 false))) := (hb2.trans (hb3.mono hb2.size)).alloc (Nat.le_trans hb2.size hb3.size) _
  have hx4 := HX0.out.below hb4
  have z0 := hx4.rd.cell (k := 0) rfl
  have z1 := hx4.rd.cell (k := 1) rfl
  have z2 := hx4.rd.cell (k := 2) rfl
  have z3 := hx4.rd.cell (k := 3) rfl
  have z4 := hx4.rl.cell (k := 0) rfl
  have z5 := hx4.rl.cell (k := 1) rfl
  have q0 := hx4.rd.frozen 0
  have q1 := hx4.rd.frozen 1
  have q2 := hx4.rd.frozen 2
  have q3 := hx4.rd.frozen 3
  have q4 := hx4.rl.frozen 0
  have q5 := hx4.rl.frozen 1
  clear d0 d1 d2 d3 l0 l1 o0 o1 o2 o3
  have d0 := hx4.d.cell (k := 0) rfl
  have d1 := hx4.d.cell (k := 1) rfl
  have d2 := hx4.d.cell (k := 2) rfl
  have d3 := hx4.d.cell (k := 3) rfl
  have l0 := hx4.l.cell (k := 0) rfl
  have l1 := hx4.l.cell (k := 1) rfl
  have o0 := hx4.o.cell (k := 0) rfl
  have o1 := hx4.o.cell (k := 1) rfl
  have o2 := hx4.o.cell (k := 2) rfl
  have o3 := hx4.o.cell (k := 3) rfl
  clear hx4 hx2 hb2 hb3
  go_wp2_with fail
  generalize w3.alloc (lobj (lcs 0 false)) = V6 at *
  refine (same_any none none 0 0 0 0 [] [] [] [] V6 ⟨rfl, fun h => by omega⟩ ⟨rfl, fun h => by omega⟩ trivial trivial (by omega) (by omega)).mono ?_
  rintro e V5 ⟨rfl, hb5⟩
  have hb6 := hb4.trans (hb5.mono hb4.size)
  have hx4 := HX0.out.below hb6
  clear z0 z1 z2 z3 z4 z5 q0 q1 q2 q3 q4 q5
  have z0 := hx4.rd.cell (k := 0) rfl
  have z1 := hx4.rd.cell (k := 1) rfl
  have z2 := hx4.rd.cell (k := 2) rfl
  have z3 := hx4.rd.cell (k := 3) rfl
  have z4 := hx4.rl.cell (k := 0) rfl
  have z5 := hx4.rl.cell (k := 1) rfl
  have q0 := hx4.rd.frozen 0
  have q1 := hx4.rd.frozen 1
  have q2 := hx4.rd.frozen 2
  have q3 := hx4.rd.frozen 3
  have q4 := hx4.rl.frozen 0
  have q5 := hx4.rl.frozen 1
  clear d0 d1 d2 d3 l0 l1 o0 o1 o2 o3
  have d0 := hx4.d.cell (k := 0) rfl
  have d1 := hx4.d.cell (k := 1) rfl
  have d2 := hx4.d.cell (k := 2) rfl
  have d3 := hx4.d.cell (k := 3) rfl
  have l0 := hx4.l.cell (k := 0) rfl
  have l1 := hx4.l.cell (k := 1) rfl
  have o0 := hx4.o.cell (k := 0) rfl
  have o1 := hx4.o.cell (k := 1) rfl
  have o2 := hx4.o.cell (k := 2) rfl
  have o3 := hx4.o.cell (k := 3) rfl
  clear hx4 hb5 hb4
  go_wp2_with fail
  go_region_with (fail)
  all_goals
    go_wp2_with fail
    exact end_playW' H0.out HX0.out hb6 rfl rfl rfl rfl rfl rfl rfl
end Go.Proofs.YtndlmdghnkaobaaGreatDoor
