/-
  One call of the law's script: Arm.
-/
import Derived.Test.YtfhlhdpgahbeiaaPlay
namespace Go.Proofs.Ytfhlhdpgahbeiaa
open Go.RowKit Go.Maps
set_option linter.unusedVariables false

set_option maxRecDepth 40000 in
set_option maxHeartbeats 8000000 in
theorem play_k5 {w : World} {lo pb mb : Nat} {gs : List Gm} {st lf : Int} {ar : Bool} {A : Option Addr} {c : Nat} (h : Rel w lo pb mb gs st ar lf A c) (s tn : List UInt8) (B : Option Addr) (bn bc : Nat) (N : Int) (K : Option Addr) (kn kc : Nat) (code : Int)
    (hct : ∀ W0, Dr W0 pb mb gs st ar lf → Calls Try.prog 41 #[.pointer (some ⟨pb, 0, none⟩), .int .i64 N] W0 (Out W0 lo pb mb gs A c code 42 #[.agg #[.slice A gs.length c, .int .i64 st, .bool ar, .int .i64 lf], .int .i64 N])) :
    Calls Try.prog 14 #[.pointer (some ⟨pb, 0, none⟩), .agg #[.slice A gs.length c, .int .i64 st, .bool ar, .int .i64 lf], .agg #[.int .i64 5, .string (str s), .string (str tn), .slice B bn bc, .int .i64 N, .slice K kn kc]] w (PlayPost w lo (foot pb mb gs)) := by
  have hfew := h.dr.few
  have hx0 := Bx.start w A gs.length c st ar lf (opcs 5 s tn B bn bc N K kn kc)
  have hb0 : Below w.heap.size w (((w.alloc (dobj (dcs A gs.length c st ar lf))).alloc (.cells (opcs 5 s tn B bn bc N K kn kc) 43)).alloc (dobj zcs)) := (((Below.refl _ w).alloc (Nat.le_refl _) _).alloc (by simp) _).alloc (by simp; omega) _
  have hW : (((w.alloc (dobj (dcs A gs.length c st ar lf))).alloc (.cells (opcs 5 s tn B bn bc N K kn kc) 43)).alloc (dobj zcs)).heap.size = w.heap.size + 3 := by simp
  have hcc := hct _ (h.dr.below hb0 (Nat.le_refl _))
  have H := Lib.hid h
  have HX := Lib.hid hx0
  have HW := Lib.hid hW
  clear h hx0 hW hct
  go_enter Try.func14, Try.ntmps14
  go_wp2_with (go_at_call 41; refine hcc.mono ?_; rintro e w2 ⟨rfl, gs2, st2, ar2, lf2, hD, hS, hvn, hrf⟩
               obtain ⟨ho2, hx2, hf2, hb2, hz2, hq2⟩ := mid H.out hb0 HW.out HX.out hD hS
               have o1 : w2.cell? ⟨w.heap.size + 1, 1, none⟩ = some (.string (str s)) := hx2.o.cell rfl
               have o2 : w2.cell? ⟨w.heap.size + 1, 2, none⟩ = some (.string (str tn)) := hx2.o.cell rfl
               have o4 : w2.cell? ⟨w.heap.size + 1, 4, none⟩ = some (.int .i64 N) := hx2.o.cell rfl
               have d0 : w2.cell? ⟨w.heap.size, 0, none⟩ = some (.slice A gs.length c) := hx2.d.cell rfl
               have d1 : w2.cell? ⟨w.heap.size, 1, none⟩ = some (.int .i64 st) := hx2.d.cell rfl
               have d2 : w2.cell? ⟨w.heap.size, 2, none⟩ = some (.bool ar) := hx2.d.cell rfl
               have d3 : w2.cell? ⟨w.heap.size, 3, none⟩ = some (.int .i64 lf) := hx2.d.cell rfl
               have hrc := hrf ho2 (by have := H.out.le; omega)
               have HD := Lib.hid hD
               have HX2 := Lib.hid hx2
               have HV := Lib.hid hvn
               have HQ := Lib.hid hq2
               have HF := Lib.hid hf2
               clear hD hS hx2 ho2 hrf hvn hq2 hf2)
  refine hrc.mono ?_
  rintro e w3 ⟨A3, c3, rfl, ho3, hb3⟩
  obtain ⟨hRel, hx4, hb4⟩ := late (gs0 := gs) H.out.le HD.out HX2.out HF.out hb2 hz2 HQ.out HV.out ho3 hb3
  have hx3 : Bx w w3 A gs.length c st ar lf (opcs 5 s tn B bn bc N K kn kc) := HX2.out.keep fun k h1 h2 => hb3.block k (by omega)
  have d0 : w3.cell? ⟨w.heap.size, 0, none⟩ = some (.slice A gs.length c) := hx3.d.cell rfl
  have d1 : w3.cell? ⟨w.heap.size, 1, none⟩ = some (.int .i64 st) := hx3.d.cell rfl
  have d2 : w3.cell? ⟨w.heap.size, 2, none⟩ = some (.bool ar) := hx3.d.cell rfl
  have d3 : w3.cell? ⟨w.heap.size, 3, none⟩ = some (.int .i64 lf) := hx3.d.cell rfl
  have f0 := hx3.d.frozen 0
  have f1 := hx3.d.frozen 1
  have f2 := hx3.d.frozen 2
  have f3 := hx3.d.frozen 3
  have HR := Lib.hid hRel
  have HX4 := Lib.hid hx4
  clear hRel hx4 hrc hx3 ho3
  go_wp2_with fail
  clear d0 d1 d2 d3 f0 f1 f2 f3
  generalize ((((w3.setCell ⟨w.heap.size, 0, none⟩ (.slice A3 gs2.length c3)).setCell ⟨w.heap.size, 1, none⟩ (.int .i64 st2)).setCell ⟨w.heap.size, 2, none⟩ (.bool ar2)).setCell ⟨w.heap.size, 3, none⟩ (.int .i64 lf2)) = V4 at HR HX4 hb4 ⊢
  have d0 : V4.cell? ⟨w.heap.size, 0, none⟩ = some (.slice A3 gs2.length c3) := HX4.out.d.cell rfl
  have d1 : V4.cell? ⟨w.heap.size, 1, none⟩ = some (.int .i64 st2) := HX4.out.d.cell rfl
  have d2 : V4.cell? ⟨w.heap.size, 2, none⟩ = some (.bool ar2) := HX4.out.d.cell rfl
  have d3 : V4.cell? ⟨w.heap.size, 3, none⟩ = some (.int .i64 lf2) := HX4.out.d.cell rfl
  have hz4 := HX4.out.r.lt
  have hct2 := tells_any (w := V4.drew) (HR.out.dr.keep fun _ _ => rfl) A3 c3 (show Fl V4.drew A3 _ _ from HR.out.fl) HV.out
  have late5 : ∀ w5, Below V4.drew.heap.size V4.drew w5 → Below V4.heap.size V4 w5 ∧ Bx w w5 A3 gs2.length c3 st2 ar2 lf2 (opcs 5 s tn B bn bc N K kn kc) := fun w5 hb5 => by
    have hb6 := (Below.refl V4.heap.size V4).drew.trans hb5
    exact ⟨hb6, HX4.out.keep fun k h1 h2 => hb6.block k (by omega)⟩
  go_region_with (go_at_call 13; refine hct2.mono ?_; rintro e w5 ⟨rfl, hb5⟩
                  obtain ⟨hb6, hx5⟩ := late5 w5 hb5
                  have d0 : w5.cell? ⟨w.heap.size, 0, none⟩ = some (.slice A3 gs2.length c3) := hx5.d.cell rfl
                  have d1 : w5.cell? ⟨w.heap.size, 1, none⟩ = some (.int .i64 st2) := hx5.d.cell rfl
                  have d2 : w5.cell? ⟨w.heap.size, 2, none⟩ = some (.bool ar2) := hx5.d.cell rfl
                  have d3 : w5.cell? ⟨w.heap.size, 3, none⟩ = some (.int .i64 lf2) := hx5.d.cell rfl
                  have r0 : w5.cell? ⟨w.heap.size + 1 + 1, 0, none⟩ = some (.slice none 0 0) := hx5.r.cell rfl
                  have r1 : w5.cell? ⟨w.heap.size + 1 + 1, 1, none⟩ = some (.int .i64 0) := hx5.r.cell rfl
                  have r2 : w5.cell? ⟨w.heap.size + 1 + 1, 2, none⟩ = some (.bool false) := hx5.r.cell rfl
                  have r3 : w5.cell? ⟨w.heap.size + 1 + 1, 3, none⟩ = some (.int .i64 0) := hx5.r.cell rfl
                  have f0 := hx5.r.frozen 0
                  have f1 := hx5.r.frozen 1
                  have f2 := hx5.r.frozen 2
                  have f3 := hx5.r.frozen 3
                  have HX5 := Lib.hid hx5
                  clear hx5)
  all_goals
    go_wp2_with fail
    obtain ⟨hbk, hpp⟩ := fin_play H.out.le HR.out hb4 hb6 HX5.out HQ.out
    exact ret_play (x := .pointer (some ⟨pb, 0, none⟩)) (y := .bool true) rfl rfl rfl rfl rfl hbk hpp

end Go.Proofs.Ytfhlhdpgahbeiaa
