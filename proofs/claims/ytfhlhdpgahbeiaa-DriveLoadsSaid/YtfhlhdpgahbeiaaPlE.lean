/-
  One call of the law's script: a kind that is none.
-/
import Derived.Test.YtfhlhdpgahbeiaaPlay
namespace Go.Proofs.Ytfhlhdpgahbeiaa
open Go.RowKit Go.Maps
set_option linter.unusedVariables false

set_option maxRecDepth 40000 in
set_option maxHeartbeats 8000000 in
theorem play_k0 {w : World} {lo pb mb : Nat} {gs : List Gm} {st lf : Int} {ar : Bool} {A : Option Addr} {c : Nat} (h : Rel w lo pb mb gs st ar lf A c) (k : Int) (s tn : List UInt8) (B : Option Addr) (bn bc : Nat) (N : Int) (K : Option Addr) (kn kc : Nat)
    (hk1 : k ≠ 1) (hk2 : k ≠ 2) (hk3 : k ≠ 3) (hk4 : k ≠ 4) (hk5 : k ≠ 5) (hk6 : k ≠ 6) :
    Calls Try.prog 14 #[.pointer (some ⟨pb, 0, none⟩), .agg #[.slice A gs.length c, .int .i64 st, .bool ar, .int .i64 lf], .agg #[.int .i64 k, .string (str s), .string (str tn), .slice B bn bc, .int .i64 N, .slice K kn kc]] w (PlayPost w lo (foot pb mb gs)) := by
  have hfew := h.dr.few
  have hx0 := Bx.start w A gs.length c st ar lf (opcs k s tn B bn bc N K kn kc)
  have hb0 : Below w.heap.size w (((w.alloc (dobj (dcs A gs.length c st ar lf))).alloc (.cells (opcs k s tn B bn bc N K kn kc) 43)).alloc (dobj zcs)) := (((Below.refl _ w).alloc (Nat.le_refl _) _).alloc (by simp) _).alloc (by simp; omega) _
  have hb4 := Below.stp (S := foot pb mb gs) hb0
  have HR := Lib.hid (h.below hb0)
  have hq : ∀ k, foot pb mb gs k → k < w.heap.size ∨ w.heap.size + 3 ≤ k := fun k e => .inl (h.dr.foot_lt e)
  have HV := Lib.hid h.vn
  have H := Lib.hid h
  have HX4 := Lib.hid hx0
  clear h hx0 hb0
  go_enter Try.func14, Try.ntmps14
  go_wp2_with fail
  generalize (((w.alloc (dobj (dcs A gs.length c st ar lf))).alloc (.cells (opcs k s tn B bn bc N K kn kc) 43)).alloc (dobj zcs)) = V4 at HR HX4 hb4 ⊢
  have d0 : V4.cell? ⟨w.heap.size, 0, none⟩ = some (.slice A gs.length c) := HX4.out.d.cell rfl
  have d1 : V4.cell? ⟨w.heap.size, 1, none⟩ = some (.int .i64 st) := HX4.out.d.cell rfl
  have d2 : V4.cell? ⟨w.heap.size, 2, none⟩ = some (.bool ar) := HX4.out.d.cell rfl
  have d3 : V4.cell? ⟨w.heap.size, 3, none⟩ = some (.int .i64 lf) := HX4.out.d.cell rfl
  have hz4 := HX4.out.r.lt
  have hct2 := tells_any (w := V4.drew) (HR.out.dr.keep fun _ _ => rfl) A c (show Fl V4.drew A _ _ from HR.out.fl) HV.out
  have late5 : ∀ w5, Below V4.drew.heap.size V4.drew w5 → Below V4.heap.size V4 w5 ∧ Bx w w5 A gs.length c st ar lf (opcs k s tn B bn bc N K kn kc) := fun w5 hb5 => by
    have hb6 := (Below.refl V4.heap.size V4).drew.trans hb5
    exact ⟨hb6, HX4.out.keep fun k h1 h2 => hb6.block k (by omega)⟩
  go_region_with (go_at_call 13; refine hct2.mono ?_; rintro e w5 ⟨rfl, hb5⟩
                  obtain ⟨hb6, hx5⟩ := late5 w5 hb5
                  have d0 : w5.cell? ⟨w.heap.size, 0, none⟩ = some (.slice A gs.length c) := hx5.d.cell rfl
                  have d1 : w5.cell? ⟨w.heap.size, 1, none⟩ = some (.int .i64 st) := hx5.d.cell rfl
                  have d2 : w5.cell? ⟨w.heap.size, 2, none⟩ = some (.bool ar) := hx5.d.cell rfl
                  have d3 : w5.cell? ⟨w.heap.size, 3, none⟩ = some (.int .i64 lf) := hx5.d.cell rfl
                  have r0 : w5.cell? ⟨w.heap.size + 1 + 1, 0, none⟩ = some (.slice none 0 0) := hx5.r.cell rfl
                  have r1 : w5.cell? ⟨w.heap.size + 1 + 1, 1, none⟩ = some (.int .i64 0) := hx5.r.cell rfl
                  have r2 : w5.cell? ⟨w.heap.size + 1 + 1, 2, none⟩ = some (.bool false) := hx5.r.cell rfl
                  have r3 : w5.cell? ⟨w.heap.size + 1 + 1, 3, none⟩ = some (.int .i64 0) := hx5.r.cell rfl
                  have f0 := hx5.r.frozen 0
                  have f1 := hx5.r.frozen 1
                  have f2 := hx5.r.frozen 2
                  have f3 := hx5.r.frozen 3
                  have HX5 := Lib.hid hx5
                  clear hx5)
  all_goals
    go_wp2_with fail
    obtain ⟨hbk, hpp⟩ := fin_play H.out.le HR.out hb4 hb6 HX5.out hq
    exact ret_play (x := .pointer (some ⟨pb, 0, none⟩)) (y := .bool true) rfl rfl rfl rfl rfl hbk hpp

end Go.Proofs.Ytfhlhdpgahbeiaa
