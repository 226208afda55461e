/-
  One call of the law's script: Crash.
-/
import Derived.Test.YtfhlhdpgahbeiaaPlay
import Derived.Test.YtfhlhdpgahbeiaaReI
namespace Go.Proofs.Ytfhlhdpgahbeiaa
open Go.RowKit Go.Maps
set_option linter.unusedVariables false

theorem FreshD.ans {w w' : World} {gs : List Gm} {fs : List Fm} {st lf : Int} {ar : Bool} {e : Ending} (h : FreshD w fs st ar lf e w') (hg : gs.map Gm.f = fs) : ∃ A c, e = .returned (.agg #[.slice A gs.length c, .int .i64 st, .bool ar, .int .i64 lf]) ∧ w'.ownsRow w.heap.size 70 3 (.slice A gs.length c) gs.length (fcs (gs.map Gm.f)) ∧ Below w.heap.size w w' := by
  subst hg
  obtain ⟨A, c, h1, h2, h3⟩ := h
  rw [List.length_map] at h1 h2
  exact ⟨A, c, h1, h2, h3⟩

/-- What stands when drive and reference have both gone through the loss of power. -/
structure Mid6 (w V : World) (lo pb mb : Nat) (gs : List Gm) (st : Int) (ar : Bool) (lf : Int) (A : Option Addr) (c : Nat) (op : Array Value) (pb2 mb2 : Nat) (hs : List Gm) (A3 : Option Addr) (c3 : Nat) : Prop where
  rel : Rel V lo pb2 mb2 hs 0 false 0 A3 c3
  bx : Bx w V A3 hs.length c3 0 false 0 op
  od : Dr V pb mb gs st ar lf
  oo : Fl V A gs.length (gs.map Gm.f)
  ob : Blk V (w.heap.size + 3) (dcs A gs.length c st ar lf) 26
  vn : ∀ y ∈ hs, vname y.name = true
  fo : ∀ k, foot pb2 mb2 hs k → w.heap.size + 4 ≤ k
  bel : Stp w V (foot pb mb gs) (foot pb2 mb2 hs)
def M6 (w V : World) (lo pb mb : Nat) (gs : List Gm) (st : Int) (ar : Bool) (lf : Int) (A : Option Addr) (c : Nat) (op : Array Value) (v : Value) : Prop :=
  ∃ pb2 mb2 hs A3 c3, v = .pointer (some ⟨pb2, 0, none⟩) ∧ Mid6 w V lo pb mb gs st ar lf A c op pb2 mb2 hs A3 c3

theorem st4 (m : Nat) (W : World) (v0 v1 v2 v3 : Value) (n o : Nat) (h : n ≠ m) : ((((W.setCell ⟨m, 0, none⟩ v0).setCell ⟨m, 1, none⟩ v1).setCell ⟨m, 2, none⟩ v2).setCell ⟨m, 3, none⟩ v3).cell? ⟨n, o, none⟩ = W.cell? ⟨n, o, none⟩ :=
  World.cell?_of_block (w := W) ((setCell_other _ _ _ h).trans ((setCell_other _ _ _ h).trans ((setCell_other _ _ _ h).trans (setCell_other _ _ _ h))))

set_option maxRecDepth 40000 in
set_option maxHeartbeats 8000000 in
theorem play_k6 {w : World} {lo pb mb : Nat} {gs : List Gm} {st lf : Int} {ar : Bool} {A : Option Addr} {c : Nat} (h : Rel w lo pb mb gs st ar lf A c) (s tn : List UInt8) (B : Option Addr) (bn bc : Nat) (N : Int) (K : Option Addr) (kn kc : Nat) (ks : List Int) (hK : Sl w K kn (iv ks)) (hkc : kn ≤ kc) :
    Calls Try.prog 14 #[.pointer (some ⟨pb, 0, none⟩), .agg #[.slice A gs.length c, .int .i64 st, .bool ar, .int .i64 lf], .agg #[.int .i64 6, .string (str s), .string (str tn), .slice B bn bc, .int .i64 N, .slice K kn kc]] w (PlayPost w lo (foot pb mb gs)) := by
  have hfew := h.dr.few
  have hx0 := Bx.start w A gs.length c st ar lf (opcs 6 s tn B bn bc N K kn kc)
  have hb0 : Below w.heap.size w (((w.alloc (dobj (dcs A gs.length c st ar lf))).alloc (.cells (opcs 6 s tn B bn bc N K kn kc) 43)).alloc (dobj zcs)) := (((Below.refl _ w).alloc (Nat.le_refl _) _).alloc (by simp) _).alloc (by simp; omega) _
  have hW : (((w.alloc (dobj (dcs A gs.length c st ar lf))).alloc (.cells (opcs 6 s tn B bn bc N K kn kc) 43)).alloc (dobj zcs)).heap.size = w.heap.size + 3 := by simp
  have H := Lib.hid h
  have HX := Lib.hid hx0
  clear h hx0
  go_enter Try.func14, Try.ntmps14
  go_wp2_with fail
  generalize (((w.alloc (dobj (dcs A gs.length c st ar lf))).alloc (.cells (opcs 6 s tn B bn bc N K kn kc) 43)).alloc (dobj zcs)) = V0 at HX hb0 hW ⊢
  have d0 : V0.cell? ⟨w.heap.size, 0, none⟩ = some (.slice A gs.length c) := HX.out.d.cell rfl
  have d1 : V0.cell? ⟨w.heap.size, 1, none⟩ = some (.int .i64 st) := HX.out.d.cell rfl
  have d2 : V0.cell? ⟨w.heap.size, 2, none⟩ = some (.bool ar) := HX.out.d.cell rfl
  have d3 : V0.cell? ⟨w.heap.size, 3, none⟩ = some (.int .i64 lf) := HX.out.d.cell rfl
  go_region
  clear d0 d1 d2 d3
  have hb1 : Below V0.heap.size V0 (V0.alloc (dobj (dcs A gs.length c st ar lf))).drew := ((Below.refl _ V0).alloc (Nat.le_refl _) _).drew
  have hx1 : Blk (V0.alloc (dobj (dcs A gs.length c st ar lf))).drew (w.heap.size + 3) (dcs A gs.length c st ar lf) 26 := hW ▸ Blk.new V0 (dcs A gs.length c st ar lf) 26
  have hz1 : (V0.alloc (dobj (dcs A gs.length c st ar lf))).drew.heap.size = w.heap.size + 4 := by simp [hW]
  go_wp2_with fail
  generalize (V0.alloc (dobj (dcs A gs.length c st ar lf))).drew = V1 at hb1 hx1 hz1 ⊢
  have hbw : Below w.heap.size w V1 := hb0.trans (hb1.mono (by omega))
  have hbx : Bx w V1 A gs.length c st ar lf (opcs 6 s tn B bn bc N K kn kc) := HX.out.keep fun k h1 h2 => hb1.block k (by omega)
  have HR1 := Lib.hid (H.out.below hbw)
  have HK1 : Sl V1 K kn (iv ks) := hK.below hbw
  have HB1 := Lib.hid hbx
  have HC1 := Lib.hid hx1
  have o5 : V1.cell? ⟨w.heap.size + 1, 5, none⟩ = some (.slice K kn kc) := hbx.o.cell rfl
  have d0 : V1.cell? ⟨w.heap.size, 0, none⟩ = some (.slice A gs.length c) := hbx.d.cell rfl
  have d1 : V1.cell? ⟨w.heap.size, 1, none⟩ = some (.int .i64 st) := hbx.d.cell rfl
  have d2 : V1.cell? ⟨w.heap.size, 2, none⟩ = some (.bool ar) := hbx.d.cell rfl
  have d3 : V1.cell? ⟨w.heap.size, 3, none⟩ = some (.int .i64 lf) := hbx.d.cell rfl
  have hc1 := crash_any (w := V1.drew) (HR1.out.dr.keep fun _ _ => rfl) K kn kc ks HK1 hkc
  have at2 : ∀ w2, Below V1.drew.heap.size V1.drew w2 → Below V1.heap.size V1 w2 ∧ Bx w w2 A gs.length c st ar lf (opcs 6 s tn B bn bc N K kn kc) ∧ Blk w2 (w.heap.size + 3) (dcs A gs.length c st ar lf) 26 ∧ Fl w2 A gs.length (gs.map Gm.f) ∧ Sl w2 K kn (iv ks) := fun w2 hb => by
    have hb6 := (Below.refl V1.heap.size V1).drew.trans hb
    exact ⟨hb6, HB1.out.keep fun k h1 h2 => hb6.block k (by omega), HC1.out.keep (hb6.block _ (by omega)), (HR1.out.below hb6).fl, HK1.below hb6⟩
  have hsy : ∀ f ∈ gs.map Gm.f, f.syn ≤ f.data.length ∧ f.data.length ≤ 262144 := fun f hf => by
    obtain ⟨g, hg, rfl⟩ := List.mem_map.1 hf
    exact ⟨(HR1.out.dr.file g hg).2.2.1, (HR1.out.dr.file g hg).2.2.2.1⟩
  clear hx1 hbx
  go_cut [0] (fun s0 wx => M6 w wx lo pb mb gs st ar lf A c (opcs 6 s tn B bn bc N K kn kc) s0)
  case first =>
    go_region_with (first
      | (go_at_call 15; refine hc1.mono ?_; rintro e w2 ⟨pb2, mb2, hs, rfl, hhs, hD2, hb2, hf2⟩
         obtain ⟨hb2', hx2, hy2, hfl2, hk2⟩ := at2 w2 hb2
         have hc2 := rcrash_any A gs.length c (gs.map Gm.f) st ar lf K kn kc ks w2 hfl2 (by omega) hk2 hsy
         have o5 : w2.cell? ⟨w.heap.size + 1, 5, none⟩ = some (.slice K kn kc) := hx2.o.cell rfl
         have d0 : w2.cell? ⟨w.heap.size, 0, none⟩ = some (.slice A gs.length c) := hx2.d.cell rfl
         have d1 : w2.cell? ⟨w.heap.size, 1, none⟩ = some (.int .i64 st) := hx2.d.cell rfl
         have d2 : w2.cell? ⟨w.heap.size, 2, none⟩ = some (.bool ar) := hx2.d.cell rfl
         have d3 : w2.cell? ⟨w.heap.size, 3, none⟩ = some (.int .i64 lf) := hx2.d.cell rfl
         have HD2 := Lib.hid hD2
         have HX2 := Lib.hid hx2
         have HY2 := Lib.hid hy2
         have HF2 := Lib.hid hf2
         clear hD2 hx2 hy2 hf2 hfl2 hk2)
      | (go_at_call 16; refine hc2.mono ?_; intro e w3 hfr
         obtain ⟨A3, c3, rfl, ho3, hb3⟩ := FreshD.ans hfr hhs
         have hx3 : Bx w w3 A gs.length c st ar lf (opcs 6 s tn B bn bc N K kn kc) := HX2.out.keep fun k h1 h2 => hb3.block k (by have := hb2'.size; omega)
         have d0 : w3.cell? ⟨w.heap.size, 0, none⟩ = some (.slice A gs.length c) := hx3.d.cell rfl
         have d1 : w3.cell? ⟨w.heap.size, 1, none⟩ = some (.int .i64 st) := hx3.d.cell rfl
         have d2 : w3.cell? ⟨w.heap.size, 2, none⟩ = some (.bool ar) := hx3.d.cell rfl
         have d3 : w3.cell? ⟨w.heap.size, 3, none⟩ = some (.int .i64 lf) := hx3.d.cell rfl
         have f0 := hx3.d.frozen 0
         have f1 := hx3.d.frozen 1
         have f2 := hx3.d.frozen 2
         have f3 := hx3.d.frozen 3
         have HX3 := Lib.hid hx3
         have HO3 := Lib.hid ho3
         clear hx3 ho3 hfr))
    all_goals
      have hvs : ∀ y ∈ hs, vname y.name = true := fun y hy => by
        have h1 := crash_names ks (gs.map Gm.f)
        rw [← hhs, List.map_map, List.map_map] at h1
        have h2 : y.name ∈ gs.map (Fm.name ∘ Gm.f) := h1 ▸ List.mem_map.2 ⟨y, hy, rfl⟩
        obtain ⟨g, hg, hgy⟩ := List.mem_map.1 h2
        exact hgy ▸ H.out.vn g hg
      have hz2 := hb2'.size
      have hle := H.out.le
      have hf2' : ∀ k, foot pb2 mb2 hs k → w.heap.size + 4 ≤ k := fun k e => hz1 ▸ HF2.out k e
      have hbw2 : Below w.heap.size w w2 := hbw.trans (hb2'.mono (by omega))
      obtain ⟨hRel, hx4, hb4⟩ := late (gs0 := gs) hle HD2.out HX2.out (fun k e => by have := hf2' k e; omega) ⟨(Below.stp (S := foot pb mb gs) hbw2).oth, fun k e => .inr (by have := hf2' k e; omega)⟩ (by omega) (fun k e => by have := hf2' k e; omega) hvs (own3_base HO3.out (B' := lo) (by omega)) hb3
      have hold := H.out.below (hbw2.trans (hb3.mono (by omega)))
      have hk4 : ∀ k, k ≠ w.heap.size → ((((w3.setCell ⟨w.heap.size, 0, none⟩ (.slice A3 hs.length c3)).setCell ⟨w.heap.size, 1, none⟩ (.int .i64 0)).setCell ⟨w.heap.size, 2, none⟩ (.bool false)).setCell ⟨w.heap.size, 3, none⟩ (.int .i64 0)).heap[k]? = w3.heap[k]? := fun k h2 =>
        (setCell_other _ _ _ h2).trans ((setCell_other _ _ _ h2).trans ((setCell_other _ _ _ h2).trans (setCell_other _ _ _ h2)))
      have hdo := hold.dr.keep fun k e => hk4 k (by have := H.out.dr.foot_lt e; omega)
      have hoo := own_fl (own3_keep hold.own fun k e => hk4 k (row_ne hold.own HX3.out.d (by decide) k e))
      have hy4 := (HY2.out.keep (hb3.block _ (by omega))).keep (hk4 (w.heap.size + 3) (by omega))
      have HALL := Lib.hid (And.intro hRel (And.intro hx4 (And.intro hdo (And.intro hoo (And.intro hy4 (And.intro hvs (And.intro hf2' hb4)))))))
      clear hRel hx4 hdo hoo hy4 hvs hf2' hold hk4
      go_wp2_with fail
      go_meet
      obtain ⟨z1, z2, z3, z4, z5, z6, z7, z8⟩ := HALL.out
      exact ⟨_, _, _, _, _, rfl, ⟨z1, z2, z3, z4, z5, z6, z7, z8⟩⟩
  case rest =>
    obtain ⟨pb2, mb2, hs, A3, c3, rfl, hm⟩ := hcut
    clear hb0 hW hb1 hz1 hbw hc1 at2 hsy o5 d0 d1 d2 d3
    have d0 : wc.cell? ⟨w.heap.size, 0, none⟩ = some (.slice A3 hs.length c3) := hm.bx.d.cell rfl
    have d1 : wc.cell? ⟨w.heap.size, 1, none⟩ = some (.int .i64 0) := hm.bx.d.cell rfl
    have d2 : wc.cell? ⟨w.heap.size, 2, none⟩ = some (.bool false) := hm.bx.d.cell rfl
    have d3 : wc.cell? ⟨w.heap.size, 3, none⟩ = some (.int .i64 0) := hm.bx.d.cell rfl
    have p0 : wc.cell? ⟨w.heap.size + 3, 0, none⟩ = some (.slice A gs.length c) := hm.ob.cell rfl
    have p1 : wc.cell? ⟨w.heap.size + 3, 1, none⟩ = some (.int .i64 st) := hm.ob.cell rfl
    have p2 : wc.cell? ⟨w.heap.size + 3, 2, none⟩ = some (.bool ar) := hm.ob.cell rfl
    have p3 : wc.cell? ⟨w.heap.size + 3, 3, none⟩ = some (.int .i64 lf) := hm.ob.cell rfl
    have hz4 := hm.ob.lt
    have hctN := tells_any (w := wc.drew) (hm.rel.dr.keep fun _ _ => rfl) A3 c3 (show Fl wc.drew A3 _ _ from hm.rel.fl) hm.vn
    have HM := Lib.hid hm
    clear hm
    go_wp2_with fail
    go_region_held (fun V => V.cell? ⟨w.heap.size, 0, none⟩ = some (.slice A3 hs.length c3) ∧ V.cell? ⟨w.heap.size, 1, none⟩ = some (.int .i64 0) ∧ V.cell? ⟨w.heap.size, 2, none⟩ = some (.bool false) ∧ V.cell? ⟨w.heap.size, 3, none⟩ = some (.int .i64 0) ∧ V.cell? ⟨w.heap.size + 3, 0, none⟩ = some (.slice A gs.length c) ∧ V.cell? ⟨w.heap.size + 3, 1, none⟩ = some (.int .i64 st) ∧ V.cell? ⟨w.heap.size + 3, 2, none⟩ = some (.bool ar) ∧ V.cell? ⟨w.heap.size + 3, 3, none⟩ = some (.int .i64 lf)) (first | exact ⟨d0, d1, d2, d3, p0, p1, p2, p3⟩ | exact ⟨e0, e1, e2, e3, q0, q1, q2, q3⟩ | exact ⟨g0, g1, g2, g3, h0, h1, h2, h3⟩ | exact ⟨(st4 (w.heap.size + 1 + 1) _ _ _ _ _ w.heap.size 0 (by omega)).trans g0, (st4 (w.heap.size + 1 + 1) _ _ _ _ _ w.heap.size 1 (by omega)).trans g1, (st4 (w.heap.size + 1 + 1) _ _ _ _ _ w.heap.size 2 (by omega)).trans g2, (st4 (w.heap.size + 1 + 1) _ _ _ _ _ w.heap.size 3 (by omega)).trans g3, (st4 (w.heap.size + 1 + 1) _ _ _ _ _ (w.heap.size + 3) 0 (by omega)).trans h0, (st4 (w.heap.size + 1 + 1) _ _ _ _ _ (w.heap.size + 3) 1 (by omega)).trans h1, (st4 (w.heap.size + 1 + 1) _ _ _ _ _ (w.heap.size + 3) 2 (by omega)).trans h2, (st4 (w.heap.size + 1 + 1) _ _ _ _ _ (w.heap.size + 3) 3 (by omega)).trans h3⟩) (first
      | (go_at_call 13; refine hctO.mono ?_; rintro e w6 ⟨rfl, hb6⟩
         have hb7 : Below wc.heap.size wc w6 := hb5'.trans (hb6.mono hb5'.size)
         have hx6 : Bx w w6 A3 hs.length c3 0 false 0 (opcs 6 s tn B bn bc N K kn kc) := HM.out.bx.keep fun k h1 h2 => hb7.block k (by omega)
         have hy6 := HM.out.ob.keep (hb7.block _ (by omega))
         have g0 : w6.cell? ⟨w.heap.size, 0, none⟩ = some (.slice A3 hs.length c3) := hx6.d.cell rfl
         have g1 : w6.cell? ⟨w.heap.size, 1, none⟩ = some (.int .i64 0) := hx6.d.cell rfl
         have g2 : w6.cell? ⟨w.heap.size, 2, none⟩ = some (.bool false) := hx6.d.cell rfl
         have g3 : w6.cell? ⟨w.heap.size, 3, none⟩ = some (.int .i64 0) := hx6.d.cell rfl
         have h0 : w6.cell? ⟨w.heap.size + 3, 0, none⟩ = some (.slice A gs.length c) := hy6.cell rfl
         have h1 : w6.cell? ⟨w.heap.size + 3, 1, none⟩ = some (.int .i64 st) := hy6.cell rfl
         have h2 : w6.cell? ⟨w.heap.size + 3, 2, none⟩ = some (.bool ar) := hy6.cell rfl
         have h3 : w6.cell? ⟨w.heap.size + 3, 3, none⟩ = some (.int .i64 lf) := hy6.cell rfl
         have r0 : w6.cell? ⟨w.heap.size + 1 + 1, 0, none⟩ = some (.slice none 0 0) := hx6.r.cell rfl
         have r1 : w6.cell? ⟨w.heap.size + 1 + 1, 1, none⟩ = some (.int .i64 0) := hx6.r.cell rfl
         have r2 : w6.cell? ⟨w.heap.size + 1 + 1, 2, none⟩ = some (.bool false) := hx6.r.cell rfl
         have r3 : w6.cell? ⟨w.heap.size + 1 + 1, 3, none⟩ = some (.int .i64 0) := hx6.r.cell rfl
         have f0 := hx6.r.frozen 0
         have f1 := hx6.r.frozen 1
         have f2 := hx6.r.frozen 2
         have f3 := hx6.r.frozen 3
         have HX6 := Lib.hid hx6
         clear hx6 hy6 hb6)
      | (go_at_call 13; refine hctN.mono ?_; rintro e w5 ⟨rfl, hb5⟩
         have hb5' := (Below.refl wc.heap.size wc).drew.trans hb5
         have hx5 : Bx w w5 A3 hs.length c3 0 false 0 (opcs 6 s tn B bn bc N K kn kc) := HM.out.bx.keep fun k h1 h2 => hb5'.block k (by omega)
         have hy5 := HM.out.ob.keep (hb5'.block _ (by omega))
         have hctO := tells_any (HM.out.od.below hb5' (Nat.le_refl _)) A c (HM.out.oo.below hb5') H.out.vn
         have e0 : w5.cell? ⟨w.heap.size, 0, none⟩ = some (.slice A3 hs.length c3) := hx5.d.cell rfl
         have e1 : w5.cell? ⟨w.heap.size, 1, none⟩ = some (.int .i64 0) := hx5.d.cell rfl
         have e2 : w5.cell? ⟨w.heap.size, 2, none⟩ = some (.bool false) := hx5.d.cell rfl
         have e3 : w5.cell? ⟨w.heap.size, 3, none⟩ = some (.int .i64 0) := hx5.d.cell rfl
         have q0 : w5.cell? ⟨w.heap.size + 3, 0, none⟩ = some (.slice A gs.length c) := hy5.cell rfl
         have q1 : w5.cell? ⟨w.heap.size + 3, 1, none⟩ = some (.int .i64 st) := hy5.cell rfl
         have q2 : w5.cell? ⟨w.heap.size + 3, 2, none⟩ = some (.bool ar) := hy5.cell rfl
         have q3 : w5.cell? ⟨w.heap.size + 3, 3, none⟩ = some (.int .i64 lf) := hy5.cell rfl
         clear hx5 hy5))
    all_goals
      go_wp2_with fail
      obtain ⟨hbk, hpp⟩ := fin_play H.out.le HM.out.rel HM.out.bel hb7 HX6.out (fun k e => by have := HM.out.fo k e; omega)
      exact ret_play (x := .pointer (some ⟨pb2, 0, none⟩)) (y := .bool true) rfl rfl rfl rfl rfl hbk hpp
end Go.Proofs.Ytfhlhdpgahbeiaa
