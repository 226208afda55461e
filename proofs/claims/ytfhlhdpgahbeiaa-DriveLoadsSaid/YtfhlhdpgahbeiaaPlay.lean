/-
  One call of the law's script: drive and reference answer alike, and agree behind it.
-/
import Derived.Test.YtfhlhdpgahbeiaaBri
namespace Go.Proofs.Ytfhlhdpgahbeiaa
open Go.RowKit Go.Maps
set_option linter.unusedVariables false

/-- What a call of the script leaves. -/
def PlayPost (w : World) (lo : Nat) (S0 : Nat → Prop) (e : Ending) (w' : World) : Prop :=
  ∃ pb mb gs st ar lf A c, e = .returned (.tuple #[.pointer (some ⟨pb, 0, none⟩), .agg #[.slice A gs.length c, .int .i64 st, .bool ar, .int .i64 lf], .bool true]) ∧ Rel w' lo pb mb gs st ar lf A c ∧ Stp w w' S0 (foot pb mb gs)

theorem ret_play {fn : Func} {p q u : Tmp} (h : fn.results = #[.tmp p, .cell q 26, .tmp u]) {R : Ending → World → Prop} {a : Act} {w : World} {g : Nat} {A : Option Addr} {n c : Nat} {st lf : Int} {ar : Bool} {x y : Value} (hd : a.defers = [])
    (hx : a.tmps.getD p undef = x) (hp : a.tmps.getD q undef = .pointer (some ⟨g, 0, none⟩)) (hu : a.tmps.getD u undef = y) (hg : Blk w g #[.slice A n c, .int .i64 st, .bool ar, .int .i64 lf] 26)
    (hR : R (.returned (.tuple #[x, .agg #[.slice A n c, .int .i64 st, .bool ar, .int .i64 lf], y])) w) : bodyPost Try.prog fn R .ret a w := by
  refine bodyPost_ret ?_ hd hR
  have h1 : (asAddr (.pointer (some ⟨g, 0, none⟩))).run Try.prog w = .ok ⟨g, 0, none⟩ w := by simp [asAddr]
  have h2 := run_loadVar_row (P := Try.prog) w g 26 26 _ _ _ hg Try.underlying26 rfl (by kernel_rfl)
  simp only [results, h]
  simp [Sem.run_bind, Result.andThen] at hx hp hu ⊢
  simp [hx, hp, hu, h1, h2]

abbrev opcs (k : Int) (s tn : List UInt8) (B : Option Addr) (bn bc : Nat) (N : Int) (K : Option Addr) (kn kc : Nat) : Array Value := #[.int .i64 k, .string (str s), .string (str tn), .slice B bn bc, .int .i64 N, .slice K kn kc]

/-- The three boxes of the call: the reference's drive, the script's call, the result. -/
structure Bx (w V : World) (A : Option Addr) (n c : Nat) (st : Int) (ar : Bool) (lf : Int) (op : Array Value) : Prop where
  d : Blk V w.heap.size (dcs A n c st ar lf) 26
  o : Blk V (w.heap.size + 1) op 43
  r : Blk V (w.heap.size + 1 + 1) zcs 26
theorem Bx.start (w : World) (A : Option Addr) (n c : Nat) (st : Int) (ar : Bool) (lf : Int) (op : Array Value) : Bx w (((w.alloc (dobj (dcs A n c st ar lf))).alloc (.cells op 43)).alloc (dobj zcs)) A n c st ar lf op := by
  have b1 := Blk.new w (dcs A n c st ar lf) 26
  have b2 := Blk.new (w.alloc (dobj (dcs A n c st ar lf))) op 43
  have b3 := Blk.new ((w.alloc (dobj (dcs A n c st ar lf))).alloc (.cells op 43)) zcs 26
  rw [World.size_alloc] at b2
  rw [World.size_alloc, World.size_alloc] at b3
  exact ⟨(b1.keep (Below.heap_alloc _ _ _ b1.lt)).keep (Below.heap_alloc _ _ _ (by simp; omega)), b2.keep (Below.heap_alloc _ _ _ (by simp)), b3⟩
theorem Bx.keep {w V V' : World} {A : Option Addr} {n c : Nat} {st lf : Int} {ar : Bool} {op : Array Value} (h : Bx w V A n c st ar lf op) (hk : ∀ k, w.heap.size ≤ k → k < w.heap.size + 3 → V'.heap[k]? = V.heap[k]?) : Bx w V' A n c st ar lf op :=
  ⟨h.d.keep (hk _ (by omega) (by omega)), h.o.keep (hk _ (by omega) (by omega)), h.r.keep (hk _ (by omega) (by omega))⟩

/-- What is known behind the drive's own call: the drive as it is now, the row of the reference, the boxes. -/
theorem mid {w W0 w2 : World} {lo pb mb : Nat} {gs gs2 : List Gm} {st lf st2 lf2 : Int} {ar ar2 : Bool} {A : Option Addr} {c : Nat} {op : Array Value} (h : Rel w lo pb mb gs st ar lf A c) (hb0 : Below w.heap.size w W0) (hW : W0.heap.size = w.heap.size + 3) (hx : Bx w W0 A gs.length c st ar lf op)
    (hd : Dr w2 pb mb gs2 st2 ar2 lf2) (hS : Stp W0 w2 (foot pb mb gs) (foot pb mb gs2)) :
    w2.ownsRow lo 70 3 (.slice A gs.length c) gs.length (fcs (gs.map Gm.f)) ∧ Bx w w2 A gs.length c st ar lf op ∧ (∀ k, foot pb mb gs2 k → lo ≤ k) ∧ Stp w w2 (foot pb mb gs) (foot pb mb gs2) ∧ w.heap.size + 3 ≤ w2.heap.size ∧ (∀ k, foot pb mb gs2 k → k < w.heap.size ∨ w.heap.size + 3 ≤ k) := by
  have hlt := fun k => h.dr.foot_lt (k := k)
  have hD0 := h.dr.below hb0 (Nat.le_refl _)
  have ho0 := own3_below h.own hb0
  refine ⟨row_stp hD0 ho0 hS, hx.keep fun k h1 h2 => hS.oth.block k (by omega) (fun e => by have := hlt k e; omega), fun k hk => ?_, ?_, by have := hS.oth.size; omega, fun k hk => ?_⟩
  · rcases hS.sub k hk with e | e
    · exact h.flo k e
    · have := h.le; omega
  · exact (Below.stp hb0).trans hS
  · rcases hS.sub k hk with e | e
    · exact .inl (hlt k e)
    · exact .inr (by omega)

/-- The reference's answer, in the drive's list. -/
def RAns (w : World) (lo : Nat) (gs : List Gm) (st : Int) (ar : Bool) (lf : Int) (code : Int) (e : Ending) (w' : World) : Prop :=
  ∃ A c, e = .returned (.tuple #[.agg #[.slice A gs.length c, .int .i64 st, .bool ar, .int .i64 lf], .int .i64 code]) ∧ w'.ownsRow lo 70 3 (.slice A gs.length c) gs.length (fcs (gs.map Gm.f)) ∧ Below w.heap.size w w'
theorem RPost.ans {w : World} {lo : Nat} {gs : List Gm} {st lf : Int} {ar : Bool} {code : Int} {e : Ending} {w' : World} (h : RPost w lo (gs.map Gm.f) st ar lf code e w') : RAns w lo gs st ar lf code e w' := by
  obtain ⟨A, c, h1, h2, h3⟩ := h
  rw [List.length_map] at h1 h2
  exact ⟨A, c, h1, h2, h3⟩

theorem Stp.set {w V : World} {S S' : Nat → Prop} (h : Stp w V S S') {b : Nat} (hb : w.heap.size ≤ b) (k : Nat) (v : Value) : Stp w (V.setCell ⟨b, k, none⟩ v) S S' :=
  ⟨⟨by rw [setCell_os]; exact h.oth.os, by rw [setCell_tape]; exact h.oth.tape, by rw [setCell_output]; exact h.oth.output, by rw [setCell_size]; exact h.oth.size, fun i hi hn => (setCell_other _ _ _ (show i ≠ b from by omega)).trans (h.oth.block i hi hn)⟩, h.sub⟩

/-- What is known when the reference's answer has been stored. -/
theorem late {S0 : Nat → Prop} {w w2 w3 : World} {lo pb mb : Nat} {gs0 gs2 : List Gm} {st lf st2 lf2 : Int} {ar ar2 : Bool} {A A3 : Option Addr} {n c c3 : Nat} {op : Array Value} (hlo : lo ≤ w.heap.size)
    (hd : Dr w2 pb mb gs2 st2 ar2 lf2) (hx : Bx w w2 A n c st ar lf op) (hf : ∀ k, foot pb mb gs2 k → lo ≤ k) (hb : Stp w w2 S0 (foot pb mb gs2)) (hz : w.heap.size + 3 ≤ w2.heap.size) (hq : ∀ k, foot pb mb gs2 k → k < w.heap.size ∨ w.heap.size + 3 ≤ k) (hv : ∀ g ∈ gs2, vname g.name = true)
    (ho : w3.ownsRow lo 70 3 (.slice A3 gs2.length c3) gs2.length (fcs (gs2.map Gm.f))) (hb3 : Below w2.heap.size w2 w3) :
    Rel ((((w3.setCell ⟨w.heap.size, 0, none⟩ (.slice A3 gs2.length c3)).setCell ⟨w.heap.size, 1, none⟩ (.int .i64 st2)).setCell ⟨w.heap.size, 2, none⟩ (.bool ar2)).setCell ⟨w.heap.size, 3, none⟩ (.int .i64 lf2)) lo pb mb gs2 st2 ar2 lf2 A3 c3 ∧
    Bx w ((((w3.setCell ⟨w.heap.size, 0, none⟩ (.slice A3 gs2.length c3)).setCell ⟨w.heap.size, 1, none⟩ (.int .i64 st2)).setCell ⟨w.heap.size, 2, none⟩ (.bool ar2)).setCell ⟨w.heap.size, 3, none⟩ (.int .i64 lf2)) A3 gs2.length c3 st2 ar2 lf2 op ∧
    Stp w ((((w3.setCell ⟨w.heap.size, 0, none⟩ (.slice A3 gs2.length c3)).setCell ⟨w.heap.size, 1, none⟩ (.int .i64 st2)).setCell ⟨w.heap.size, 2, none⟩ (.bool ar2)).setCell ⟨w.heap.size, 3, none⟩ (.int .i64 lf2)) S0 (foot pb mb gs2) := by
  have hx3 : Bx w w3 A n c st ar lf op := hx.keep fun k h1 h2 => hb3.block k (by omega)
  have hd3 := hd.below hb3 (Nat.le_refl _)
  have hbw : Stp w w3 S0 (foot pb mb gs2) := hb.trans (Below.stp hb3)
  have hR3 := (((hx3.d.set 0 (.slice A3 gs2.length c3)).set 1 (.int .i64 st2)).set 2 (.bool ar2)).set 3 (.int .i64 lf2)
  have hk : ∀ k, k ≠ w.heap.size → ((((w3.setCell ⟨w.heap.size, 0, none⟩ (.slice A3 gs2.length c3)).setCell ⟨w.heap.size, 1, none⟩ (.int .i64 st2)).setCell ⟨w.heap.size, 2, none⟩ (.bool ar2)).setCell ⟨w.heap.size, 3, none⟩ (.int .i64 lf2)).heap[k]? = w3.heap[k]? := fun k h2 =>
    (setCell_other _ _ _ h2).trans ((setCell_other _ _ _ h2).trans ((setCell_other _ _ _ h2).trans (setCell_other _ _ _ h2)))
  refine ⟨⟨hd3.keep fun k e => hk k (by have := hq k e; omega), own3_keep ho fun k e => hk k (row_ne ho hx3.d (by decide) k e), hv, hf, ?_⟩, ⟨hR3, hx3.o.keep (hk _ (by omega)), hx3.r.keep (hk _ (by omega))⟩, (((hbw.set (Nat.le_refl _) _ _).set (Nat.le_refl _) _ _).set (Nat.le_refl _) _ _).set (Nat.le_refl _) _ _⟩
  simp only [setCell_size]; have := hb3.size; omega

/-- The end of a call: the result's box is filled. -/
theorem fin_play {S0 : Nat → Prop} {w V4 w5 : World} {lo pb mb : Nat} {gs : List Gm} {st lf : Int} {ar : Bool} {A : Option Addr} {c : Nat} {op : Array Value} (hlo : lo ≤ w.heap.size) (hR : Rel V4 lo pb mb gs st ar lf A c) (hb4 : Stp w V4 S0 (foot pb mb gs)) (hb6 : Below V4.heap.size V4 w5) (hx5 : Bx w w5 A gs.length c st ar lf op)
    (hq : ∀ k, foot pb mb gs k → k < w.heap.size ∨ w.heap.size + 3 ≤ k) :
    Blk ((((w5.setCell ⟨w.heap.size + 1 + 1, 0, none⟩ (.slice A gs.length c)).setCell ⟨w.heap.size + 1 + 1, 1, none⟩ (.int .i64 st)).setCell ⟨w.heap.size + 1 + 1, 2, none⟩ (.bool ar)).setCell ⟨w.heap.size + 1 + 1, 3, none⟩ (.int .i64 lf)) (w.heap.size + 1 + 1) #[.slice A gs.length c, .int .i64 st, .bool ar, .int .i64 lf] 26 ∧
    PlayPost w lo S0 (.returned (.tuple #[.pointer (some ⟨pb, 0, none⟩), .agg #[.slice A gs.length c, .int .i64 st, .bool ar, .int .i64 lf], .bool true])) ((((w5.setCell ⟨w.heap.size + 1 + 1, 0, none⟩ (.slice A gs.length c)).setCell ⟨w.heap.size + 1 + 1, 1, none⟩ (.int .i64 st)).setCell ⟨w.heap.size + 1 + 1, 2, none⟩ (.bool ar)).setCell ⟨w.heap.size + 1 + 1, 3, none⟩ (.int .i64 lf)) := by
  have hR5 := hR.below hb6
  have hb5 : Stp w w5 S0 (foot pb mb gs) := hb4.trans (Below.stp hb6)
  have hR3 := (((hx5.r.set 0 (.slice A gs.length c)).set 1 (.int .i64 st)).set 2 (.bool ar)).set 3 (.int .i64 lf)
  have hk : ∀ k, k ≠ w.heap.size + 1 + 1 → ((((w5.setCell ⟨w.heap.size + 1 + 1, 0, none⟩ (.slice A gs.length c)).setCell ⟨w.heap.size + 1 + 1, 1, none⟩ (.int .i64 st)).setCell ⟨w.heap.size + 1 + 1, 2, none⟩ (.bool ar)).setCell ⟨w.heap.size + 1 + 1, 3, none⟩ (.int .i64 lf)).heap[k]? = w5.heap[k]? := fun k h2 =>
    (setCell_other _ _ _ h2).trans ((setCell_other _ _ _ h2).trans ((setCell_other _ _ _ h2).trans (setCell_other _ _ _ h2)))
  refine ⟨hR3, pb, mb, gs, st, ar, lf, A, c, rfl, ⟨hR5.dr.keep fun k e => hk k (by have := hq k e; omega), own3_keep hR5.own fun k e => hk k (row_ne hR5.own hx5.r (by decide) k e), hR5.vn, hR5.flo, ?_⟩, (((hb5.set (by omega) _ _).set (by omega) _ _).set (by omega) _ _).set (by omega) _ _⟩
  simp only [setCell_size]; exact hR5.le

/-- What the drive's own call leaves, and what the reference then answers. -/
def Out (W0 : World) (lo pb mb : Nat) (gs : List Gm) (A : Option Addr) (c : Nat) (code : Int) (rf : FuncId) (rargs : Array Value) (e : Ending) (w' : World) : Prop :=
  e = .returned (.int .i64 code) ∧ ∃ gs2 st2 ar2 lf2, Dr w' pb mb gs2 st2 ar2 lf2 ∧ Stp W0 w' (foot pb mb gs) (foot pb mb gs2) ∧ (∀ y ∈ gs2, vname y.name = true) ∧
    (w'.ownsRow lo 70 3 (.slice A gs.length c) gs.length (fcs (gs.map Gm.f)) → lo ≤ w'.heap.size → Calls Try.prog rf rargs w' (RAns w' lo gs2 st2 ar2 lf2 code))

set_option maxRecDepth 40000 in
set_option maxHeartbeats 8000000 in
theorem play_k4 {w : World} {lo pb mb : Nat} {gs : List Gm} {st lf : Int} {ar : Bool} {A : Option Addr} {c : Nat} (h : Rel w lo pb mb gs st ar lf A c) (s tn : List UInt8) (B : Option Addr) (bn bc : Nat) (N : Int) (K : Option Addr) (kn kc : Nat) (code : Int)
    (hct : ∀ W0, Dr W0 pb mb gs st ar lf → Calls Try.prog 26 #[.pointer (some ⟨pb, 0, none⟩), .string (str s)] W0 (Out W0 lo pb mb gs A c code 40 #[.agg #[.slice A gs.length c, .int .i64 st, .bool ar, .int .i64 lf], .string (str s)])) :
    Calls Try.prog 14 #[.pointer (some ⟨pb, 0, none⟩), .agg #[.slice A gs.length c, .int .i64 st, .bool ar, .int .i64 lf], .agg #[.int .i64 4, .string (str s), .string (str tn), .slice B bn bc, .int .i64 N, .slice K kn kc]] w (PlayPost w lo (foot pb mb gs)) := by
  have hfew := h.dr.few
  have hx0 := Bx.start w A gs.length c st ar lf (opcs 4 s tn B bn bc N K kn kc)
  have hb0 : Below w.heap.size w (((w.alloc (dobj (dcs A gs.length c st ar lf))).alloc (.cells (opcs 4 s tn B bn bc N K kn kc) 43)).alloc (dobj zcs)) := (((Below.refl _ w).alloc (Nat.le_refl _) _).alloc (by simp) _).alloc (by simp; omega) _
  have hW : (((w.alloc (dobj (dcs A gs.length c st ar lf))).alloc (.cells (opcs 4 s tn B bn bc N K kn kc) 43)).alloc (dobj zcs)).heap.size = w.heap.size + 3 := by simp
  have hcc := hct _ (h.dr.below hb0 (Nat.le_refl _))
  have H := Lib.hid h
  have HX := Lib.hid hx0
  have HW := Lib.hid hW
  clear h hx0 hW hct
  go_enter Try.func14, Try.ntmps14
  go_wp2_with (go_at_call 26; refine hcc.mono ?_; rintro e w2 ⟨rfl, gs2, st2, ar2, lf2, hD, hS, hvn, hrf⟩
               obtain ⟨ho2, hx2, hf2, hb2, hz2, hq2⟩ := mid H.out hb0 HW.out HX.out hD hS
               have o1 : w2.cell? ⟨w.heap.size + 1, 1, none⟩ = some (.string (str s)) := hx2.o.cell rfl
               have o2 : w2.cell? ⟨w.heap.size + 1, 2, none⟩ = some (.string (str tn)) := hx2.o.cell rfl
               have o4 : w2.cell? ⟨w.heap.size + 1, 4, none⟩ = some (.int .i64 N) := hx2.o.cell rfl
               have d0 : w2.cell? ⟨w.heap.size, 0, none⟩ = some (.slice A gs.length c) := hx2.d.cell rfl
               have d1 : w2.cell? ⟨w.heap.size, 1, none⟩ = some (.int .i64 st) := hx2.d.cell rfl
               have d2 : w2.cell? ⟨w.heap.size, 2, none⟩ = some (.bool ar) := hx2.d.cell rfl
               have d3 : w2.cell? ⟨w.heap.size, 3, none⟩ = some (.int .i64 lf) := hx2.d.cell rfl
               have hrc := hrf ho2 (by have := H.out.le; omega)
               have HD := Lib.hid hD
               have HX2 := Lib.hid hx2
               have HV := Lib.hid hvn
               have HQ := Lib.hid hq2
               have HF := Lib.hid hf2
               clear hD hS hx2 ho2 hrf hvn hq2 hf2)
  refine hrc.mono ?_
  rintro e w3 ⟨A3, c3, rfl, ho3, hb3⟩
  obtain ⟨hRel, hx4, hb4⟩ := late (gs0 := gs) H.out.le HD.out HX2.out HF.out hb2 hz2 HQ.out HV.out ho3 hb3
  have hx3 : Bx w w3 A gs.length c st ar lf (opcs 4 s tn B bn bc N K kn kc) := HX2.out.keep fun k h1 h2 => hb3.block k (by omega)
  have d0 : w3.cell? ⟨w.heap.size, 0, none⟩ = some (.slice A gs.length c) := hx3.d.cell rfl
  have d1 : w3.cell? ⟨w.heap.size, 1, none⟩ = some (.int .i64 st) := hx3.d.cell rfl
  have d2 : w3.cell? ⟨w.heap.size, 2, none⟩ = some (.bool ar) := hx3.d.cell rfl
  have d3 : w3.cell? ⟨w.heap.size, 3, none⟩ = some (.int .i64 lf) := hx3.d.cell rfl
  have f0 := hx3.d.frozen 0
  have f1 := hx3.d.frozen 1
  have f2 := hx3.d.frozen 2
  have f3 := hx3.d.frozen 3
  have HR := Lib.hid hRel
  have HX4 := Lib.hid hx4
  clear hRel hx4 hrc hx3 ho3
  go_wp2_with fail
  clear d0 d1 d2 d3 f0 f1 f2 f3
  generalize ((((w3.setCell ⟨w.heap.size, 0, none⟩ (.slice A3 gs2.length c3)).setCell ⟨w.heap.size, 1, none⟩ (.int .i64 st2)).setCell ⟨w.heap.size, 2, none⟩ (.bool ar2)).setCell ⟨w.heap.size, 3, none⟩ (.int .i64 lf2)) = V4 at HR HX4 hb4 ⊢
  have d0 : V4.cell? ⟨w.heap.size, 0, none⟩ = some (.slice A3 gs2.length c3) := HX4.out.d.cell rfl
  have d1 : V4.cell? ⟨w.heap.size, 1, none⟩ = some (.int .i64 st2) := HX4.out.d.cell rfl
  have d2 : V4.cell? ⟨w.heap.size, 2, none⟩ = some (.bool ar2) := HX4.out.d.cell rfl
  have d3 : V4.cell? ⟨w.heap.size, 3, none⟩ = some (.int .i64 lf2) := HX4.out.d.cell rfl
  have hz4 := HX4.out.r.lt
  have hct2 := tells_any (w := V4.drew) (HR.out.dr.keep fun _ _ => rfl) A3 c3 (show Fl V4.drew A3 _ _ from HR.out.fl) HV.out
  have late5 : ∀ w5, Below V4.drew.heap.size V4.drew w5 → Below V4.heap.size V4 w5 ∧ Bx w w5 A3 gs2.length c3 st2 ar2 lf2 (opcs 4 s tn B bn bc N K kn kc) := fun w5 hb5 => by
    have hb6 := (Below.refl V4.heap.size V4).drew.trans hb5
    exact ⟨hb6, HX4.out.keep fun k h1 h2 => hb6.block k (by omega)⟩
  go_region_with (go_at_call 13; refine hct2.mono ?_; rintro e w5 ⟨rfl, hb5⟩
                  obtain ⟨hb6, hx5⟩ := late5 w5 hb5
                  have d0 : w5.cell? ⟨w.heap.size, 0, none⟩ = some (.slice A3 gs2.length c3) := hx5.d.cell rfl
                  have d1 : w5.cell? ⟨w.heap.size, 1, none⟩ = some (.int .i64 st2) := hx5.d.cell rfl
                  have d2 : w5.cell? ⟨w.heap.size, 2, none⟩ = some (.bool ar2) := hx5.d.cell rfl
                  have d3 : w5.cell? ⟨w.heap.size, 3, none⟩ = some (.int .i64 lf2) := hx5.d.cell rfl
                  have r0 : w5.cell? ⟨w.heap.size + 1 + 1, 0, none⟩ = some (.slice none 0 0) := hx5.r.cell rfl
                  have r1 : w5.cell? ⟨w.heap.size + 1 + 1, 1, none⟩ = some (.int .i64 0) := hx5.r.cell rfl
                  have r2 : w5.cell? ⟨w.heap.size + 1 + 1, 2, none⟩ = some (.bool false) := hx5.r.cell rfl
                  have r3 : w5.cell? ⟨w.heap.size + 1 + 1, 3, none⟩ = some (.int .i64 0) := hx5.r.cell rfl
                  have f0 := hx5.r.frozen 0
                  have f1 := hx5.r.frozen 1
                  have f2 := hx5.r.frozen 2
                  have f3 := hx5.r.frozen 3
                  have HX5 := Lib.hid hx5
                  clear hx5)
  all_goals
    go_wp2_with fail
    obtain ⟨hbk, hpp⟩ := fin_play H.out.le HR.out hb4 hb6 HX5.out HQ.out
    exact ret_play (x := .pointer (some ⟨pb, 0, none⟩)) (y := .bool true) rfl rfl rfl rfl rfl hbk hpp

end Go.Proofs.Ytfhlhdpgahbeiaa
