/-
  A whole script: drive and reference agree behind it.
-/
import Derived.Test.YtfhlhdpgahbeiaaOps
namespace Go.Proofs.Ytfhlhdpgahbeiaa
open Go.RowKit Go.Maps
set_option linter.unusedVariables false

/-- What a script leaves. -/
def BuiltPost (w : World) (e : Ending) (w' : World) : Prop :=
  ∃ pb mb gs st ar lf A c, e = .returned (.tuple #[.pointer (some ⟨pb, 0, none⟩), .agg #[.slice A gs.length c, .int .i64 st, .bool ar, .int .i64 lf], .bool true]) ∧ Rel w' w.heap.size pb mb gs st ar lf A c ∧ Below w.heap.size w w'
/-- A box for the reference's drive is none of the drive's blocks. -/
theorem box_foot {w : World} {pb mb : Nat} {gs : List Gm} {st lf : Int} {ar : Bool} (h : Dr w pb mb gs st ar lf) {k : Nat} {cs : Array Value} (hb : Blk w k cs 26) : ¬ foot pb mb gs k := fun hf => by
  unfold Blk at hb
  rcases h.kind hf with ⟨es, cl, hm⟩ | ⟨cs', t, hb', ht⟩
  · rw [hb] at hm; cases hm
  · unfold Blk at hb'
    rw [hb] at hb'; injection hb' with hb'; injection hb' with _ h5
    rcases ht with ht | ht | ht <;> rw [ht] at h5 <;> exact absurd h5 (by decide)

/-- Where the loop over the script stands: the drive's pointer, and all that is known of the world. -/
structure BuS (w wr : World) (M Rb : Nat) (pb mb : Nat) (gs : List Gm) (st : Int) (ar : Bool) (lf : Int) (A : Option Addr) (c : Nat) : Prop where
  rel : Rel wr w.heap.size pb mb gs st ar lf A c
  bel : Below w.heap.size w wr
  m : Blk wr M (dcs A gs.length c st ar lf) 26
  r : Blk wr Rb zcs 26
def BuL (w wr : World) (M Rb : Nat) (v : Value) : Prop := ∃ pb mb gs st ar lf A c, v = .pointer (some ⟨pb, 0, none⟩) ∧ BuS w wr M Rb pb mb gs st ar lf A c

theorem set4_block (m : Nat) (W : World) (v0 v1 v2 v3 : Value) (n : Nat) (h : n ≠ m) : ((((W.setCell ⟨m, 0, none⟩ v0).setCell ⟨m, 1, none⟩ v1).setCell ⟨m, 2, none⟩ v2).setCell ⟨m, 3, none⟩ v3).heap[n]? = W.heap[n]? :=
  (setCell_other _ _ _ h).trans ((setCell_other _ _ _ h).trans ((setCell_other _ _ _ h).trans (setCell_other _ _ _ h)))
theorem set4_below {B m : Nat} {w W : World} (hb : Below B w W) (hm : B ≤ m) (v0 v1 v2 v3 : Value) : Below B w ((((W.setCell ⟨m, 0, none⟩ v0).setCell ⟨m, 1, none⟩ v1).setCell ⟨m, 2, none⟩ v2).setCell ⟨m, 3, none⟩ v3) := by
  refine ⟨?_, ?_, ?_, ?_, fun k hk' => ?_⟩
  · simp only [setCell_os]; exact hb.os
  · simp only [setCell_tape]; exact hb.tape
  · simp only [setCell_output]; exact hb.output
  · simp only [setCell_size]; exact hb.size
  · rw [set4_block _ _ _ _ _ _ _ (by omega)]; exact hb.block k hk'
/-- The reference's answer is stored into its box: nothing else turns. -/
theorem Rel.box {W : World} {lo pb mb m : Nat} {gs : List Gm} {st lf : Int} {ar : Bool} {A : Option Addr} {c : Nat} (h : Rel W lo pb mb gs st ar lf A c) {cs : Array Value} (hm : Blk W m cs 26) (v0 v1 v2 v3 : Value) :
    Rel ((((W.setCell ⟨m, 0, none⟩ v0).setCell ⟨m, 1, none⟩ v1).setCell ⟨m, 2, none⟩ v2).setCell ⟨m, 3, none⟩ v3) lo pb mb gs st ar lf A c := by
  refine ⟨h.dr.keep fun k e => set4_block _ _ _ _ _ _ _ (fun e' => box_foot h.dr hm (e' ▸ e)), own3_keep h.own fun k e => set4_block _ _ _ _ _ _ _ (row_ne h.own hm (by decide) k e), h.vn, h.flo, ?_⟩
  simp only [setCell_size]; exact h.le
theorem Blk.box {W : World} {m : Nat} {A A' : Option Addr} {n n' c c' : Nat} {st lf st' lf' : Int} {ar ar' : Bool} (h : Blk W m (dcs A n c st ar lf) 26) :
    Blk ((((W.setCell ⟨m, 0, none⟩ (.slice A' n' c')).setCell ⟨m, 1, none⟩ (.int .i64 st')).setCell ⟨m, 2, none⟩ (.bool ar')).setCell ⟨m, 3, none⟩ (.int .i64 lf')) m (dcs A' n' c' st' ar' lf') 26 :=
  (((h.set 0 (.slice A' n' c')).set 1 (.int .i64 st')).set 2 (.bool ar')).set 3 (.int .i64 lf')
theorem BuS.next {w wr w2 : World} {M Rb pb mb pb2 mb2 : Nat} {gs gs2 : List Gm} {st lf st2 lf2 : Int} {ar ar2 : Bool} {A A2 : Option Addr} {c c2 : Nat} (h : BuS w wr M Rb pb mb gs st ar lf A c) (hM : w.heap.size ≤ M) (hR : w.heap.size ≤ Rb) (hne : Rb ≠ M)
    (hr : Rel w2 w.heap.size pb2 mb2 gs2 st2 ar2 lf2 A2 c2) (hs : Stp wr w2 (foot pb mb gs) (foot pb2 mb2 gs2)) :
    Blk w2 M (dcs A gs.length c st ar lf) 26 ∧ BuS w ((((w2.setCell ⟨M, 0, none⟩ (.slice A2 gs2.length c2)).setCell ⟨M, 1, none⟩ (.int .i64 st2)).setCell ⟨M, 2, none⟩ (.bool ar2)).setCell ⟨M, 3, none⟩ (.int .i64 lf2)) M Rb pb2 mb2 gs2 st2 ar2 lf2 A2 c2 := by
  have hm : Blk w2 M (dcs A gs.length c st ar lf) 26 := h.m.keep (hs.oth.block M h.m.lt (box_foot h.rel.dr h.m))
  have hrb : Blk w2 Rb zcs 26 := h.r.keep (hs.oth.block Rb h.r.lt (box_foot h.rel.dr h.r))
  exact ⟨hm, hr.box hm _ _ _ _, set4_below (h.bel.trans (hs.oth.below h.rel.flo h.rel.le)) hM _ _ _ _, hm.box, hrb.keep (set4_block _ _ _ _ _ _ _ hne)⟩

theorem Rel.drew {w : World} {lo pb mb : Nat} {gs : List Gm} {st lf : Int} {ar : Bool} {A : Option Addr} {c : Nat} (h : Rel w lo pb mb gs st ar lf A c) : Rel w.drew lo pb mb gs st ar lf A c := ⟨h.dr.keep fun _ _ => rfl, h.own, h.vn, h.flo, h.le⟩
theorem BuS.fin {w wr : World} {M pb mb : Nat} {gs : List Gm} {st lf : Int} {ar : Bool} {A : Option Addr} {c : Nat} (h : BuS w wr M w.heap.size pb mb gs st ar lf A c) :
    Blk ((((wr.setCell ⟨w.heap.size, 0, none⟩ (.slice A gs.length c)).setCell ⟨w.heap.size, 1, none⟩ (.int .i64 st)).setCell ⟨w.heap.size, 2, none⟩ (.bool ar)).setCell ⟨w.heap.size, 3, none⟩ (.int .i64 lf)).drew w.heap.size #[.slice A gs.length c, .int .i64 st, .bool ar, .int .i64 lf] 26 ∧
    BuiltPost w (.returned (.tuple #[.pointer (some ⟨pb, 0, none⟩), .agg #[.slice A gs.length c, .int .i64 st, .bool ar, .int .i64 lf], .bool true])) ((((wr.setCell ⟨w.heap.size, 0, none⟩ (.slice A gs.length c)).setCell ⟨w.heap.size, 1, none⟩ (.int .i64 st)).setCell ⟨w.heap.size, 2, none⟩ (.bool ar)).setCell ⟨w.heap.size, 3, none⟩ (.int .i64 lf)).drew :=
  ⟨(((h.r.set 0 (.slice A gs.length c)).set 1 (.int .i64 st)).set 2 (.bool ar)).set 3 (.int .i64 lf), _, _, _, _, _, _, _, _, rfl, (h.rel.box h.r _ _ _ _).drew, (set4_below h.bel (Nat.le_refl _) _ _ _ _).drew⟩

set_option maxRecDepth 40000 in
set_option maxHeartbeats 8000000 in
theorem built_any {w : World} {A0 : Option Addr} {n0 c0 : Nat} {os : List Od} (h : Ol w A0 n0 os) (hn : n0 ≤ 140737488355328) :
    Calls Try.prog 9 #[.slice A0 n0 c0] w (BuiltPost w) := by
  have H := Lib.hid h
  clear h
  go_enter Try.func9, Try.ntmps9
  go_wp2_with fail
  refine (new_any _).mono ?_
  rintro e w1 ⟨rfl, hD1, hb1⟩
  go_wp2_with fail
  have hb01 : Below w.heap.size w w1 := ((Below.refl _ w).alloc (Nat.le_refl _) _).trans (hb1.mono (by simp))
  have hz1 : w.heap.size + 3 ≤ w1.heap.size := by have := hD1.blk.lt; simp at this; omega
  have hD1' : Dr w1 (w.heap.size + 1 + 1) (w.heap.size + 1) [] 0 false 0 := by simpa using hD1
  have hstart : BuL w (w1.alloc (dobj zcs)) w1.heap.size w.heap.size (.pointer (some ⟨w.heap.size + 1 + 1, 0, none⟩)) := by
    have hR : Blk w1 w.heap.size zcs 26 := (Blk.new w zcs 26).keep (hb1.block _ (by simp))
    refine ⟨_, _, [], 0, false, 0, none, 0, rfl, ⟨hD1'.alloc _, World.ownsRow_nil _ _ _ _, by simp, fun k hk => ?_, by simp; omega⟩, hb01.alloc hb01.size _, Blk.new w1 zcs 26, hR.keep (Below.heap_alloc _ _ _ hR.lt)⟩
    rcases hk with rfl | rfl | ⟨g, hg, _⟩
    · omega
    · omega
    · cases hg
  generalize hM : w1.heap.size = M at hstart ⊢
  have hMR : w.heap.size ≤ M ∧ w.heap.size ≠ M := by omega
  have HS := Lib.hid hstart
  have HMR := Lib.hid hMR
  clear hstart hD1 hD1' hb1 hb01 hz1 hMR
  generalize w1.alloc (dobj zcs) = V0 at HS ⊢
  clear hM
  go_loopw [5, 7, 8] (fun d ok j wr => ∃ k : Nat, k ≤ n0 ∧ j = .int .i64 k ∧ ok = .bool true ∧ BuL w wr M w.heap.size d) (fun _ _ j _ => n0 - (intOf j).toNat)
  case atStart => exact ⟨0, Nat.zero_le _, rfl, rfl, HS.out⟩
  case round =>
    obtain ⟨k, hk, rfl, rfl, hL⟩ := hrel
    obtain ⟨pb, mb, gs, st, ar, lf, A, c, rfl, hS⟩ := hL
    have d0 : wr.cell? ⟨M, 0, none⟩ = some (.slice A gs.length c) := hS.m.cell rfl
    have d1 : wr.cell? ⟨M, 1, none⟩ = some (.int .i64 st) := hS.m.cell rfl
    have d2 : wr.cell? ⟨M, 2, none⟩ = some (.bool ar) := hS.m.cell rfl
    have d3 : wr.cell? ⟨M, 3, none⟩ = some (.int .i64 lf) := hS.m.cell rfl
    by_cases hin : k < n0 ∧ k < 80
    · obtain ⟨hin, h80⟩ := hin
      have hcN : (k : Int) < n0 := by omega
      have hc80 : (k : Int) < 80 := by omega
      have hk0 : (0 : Int) ≤ k := by omega
      obtain ⟨b, off, o, rfl, ho, hok, x0, x1, x2, x3, x4, x5⟩ := (H.out.keep hS.bel).at_ hin
      have hp := play_any (w := wr.drew) (W0 := w) ⟨hS.rel.dr.keep fun _ _ => rfl, hS.rel.own, hS.rel.vn, hS.rel.flo, hS.rel.le⟩ hS.bel.drew o (H.out.2.1 o (List.mem_of_getElem? ho))
      have HR := Lib.hid hS
      clear hS hok ho
      go_wp2_with fail
      go_region_with (go_at_call 14; refine hp.mono ?_; rintro e w2 ⟨pb2, mb2, gs2, st2, ar2, lf2, A2, c2, rfl, hR2, hS2⟩
                      obtain ⟨hm2, hS3⟩ := HR.out.next HMR.out.1 (Nat.le_refl _) HMR.out.2 hR2 ((Below.stp (S := foot pb mb gs) (Below.refl wr.heap.size wr).drew).trans hS2)
                      have d0 : w2.cell? ⟨M, 0, none⟩ = some (.slice A gs.length c) := hm2.cell rfl
                      have d1 : w2.cell? ⟨M, 1, none⟩ = some (.int .i64 st) := hm2.cell rfl
                      have d2 : w2.cell? ⟨M, 2, none⟩ = some (.bool ar) := hm2.cell rfl
                      have d3 : w2.cell? ⟨M, 3, none⟩ = some (.int .i64 lf) := hm2.cell rfl
                      have f0 := hm2.frozen 0
                      have f1 := hm2.frozen 1
                      have f2 := hm2.frozen 2
                      have f3 := hm2.frozen 3
                      have HS3 := Lib.hid hS3
                      clear hm2 hS3 hR2 hS2)
      all_goals
        go_wp2_with fail
        go_roundw
        case rel => exact ⟨k + 1, by omega, by go_num, rfl, _, _, _, _, _, _, _, _, rfl, HS3.out⟩
        case measure => simp [intOf]; omega
    · have hq : ¬ ((k : Int) < n0 ∧ (k : Int) < 80) := by omega
      have r0 : wr.cell? ⟨w.heap.size, 0, none⟩ = some (.slice none 0 0) := hS.r.cell rfl
      have r1 : wr.cell? ⟨w.heap.size, 1, none⟩ = some (.int .i64 0) := hS.r.cell rfl
      have r2 : wr.cell? ⟨w.heap.size, 2, none⟩ = some (.bool false) := hS.r.cell rfl
      have r3 : wr.cell? ⟨w.heap.size, 3, none⟩ = some (.int .i64 0) := hS.r.cell rfl
      have f0 := hS.r.frozen 0
      have f1 := hS.r.frozen 1
      have f2 := hS.r.frozen 2
      have f3 := hS.r.frozen 3
      have HR := Lib.hid hS
      clear hS
      by_cases hin0 : k < n0
      · have hcN : (k : Int) < n0 := by omega
        have hc80 : ¬ (k : Int) < 80 := by omega
        have hk0 : (0 : Int) ≤ k := by omega
        clear hq
        go_wp2_with fail
        go_region
        go_wp2_with fail
        obtain ⟨hbk, hpp⟩ := HR.out.fin
        exact ret_play (x := .pointer (some ⟨pb, 0, none⟩)) (y := .bool true) rfl rfl rfl rfl rfl hbk hpp
      · have hcN : ¬ (k : Int) < n0 := by omega
        clear hq
        go_wp2_with fail
        go_region
        go_wp2_with fail
        obtain ⟨hbk, hpp⟩ := HR.out.fin
        exact ret_play (x := .pointer (some ⟨pb, 0, none⟩)) (y := .bool true) rfl rfl rfl rfl rfl hbk hpp
end Go.Proofs.Ytfhlhdpgahbeiaa
