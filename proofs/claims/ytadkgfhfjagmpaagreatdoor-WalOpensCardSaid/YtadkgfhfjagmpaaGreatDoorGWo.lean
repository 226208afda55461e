/-
  Texts put together: WrO, WrP, WrQ.
-/
import Derived.Test.YtadkgfhfjagmpaaGreatDoorWrF
import Derived.Test.YtadkgfhfjagmpaaGreatDoorWrD
import Derived.Deep.CutBlock
namespace Go.Proofs.YtadkgfhfjagmpaaGreatDoor
open Go.RowKit Go.Maps Num Crc
set_option linter.unusedVariables false

set_option maxRecDepth 40000 in
set_option maxHeartbeats 40000000 in
theorem app_r5 (fs : List Fm) (st : Int) (ar : Bool) (lf seg : Int) (hx : Wx ⟨fs, st, ar, lf, seg, false⟩) (hs2 : seg ≤ 1000000) (P : Option Addr) (np cp : Nat) (p : List UInt8) (A : Option Addr) (c : Nat) (w : World) (lo : Nat) (hp : Sl w P np (bv p)) (h4096 : ¬ 4096 < p.length) (hown : w.ownsRow lo 108 3 (.slice A fs.length c) fs.length (fcs fs)) (hlo : lo ≤ w.heap.size)
    (hr1 : 0 < (oldL (fname seg) fs).data.length) (hr2 : 1024 < (oldL (fname seg) fs).data.length + (seal_ p).length) (h0 : (rollX ⟨fs, st, ar, lf, seg, false⟩).2.2 = 0) (hsg : 999999 < (rollX ⟨fs, st, ar, lf, seg, false⟩).1.seg) :
    Calls Tryz.prog 18 #[xdr A c ⟨fs, st, ar, lf, seg, false⟩, xlg ⟨fs, st, ar, lf, seg, false⟩, .slice P np cp] w (RL w lo (tailX (rollX ⟨fs, st, ar, lf, seg, false⟩).1 (seal_ p)).1 (tailX (rollX ⟨fs, st, ar, lf, seg, false⟩).1 (seal_ p)).2) := by
  have HB0 := Lib.hid (Bx4.start w A c ⟨fs, st, ar, lf, seg, false⟩)
  have HX := Lib.hid hx
  have HO := Lib.hid hown
  have hnl := hp.len
  have hnI : (np : Int) = p.length := by omega
  have hcI : ¬ (4096 : Int) < np := by omega
  have hnp : np ≤ 140737488350000 := by omega
  obtain ⟨bb, hbb⟩ : ∃ bb, bb = seal_ p := ⟨_, rfl⟩
  obtain ⟨od, hod⟩ : ∃ od, od = (oldL (fname seg) fs).data := ⟨_, rfl⟩
  obtain ⟨v0, v2, ok, hfa⟩ := fileA_old fs seg
  rw [← hod] at hfa
  have hse := refSeal_any P np cp p (w4 w A c ⟨fs, st, ar, lf, seg, false⟩) (hp.below (HB0.out.bel.mono (Nat.le_refl _))) hnp
  rw [← hbb] at hse
  have hfi := fun (V : World) (h : Fl V A fs.length fs) => file_any A fs.length c fs st ar lf seg false V h (by have := HX.out.few; simp only at this; omega) hx.seg1 hx.ne
  have hbl : bb.length ≤ 5000 := by rw [hbb, seal_len]; have := vint_len10 (n := p.length) (by omega); omega
  have hol : od.length ≤ 262144 := by
    rw [hod]
    unfold oldL
    cases hq : findK Fm.name (fname seg) fs with
    | none => simp [emptyF]
    | some g => exact (HX.out.sy g (find_some hq).1).2
  have kz := str_size od
  have HSEAL := Lib.hid hse
  have HFILE := Lib.hid hfi
  have HFA := Lib.hid hfa
  rw [← hod] at hr1 hr2
  rw [← hbb] at hr2 ⊢
  have kz8 : (0 : Int) < ((str od).size : Int) := by omega
  have kz9 : (1024 : Int) < ((str od).size : Int) + bb.length := by omega
  clear hse hfi hfa hbb hod hown hx hp hr1 hr2
  have hrr := fun (V : World) ho hl => rlroll_any ⟨fs, st, ar, lf, seg, false⟩ HX.out hs2 A c V lo ho hl
  obtain ⟨hy1, hy2, -, hy4⟩ := roll_wx HX.out hs2
  have hsc : (syncX ⟨fs, st, ar, lf, seg, false⟩).2 = 0 := by
    unfold rollX at h0
    split at h0
    · assumption
    · exact h0
  have hy5 := (hy4 h0).trans (sync_dd (x := ⟨fs, st, ar, lf, seg, false⟩) rfl hsc)
  clear hy4 hsc
  generalize (rollX ⟨fs, st, ar, lf, seg, false⟩).1 = y3 at *
  generalize (rollX ⟨fs, st, ar, lf, seg, false⟩).2.1 = n9 at *
  generalize (rollX ⟨fs, st, ar, lf, seg, false⟩).2.2 = cd0 at *
  subst h0
  obtain ⟨fy, t3, a3, g3, s3, dy⟩ := y3
  obtain rfl : dy = false := hy5
  simp only at hsg
  have HYX := Lib.hid hy1
  have HRR := Lib.hid hrr
  clear hy1 hy2 hrr
  have ht : tailX ⟨fy, t3, a3, g3, s3, false⟩ bb = (⟨fy, t3, a3, g3, s3, false⟩, 5) := by unfold tailX; rw [if_pos hsg]
  rw [ht]
  clear ht
  have d0 := HB0.out.d.cell (k := 0) rfl
  have d1 := HB0.out.d.cell (k := 1) rfl
  have d2 := HB0.out.d.cell (k := 2) rfl
  have d3 := HB0.out.d.cell (k := 3) rfl
  have l0 := HB0.out.l.cell (k := 0) rfl
  have l1 := HB0.out.l.cell (k := 1) rfl
  have r0 := HB0.out.rd.cell (k := 0) rfl
  have r1 := HB0.out.rd.cell (k := 1) rfl
  have r2 := HB0.out.rd.cell (k := 2) rfl
  have r3 := HB0.out.rd.cell (k := 3) rfl
  have s0 := HB0.out.rl.cell (k := 0) rfl
  have s1 := HB0.out.rl.cell (k := 1) rfl
  have f0 := HB0.out.rd.frozen 0
  have f1 := HB0.out.rd.frozen 1
  have f2 := HB0.out.rd.frozen 2
  have f3 := HB0.out.rd.frozen 3
  have g0 := HB0.out.rl.frozen 0
  have g1 := HB0.out.rl.frozen 1
  have e0 := HB0.out.d.frozen 0
  have e1 := HB0.out.d.frozen 1
  have e2 := HB0.out.d.frozen 2
  have e3 := HB0.out.d.frozen 3
  have h0 := HB0.out.l.frozen 0
  have h1 := HB0.out.l.frozen 1
  go_enter Tryz.func18, Tryz.ntmps18
  generalize hU : w4 w A c ⟨fs, st, ar, lf, seg, false⟩ = U at *
  go_wp2_with fail
  refine HSEAL.out.mono ?_
  rintro r w1 ⟨Ab, cb, rfl, hob, hb1⟩
  have HB1 := Lib.hid (HB0.out.below hb1)
  clear d0 d1 d2 d3 l0 l1 r0 r1 r2 r3 s0 s1 f0 f1 f2 f3 g0 g1 e0 e1 e2 e3 h0 h1
  have d0 := HB1.out.d.cell (k := 0) rfl
  have d1 := HB1.out.d.cell (k := 1) rfl
  have d2 := HB1.out.d.cell (k := 2) rfl
  have d3 := HB1.out.d.cell (k := 3) rfl
  have l0 := HB1.out.l.cell (k := 0) rfl
  have l1 := HB1.out.l.cell (k := 1) rfl
  have r0 := HB1.out.rd.cell (k := 0) rfl
  have r1 := HB1.out.rd.cell (k := 1) rfl
  have r2 := HB1.out.rd.cell (k := 2) rfl
  have r3 := HB1.out.rd.cell (k := 3) rfl
  have s0 := HB1.out.rl.cell (k := 0) rfl
  have s1 := HB1.out.rl.cell (k := 1) rfl
  have f0 := HB1.out.rd.frozen 0
  have f1 := HB1.out.rd.frozen 1
  have f2 := HB1.out.rd.frozen 2
  have f3 := HB1.out.rd.frozen 3
  have g0 := HB1.out.rl.frozen 0
  have g1 := HB1.out.rl.frozen 1
  have e0 := HB1.out.d.frozen 0
  have e1 := HB1.out.d.frozen 1
  have e2 := HB1.out.d.frozen 2
  have e3 := HB1.out.d.frozen 3
  have h0 := HB1.out.l.frozen 0
  have h1 := HB1.out.l.frozen 1
  have hfl := HFILE.out w1 (own_fl (own3_below HO.out (HB1.out.bel.mono (Nat.le_refl _))))
  go_wp2_with fail
  refine hfl.mono ?_
  rw [HFA.out]
  rintro r w2 ⟨rfl, hb2⟩
  have HB3 := Lib.hid ((HB1.out.below hb2).below (below_alloc1 w2 (fobj #[.string v0, .string (str od), .int .i64 v2])))
  have hkb := Blk.new w2 #[.string v0, .string (str od), .int .i64 v2] 108
  have k1 := hkb.cell (k := 1) rfl
  have hub : w.heap.size + 4 ≤ U.heap.size := HB0.out.big
  have HOBR := Lib.hid (own_keep hob (hb2.trans ((below_alloc1 w2 (fobj #[.string v0, .string (str od), .int .i64 v2])).mono hb2.size)))
  have hsb := (own_sl hob).below (hb2.trans ((below_alloc1 w2 (fobj #[.string v0, .string (str od), .int .i64 v2])).mono hb2.size))
  have HSB := Lib.hid hsb
  clear hkb hfl hob hb1 hb2 hsb d0 d1 d2 d3 l0 l1 r0 r1 r2 r3 s0 s1 f0 f1 f2 f3 g0 g1 e0 e1 e2 e3 h0 h1
  have d0 := HB3.out.d.cell (k := 0) rfl
  have d1 := HB3.out.d.cell (k := 1) rfl
  have d2 := HB3.out.d.cell (k := 2) rfl
  have d3 := HB3.out.d.cell (k := 3) rfl
  have l0 := HB3.out.l.cell (k := 0) rfl
  have l1 := HB3.out.l.cell (k := 1) rfl
  have r0 := HB3.out.rd.cell (k := 0) rfl
  have r1 := HB3.out.rd.cell (k := 1) rfl
  have r2 := HB3.out.rd.cell (k := 2) rfl
  have r3 := HB3.out.rd.cell (k := 3) rfl
  have s0 := HB3.out.rl.cell (k := 0) rfl
  have s1 := HB3.out.rl.cell (k := 1) rfl
  have f0 := HB3.out.rd.frozen 0
  have f1 := HB3.out.rd.frozen 1
  have f2 := HB3.out.rd.frozen 2
  have f3 := HB3.out.rd.frozen 3
  have g0 := HB3.out.rl.frozen 0
  have g1 := HB3.out.rl.frozen 1
  have e0 := HB3.out.d.frozen 0
  have e1 := HB3.out.d.frozen 1
  have e2 := HB3.out.d.frozen 2
  have e3 := HB3.out.d.frozen 3
  have h0 := HB3.out.l.frozen 0
  have h1 := HB3.out.l.frozen 1
  go_wp2_with fail
  all_goals try (exfalso; omega)
  refine (HRR.out _ (own3_below HO.out (HB3.out.bel.mono (Nat.le_refl _))) (Nat.le_trans hlo HB3.out.bel.size)).mono ?_
  rintro r w6 ⟨A6, c6, rfl, ho6, hb6⟩
  have HB6 := Lib.hid (HB3.out.below hb6)
  have HO6 := Lib.hid ho6
  have hrw6 := own_keep HOBR.out hb6
  obtain ⟨hB7, hk7⟩ := HB6.out.setB (A' := A6) (c' := c6) ⟨fy, t3, a3, g3, s3, false⟩
  have ho7 := own3_keep ho6 fun k hk => hk7 k (row_ne ho6 HB6.out.d (by decide) k hk) (row_ne ho6 HB6.out.l (by decide) k hk)
  have hsl7 : Sl ((((((w6.setCell ⟨w.heap.size, 0, none⟩ (.slice A6 fy.length c6)).setCell ⟨w.heap.size, 1, none⟩ (.int .i64 t3)).setCell ⟨w.heap.size, 2, none⟩ (.bool a3)).setCell ⟨w.heap.size, 3, none⟩ (.int .i64 g3)).setCell ⟨w.heap.size + 1, 0, none⟩ (.int .i64 s3)).setCell ⟨w.heap.size + 1, 1, none⟩ (.bool false)) Ab bb.length (bv bb) := own_sl (own_set (own_set (own_set (own_set (own_set (own_set hrw6 (by omega)) (by omega)) (by omega)) (by omega)) (by omega)) (by omega))
  have HB7r := Lib.hid (And.intro hB7 ho7)
  have HSB7 := Lib.hid hsl7
  clear hB7 hk7 ho7 hsl7 hrw6 ho6 hb6 d0 d1 d2 d3 l0 l1 r0 r1 r2 r3 s0 s1 f0 f1 f2 f3 g0 g1 e0 e1 e2 e3 h0 h1
  have d0 := HB6.out.d.cell (k := 0) rfl
  have d1 := HB6.out.d.cell (k := 1) rfl
  have d2 := HB6.out.d.cell (k := 2) rfl
  have d3 := HB6.out.d.cell (k := 3) rfl
  have l0 := HB6.out.l.cell (k := 0) rfl
  have l1 := HB6.out.l.cell (k := 1) rfl
  have r0 := HB6.out.rd.cell (k := 0) rfl
  have r1 := HB6.out.rd.cell (k := 1) rfl
  have r2 := HB6.out.rd.cell (k := 2) rfl
  have r3 := HB6.out.rd.cell (k := 3) rfl
  have s0 := HB6.out.rl.cell (k := 0) rfl
  have s1 := HB6.out.rl.cell (k := 1) rfl
  have f0 := HB6.out.rd.frozen 0
  have f1 := HB6.out.rd.frozen 1
  have f2 := HB6.out.rd.frozen 2
  have f3 := HB6.out.rd.frozen 3
  have g0 := HB6.out.rl.frozen 0
  have g1 := HB6.out.rl.frozen 1
  have e0 := HB6.out.d.frozen 0
  have e1 := HB6.out.d.frozen 1
  have e2 := HB6.out.d.frozen 2
  have e3 := HB6.out.d.frozen 3
  have h0 := HB6.out.l.frozen 0
  have h1 := HB6.out.l.frozen 1
  go_upto_region 13 with fail
  all_goals try (exfalso; omega)
  generalize ((((((w6.setCell ⟨w.heap.size, 0, none⟩ (.slice A6 fy.length c6)).setCell ⟨w.heap.size, 1, none⟩ (.int .i64 t3)).setCell ⟨w.heap.size, 2, none⟩ (.bool a3)).setCell ⟨w.heap.size, 3, none⟩ (.int .i64 g3)).setCell ⟨w.heap.size + 1, 0, none⟩ (.int .i64 s3)).setCell ⟨w.heap.size + 1, 1, none⟩ (.bool false)) = V3 at *
  clear d0 d1 d2 d3 l0 l1 r0 r1 r2 r3 s0 s1 f0 f1 f2 f3 g0 g1 e0 e1 e2 e3 h0 h1
  have d0 := HB7r.out.1.d.cell (k := 0) rfl
  have d1 := HB7r.out.1.d.cell (k := 1) rfl
  have d2 := HB7r.out.1.d.cell (k := 2) rfl
  have d3 := HB7r.out.1.d.cell (k := 3) rfl
  have l0 := HB7r.out.1.l.cell (k := 0) rfl
  have l1 := HB7r.out.1.l.cell (k := 1) rfl
  have r0 := HB7r.out.1.rd.cell (k := 0) rfl
  have r1 := HB7r.out.1.rd.cell (k := 1) rfl
  have r2 := HB7r.out.1.rd.cell (k := 2) rfl
  have r3 := HB7r.out.1.rd.cell (k := 3) rfl
  have s0 := HB7r.out.1.rl.cell (k := 0) rfl
  have s1 := HB7r.out.1.rl.cell (k := 1) rfl
  have f0 := HB7r.out.1.rd.frozen 0
  have f1 := HB7r.out.1.rd.frozen 1
  have f2 := HB7r.out.1.rd.frozen 2
  have f3 := HB7r.out.1.rd.frozen 3
  have g0 := HB7r.out.1.rl.frozen 0
  have g1 := HB7r.out.1.rl.frozen 1
  have e0 := HB7r.out.1.d.frozen 0
  have e1 := HB7r.out.1.d.frozen 1
  have e2 := HB7r.out.1.d.frozen 2
  have e3 := HB7r.out.1.d.frozen 3
  have h0 := HB7r.out.1.l.frozen 0
  have h1 := HB7r.out.1.l.frozen 1
  go_region_with (fail)
  all_goals
    go_wp2_with fail
    exact end_dl (y := ⟨fy, t3, a3, g3, s3, false⟩) HB7r.out.1 HB7r.out.2 rfl rfl rfl rfl rfl
end Go.Proofs.YtadkgfhfjagmpaaGreatDoor

namespace Go.Proofs.YtadkgfhfjagmpaaGreatDoor
open Go.RowKit Go.Maps Num Crc
set_option linter.unusedVariables false

set_option maxRecDepth 40000 in
set_option maxHeartbeats 40000000 in
theorem app_r6 (fs : List Fm) (st : Int) (ar : Bool) (lf seg : Int) (hx : Wx ⟨fs, st, ar, lf, seg, false⟩) (hs2 : seg ≤ 1000000) (P : Option Addr) (np cp : Nat) (p : List UInt8) (A : Option Addr) (c : Nat) (w : World) (lo : Nat) (hp : Sl w P np (bv p)) (h4096 : ¬ 4096 < p.length) (hown : w.ownsRow lo 108 3 (.slice A fs.length c) fs.length (fcs fs)) (hlo : lo ≤ w.heap.size)
    (hr1 : 0 < (oldL (fname seg) fs).data.length) (hr2 : 1024 < (oldL (fname seg) fs).data.length + (seal_ p).length) (h0 : (rollX ⟨fs, st, ar, lf, seg, false⟩).2.2 = 6) :
    Calls Tryz.prog 18 #[xdr A c ⟨fs, st, ar, lf, seg, false⟩, xlg ⟨fs, st, ar, lf, seg, false⟩, .slice P np cp] w (RL w lo (rollX ⟨fs, st, ar, lf, seg, false⟩).1 6) := by
  have HB0 := Lib.hid (Bx4.start w A c ⟨fs, st, ar, lf, seg, false⟩)
  have HX := Lib.hid hx
  have HO := Lib.hid hown
  have hnl := hp.len
  have hnI : (np : Int) = p.length := by omega
  have hcI : ¬ (4096 : Int) < np := by omega
  have hnp : np ≤ 140737488350000 := by omega
  obtain ⟨bb, hbb⟩ : ∃ bb, bb = seal_ p := ⟨_, rfl⟩
  obtain ⟨od, hod⟩ : ∃ od, od = (oldL (fname seg) fs).data := ⟨_, rfl⟩
  obtain ⟨v0, v2, ok, hfa⟩ := fileA_old fs seg
  rw [← hod] at hfa
  have hse := refSeal_any P np cp p (w4 w A c ⟨fs, st, ar, lf, seg, false⟩) (hp.below (HB0.out.bel.mono (Nat.le_refl _))) hnp
  rw [← hbb] at hse
  have hfi := fun (V : World) (h : Fl V A fs.length fs) => file_any A fs.length c fs st ar lf seg false V h (by have := HX.out.few; simp only at this; omega) hx.seg1 hx.ne
  have hbl : bb.length ≤ 5000 := by rw [hbb, seal_len]; have := vint_len10 (n := p.length) (by omega); omega
  have hol : od.length ≤ 262144 := by
    rw [hod]
    unfold oldL
    cases hq : findK Fm.name (fname seg) fs with
    | none => simp [emptyF]
    | some g => exact (HX.out.sy g (find_some hq).1).2
  have kz := str_size od
  have HSEAL := Lib.hid hse
  have HFILE := Lib.hid hfi
  have HFA := Lib.hid hfa
  rw [← hod] at hr1 hr2
  rw [← hbb] at hr2
  have kz8 : (0 : Int) < ((str od).size : Int) := by omega
  have kz9 : (1024 : Int) < ((str od).size : Int) + bb.length := by omega
  clear hse hfi hfa hbb hod hown hx hp hr1 hr2
  have hrr := fun (V : World) ho hl => rlroll_any ⟨fs, st, ar, lf, seg, false⟩ HX.out hs2 A c V lo ho hl
  obtain ⟨hy1, hy2, -, hy4⟩ := roll_wx HX.out hs2
  clear hy4
  generalize (rollX ⟨fs, st, ar, lf, seg, false⟩).1 = y3 at *
  generalize (rollX ⟨fs, st, ar, lf, seg, false⟩).2.1 = n9 at *
  generalize (rollX ⟨fs, st, ar, lf, seg, false⟩).2.2 = cd0 at *
  subst h0
  obtain ⟨fy, t3, a3, g3, s3, dy⟩ := y3
  have HYX := Lib.hid hy1
  have HRR := Lib.hid hrr
  clear hy1 hy2 hrr
  have d0 := HB0.out.d.cell (k := 0) rfl
  have d1 := HB0.out.d.cell (k := 1) rfl
  have d2 := HB0.out.d.cell (k := 2) rfl
  have d3 := HB0.out.d.cell (k := 3) rfl
  have l0 := HB0.out.l.cell (k := 0) rfl
  have l1 := HB0.out.l.cell (k := 1) rfl
  have r0 := HB0.out.rd.cell (k := 0) rfl
  have r1 := HB0.out.rd.cell (k := 1) rfl
  have r2 := HB0.out.rd.cell (k := 2) rfl
  have r3 := HB0.out.rd.cell (k := 3) rfl
  have s0 := HB0.out.rl.cell (k := 0) rfl
  have s1 := HB0.out.rl.cell (k := 1) rfl
  have f0 := HB0.out.rd.frozen 0
  have f1 := HB0.out.rd.frozen 1
  have f2 := HB0.out.rd.frozen 2
  have f3 := HB0.out.rd.frozen 3
  have g0 := HB0.out.rl.frozen 0
  have g1 := HB0.out.rl.frozen 1
  have e0 := HB0.out.d.frozen 0
  have e1 := HB0.out.d.frozen 1
  have e2 := HB0.out.d.frozen 2
  have e3 := HB0.out.d.frozen 3
  have h0 := HB0.out.l.frozen 0
  have h1 := HB0.out.l.frozen 1
  go_enter Tryz.func18, Tryz.ntmps18
  generalize hU : w4 w A c ⟨fs, st, ar, lf, seg, false⟩ = U at *
  go_wp2_with fail
  refine HSEAL.out.mono ?_
  rintro r w1 ⟨Ab, cb, rfl, hob, hb1⟩
  have HB1 := Lib.hid (HB0.out.below hb1)
  clear d0 d1 d2 d3 l0 l1 r0 r1 r2 r3 s0 s1 f0 f1 f2 f3 g0 g1 e0 e1 e2 e3 h0 h1
  have d0 := HB1.out.d.cell (k := 0) rfl
  have d1 := HB1.out.d.cell (k := 1) rfl
  have d2 := HB1.out.d.cell (k := 2) rfl
  have d3 := HB1.out.d.cell (k := 3) rfl
  have l0 := HB1.out.l.cell (k := 0) rfl
  have l1 := HB1.out.l.cell (k := 1) rfl
  have r0 := HB1.out.rd.cell (k := 0) rfl
  have r1 := HB1.out.rd.cell (k := 1) rfl
  have r2 := HB1.out.rd.cell (k := 2) rfl
  have r3 := HB1.out.rd.cell (k := 3) rfl
  have s0 := HB1.out.rl.cell (k := 0) rfl
  have s1 := HB1.out.rl.cell (k := 1) rfl
  have f0 := HB1.out.rd.frozen 0
  have f1 := HB1.out.rd.frozen 1
  have f2 := HB1.out.rd.frozen 2
  have f3 := HB1.out.rd.frozen 3
  have g0 := HB1.out.rl.frozen 0
  have g1 := HB1.out.rl.frozen 1
  have e0 := HB1.out.d.frozen 0
  have e1 := HB1.out.d.frozen 1
  have e2 := HB1.out.d.frozen 2
  have e3 := HB1.out.d.frozen 3
  have h0 := HB1.out.l.frozen 0
  have h1 := HB1.out.l.frozen 1
  have hfl := HFILE.out w1 (own_fl (own3_below HO.out (HB1.out.bel.mono (Nat.le_refl _))))
  go_wp2_with fail
  refine hfl.mono ?_
  rw [HFA.out]
  rintro r w2 ⟨rfl, hb2⟩
  have HB3 := Lib.hid ((HB1.out.below hb2).below (below_alloc1 w2 (fobj #[.string v0, .string (str od), .int .i64 v2])))
  have hkb := Blk.new w2 #[.string v0, .string (str od), .int .i64 v2] 108
  have k1 := hkb.cell (k := 1) rfl
  have hub : w.heap.size + 4 ≤ U.heap.size := HB0.out.big
  have HOBR := Lib.hid (own_keep hob (hb2.trans ((below_alloc1 w2 (fobj #[.string v0, .string (str od), .int .i64 v2])).mono hb2.size)))
  have hsb := (own_sl hob).below (hb2.trans ((below_alloc1 w2 (fobj #[.string v0, .string (str od), .int .i64 v2])).mono hb2.size))
  have HSB := Lib.hid hsb
  clear hkb hfl hob hb1 hb2 hsb d0 d1 d2 d3 l0 l1 r0 r1 r2 r3 s0 s1 f0 f1 f2 f3 g0 g1 e0 e1 e2 e3 h0 h1
  have d0 := HB3.out.d.cell (k := 0) rfl
  have d1 := HB3.out.d.cell (k := 1) rfl
  have d2 := HB3.out.d.cell (k := 2) rfl
  have d3 := HB3.out.d.cell (k := 3) rfl
  have l0 := HB3.out.l.cell (k := 0) rfl
  have l1 := HB3.out.l.cell (k := 1) rfl
  have r0 := HB3.out.rd.cell (k := 0) rfl
  have r1 := HB3.out.rd.cell (k := 1) rfl
  have r2 := HB3.out.rd.cell (k := 2) rfl
  have r3 := HB3.out.rd.cell (k := 3) rfl
  have s0 := HB3.out.rl.cell (k := 0) rfl
  have s1 := HB3.out.rl.cell (k := 1) rfl
  have f0 := HB3.out.rd.frozen 0
  have f1 := HB3.out.rd.frozen 1
  have f2 := HB3.out.rd.frozen 2
  have f3 := HB3.out.rd.frozen 3
  have g0 := HB3.out.rl.frozen 0
  have g1 := HB3.out.rl.frozen 1
  have e0 := HB3.out.d.frozen 0
  have e1 := HB3.out.d.frozen 1
  have e2 := HB3.out.d.frozen 2
  have e3 := HB3.out.d.frozen 3
  have h0 := HB3.out.l.frozen 0
  have h1 := HB3.out.l.frozen 1
  go_wp2_with fail
  all_goals try (exfalso; omega)
  refine (HRR.out _ (own3_below HO.out (HB3.out.bel.mono (Nat.le_refl _))) (Nat.le_trans hlo HB3.out.bel.size)).mono ?_
  rintro r w6 ⟨A6, c6, rfl, ho6, hb6⟩
  have HB6 := Lib.hid (HB3.out.below hb6)
  have HO6 := Lib.hid ho6
  have hrw6 := own_keep HOBR.out hb6
  obtain ⟨hB7, hk7⟩ := HB6.out.setB (A' := A6) (c' := c6) ⟨fy, t3, a3, g3, s3, dy⟩
  have ho7 := own3_keep ho6 fun k hk => hk7 k (row_ne ho6 HB6.out.d (by decide) k hk) (row_ne ho6 HB6.out.l (by decide) k hk)
  have hsl7 : Sl ((((((w6.setCell ⟨w.heap.size, 0, none⟩ (.slice A6 fy.length c6)).setCell ⟨w.heap.size, 1, none⟩ (.int .i64 t3)).setCell ⟨w.heap.size, 2, none⟩ (.bool a3)).setCell ⟨w.heap.size, 3, none⟩ (.int .i64 g3)).setCell ⟨w.heap.size + 1, 0, none⟩ (.int .i64 s3)).setCell ⟨w.heap.size + 1, 1, none⟩ (.bool dy)) Ab bb.length (bv bb) := own_sl (own_set (own_set (own_set (own_set (own_set (own_set hrw6 (by omega)) (by omega)) (by omega)) (by omega)) (by omega)) (by omega))
  have HB7r := Lib.hid (And.intro hB7 ho7)
  have HSB7 := Lib.hid hsl7
  clear hB7 hk7 ho7 hsl7 hrw6 ho6 hb6 d0 d1 d2 d3 l0 l1 r0 r1 r2 r3 s0 s1 f0 f1 f2 f3 g0 g1 e0 e1 e2 e3 h0 h1
  have d0 := HB6.out.d.cell (k := 0) rfl
  have d1 := HB6.out.d.cell (k := 1) rfl
  have d2 := HB6.out.d.cell (k := 2) rfl
  have d3 := HB6.out.d.cell (k := 3) rfl
  have l0 := HB6.out.l.cell (k := 0) rfl
  have l1 := HB6.out.l.cell (k := 1) rfl
  have r0 := HB6.out.rd.cell (k := 0) rfl
  have r1 := HB6.out.rd.cell (k := 1) rfl
  have r2 := HB6.out.rd.cell (k := 2) rfl
  have r3 := HB6.out.rd.cell (k := 3) rfl
  have s0 := HB6.out.rl.cell (k := 0) rfl
  have s1 := HB6.out.rl.cell (k := 1) rfl
  have f0 := HB6.out.rd.frozen 0
  have f1 := HB6.out.rd.frozen 1
  have f2 := HB6.out.rd.frozen 2
  have f3 := HB6.out.rd.frozen 3
  have g0 := HB6.out.rl.frozen 0
  have g1 := HB6.out.rl.frozen 1
  have e0 := HB6.out.d.frozen 0
  have e1 := HB6.out.d.frozen 1
  have e2 := HB6.out.d.frozen 2
  have e3 := HB6.out.d.frozen 3
  have h0 := HB6.out.l.frozen 0
  have h1 := HB6.out.l.frozen 1
  go_upto_region 11 with fail
  all_goals try (exfalso; omega)
  generalize ((((((w6.setCell ⟨w.heap.size, 0, none⟩ (.slice A6 fy.length c6)).setCell ⟨w.heap.size, 1, none⟩ (.int .i64 t3)).setCell ⟨w.heap.size, 2, none⟩ (.bool a3)).setCell ⟨w.heap.size, 3, none⟩ (.int .i64 g3)).setCell ⟨w.heap.size + 1, 0, none⟩ (.int .i64 s3)).setCell ⟨w.heap.size + 1, 1, none⟩ (.bool dy)) = V3 at *
  clear d0 d1 d2 d3 l0 l1 r0 r1 r2 r3 s0 s1 f0 f1 f2 f3 g0 g1 e0 e1 e2 e3 h0 h1
  have d0 := HB7r.out.1.d.cell (k := 0) rfl
  have d1 := HB7r.out.1.d.cell (k := 1) rfl
  have d2 := HB7r.out.1.d.cell (k := 2) rfl
  have d3 := HB7r.out.1.d.cell (k := 3) rfl
  have l0 := HB7r.out.1.l.cell (k := 0) rfl
  have l1 := HB7r.out.1.l.cell (k := 1) rfl
  have r0 := HB7r.out.1.rd.cell (k := 0) rfl
  have r1 := HB7r.out.1.rd.cell (k := 1) rfl
  have r2 := HB7r.out.1.rd.cell (k := 2) rfl
  have r3 := HB7r.out.1.rd.cell (k := 3) rfl
  have s0 := HB7r.out.1.rl.cell (k := 0) rfl
  have s1 := HB7r.out.1.rl.cell (k := 1) rfl
  have f0 := HB7r.out.1.rd.frozen 0
  have f1 := HB7r.out.1.rd.frozen 1
  have f2 := HB7r.out.1.rd.frozen 2
  have f3 := HB7r.out.1.rd.frozen 3
  have g0 := HB7r.out.1.rl.frozen 0
  have g1 := HB7r.out.1.rl.frozen 1
  have e0 := HB7r.out.1.d.frozen 0
  have e1 := HB7r.out.1.d.frozen 1
  have e2 := HB7r.out.1.d.frozen 2
  have e3 := HB7r.out.1.d.frozen 3
  have h0 := HB7r.out.1.l.frozen 0
  have h1 := HB7r.out.1.l.frozen 1
  go_region_with (fail)
  all_goals
    go_wp2_with fail
    exact end_dl (y := ⟨fy, t3, a3, g3, s3, dy⟩) HB7r.out.1 HB7r.out.2 rfl rfl rfl rfl rfl
end Go.Proofs.YtadkgfhfjagmpaaGreatDoor

namespace Go.Proofs.YtadkgfhfjagmpaaGreatDoor
open Go.RowKit Go.Maps Num Crc
set_option linter.unusedVariables false

set_option maxRecDepth 40000 in
set_option maxHeartbeats 40000000 in
theorem app_n5 (fs : List Fm) (st : Int) (ar : Bool) (lf seg : Int) (hx : Wx ⟨fs, st, ar, lf, seg, false⟩) (hsg : 999999 < seg) (P : Option Addr) (np cp : Nat) (p : List UInt8) (A : Option Addr) (c : Nat) (w : World) (lo : Nat) (hp : Sl w P np (bv p)) (h4096 : ¬ 4096 < p.length) (hown : w.ownsRow lo 108 3 (.slice A fs.length c) fs.length (fcs fs)) (hlo : lo ≤ w.heap.size)
    (hroll : ¬ (0 < (oldL (fname seg) fs).data.length ∧ 1024 < (oldL (fname seg) fs).data.length + (seal_ p).length)) :
    Calls Tryz.prog 18 #[xdr A c ⟨fs, st, ar, lf, seg, false⟩, xlg ⟨fs, st, ar, lf, seg, false⟩, .slice P np cp] w (RL w lo (tailX ⟨fs, st, ar, lf, seg, false⟩ (seal_ p)).1 (tailX ⟨fs, st, ar, lf, seg, false⟩ (seal_ p)).2) := by
  have HB0 := Lib.hid (Bx4.start w A c ⟨fs, st, ar, lf, seg, false⟩)
  have HX := Lib.hid hx
  have HO := Lib.hid hown
  have hnl := hp.len
  have hnI : (np : Int) = p.length := by omega
  have hcI : ¬ (4096 : Int) < np := by omega
  have hnp : np ≤ 140737488350000 := by omega
  obtain ⟨bb, hbb⟩ : ∃ bb, bb = seal_ p := ⟨_, rfl⟩
  obtain ⟨od, hod⟩ : ∃ od, od = (oldL (fname seg) fs).data := ⟨_, rfl⟩
  obtain ⟨v0, v2, ok, hfa⟩ := fileA_old fs seg
  rw [← hod] at hfa
  have hse := refSeal_any P np cp p (w4 w A c ⟨fs, st, ar, lf, seg, false⟩) (hp.below (HB0.out.bel.mono (Nat.le_refl _))) hnp
  rw [← hbb] at hse
  have hfi := fun (V : World) (h : Fl V A fs.length fs) => file_any A fs.length c fs st ar lf seg false V h (by have := HX.out.few; simp only at this; omega) HX.out.seg1 HX.out.ne
  have hbl : bb.length ≤ 5000 := by rw [hbb, seal_len]; have := vint_len10 (n := p.length) (by omega); omega
  have hol : od.length ≤ 262144 := by
    rw [hod]
    unfold oldL
    cases hq : findK Fm.name (fname seg) fs with
    | none => simp [emptyF]
    | some g => exact (HX.out.sy g (find_some hq).1).2
  have kz := str_size od
  have HSEAL := Lib.hid hse
  have HFILE := Lib.hid hfi
  have HFA := Lib.hid hfa
  rw [← hod] at hroll
  rw [← hbb] at hroll ⊢
  have hrI : ¬ (0 : Int) < ((str od).size : Int) ∨ ((0 : Int) < ((str od).size : Int) ∧ ¬ (1024 : Int) < ((str od).size : Int) + bb.length) := by omega
  clear hse hfi hfa hbb hod hown hx hp hroll
  have ht : tailX ⟨fs, st, ar, lf, seg, false⟩ bb = (⟨fs, st, ar, lf, seg, false⟩, 5) := by unfold tailX; rw [if_pos hsg]
  rw [ht]
  clear ht
  rcases hrI with hr1 | ⟨hr1, hr2⟩
  all_goals
    have d0 := HB0.out.d.cell (k := 0) rfl
    have d1 := HB0.out.d.cell (k := 1) rfl
    have d2 := HB0.out.d.cell (k := 2) rfl
    have d3 := HB0.out.d.cell (k := 3) rfl
    have l0 := HB0.out.l.cell (k := 0) rfl
    have l1 := HB0.out.l.cell (k := 1) rfl
    have r0 := HB0.out.rd.cell (k := 0) rfl
    have r1 := HB0.out.rd.cell (k := 1) rfl
    have r2 := HB0.out.rd.cell (k := 2) rfl
    have r3 := HB0.out.rd.cell (k := 3) rfl
    have s0 := HB0.out.rl.cell (k := 0) rfl
    have s1 := HB0.out.rl.cell (k := 1) rfl
    have f0 := HB0.out.rd.frozen 0
    have f1 := HB0.out.rd.frozen 1
    have f2 := HB0.out.rd.frozen 2
    have f3 := HB0.out.rd.frozen 3
    have g0 := HB0.out.rl.frozen 0
    have g1 := HB0.out.rl.frozen 1
    have e0 := HB0.out.d.frozen 0
    have e1 := HB0.out.d.frozen 1
    have e2 := HB0.out.d.frozen 2
    have e3 := HB0.out.d.frozen 3
    have h0 := HB0.out.l.frozen 0
    have h1 := HB0.out.l.frozen 1
    go_enter Tryz.func18, Tryz.ntmps18
    generalize hU : w4 w A c ⟨fs, st, ar, lf, seg, false⟩ = U at *
    go_wp2_with fail
    refine HSEAL.out.mono ?_
    rintro r w1 ⟨Ab, cb, rfl, hob, hb1⟩
    have HB1 := Lib.hid (HB0.out.below hb1)
    clear d0 d1 d2 d3 l0 l1 r0 r1 r2 r3 s0 s1 f0 f1 f2 f3 g0 g1 e0 e1 e2 e3 h0 h1
    have d0 := HB1.out.d.cell (k := 0) rfl
    have d1 := HB1.out.d.cell (k := 1) rfl
    have d2 := HB1.out.d.cell (k := 2) rfl
    have d3 := HB1.out.d.cell (k := 3) rfl
    have l0 := HB1.out.l.cell (k := 0) rfl
    have l1 := HB1.out.l.cell (k := 1) rfl
    have r0 := HB1.out.rd.cell (k := 0) rfl
    have r1 := HB1.out.rd.cell (k := 1) rfl
    have r2 := HB1.out.rd.cell (k := 2) rfl
    have r3 := HB1.out.rd.cell (k := 3) rfl
    have s0 := HB1.out.rl.cell (k := 0) rfl
    have s1 := HB1.out.rl.cell (k := 1) rfl
    have f0 := HB1.out.rd.frozen 0
    have f1 := HB1.out.rd.frozen 1
    have f2 := HB1.out.rd.frozen 2
    have f3 := HB1.out.rd.frozen 3
    have g0 := HB1.out.rl.frozen 0
    have g1 := HB1.out.rl.frozen 1
    have e0 := HB1.out.d.frozen 0
    have e1 := HB1.out.d.frozen 1
    have e2 := HB1.out.d.frozen 2
    have e3 := HB1.out.d.frozen 3
    have h0 := HB1.out.l.frozen 0
    have h1 := HB1.out.l.frozen 1
    have hfl := HFILE.out w1 (own_fl (own3_below HO.out (HB1.out.bel.mono (Nat.le_refl _))))
    go_wp2_with fail
    refine hfl.mono ?_
    rw [HFA.out]
    rintro r w2 ⟨rfl, hb2⟩
    have HB3 := Lib.hid ((HB1.out.below hb2).below (below_alloc1 w2 (fobj #[.string v0, .string (str od), .int .i64 v2])))
    have hkb := Blk.new w2 #[.string v0, .string (str od), .int .i64 v2] 108
    have k1 := hkb.cell (k := 1) rfl
    have hsb := (own_sl hob).below (hb2.trans ((below_alloc1 w2 (fobj #[.string v0, .string (str od), .int .i64 v2])).mono hb2.size))
    have HSB := Lib.hid hsb
    clear hkb hfl hob hb1 hb2 hsb d0 d1 d2 d3 l0 l1 r0 r1 r2 r3 s0 s1 f0 f1 f2 f3 g0 g1 e0 e1 e2 e3 h0 h1
    have d0 := HB3.out.d.cell (k := 0) rfl
    have d1 := HB3.out.d.cell (k := 1) rfl
    have d2 := HB3.out.d.cell (k := 2) rfl
    have d3 := HB3.out.d.cell (k := 3) rfl
    have l0 := HB3.out.l.cell (k := 0) rfl
    have l1 := HB3.out.l.cell (k := 1) rfl
    have r0 := HB3.out.rd.cell (k := 0) rfl
    have r1 := HB3.out.rd.cell (k := 1) rfl
    have r2 := HB3.out.rd.cell (k := 2) rfl
    have r3 := HB3.out.rd.cell (k := 3) rfl
    have s0 := HB3.out.rl.cell (k := 0) rfl
    have s1 := HB3.out.rl.cell (k := 1) rfl
    have f0 := HB3.out.rd.frozen 0
    have f1 := HB3.out.rd.frozen 1
    have f2 := HB3.out.rd.frozen 2
    have f3 := HB3.out.rd.frozen 3
    have g0 := HB3.out.rl.frozen 0
    have g1 := HB3.out.rl.frozen 1
    have e0 := HB3.out.d.frozen 0
    have e1 := HB3.out.d.frozen 1
    have e2 := HB3.out.d.frozen 2
    have e3 := HB3.out.d.frozen 3
    have h0 := HB3.out.l.frozen 0
    have h1 := HB3.out.l.frozen 1
    go_wp2_with fail
    all_goals try (exfalso; omega)
    go_region_with (fail)
    all_goals
      go_wp2_with fail
      exact end_dl (y := ⟨fs, st, ar, lf, seg, false⟩) HB3.out (own3_below HO.out (HB3.out.bel.mono (Nat.le_refl _))) rfl rfl rfl rfl rfl
end Go.Proofs.YtadkgfhfjagmpaaGreatDoor
