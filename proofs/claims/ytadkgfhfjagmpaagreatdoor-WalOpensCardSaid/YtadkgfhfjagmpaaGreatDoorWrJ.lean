/-
  The reference of the log: Append, into a segment that has room.
-/
import Derived.Test.YtadkgfhfjagmpaaGreatDoorWrF
import Derived.Deep.CutBlock
namespace Go.Proofs.YtadkgfhfjagmpaaGreatDoor
open Go.RowKit Go.Maps Num Crc
set_option linter.unusedVariables false

set_option maxRecDepth 40000 in
set_option maxHeartbeats 40000000 in
theorem app_n2 (fs : List Fm) (st : Int) (ar : Bool) (lf seg : Int) (hx : Wx ⟨fs, st, ar, lf, seg, false⟩) (hsg : ¬ 999999 < seg) (P : Option Addr) (np cp : Nat) (p : List UInt8) (A : Option Addr) (c : Nat) (w : World) (lo : Nat) (hp : Sl w P np (bv p)) (h4096 : ¬ 4096 < p.length) (hown : w.ownsRow lo 108 3 (.slice A fs.length c) fs.length (fcs fs)) (hlo : lo ≤ w.heap.size)
    (hr1 : 0 < (oldL (fname seg) fs).data.length) (hr2 : ¬ 1024 < (oldL (fname seg) fs).data.length + (seal_ p).length) :
    Calls Tryz.prog 18 #[xdr A c ⟨fs, st, ar, lf, seg, false⟩, xlg ⟨fs, st, ar, lf, seg, false⟩, .slice P np cp] w (RL w lo (tailX ⟨fs, st, ar, lf, seg, false⟩ (seal_ p)).1 (tailX ⟨fs, st, ar, lf, seg, false⟩ (seal_ p)).2) := by
  have HB0 := Lib.hid (Bx4.start w A c ⟨fs, st, ar, lf, seg, false⟩)
  have HX := Lib.hid hx
  have HO := Lib.hid hown
  have hnl := hp.len
  have hnI : (np : Int) = p.length := by omega
  have hcI : ¬ (4096 : Int) < np := by omega
  have hnp : np ≤ 140737488350000 := by omega
  obtain ⟨bb, hbb⟩ : ∃ bb, bb = seal_ p := ⟨_, rfl⟩
  obtain ⟨od, hod⟩ : ∃ od, od = (oldL (fname seg) fs).data := ⟨_, rfl⟩
  obtain ⟨v0, v2, ok, hfa⟩ := fileA_old fs seg
  rw [← hod] at hfa
  have hse := refSeal_any P np cp p (w4 w A c ⟨fs, st, ar, lf, seg, false⟩) (hp.below (HB0.out.bel.mono (Nat.le_refl _))) hnp
  rw [← hbb] at hse
  have hfi := fun (V : World) (h : Fl V A fs.length fs) => file_any A fs.length c fs st ar lf seg false V h (by have := HX.out.few; simp only at this; omega) hx.seg1 hx.ne
  have hbl : bb.length ≤ 5000 := by rw [hbb, seal_len]; have := vint_len10 (n := p.length) (by omega); omega
  have hol : od.length ≤ 262144 := by
    rw [hod]
    unfold oldL
    cases hq : findK Fm.name (fname seg) fs with
    | none => simp [emptyF]
    | some g => exact (HX.out.sy g (find_some hq).1).2
  have kz := str_size od
  have HSEAL := Lib.hid hse
  have HFILE := Lib.hid hfi
  have HFA := Lib.hid hfa
  rw [← hod] at hr1 hr2
  rw [← hbb] at hr2 ⊢
  have kz8 : (0 : Int) < ((str od).size : Int) := by omega
  have kz9 : ¬ (1024 : Int) < ((str od).size : Int) + bb.length := by omega
  clear hse hfi hfa hbb hod hown hx hp hr1 hr2
  have ht : tailX ⟨fs, st, ar, lf, seg, false⟩ bb = ({ (dappX ⟨fs, st, ar, lf, seg, false⟩ bb).1 with dd := (dappX ⟨fs, st, ar, lf, seg, false⟩ bb).2 == 6 }, (dappX ⟨fs, st, ar, lf, seg, false⟩ bb).2) := by
    unfold tailX doneX
    rw [if_neg hsg, (dapp_wx (y := ⟨fs, st, ar, lf, seg, false⟩) HX.out (by simp only; omega) bb).2.2]
    rfl
  rw [ht]
  clear ht
  have hda := fun (V : World) ho hl => rdapp_any ⟨fs, st, ar, lf, seg, false⟩ HX.out (by simp only; omega) bb (by omega) A c V lo ho hl
  obtain ⟨hw1, hw2, hw3⟩ := dapp_wx (y := ⟨fs, st, ar, lf, seg, false⟩) HX.out (by simp only; omega) bb
  generalize hy5 : (dappX ⟨fs, st, ar, lf, seg, false⟩ bb).1 = y5 at *
  generalize hc5 : (dappX ⟨fs, st, ar, lf, seg, false⟩ bb).2 = cd at *
  obtain ⟨f5, t5, a5, g5, s5, q5⟩ := y5
  obtain rfl : q5 = false := hw3.trans rfl
  obtain rfl : seg = s5 := hw2.symm
  obtain ⟨k, hk⟩ : ∃ k : Nat, seg = k := ⟨seg.toNat, by have := HX.out.seg1; simp only at this; omega⟩
  have hk1 : 1 ≤ (k : Int) ∧ (k : Int) ≤ 999999 := ⟨by have := HX.out.seg1; simp only at this; omega, by omega⟩
  have hnm := fun W => name3_any k (by omega) W
  rw [rname_wname (by omega), show wname k = fname (k : Int) from by unfold fname; rw [if_pos hk1]; rfl, ← hk] at hnm
  have HNM := Lib.hid hnm
  have HDA := Lib.hid hda
  clear hda hnm hw1 hy5 hc5 hk hk1
  have d0 := HB0.out.d.cell (k := 0) rfl
  have d1 := HB0.out.d.cell (k := 1) rfl
  have d2 := HB0.out.d.cell (k := 2) rfl
  have d3 := HB0.out.d.cell (k := 3) rfl
  have l0 := HB0.out.l.cell (k := 0) rfl
  have l1 := HB0.out.l.cell (k := 1) rfl
  have r0 := HB0.out.rd.cell (k := 0) rfl
  have r1 := HB0.out.rd.cell (k := 1) rfl
  have r2 := HB0.out.rd.cell (k := 2) rfl
  have r3 := HB0.out.rd.cell (k := 3) rfl
  have s0 := HB0.out.rl.cell (k := 0) rfl
  have s1 := HB0.out.rl.cell (k := 1) rfl
  have f0 := HB0.out.rd.frozen 0
  have f1 := HB0.out.rd.frozen 1
  have f2 := HB0.out.rd.frozen 2
  have f3 := HB0.out.rd.frozen 3
  have g0 := HB0.out.rl.frozen 0
  have g1 := HB0.out.rl.frozen 1
  have e0 := HB0.out.d.frozen 0
  have e1 := HB0.out.d.frozen 1
  have e2 := HB0.out.d.frozen 2
  have e3 := HB0.out.d.frozen 3
  have h0 := HB0.out.l.frozen 0
  have h1 := HB0.out.l.frozen 1
  go_enter Tryz.func18, Tryz.ntmps18
  generalize hU : w4 w A c ⟨fs, st, ar, lf, seg, false⟩ = U at *
  go_wp2_with fail
  refine HSEAL.out.mono ?_
  rintro r w1 ⟨Ab, cb, rfl, hob, hb1⟩
  have HB1 := Lib.hid (HB0.out.below hb1)
  clear d0 d1 d2 d3 l0 l1 r0 r1 r2 r3 s0 s1 f0 f1 f2 f3 g0 g1 e0 e1 e2 e3 h0 h1
  have d0 := HB1.out.d.cell (k := 0) rfl
  have d1 := HB1.out.d.cell (k := 1) rfl
  have d2 := HB1.out.d.cell (k := 2) rfl
  have d3 := HB1.out.d.cell (k := 3) rfl
  have l0 := HB1.out.l.cell (k := 0) rfl
  have l1 := HB1.out.l.cell (k := 1) rfl
  have r0 := HB1.out.rd.cell (k := 0) rfl
  have r1 := HB1.out.rd.cell (k := 1) rfl
  have r2 := HB1.out.rd.cell (k := 2) rfl
  have r3 := HB1.out.rd.cell (k := 3) rfl
  have s0 := HB1.out.rl.cell (k := 0) rfl
  have s1 := HB1.out.rl.cell (k := 1) rfl
  have f0 := HB1.out.rd.frozen 0
  have f1 := HB1.out.rd.frozen 1
  have f2 := HB1.out.rd.frozen 2
  have f3 := HB1.out.rd.frozen 3
  have g0 := HB1.out.rl.frozen 0
  have g1 := HB1.out.rl.frozen 1
  have e0 := HB1.out.d.frozen 0
  have e1 := HB1.out.d.frozen 1
  have e2 := HB1.out.d.frozen 2
  have e3 := HB1.out.d.frozen 3
  have h0 := HB1.out.l.frozen 0
  have h1 := HB1.out.l.frozen 1
  have hfl := HFILE.out w1 (own_fl (own3_below HO.out (HB1.out.bel.mono (Nat.le_refl _))))
  go_wp2_with fail
  refine hfl.mono ?_
  rw [HFA.out]
  rintro r w2 ⟨rfl, hb2⟩
  have HB3 := Lib.hid ((HB1.out.below hb2).below (below_alloc1 w2 (fobj #[.string v0, .string (str od), .int .i64 v2])))
  have hkb := Blk.new w2 #[.string v0, .string (str od), .int .i64 v2] 108
  have k1 := hkb.cell (k := 1) rfl
  have hsb := (own_sl hob).below (hb2.trans ((below_alloc1 w2 (fobj #[.string v0, .string (str od), .int .i64 v2])).mono hb2.size))
  have HSB := Lib.hid hsb
  clear hkb hfl hob hb1 hb2 hsb d0 d1 d2 d3 l0 l1 r0 r1 r2 r3 s0 s1 f0 f1 f2 f3 g0 g1 e0 e1 e2 e3 h0 h1
  have d0 := HB3.out.d.cell (k := 0) rfl
  have d1 := HB3.out.d.cell (k := 1) rfl
  have d2 := HB3.out.d.cell (k := 2) rfl
  have d3 := HB3.out.d.cell (k := 3) rfl
  have l0 := HB3.out.l.cell (k := 0) rfl
  have l1 := HB3.out.l.cell (k := 1) rfl
  have r0 := HB3.out.rd.cell (k := 0) rfl
  have r1 := HB3.out.rd.cell (k := 1) rfl
  have r2 := HB3.out.rd.cell (k := 2) rfl
  have r3 := HB3.out.rd.cell (k := 3) rfl
  have s0 := HB3.out.rl.cell (k := 0) rfl
  have s1 := HB3.out.rl.cell (k := 1) rfl
  have f0 := HB3.out.rd.frozen 0
  have f1 := HB3.out.rd.frozen 1
  have f2 := HB3.out.rd.frozen 2
  have f3 := HB3.out.rd.frozen 3
  have g0 := HB3.out.rl.frozen 0
  have g1 := HB3.out.rl.frozen 1
  have e0 := HB3.out.d.frozen 0
  have e1 := HB3.out.d.frozen 1
  have e2 := HB3.out.d.frozen 2
  have e3 := HB3.out.d.frozen 3
  have h0 := HB3.out.l.frozen 0
  have h1 := HB3.out.l.frozen 1
  go_upto_region 14 with fail
  all_goals try (exfalso; omega)
  have hcv : ∀ V, Below (w2.alloc (fobj #[.string v0, .string (str od), .int .i64 v2])).heap.size (w2.alloc (fobj #[.string v0, .string (str od), .int .i64 v2])) V → (convert 28 9 (.slice Ab bb.length cb)).run Tryz.prog V = .ok (.string (str bb)) V := fun V hV => run_str (P := Tryz.prog) (c := cb) (HSB.out.below hV) 28 5 9 Tryz.underlying28 Tryz.underlying5 Tryz.underlying9
  have HCV := Lib.hid hcv
  clear hcv
  generalize (w2.alloc (fobj #[.string v0, .string (str od), .int .i64 v2])) = V3 at *
  have hcv0 := HCV.out V3.drew (Below.refl _ _).drew
  have hcv1 := HCV.out V3 (Below.refl _ _)
  go_cut [12] from 13 to 76 (fun s12 wx => ∃ A5 c5, s12 = .int .i64 cd ∧ Bx4 w wx A5 c5 ⟨f5, t5, a5, g5, seg, false⟩ ∧ wx.ownsRow lo 108 3 (.slice A5 f5.length c5) f5.length (fcs f5))
  case first =>
    go_region_with (first
      | (go_at_call 10; refine (HNM.out _).mono ?_; rintro r w3 ⟨rfl, hb3⟩
         have hb23 : Below V3.heap.size V3 w3 := by first | exact hb3 | exact ((Below.refl V3.heap.size V3).drew).trans hb3
         have HB4 := Lib.hid (HB3.out.below hb23)
         have hcv2 := HCV.out w3 hb23
         have d0x := HB4.out.d.cell (k := 0) rfl
         have d1x := HB4.out.d.cell (k := 1) rfl
         have d2x := HB4.out.d.cell (k := 2) rfl
         have d3x := HB4.out.d.cell (k := 3) rfl
         have e0x := HB4.out.d.frozen 0
         have e1x := HB4.out.d.frozen 1
         have e2x := HB4.out.d.frozen 2
         have e3x := HB4.out.d.frozen 3
         clear hb3)
      | (go_at_call 74; refine (HDA.out w3 (own3_below HO.out (HB4.out.bel.mono (Nat.le_refl _))) (Nat.le_trans hlo HB4.out.bel.size)).mono ?_; rintro r w5 ⟨A5, c5, rfl, ho5, hb5⟩
         have HX5 := Lib.hid (And.intro (HB4.out.below hb5) ho5)
         have d0y := HX5.out.1.d.cell (k := 0) rfl
         have d1y := HX5.out.1.d.cell (k := 1) rfl
         have d2y := HX5.out.1.d.cell (k := 2) rfl
         have d3y := HX5.out.1.d.cell (k := 3) rfl
         have e0y := HX5.out.1.d.frozen 0
         have e1y := HX5.out.1.d.frozen 1
         have e2y := HX5.out.1.d.frozen 2
         have e3y := HX5.out.1.d.frozen 3
         clear ho5 hb5))
    all_goals
      go_wp2_with fail
      go_meet
      obtain ⟨hB6, hk6⟩ := HX5.out.1.setD (A' := A5) (c' := c5) ⟨f5, t5, a5, g5, seg, false⟩ rfl rfl
      exact ⟨A5, c5, rfl, hB6, own3_keep HX5.out.2 fun k hk => hk6 k (row_ne HX5.out.2 HX5.out.1.d (by decide) k hk)⟩
  case rest =>
    obtain ⟨A5, c5, rfl, hD5, ho5⟩ := hcut
    have HD5 := Lib.hid (And.intro hD5 ho5)
    clear hD5 ho5 hcv0 hcv1 d0 d1 d2 d3 l0 l1 r0 r1 r2 r3 s0 s1 f0 f1 f2 f3 g0 g1 e0 e1 e2 e3 h0 h1
    have d0 := HD5.out.1.d.cell (k := 0) rfl
    have d1 := HD5.out.1.d.cell (k := 1) rfl
    have d2 := HD5.out.1.d.cell (k := 2) rfl
    have d3 := HD5.out.1.d.cell (k := 3) rfl
    have l0 := HD5.out.1.l.cell (k := 0) rfl
    have l1 := HD5.out.1.l.cell (k := 1) rfl
    have r0 := HD5.out.1.rd.cell (k := 0) rfl
    have r1 := HD5.out.1.rd.cell (k := 1) rfl
    have r2 := HD5.out.1.rd.cell (k := 2) rfl
    have r3 := HD5.out.1.rd.cell (k := 3) rfl
    have s0 := HD5.out.1.rl.cell (k := 0) rfl
    have s1 := HD5.out.1.rl.cell (k := 1) rfl
    have f0 := HD5.out.1.rd.frozen 0
    have f1 := HD5.out.1.rd.frozen 1
    have f2 := HD5.out.1.rd.frozen 2
    have f3 := HD5.out.1.rd.frozen 3
    have g0 := HD5.out.1.rl.frozen 0
    have g1 := HD5.out.1.rl.frozen 1
    have e0 := HD5.out.1.d.frozen 0
    have e1 := HD5.out.1.d.frozen 1
    have e2 := HD5.out.1.d.frozen 2
    have e3 := HD5.out.1.d.frozen 3
    have h0 := HD5.out.1.l.frozen 0
    have h1 := HD5.out.1.l.frozen 1
    go_wp2_with fail
    obtain ⟨hB7, hk7⟩ := HD5.out.1.setM (cd == 6)
    have ho7 := own3_keep HD5.out.2 fun k hk => hk7 k (row_ne HD5.out.2 HD5.out.1.l (by decide) k hk)
    have HB7 := Lib.hid (And.intro hB7 ho7)
    clear hB7 hk7 ho7 d0 d1 d2 d3 l0 l1 r0 r1 r2 r3 s0 s1 f0 f1 f2 f3 g0 g1 e0 e1 e2 e3 h0 h1
    generalize wc.setCell ⟨w.heap.size + 1, 1, none⟩ (.bool (cd == 6)) = V7 at HB7 ⊢
    have d0 := HB7.out.1.d.cell (k := 0) rfl
    have d1 := HB7.out.1.d.cell (k := 1) rfl
    have d2 := HB7.out.1.d.cell (k := 2) rfl
    have d3 := HB7.out.1.d.cell (k := 3) rfl
    have l0 := HB7.out.1.l.cell (k := 0) rfl
    have l1 := HB7.out.1.l.cell (k := 1) rfl
    have r0 := HB7.out.1.rd.cell (k := 0) rfl
    have r1 := HB7.out.1.rd.cell (k := 1) rfl
    have r2 := HB7.out.1.rd.cell (k := 2) rfl
    have r3 := HB7.out.1.rd.cell (k := 3) rfl
    have s0 := HB7.out.1.rl.cell (k := 0) rfl
    have s1 := HB7.out.1.rl.cell (k := 1) rfl
    have f0 := HB7.out.1.rd.frozen 0
    have f1 := HB7.out.1.rd.frozen 1
    have f2 := HB7.out.1.rd.frozen 2
    have f3 := HB7.out.1.rd.frozen 3
    have g0 := HB7.out.1.rl.frozen 0
    have g1 := HB7.out.1.rl.frozen 1
    have e0 := HB7.out.1.d.frozen 0
    have e1 := HB7.out.1.d.frozen 1
    have e2 := HB7.out.1.d.frozen 2
    have e3 := HB7.out.1.d.frozen 3
    have h0 := HB7.out.1.l.frozen 0
    have h1 := HB7.out.1.l.frozen 1
    go_region_with (fail)
    all_goals
      go_wp2_with fail
      exact end_dl (y := ⟨f5, t5, a5, g5, seg, cd == 6⟩) HB7.out.1 HB7.out.2 rfl rfl rfl rfl rfl
end Go.Proofs.YtadkgfhfjagmpaaGreatDoor
