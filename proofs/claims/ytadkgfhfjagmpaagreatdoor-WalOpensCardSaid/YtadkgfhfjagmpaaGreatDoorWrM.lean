/-
  The reference of the log: Open, walked.
-/
import Derived.Test.YtadkgfhfjagmpaaGreatDoorWrL
import Derived.StillTailTactics
import Derived.Deep.CutBlock
namespace Go.Proofs.YtadkgfhfjagmpaaGreatDoor
open Go.RowKit Go.Maps Num Crc
set_option linter.unusedVariables false

theorem segs_in {names : List (List UInt8)} {n : Int} (h : n ∈ segs names) : fname n ∈ names := by
  unfold segs at h
  obtain ⟨h1, h2⟩ := List.mem_filter.1 h
  obtain ⟨s, hs, rfl⟩ := List.mem_map.1 h1
  have h3 : 0 < numI s := by simpa using h2
  obtain ⟨h4, h5⟩ := numI_pos h3
  unfold fname
  rw [if_pos ⟨by omega, h4⟩, ← h5]
  exact hs
set_option maxRecDepth 40000 in
set_option maxHeartbeats 40000000 in
theorem rlopen_any (A : Option Addr) (c : Nat) (fs : List Fm) (st : Int) (ar : Bool) (lf : Int) (w : World) (hF : Fl w A fs.length fs) (hn : fs.length ≤ 256) (hv : ∀ f ∈ fs, vname f.name = true) (hdl : ∀ f ∈ fs, f.data.length ≤ 262144) (f : Int) (hf1 : 1 ≤ f) (hf2 : f ≤ 999999) :
    Calls Tryz.prog 14 #[.agg #[.slice A fs.length c, .int .i64 st, .bool ar, .int .i64 lf], .int .i64 f] w (ROpen w (segO f (segs (fs.map Fm.name))) (psF f fs (segs (fs.map Fm.name))) 0) := by
  have hb0 := Bo.start w A fs.length c st ar lf f
  have HF := Lib.hid hF
  have HV := Lib.hid (And.intro hv hdl)
  clear hF
  go_enter Tryz.func14, Tryz.ntmps14
  go_upto_region 5 with fail
  generalize (((w.alloc (dobj (dcs A fs.length c st ar lf))).alloc (lobj (lcs 0 false))).alloc (lobj (lcs f false))) = U at *
  have HB0 := Lib.hid hb0
  have hsg := rsegs_any A fs.length c fs st ar lf U (HF.out.below (hb0.bel.mono (Nat.le_refl _))) (by omega) hv
  have hln : (segs (fs.map Fm.name)).length ≤ 256 := by
    have h1 := segs_len (fs.map Fm.name)
    rw [List.length_map] at h1
    omega
  have hbd : ∀ n ∈ segs (fs.map Fm.name), (1 ≤ n ∧ n ≤ 999999) ∧ ∃ g ∈ fs, g.name = fname n := fun n hn => by
    refine ⟨segs_bound hn, ?_⟩
    obtain ⟨g, hg, e⟩ := List.mem_map.1 (segs_in hn)
    exact ⟨g, hg, e⟩
  have HBD := Lib.hid hbd
  have d0 := hb0.d.cell (k := 0) rfl
  have d1 := hb0.d.cell (k := 1) rfl
  have d2 := hb0.d.cell (k := 2) rfl
  have d3 := hb0.d.cell (k := 3) rfl
  clear hv hb0 hdl hbd
  generalize segs (fs.map Fm.name) = ns at *
  go_wp2_with fail
  refine hsg.mono ?_
  rintro r w1 ⟨An, cn, rfl, hr, hb1⟩
  have hU3 : w.heap.size + 3 ≤ U.heap.size := HB0.out.big
  have hsz1 := hb1.size
  have HB1 := Lib.hid (HB0.out.below hb1)
  have HSL := Lib.hid (own_sl hr)
  have hlt := hr.lt
  have hAN : ∀ b o, An = some ⟨b, o, none⟩ → U.heap.size ≤ b ∧ b < w1.heap.size := by
    intro b o e
    rcases hr.2 with ⟨e1, _⟩ | ⟨g, cap, cur, e1, hb, h4, _⟩
    · rw [e] at e1; cases e1
    · rw [e] at e1; cases e1; exact ⟨hb, (Array.getElem?_eq_some_iff.1 h4).1⟩
  have HAN := Lib.hid hAN
  have hA : ∀ k, (Value.slice An ns.length cn).ownBlock = some k → ¬ k = w.heap.size + 1 + 1 := fun k e hk => by have := (hlt k e).1; omega
  have HA := Lib.hid hA
  clear d0 d1 d2 d3 hsg hr hb1 hlt hA hAN
  go_wp2_with fail
  go_loopw [8, 10] (fun v j wr => ∃ (i : Nat) (ps : List (List UInt8)) (A' : Option Addr) (c' : Nat) (vs : List Value) (sg : Int), i ≤ ns.length ∧ j = .int .i64 i ∧ v = .slice A' ps.length c' ∧ ps = psF f fs (ns.take i) ∧ sg = segO f (ns.take i) ∧ ps.length ≤ i * 262144 ∧ 1 ≤ sg ∧ sg ≤ 1000000 ∧
    wr.ownsRow w1.heap.size 28 1 (.slice A' ps.length c') ps.length vs ∧ Each wr w1.heap.size vs ps ∧ Bo w wr A fs.length c st ar lf sg ∧ Oth (fun k => k = w.heap.size + 1 + 1) w1 wr) (fun _ j _ => ns.length - (intOf j).toNat)
  case atStart => exact ⟨0, [], none, 0, [], f, Nat.zero_le _, rfl, rfl, rfl, rfl, Nat.zero_le _, hf1, by omega, World.ownsRow_nil _ _ _ _, trivial, HB1.out, ⟨rfl, rfl, rfl, Nat.le_refl _, fun _ _ _ => rfl⟩⟩
  case round =>
    obtain ⟨i, ps, A', c', vs, sg, hi, rfl, rfl, hps, hsg, hpl, hg1, hg2, hown, hea, hbo, hor⟩ := hrel
    have HP := Lib.hid hps
    have HG := Lib.hid hsg
    have HE := Lib.hid hea
    have HBO := Lib.hid hbo
    have HO := Lib.hid hor
    have HOW := Lib.hid hown
    clear hps hsg hea hbo hor hown
    have k1 := HBO.out.l.cell (k := 0) rfl
    have k2 := HBO.out.l.frozen 0
    have d0 := HBO.out.d.cell (k := 0) rfl
    have d1 := HBO.out.d.cell (k := 1) rfl
    have d2 := HBO.out.d.cell (k := 2) rfl
    have d3 := HBO.out.d.cell (k := 3) rfl
    by_cases hin : i < ns.length
    · have hcN : (i : Int) < ns.length := by omega
      obtain ⟨bn, on, u, hAn, hu, hcell⟩ := (sl_stp (c := cn) HSL.out (⟨HO.out, fun k h => Or.inl h⟩ : Stp w1 wr (fun k => k = w.heap.size + 1 + 1) (fun k => k = w.heap.size + 1 + 1)) (fun k e => HA.out k e)).at_ hin
      obtain ⟨nv, hnv⟩ : ∃ nv, ns[i]? = some nv := ⟨_, List.getElem?_eq_getElem hin⟩
      have hu' : u = .int .i64 nv := by
        rw [List.getElem?_map, hnv] at hu
        exact (Option.some.inj hu).symm
      obtain ⟨hbn1, hbn2⟩ := HAN.out bn on hAn
      subst hu' hAn
      obtain ⟨hnb, g, hgm, hgn⟩ := HBD.out nv (List.mem_of_getElem? hnv)
      have hp1 : psF f fs (ns.take (i + 1)) = ps ++ (if f ≤ nv then paysF nv fs else []) := by
        rw [List.take_add_one, hnv, show (some nv).toList = [nv] from rfl, psF_snoc, HP.out]
      have hg3 : segO f (ns.take (i + 1)) = max sg (nv + 1) := by
        rw [List.take_add_one, hnv, show (some nv).toList = [nv] from rfl, segO_snoc, HG.out]
      have HG3 := Lib.hid hg3
      have HP1 := Lib.hid hp1
      have HGM := Lib.hid (And.intro hgm hgn)
      have hrs : w1.heap.size ≤ wr.heap.size := HO.out.size
      clear hu hnv hp1 hg3 hgm hgn
      go_wp2_with fail
      go_still_tail 9, (by kernel_rfl)
      change wpList _ _ _ _ _ wr.drew
      have hBd : Bo w wr.drew A fs.length c st ar lf sg := HBO.out.below ((Below.refl _ _).drew)
      have hOd : Oth (fun k => k = w.heap.size + 1 + 1) w1 wr.drew := ⟨HO.out.os, HO.out.tape, HO.out.output, HO.out.size, HO.out.block⟩
      have hWd : wr.drew.ownsRow w1.heap.size 28 1 (.slice A' ps.length c') ps.length vs := HOW.out
      have hEd : Each wr.drew w1.heap.size vs ps := HE.out.below ((Below.refl _ _).drew)
      have hcd : wr.drew.cell? ⟨bn, on + i, none⟩ = some (.int .i64 nv) := hcell
      have hzd : w1.heap.size ≤ wr.drew.heap.size := hrs
      clear k1 k2 d0 d1 d2 d3 HBO HO HOW HE hcell hrs
      generalize wr.drew = wd at *
      have HD := Lib.hid (And.intro hBd (And.intro hOd (And.intro hWd hEd)))
      have k1 := hBd.l.cell (k := 0) rfl
      have k2 := hBd.l.frozen 0
      clear hBd hOd hWd hEd
      by_cases hfn : f ≤ nv
      · have hp2 := HP1.out
        rw [if_pos hfn] at hp2
        obtain ⟨q, hq⟩ : ∃ q, q = findK Fm.name (fname nv) fs := ⟨_, rfl⟩
        cases q with
        | none =>
          exfalso
          exact find_none hq.symm g HGM.out.1 HGM.out.2
        | some g2 =>
          obtain ⟨ix, hix, hfi, hil⟩ := atK_some hq.symm
          obtain ⟨l, hl⟩ : ∃ l, l = g2.data := ⟨_, rfl⟩
          have hpf : paysF nv fs = (scan l).1 := by
            unfold paysF oldL
            rw [← hq, hl]
          have hll : l.length ≤ 262144 := hl ▸ HV.out.2 g2 (List.mem_of_getElem? hfi)
          obtain ⟨bf, of_, f2', hA, hf2', x1, x2, x3⟩ := HF.out.at_ (i := ix) hil
          rw [hfi] at hf2'
          obtain rfl := Option.some.inj hf2'
          rw [← hl] at x2
          obtain ⟨k, hk⟩ : ∃ k : Nat, nv = k := ⟨nv.toNat, by omega⟩
          have hk1 : 1 ≤ (k : Int) ∧ (k : Int) ≤ 999999 := by omega
          have hnm := fun W => name3_any k (by omega) W
          rw [rname_wname (by omega), show wname k = fname (k : Int) from by unfold fname; rw [if_pos hk1]; rfl, ← hk] at hnm
          have hat := fun W (h : Fl W A fs.length fs) => at_any A fs.length c fs st ar lf (fname nv) W h (by omega)
          rw [hix] at hat
          have hql : (scan l).1.length ≤ 262144 := Nat.le_trans (scan_len _) hll
          rw [hpf] at hp2
          have HP2 := Lib.hid hp2
          have HNM := Lib.hid hnm
          have HAT := Lib.hid hat
          have HX2 := Lib.hid x2
          have hilI : (ix : Int) < fs.length := by omega
          clear hp2 hnm hat x1 x2 x3 hix hfi hl hpf hq hk hk1 HP1
          subst hA
          go_wp2_with fail
          have hb9 := HD.out.1.setl (max sg (nv + 1))
          have ho9 := oth_set (k := 0) (v := .int .i64 (max sg (nv + 1))) HD.out.2.1 rfl
          have hw9 : (wd.setCell ⟨w.heap.size + 1 + 1, 0, none⟩ (.int .i64 (max sg (nv + 1)))).ownsRow w1.heap.size 28 1 (.slice A' ps.length c') ps.length vs := own_set HD.out.2.2.1 (by omega)
          have he9 : Each (wd.setCell ⟨w.heap.size + 1 + 1, 0, none⟩ (.int .i64 (max sg (nv + 1)))) w1.heap.size vs ps := each_set HD.out.2.2.2 (by omega)
          have hc9 : (wd.setCell ⟨w.heap.size + 1 + 1, 0, none⟩ (.int .i64 (max sg (nv + 1)))).cell? ⟨bn, on + i, none⟩ = some (.int .i64 nv) := (World.cell?_of_block (w := wd) (setCell_other _ _ _ (show bn ≠ w.heap.size + 1 + 1 by omega))).trans hcd
          have hz9 : w1.heap.size ≤ (wd.setCell ⟨w.heap.size + 1 + 1, 0, none⟩ (.int .i64 (max sg (nv + 1)))).heap.size := by rw [setCell_size]; exact hzd
          have H9 := Lib.hid (And.intro hb9 (And.intro ho9 (And.intro hw9 (And.intro he9 hc9))))
          clear hb9 ho9 hw9 he9 hc9 k1 k2 hcd hzd HD
          generalize wd.setCell ⟨w.heap.size + 1 + 1, 0, none⟩ (.int .i64 (max sg (nv + 1))) = V9 at *
          have hw0 : ∀ V, Below V9.heap.size V9 V → Below w.heap.size w V := fun V hV => H9.out.1.bel.trans (hV.mono H9.out.1.bel.size)
          have HW0 := Lib.hid hw0
          have hkd0 : ∀ V, Below V9.heap.size V9 V → V.cell? ⟨w.heap.size, 0, none⟩ = some (.slice (some ⟨bf, of_, none⟩) fs.length c) := fun V hV => (H9.out.1.below hV).d.cell rfl
          have hkd1 : ∀ V, Below V9.heap.size V9 V → V.cell? ⟨w.heap.size, 1, none⟩ = some (.int .i64 st) := fun V hV => (H9.out.1.below hV).d.cell rfl
          have hkd2 : ∀ V, Below V9.heap.size V9 V → V.cell? ⟨w.heap.size, 2, none⟩ = some (.bool ar) := fun V hV => (H9.out.1.below hV).d.cell rfl
          have hkd3 : ∀ V, Below V9.heap.size V9 V → V.cell? ⟨w.heap.size, 3, none⟩ = some (.int .i64 lf) := fun V hV => (H9.out.1.below hV).d.cell rfl
          have hkn : ∀ V, Below V9.heap.size V9 V → V.cell? ⟨bn, on + i, none⟩ = some (.int .i64 nv) := fun V hV => (hV.cell (p := ⟨bn, on + i, none⟩) (World.block_lt_of_cell? _ _ H9.out.2.2.2.2)).trans H9.out.2.2.2.2
          have hke : ∀ V, Below V9.heap.size V9 V → V.cell? ⟨bf, of_ + ix * 3 + 1, none⟩ = some (.string (str l)) := fun V hV => ((HW0.out V hV).cell (p := ⟨bf, of_ + ix * 3 + 1, none⟩) (World.block_lt_of_cell? _ _ HX2.out)).trans HX2.out
          have hbn := bytes_new
          have hb0 : Below V9.heap.size V9 V9.drew := (Below.refl _ _).drew
          clear hw0
          go_region_held (fun V => Below V9.heap.size V9 V) (first | assumption | exact Below.trans (by assumption) ((bytes_below _ _).mono ((by assumption : Below V9.heap.size V9 _).size))) (first
            | (go_at_call 10; refine (HNM.out _).mono ?_; rintro e w2 ⟨rfl, hb2⟩; have hb02 : Below V9.heap.size V9 w2 := Below.trans (by assumption) (hb2.mono ((by assumption : Below V9.heap.size V9 _).size)))
            | (go_at_call 53; refine (HAT.out _ (HF.out.below ((HW0.out _ hb02).mono (Nat.le_refl _)))).mono ?_; rintro e w3 ⟨rfl, hb3⟩; have hb03 : Below V9.heap.size V9 w3 := hb02.trans (hb3.mono hb02.size); have hcv := bytes_new w3 l)
            | (go_at_call 59; refine (refScan_any _ _ _ l _ (bytes_sl _ l) (by omega) (by first | exact Nat.le_trans (by rw [str_size]; exact Nat.le_refl _) (grownCap_ge _ _ _ _) | (have := grownCap_ge w3 (str l).size 0 5; rw [str_size] at this; omega))).mono ?_; rintro e w4 ⟨A4, c4, vs4, rfl, ho4, he4, hb4⟩; have hbw := bytes_below w3 l; have hb04 : Below V9.heap.size V9 w4 := (hb03.trans (hbw.mono hb03.size)).trans (hb4.mono (Nat.le_trans hb03.size hbw.size)); have hz4 : V9.heap.size ≤ (Lib.bytesWorld w3 5 (str l)).heap.size := Nat.le_trans hb03.size hbw.size))
          have HO4 := Lib.hid (And.intro ho4 he4)
          have H94 := Lib.hid (And.intro (own_keep H9.out.2.2.1 hb04) (And.intro (H9.out.2.2.2.1.below hb04) (oth_below H9.out.2.1 hb04)))
          have HB4 := Lib.hid (H9.out.1.below hb04)
          have hz94 := hb04.size
          clear hkd0 hkd1 hkd2 hkd3 hkn hke hbn hb0 hb02 hb03 hb2 hb3 hb4 hcv hbw hb04 ho4 he4
          generalize (scan l).1 = q at *
          go_wp2_with (at_builtin; refine wpList_app _ rfl (.tmp 62) (.tmp 63) 23 rfl w1.heap.size rowsEl (by decide) _ _ _ rfl H94.out.1 A4 q.length c4 vs4 rfl (own_sl HO4.out.1) HO4.out.2.one (by omega) (by omega) ?_; intro A5 c5 w5 hown5 hg5 hat5)
          have hbk := own_blk H94.out.1
          have he5 := (each_app H94.out.2.1 (HO4.out.2.mono (by omega))).grown H94.out.1 hg5
          have hb5 := HB4.out.grown hg5 (fun k e => by have := hbk k e; omega)
          have ho5 := oth_grown H94.out.2.2 hg5 hbk
          have hpl5 : (ps ++ q).length ≤ (i + 1) * 262144 := by rw [List.length_append, Nat.add_mul]; exact Nat.add_le_add hpl (by rw [Nat.one_mul]; exact hql)
          exact ⟨⟨i + 1, ps ++ q, A5, c5, vs ++ vs4, max sg (nv + 1), by omega, by go_num, by simp, HP2.out.symm, HG3.out.symm, hpl5, by omega, by omega, by rw [List.length_append]; exact hown5, he5, hb5, ho5⟩, by simp only [intOf]; omega⟩
      · have hp2 := HP1.out
        rw [if_neg hfn, List.append_nil] at hp2
        have HP2 := Lib.hid hp2
        clear hp2
        go_wp2_with fail
        exact ⟨⟨i + 1, ps, A', c', vs, max sg (nv + 1), by omega, by go_num, rfl, HP2.out.symm, HG3.out.symm, Nat.le_trans hpl (Nat.mul_le_mul_right _ (Nat.le_succ i)), by omega, by omega, own_set HD.out.2.2.1 (by omega), each_set HD.out.2.2.2 (by omega), HD.out.1.setl _, oth_set HD.out.2.1 rfl⟩, by simp only [intOf]; omega⟩
    · have hcN : ¬ (i : Int) < ns.length := by omega
      have e1 := HP.out
      have e2 := HG.out
      rw [List.take_of_length_le (by omega)] at e1 e2
      have HE1 := Lib.hid e1
      have HE2 := Lib.hid e2
      have k3 := HBO.out.l.cell (k := 1) rfl
      have r0 := HBO.out.r.frozen 0
      have r1 := HBO.out.r.frozen 1
      have r2 := HBO.out.r.cell (k := 0) rfl
      have r3 := HBO.out.r.cell (k := 1) rfl
      clear e1 e2
      go_wp2_with fail
      rw [← HE1.out, ← HE2.out]
      refine ret_log3 (u0 := .int .i64 sg) (u1 := .bool false) (x := .slice A' ps.length c') (y := .int .i64 0) rfl rfl rfl rfl rfl ((HBO.out.r.set 0 (.int .i64 sg)).set 1 (.bool false)) ⟨A', c', vs, rfl, ?_, ?_, ?_⟩
      · exact own_base (own_set (own_set HOW.out (by omega)) (by omega)) (by omega)
      · exact (each_set (each_set HE.out (by omega)) (by omega)).mono (by omega)
      · exact (HBO.out.bel.setCell (p := ⟨_, 0, none⟩) (by simp only; omega) _).setCell (p := ⟨_, 1, none⟩) (by simp only; omega) _
end Go.Proofs.YtadkgfhfjagmpaaGreatDoor
