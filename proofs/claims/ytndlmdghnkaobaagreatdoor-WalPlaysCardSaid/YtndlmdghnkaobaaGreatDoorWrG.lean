/-
  The reference of the log: Drop.
-/
import Derived.Test.YtndlmdghnkaobaaGreatDoorWrD
import Derived.Test.YtndlmdghnkaobaaGreatDoorWrE
import Derived.Deep.CutBlock
namespace Go.Proofs.YtndlmdghnkaobaaGreatDoor
open Go.RowKit Go.Maps
set_option linter.unusedVariables false

theorem below_dN3 (w : World) (q : Nat) : Below w.heap.size w (w.drewN q) := ⟨rfl, rfl, rfl, Nat.le_refl _, fun _ _ => rfl⟩
theorem look_dd {y : Ws} (h : Wx y) {n : Int} (h1 : 1 ≤ n) (h2 : n ≤ 999999) : lookF (fname n) y.fs y.ar y.lf = (ddelX y (fname n)).2 := by
  unfold lookF ddelX
  split
  · rfl
  · cases hf : findK Fm.name (fname n) y.fs with
    | none => simp
    | some f =>
      simp only
      unfold code1
      split <;> simp_all
theorem del_wx {y : Ws} (h : Wx y) (s : List UInt8) : Wx (ddelX y s).1 := by
  unfold ddelX
  split
  · exact h
  · split
    · exact h
    · split
      · exact h
      · exact ⟨Nat.le_trans (List.length_filter_le _ _) h.few, fun f hf => h.vn f (List.mem_filter.1 hf).1, fun f hf => h.sy f (List.mem_filter.1 hf).1, h.seg1⟩
/-- Where the loop of Drop stands. -/
structure Dp (w wr : World) (lo : Nat) (y : Ws) (A : Option Addr) (c : Nat) (B : Nat) (An : Option Addr) (cn : Nat) (ns : List Int) : Prop where
  bx : Bx4 w wr A c y
  own : wr.ownsRow lo 87 3 (.slice A y.fs.length c) y.fs.length (fcs y.fs)
  row : wr.ownsRow B 3 1 (.slice An ns.length cn) ns.length (ns.map (Value.int .i64))
  wx : Wx y
  dd : y.dd = false
theorem Dp.below {w wr V : World} {lo c B cn : Nat} {y : Ws} {A An : Option Addr} {ns : List Int} (h : Dp w wr lo y A c B An cn ns) (hb : Below wr.heap.size wr V) : Dp w V lo y A c B An cn ns :=
  ⟨h.bx.below hb, own3_below h.own hb, own_keep h.row hb, h.wx, h.dd⟩
theorem own_set3 {B e n b k : Nat} {w : World} {v u : Value} {xs : List Value} (h : w.ownsRow B e 1 v n xs) (hb : b < B) : (w.setCell ⟨b, k, none⟩ u).ownsRow B e 1 v n xs := own_set h hb
/-- The drive's box stored anew, where the loop of Drop stands. -/
theorem Dp.step {w V : World} {lo B cn c c' : Nat} {y y' : Ws} {A A' An : Option Addr} {ns : List Int} (hbx : Bx4 w V A c y) (hrow : V.ownsRow B 3 1 (.slice An ns.length cn) ns.length (ns.map (Value.int .i64))) (hB : w.heap.size < B)
    (hown : V.ownsRow lo 87 3 (.slice A' y'.fs.length c') y'.fs.length (fcs y'.fs)) (hs : y'.seg = y.seg) (hd : y'.dd = y.dd) (hw : Wx y') (hf : y'.dd = false) :
    Dp w ((((V.setCell ⟨w.heap.size, 0, none⟩ (.slice A' y'.fs.length c')).setCell ⟨w.heap.size, 1, none⟩ (.int .i64 y'.st)).setCell ⟨w.heap.size, 2, none⟩ (.bool y'.ar)).setCell ⟨w.heap.size, 3, none⟩ (.int .i64 y'.lf)) lo y' A' c' B An cn ns := by
  obtain ⟨h1, h2⟩ := hbx.setD (A' := A') (c' := c') y' hs hd
  exact ⟨h1, own3_keep hown fun k hk => h2 k (row_ne hown hbx.d (by decide) k hk), own_set (own_set (own_set (own_set hrow hB) hB) hB) hB, hw, hf⟩
theorem segs_has {names : List (List UInt8)} {n : Int} (h : n ∈ segs names) : fname n ∈ names := by
  unfold segs at h
  obtain ⟨h1, h2⟩ := List.mem_filter.1 h
  obtain ⟨s, hs, rfl⟩ := List.mem_map.1 h1
  have h3 : 0 < numI s := by simpa using h2
  obtain ⟨h4, h5⟩ := numI_pos h3
  unfold fname
  rw [if_pos ⟨by omega, h4⟩, ← h5]
  exact hs
theorem segs_nodup {names : List (List UInt8)} (h : names.Nodup) : (segs names).Nodup := by
  induction names with
  | nil => exact List.nodup_nil
  | cons s r ih =>
    obtain ⟨h1, h2⟩ := List.nodup_cons.1 h
    unfold segs at ih ⊢
    rw [List.map_cons]
    by_cases hp : 0 < numI s
    · rw [List.filter_cons_of_pos (by simpa using hp)]
      refine List.nodup_cons.2 ⟨fun hm => h1 ?_, ih h2⟩
      have := segs_has (names := r) (n := numI s) hm
      obtain ⟨h4, h5⟩ := numI_pos hp
      unfold fname at this
      rwa [if_pos ⟨by omega, h4⟩, ← h5] at this
    · rw [List.filter_cons_of_neg (by simpa using hp)]
      exact ih h2
theorem fname_inj {a b : Int} (ha : 1 ≤ a ∧ a ≤ 999999) (hb : 1 ≤ b ∧ b ≤ 999999) (h : fname a = fname b) : a = b := by
  unfold fname at h
  rw [if_pos ha, if_pos hb] at h
  have := wname_inj (by omega) (by omega) h
  omega
set_option maxRecDepth 40000 in
set_option maxHeartbeats 16000000 in
theorem rldrop_any (x : Ws) (hx : Wx x) (hnd : (x.fs.map Fm.name).Nodup) (before : Int) (hbf : -9223372036854775808 ≤ before ∧ before ≤ 9223372036854775807) (A : Option Addr) (c : Nat) (w : World) (lo : Nat) (hown : w.ownsRow lo 87 3 (.slice A x.fs.length c) x.fs.length (fcs x.fs)) (hlo : lo ≤ w.heap.size) :
    Calls Tryz.prog 26 #[xdr A c x, xlg x, .int .i64 before] w (RL w lo (dropX x before).1 (dropX x before).2) := by
  obtain ⟨fs, st, ar, lf, seg, dd⟩ := x
  have HB0 := Lib.hid (Bx4.start w A c ⟨fs, st, ar, lf, seg, dd⟩)
  have HX := Lib.hid hx
  have HO := Lib.hid hown
  have d0 := HB0.out.d.cell (k := 0) rfl
  have d1 := HB0.out.d.cell (k := 1) rfl
  have d2 := HB0.out.d.cell (k := 2) rfl
  have d3 := HB0.out.d.cell (k := 3) rfl
  have l0 := HB0.out.l.cell (k := 0) rfl
  have l1 := HB0.out.l.cell (k := 1) rfl
  have r0 := HB0.out.rd.cell (k := 0) rfl
  have r1 := HB0.out.rd.cell (k := 1) rfl
  have r2 := HB0.out.rd.cell (k := 2) rfl
  have r3 := HB0.out.rd.cell (k := 3) rfl
  have s0 := HB0.out.rl.cell (k := 0) rfl
  have s1 := HB0.out.rl.cell (k := 1) rfl
  have f0 := HB0.out.rd.frozen 0
  have f1 := HB0.out.rd.frozen 1
  have f2 := HB0.out.rd.frozen 2
  have f3 := HB0.out.rd.frozen 3
  have g0 := HB0.out.rl.frozen 0
  have g1 := HB0.out.rl.frozen 1
  have e0 := HB0.out.d.frozen 0
  have e1 := HB0.out.d.frozen 1
  have e2 := HB0.out.d.frozen 2
  have e3 := HB0.out.d.frozen 3
  have h0 := HB0.out.l.frozen 0
  have h1 := HB0.out.l.frozen 1
  cases dd with
  | true =>
    have he : dropX ⟨fs, st, ar, lf, seg, true⟩ before = (⟨fs, st, ar, lf, seg, true⟩, 6) := rfl
    rw [he]
    clear he hown hx hnd
    go_enter Tryz.func26, Tryz.ntmps26
    generalize hU : w4 w A c ⟨fs, st, ar, lf, seg, true⟩ = U at *
    go_wp2_with fail
    go_region_with (fail)
    all_goals
      go_wp2_with fail
      exact end_dl (y := ⟨fs, st, ar, lf, seg, true⟩) HB0.out (own3_below HO.out (HB0.out.bel.mono (Nat.le_refl _))) rfl rfl rfl rfl rfl
  | false =>
    have he : dropX ⟨fs, st, ar, lf, seg, false⟩ before = dropL before (segs (fs.map Fm.name)) ⟨fs, st, ar, lf, seg, false⟩ := rfl
    rw [he]
    have hsg := rsegs_any A fs.length c fs st ar lf (w4 w A c ⟨fs, st, ar, lf, seg, false⟩) (own_fl (own3_below HO.out (HB0.out.bel.mono (Nat.le_refl _)))) (by have := HX.out.few; simp only at this; omega) HX.out.vn
    have hln : (segs (fs.map Fm.name)).length ≤ 256 := by
      have := segs_len (fs.map Fm.name)
      have hf := HX.out.few
      simp only [List.length_map] at this hf
      omega
    have hbd : ∀ n ∈ segs (fs.map Fm.name), 1 ≤ n ∧ n ≤ 999999 := fun n => segs_bound
    have hnn := segs_nodup hnd
    have hhas : ∀ n ∈ segs (fs.map Fm.name), ∃ f ∈ fs, f.name = fname n := fun n hn => by
      obtain ⟨f, hf, e⟩ := List.mem_map.1 (segs_has hn)
      exact ⟨f, hf, e⟩
    have HNN := Lib.hid (And.intro hnn hhas)
    clear hnn hhas
    generalize segs (fs.map Fm.name) = ns at *
    have HBD := Lib.hid hbd
    have HSG := Lib.hid hsg
    clear he hown hx hbd hsg hnd
    go_enter Tryz.func26, Tryz.ntmps26
    generalize hU : w4 w A c ⟨fs, st, ar, lf, seg, false⟩ = U at *
    go_wp2_with fail
    refine HSG.out.mono ?_
    rintro r w1 ⟨An, cn, rfl, hr, hb1⟩
    have H1 : Hid (Dp w w1 lo ⟨fs, st, ar, lf, seg, false⟩ A c U.heap.size An cn ns) := ⟨HB0.out.below hb1, own3_below HO.out ((HB0.out.below hb1).bel.mono (Nat.le_refl _)), hr, HX.out, rfl⟩
    have hUw : w.heap.size + 4 ≤ U.heap.size := HB0.out.big
    clear d0 d1 d2 d3 l0 l1 r0 r1 r2 r3 s0 s1 f0 f1 f2 f3 g0 g1 e0 e1 e2 e3 h0 h1 hr hb1
    go_wp2_with fail
    go_loopw [10, 11] (fun j s11 wr => ∃ (i : Nat) (y : Ws) (A' : Option Addr) (c' : Nat), i ≤ ns.length ∧ j = .int .i64 i ∧ dropL before ns ⟨fs, st, ar, lf, seg, false⟩ = dropL before (ns.drop i) y ∧ y.seg = seg ∧ (∀ n ∈ ns.drop i, ∃ f ∈ y.fs, f.name = fname n) ∧ Dp w wr lo y A' c' U.heap.size An cn ns) (fun j _ _ => ns.length - (intOf j).toNat)
    case atStart => exact ⟨0, _, A, c, Nat.zero_le _, rfl, rfl, rfl, HNN.out.2, H1.out⟩
    case round =>
      obtain ⟨i, y, A', c', hi, rfl, hpre, hsg, hha, hD⟩ := hrel
      have HHA := Lib.hid hha
      clear hha
      obtain ⟨fs', st', ar', lf', seg', dd'⟩ := y
      obtain rfl : dd' = false := hD.dd
      obtain rfl : seg' = seg := hsg
      have HD := Lib.hid hD
      have HP := Lib.hid hpre
      clear hD hpre H1
      have d0 := HD.out.bx.d.cell (k := 0) rfl
      have d1 := HD.out.bx.d.cell (k := 1) rfl
      have d2 := HD.out.bx.d.cell (k := 2) rfl
      have d3 := HD.out.bx.d.cell (k := 3) rfl
      have l0 := HD.out.bx.l.cell (k := 0) rfl
      have l1 := HD.out.bx.l.cell (k := 1) rfl
      have r0 := HD.out.bx.rd.cell (k := 0) rfl
      have r1 := HD.out.bx.rd.cell (k := 1) rfl
      have r2 := HD.out.bx.rd.cell (k := 2) rfl
      have r3 := HD.out.bx.rd.cell (k := 3) rfl
      have s0 := HD.out.bx.rl.cell (k := 0) rfl
      have s1 := HD.out.bx.rl.cell (k := 1) rfl
      have f0 := HD.out.bx.rd.frozen 0
      have f1 := HD.out.bx.rd.frozen 1
      have f2 := HD.out.bx.rd.frozen 2
      have f3 := HD.out.bx.rd.frozen 3
      have g0 := HD.out.bx.rl.frozen 0
      have g1 := HD.out.bx.rl.frozen 1
      have e0 := HD.out.bx.d.frozen 0
      have e1 := HD.out.bx.d.frozen 1
      have e2 := HD.out.bx.d.frozen 2
      have e3 := HD.out.bx.d.frozen 3
      have h0 := HD.out.bx.l.frozen 0
      have h1 := HD.out.bx.l.frozen 1
      by_cases hin : i < ns.length
      · have hcN : (i : Int) < ns.length := by omega
        obtain ⟨nv, hnv⟩ : ∃ nv, ns[i]? = some nv := ⟨_, List.getElem?_eq_getElem hin⟩
        obtain ⟨b, o, u, hAn, hu, hcell⟩ := (own_sl HD.out.row).at_ hin
        subst hAn
        rw [List.getElem?_map, hnv] at hu
        obtain rfl := (Option.some.inj hu).symm
        have hnb := HBD.out nv (List.mem_of_getElem? hnv)
        have hdr : ns.drop i = nv :: ns.drop (i + 1) := by rw [List.drop_eq_getElem_cons hin, (List.getElem?_eq_some_iff.1 hnv).2]
        have HDR := Lib.hid hdr
        clear hu hdr hnv
        by_cases hskip : before ≤ nv ∨ nv = seg'
        · have hstep : dropL before (ns.drop i) ⟨fs', st', ar', lf', seg', false⟩ = dropL before (ns.drop (i + 1)) ⟨fs', st', ar', lf', seg', false⟩ := by rw [HDR.out]; simp only [dropL]; rw [if_pos hskip]
          have HST := Lib.hid hstep
          clear hstep
          by_cases hk1 : before ≤ nv
          · go_wp2_with fail
            go_quiet (fail)
            go_wp2_with fail
            exact ⟨⟨i + 1, ⟨fs', st', ar', lf', seg', false⟩, A', c', by omega, by go_num, by rw [HP.out, HST.out], rfl, fun n hn => HHA.out n (by rw [HDR.out]; exact List.mem_cons_of_mem _ hn), HD.out.below (below_dN3 wr nq)⟩, by simp only [intOf]; omega⟩
          · obtain rfl : nv = seg' := by omega
            go_wp2_with fail
            go_quiet (fail)
            go_wp2_with fail
            exact ⟨⟨i + 1, ⟨fs', st', ar', lf', nv, false⟩, A', c', by omega, by go_num, by rw [HP.out, HST.out], rfl, fun n hn => HHA.out n (by rw [HDR.out]; exact List.mem_cons_of_mem _ hn), HD.out.below (below_dN3 wr nq)⟩, by simp only [intOf]; omega⟩
        · have hk1 : ¬ before ≤ nv := fun h => hskip (.inl h)
          have hk2 : ¬ nv = seg' := fun h => hskip (.inr h)
          have hk3 : (nv == seg') = false := by simpa using hk2
          clear hskip
          go_wp2_with fail
          go_quiet (fail)
          obtain ⟨k, rfl⟩ : ∃ k : Nat, nv = k := ⟨nv.toNat, by omega⟩
          have hfk : fname (k : Int) = wname k := by unfold fname; rw [if_pos hnb]; rfl
          obtain ⟨g, hgm, hgn⟩ := HHA.out (k : Int) (by rw [HDR.out]; exact List.mem_cons_self ..)
          have hfd : ∃ z, findK Fm.name (wname k) fs' = some z := by
            cases hq : findK Fm.name (wname k) fs' with
            | some z => exact ⟨z, rfl⟩
            | none => exact absurd (hgn.trans hfk) (find_none hq g hgm)
          obtain ⟨z, hz⟩ := hfd
          have hlk : lookF (wname k) fs' ar' lf' = code1 ar' lf' := by
            unfold lookF
            rw [if_neg (by rw [vname_wname]; simp), hz]
          have hnm := fun W => name3_any k (by omega) W
          rw [rname_wname (by omega)] at hnm
          have hrd := fun (V : World) (ho : V.ownsRow lo 87 3 (.slice A' fs'.length c') fs'.length (fcs fs')) (hl : lo ≤ V.heap.size) => rdelete_any A' fs'.length c' fs' st' ar' lf' (wname k) V lo ho rfl hl (by have := HD.out.wx.few; simp only at this; omega) (by rw [wname_len]; omega)
          simp only [hlk] at hrd
          have hni : ∀ V, Below wr.heap.size wr V → V.cell? ⟨b, o + i, none⟩ = some (.int .i64 (k : Int)) := fun V hV => (hV.cell (World.block_lt_of_cell? _ _ hcell)).trans hcell
          have HFK := Lib.hid (And.intro hfk hz)
          clear d0 d1 d2 d3 l0 l1 r0 r1 r2 r3 s0 s1 f0 f1 f2 f3 g0 g1 e0 e1 e2 e3 h0 h1 hcell hgm hgn hlk hfk hz
          have HD2 := Lib.hid (HD.out.below (below_dN3 wr nq))
          have HV2 := Lib.hid (below_dN3 wr nq)
          have ni0 := hni _ HV2.out
          generalize wr.drewN nq = V2 at HD2 HV2 ni0 ⊢
          have d0 := HD2.out.bx.d.cell (k := 0) rfl
          have d1 := HD2.out.bx.d.cell (k := 1) rfl
          have d2 := HD2.out.bx.d.cell (k := 2) rfl
          have d3 := HD2.out.bx.d.cell (k := 3) rfl
          have l0 := HD2.out.bx.l.cell (k := 0) rfl
          have l1 := HD2.out.bx.l.cell (k := 1) rfl
          have r0 := HD2.out.bx.rd.cell (k := 0) rfl
          have r1 := HD2.out.bx.rd.cell (k := 1) rfl
          have r2 := HD2.out.bx.rd.cell (k := 2) rfl
          have r3 := HD2.out.bx.rd.cell (k := 3) rfl
          have s0 := HD2.out.bx.rl.cell (k := 0) rfl
          have s1 := HD2.out.bx.rl.cell (k := 1) rfl
          have f0 := HD2.out.bx.rd.frozen 0
          have f1 := HD2.out.bx.rd.frozen 1
          have f2 := HD2.out.bx.rd.frozen 2
          have f3 := HD2.out.bx.rd.frozen 3
          have g0 := HD2.out.bx.rl.frozen 0
          have g1 := HD2.out.bx.rl.frozen 1
          have e0 := HD2.out.bx.d.frozen 0
          have e1 := HD2.out.bx.d.frozen 1
          have e2 := HD2.out.bx.d.frozen 2
          have e3 := HD2.out.bx.d.frozen 3
          have h0 := HD2.out.bx.l.frozen 0
          have h1 := HD2.out.bx.l.frozen 1
          have HNI := Lib.hid hni
          have HRD := Lib.hid hrd
          clear hni hrd
          go_upto_region 9 with fail
          cases hdd : dead ar' lf' with
          | true =>
            have hc1 : code1 ar' lf' = 6 := by unfold code1; rw [hdd]; rfl
            go_cut [11] from 18 to 54 (fun s11 wx => ∃ A5 c5, s11 = .int .i64 6 ∧ Dp w wx lo ⟨fs', st', ar', lf', seg', false⟩ A5 c5 U.heap.size (some ⟨b, o, none⟩) cn ns)
            case first =>
              have hrd6 := HRD.out
              simp only [hc1, show ¬ ((6 : Int) = 0) by decide, if_false] at hrd6
              go_region_with (first
                | (go_at_call 9; refine (hnm _).mono ?_; rintro r w3 ⟨rfl, hb3⟩
                   have hb23 : Below V2.heap.size V2 w3 := by first | exact hb3 | exact ((Below.refl V2.heap.size V2).drew).trans hb3
                   have HD3 := Lib.hid (HD2.out.below hb23)
                   have ni1 := HNI.out w3 (HV2.out.trans (hb23.mono HV2.out.size))
                   have d0x := HD3.out.bx.d.cell (k := 0) rfl
                   have d1x := HD3.out.bx.d.cell (k := 1) rfl
                   have d2x := HD3.out.bx.d.cell (k := 2) rfl
                   have d3x := HD3.out.bx.d.cell (k := 3) rfl
                   have e0x := HD3.out.bx.d.frozen 0
                   have e1x := HD3.out.bx.d.frozen 1
                   have e2x := HD3.out.bx.d.frozen 2
                   have e3x := HD3.out.bx.d.frozen 3
                   clear hb3)
                | (go_at_call 62; refine (hrd6 w3 HD3.out.own (Nat.le_trans hlo HD3.out.bx.bel.size)).mono ?_; rintro r w5 ⟨A5, c5, rfl, ho5, hb5⟩
                   have HX5 := Lib.hid (And.intro (HD3.out.bx.below hb5) (And.intro (own_keep HD3.out.row hb5) ho5))
                   have d0y := HX5.out.1.d.cell (k := 0) rfl
                   have d1y := HX5.out.1.d.cell (k := 1) rfl
                   have d2y := HX5.out.1.d.cell (k := 2) rfl
                   have d3y := HX5.out.1.d.cell (k := 3) rfl
                   have e0y := HX5.out.1.d.frozen 0
                   have e1y := HX5.out.1.d.frozen 1
                   have e2y := HX5.out.1.d.frozen 2
                   have e3y := HX5.out.1.d.frozen 3
                   clear ho5 hb5))
              all_goals
                go_wp2_with fail
                go_meet
                exact ⟨A5, c5, rfl, Dp.step (y' := ⟨fs', st', ar', lf', seg', false⟩) HX5.out.1 HX5.out.2.1 (by omega) HX5.out.2.2 rfl rfl HD.out.wx rfl⟩
            case rest =>
              obtain ⟨A5, c5, rfl, hD5⟩ := hcut
              have HD5 := Lib.hid hD5
              clear hD5 ni0 d0 d1 d2 d3 l0 l1 r0 r1 r2 r3 s0 s1 f0 f1 f2 f3 g0 g1 e0 e1 e2 e3 h0 h1
              have d0 := HD5.out.bx.d.cell (k := 0) rfl
              have d1 := HD5.out.bx.d.cell (k := 1) rfl
              have d2 := HD5.out.bx.d.cell (k := 2) rfl
              have d3 := HD5.out.bx.d.cell (k := 3) rfl
              have l0 := HD5.out.bx.l.cell (k := 0) rfl
              have l1 := HD5.out.bx.l.cell (k := 1) rfl
              have r0 := HD5.out.bx.rd.cell (k := 0) rfl
              have r1 := HD5.out.bx.rd.cell (k := 1) rfl
              have r2 := HD5.out.bx.rd.cell (k := 2) rfl
              have r3 := HD5.out.bx.rd.cell (k := 3) rfl
              have s0 := HD5.out.bx.rl.cell (k := 0) rfl
              have s1 := HD5.out.bx.rl.cell (k := 1) rfl
              have f0 := HD5.out.bx.rd.frozen 0
              have f1 := HD5.out.bx.rd.frozen 1
              have f2 := HD5.out.bx.rd.frozen 2
              have f3 := HD5.out.bx.rd.frozen 3
              have g0 := HD5.out.bx.rl.frozen 0
              have g1 := HD5.out.bx.rl.frozen 1
              have e0 := HD5.out.bx.d.frozen 0
              have e1 := HD5.out.bx.d.frozen 1
              have e2 := HD5.out.bx.d.frozen 2
              have e3 := HD5.out.bx.d.frozen 3
              have h0 := HD5.out.bx.l.frozen 0
              have h1 := HD5.out.bx.l.frozen 1
              have hfin : dropL before ns ⟨fs, st, ar, lf, seg', false⟩ = (⟨fs', st', ar', lf', seg', true⟩, 6) := by
                rw [HP.out, HDR.out]
                have hdl : ddelX ⟨fs', st', ar', lf', seg', false⟩ (fname (k : Int)) = (⟨fs', st', ar', lf', seg', false⟩, 6) := by
                  unfold ddelX
                  rw [HFK.out.1, if_neg (by rw [vname_wname]; simp), if_neg (by rw [HFK.out.2]; simp), if_pos hdd]
                simp only [dropL]
                rw [if_neg (by rintro (h | h) <;> omega)]
                unfold delX
                rw [hdl]
                rfl
              have HFIN := Lib.hid hfin
              clear hfin
              go_wp2_with fail
              obtain ⟨hB7, hk7⟩ := HD5.out.bx.setM true
              have ho7 := own3_keep HD5.out.own fun k hk => hk7 k (row_ne HD5.out.own HD5.out.bx.l (by decide) k hk)
              have HB7 := Lib.hid (And.intro hB7 ho7)
              clear hB7 hk7 ho7 d0 d1 d2 d3 l0 l1 r0 r1 r2 r3 s0 s1 f0 f1 f2 f3 g0 g1 e0 e1 e2 e3 h0 h1
              generalize wc.setCell ⟨w.heap.size + 1, 1, none⟩ (.bool true) = V7 at HB7 ⊢
              have d0 := HB7.out.1.d.cell (k := 0) rfl
              have d1 := HB7.out.1.d.cell (k := 1) rfl
              have d2 := HB7.out.1.d.cell (k := 2) rfl
              have d3 := HB7.out.1.d.cell (k := 3) rfl
              have l0 := HB7.out.1.l.cell (k := 0) rfl
              have l1 := HB7.out.1.l.cell (k := 1) rfl
              have r0 := HB7.out.1.rd.cell (k := 0) rfl
              have r1 := HB7.out.1.rd.cell (k := 1) rfl
              have r2 := HB7.out.1.rd.cell (k := 2) rfl
              have r3 := HB7.out.1.rd.cell (k := 3) rfl
              have s0 := HB7.out.1.rl.cell (k := 0) rfl
              have s1 := HB7.out.1.rl.cell (k := 1) rfl
              have f0 := HB7.out.1.rd.frozen 0
              have f1 := HB7.out.1.rd.frozen 1
              have f2 := HB7.out.1.rd.frozen 2
              have f3 := HB7.out.1.rd.frozen 3
              have g0 := HB7.out.1.rl.frozen 0
              have g1 := HB7.out.1.rl.frozen 1
              have e0 := HB7.out.1.d.frozen 0
              have e1 := HB7.out.1.d.frozen 1
              have e2 := HB7.out.1.d.frozen 2
              have e3 := HB7.out.1.d.frozen 3
              have h0 := HB7.out.1.l.frozen 0
              have h1 := HB7.out.1.l.frozen 1
              go_region_with (fail)
              all_goals
                go_wp2_with fail
                rw [HFIN.out]
                exact end_dl (y := ⟨fs', st', ar', lf', seg', true⟩) HB7.out.1 HB7.out.2 rfl rfl rfl rfl rfl
          | false =>
            have hc1 : code1 ar' lf' = 0 := by unfold code1; rw [hdd]; rfl
            have hwx : Wx ⟨outK Fm.name (wname k) fs', wrap64 (st' + 1), ar', lf1 ar' lf', seg', false⟩ :=
              ⟨Nat.le_trans (List.length_filter_le _ _) HD.out.wx.few, fun f hf => HD.out.wx.vn f (List.mem_filter.1 hf).1, fun f hf => HD.out.wx.sy f (List.mem_filter.1 hf).1, HD.out.wx.seg1⟩
            have HWX := Lib.hid hwx
            clear hwx
            go_cut [11] from 18 to 54 (fun s11 wx => ∃ A5 c5, s11 = .int .i64 0 ∧ Dp w wx lo ⟨outK Fm.name (wname k) fs', wrap64 (st' + 1), ar', lf1 ar' lf', seg', false⟩ A5 c5 U.heap.size (some ⟨b, o, none⟩) cn ns)
            case first =>
              have hrd6 := HRD.out
              simp only [hc1, if_true] at hrd6
              go_region_with (first
                | (go_at_call 9; refine (hnm _).mono ?_; rintro r w3 ⟨rfl, hb3⟩
                   have hb23 : Below V2.heap.size V2 w3 := by first | exact hb3 | exact ((Below.refl V2.heap.size V2).drew).trans hb3
                   have HD3 := Lib.hid (HD2.out.below hb23)
                   have ni1 := HNI.out w3 (HV2.out.trans (hb23.mono HV2.out.size))
                   have d0x := HD3.out.bx.d.cell (k := 0) rfl
                   have d1x := HD3.out.bx.d.cell (k := 1) rfl
                   have d2x := HD3.out.bx.d.cell (k := 2) rfl
                   have d3x := HD3.out.bx.d.cell (k := 3) rfl
                   have e0x := HD3.out.bx.d.frozen 0
                   have e1x := HD3.out.bx.d.frozen 1
                   have e2x := HD3.out.bx.d.frozen 2
                   have e3x := HD3.out.bx.d.frozen 3
                   clear hb3)
                | (go_at_call 62; refine (hrd6 w3 HD3.out.own (Nat.le_trans hlo HD3.out.bx.bel.size)).mono ?_; rintro r w5 ⟨A5, c5, rfl, ho5, hb5⟩
                   have HX5 := Lib.hid (And.intro (HD3.out.bx.below hb5) (And.intro (own_keep HD3.out.row hb5) ho5))
                   have d0y := HX5.out.1.d.cell (k := 0) rfl
                   have d1y := HX5.out.1.d.cell (k := 1) rfl
                   have d2y := HX5.out.1.d.cell (k := 2) rfl
                   have d3y := HX5.out.1.d.cell (k := 3) rfl
                   have e0y := HX5.out.1.d.frozen 0
                   have e1y := HX5.out.1.d.frozen 1
                   have e2y := HX5.out.1.d.frozen 2
                   have e3y := HX5.out.1.d.frozen 3
                   clear ho5 hb5))
              all_goals
                go_wp2_with fail
                go_meet
                exact ⟨A5, c5, rfl, Dp.step (y' := ⟨outK Fm.name (wname k) fs', wrap64 (st' + 1), ar', lf1 ar' lf', seg', false⟩) HX5.out.1 HX5.out.2.1 (by omega) HX5.out.2.2 rfl rfl HWX.out rfl⟩
            case rest =>
              obtain ⟨A5, c5, rfl, hD5⟩ := hcut
              have HD5 := Lib.hid hD5
              clear hD5 ni0 d0 d1 d2 d3 l0 l1 r0 r1 r2 r3 s0 s1 f0 f1 f2 f3 g0 g1 e0 e1 e2 e3 h0 h1
              have hfin : dropL before (ns.drop i) ⟨fs', st', ar', lf', seg', false⟩ = dropL before (ns.drop (i + 1)) ⟨outK Fm.name (wname k) fs', wrap64 (st' + 1), ar', lf1 ar' lf', seg', false⟩ := by
                rw [HDR.out]
                have hdl : ddelX ⟨fs', st', ar', lf', seg', false⟩ (fname (k : Int)) = (⟨outK Fm.name (wname k) fs', wrap64 (st' + 1), ar', lf1 ar' lf', seg', false⟩, 0) := by
                  unfold ddelX
                  rw [HFK.out.1, if_neg (by rw [vname_wname]; simp), if_neg (by rw [HFK.out.2]; simp), if_neg (by rw [hdd]; simp)]
                  rfl
                simp only [dropL]
                rw [if_neg (by rintro (h | h) <;> omega)]
                unfold delX
                rw [hdl]
                simp [doneX]
              have hha : ∀ n ∈ ns.drop (i + 1), ∃ f ∈ outK Fm.name (wname k) fs', f.name = fname n := fun n hn => by
                obtain ⟨f, hf, e⟩ := HHA.out n (by rw [HDR.out]; exact List.mem_cons_of_mem _ hn)
                refine ⟨f, List.mem_filter.2 ⟨hf, ?_⟩, e⟩
                have hnd := HNN.out.1.sublist (List.drop_sublist i ns)
                rw [HDR.out] at hnd
                have hne : (k : Int) ≠ n := fun h => (List.nodup_cons.1 hnd).1 (h ▸ hn)
                have h2 : fname n ≠ wname k := fun h => hne (fname_inj hnb (HBD.out n (List.mem_of_mem_drop hn)) (by rw [HFK.out.1]; exact h.symm))
                rw [e]
                simpa using h2
              have HFIN := Lib.hid (And.intro hfin hha)
              clear hfin hha
              go_wp2_with fail
              exact ⟨⟨i + 1, _, A5, c5, by omega, by go_num, by rw [HP.out, HFIN.out.1], rfl, HFIN.out.2, HD5.out⟩, by simp only [intOf]; omega⟩
      · have hcN : ¬ (i : Int) < ns.length := by omega
        have hfin : dropL before ns ⟨fs, st, ar, lf, seg', false⟩ = (⟨fs', st', ar', lf', seg', false⟩, 0) := by
          rw [HP.out, List.drop_of_length_le (by omega)]; rfl
        have HFIN := Lib.hid hfin
        clear hfin
        go_wp2_with fail
        go_region_with (fail)
        all_goals
          go_wp2_with fail
          rw [HFIN.out]
          exact end_dl (y := ⟨fs', st', ar', lf', seg', false⟩) HD.out.bx HD.out.own rfl rfl rfl rfl rfl
end Go.Proofs.YtndlmdghnkaobaaGreatDoor
