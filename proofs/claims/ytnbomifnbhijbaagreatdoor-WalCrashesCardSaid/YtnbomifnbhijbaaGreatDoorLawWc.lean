/-
  The law WalCrashes as a walk.
-/
import Derived.Test.YtnbomifnbhijbaaGreatDoorWcD
namespace Go.Proofs.YtnbomifnbhijbaaGreatDoor
open Go.RowKit Go.Maps Num Crc
set_option linter.unusedVariables false

theorem each_lt {w : World} {B : Nat} : ∀ {vs : List Value} {ls : List (List UInt8)}, Each w B vs ls → ∀ v ∈ vs, ∀ k, v.ownBlock = some k → B ≤ k ∧ k < w.heap.size
  | [], [], _, v, hv, _, _ => by cases hv
  | u :: vs, l :: ls, h, v, hv, k, hk => by
    obtain ⟨⟨A, c, rfl, ho⟩, h2⟩ := h
    rcases List.mem_cons.1 hv with rfl | hv
    · exact ho.lt k hk
    · exact each_lt h2 v hv k hk
  | [], _ :: _, h, _, _, _, _ => h.elim
  | _ :: _, [], h, _, _, _, _ => h.elim
set_option maxRecDepth 40000 in
set_option maxHeartbeats 8000000 in
theorem crashes_law {w : World} (hW : WL w) {A0 : Option Addr} {n0 c0 : Nat} {os : List Lr} (hR : Lvs w A0 n0 os) :
    Calls Tryz.prog 5 #[.slice A0 n0 c0] w fun e w' => e = .returned (.bool true) ∧ Below w.heap.size w w' := by
  have HW := Lib.hid hW
  have HR := Lib.hid hR
  clear hW hR
  go_enter Tryz.func5, Tryz.ntmps5
  go_wp2_with fail
  refine (new_any _).mono ?_
  rintro e w1 ⟨rfl, hD1, hb1⟩
  have hf1 : ∀ k, foot (w.heap.size + 1) w.heap.size [] k → w.heap.size ≤ k := fun k hk => by rcases hk with e | e | ⟨g, hg, _⟩; omega; omega; cases hg
  have haw := awake3_any w1 (HW.out.keep hb1)
  have HD1 := Lib.hid hD1
  clear hD1
  go_wp2_with fail
  refine haw.mono ?_
  rintro e w2 ⟨rfl, hb2⟩
  have H2 : Hid (Cr w w2 (w.heap.size + 1) w.heap.size [] 0 0 [] 1 [] none 0 []) :=
    ⟨hb1.trans (hb2.mono hb1.size), HD1.out.below hb2 (Nat.le_refl _), hf1, rfl, ⟨List.Pairwise.nil, by simp⟩, Nat.le_refl _, (fun r hr => by cases hr), rfl, World.ownsRow_nil _ _ _ _, trivial, fun v hv => by cases hv⟩
  clear haw hb1 hb2
  go_wp2_with fail
  go_loopw [3, 4, 5] (fun s3 s4 s5 wr => ∃ (i pb mb : Nat) (gs : List Gm) (st lf : Int) (rs : List Sg) (b : Nat) (F : List (List UInt8)) (Af : Option Addr) (cf : Nat) (vf : List Value), i ≤ n0 ∧ i ≤ 5 ∧ b ≤ 1 + 21 * i ∧ F.length ≤ 20 * i ∧ s5 = .int .i64 i ∧ s3 = .pointer (some ⟨pb, 0, none⟩) ∧ s4 = .slice Af F.length cf ∧
      Cr w wr pb mb gs st lf rs b F Af cf vf) (fun _ _ j _ => n0 - (intOf j).toNat)
  case atStart => exact ⟨0, _, _, [], 0, 0, [], 1, [], none, 0, [], Nat.zero_le _, Nat.zero_le _, by omega, by simp, rfl, rfl, rfl, H2.out⟩
  case round =>
    obtain ⟨i, pb, mb, gs, st, lf, rs, b, F, Af, cf, vf, hi, hi5, hbN, hFl, rfl, rfl, rfl, hC⟩ := hrel
    have HC := Lib.hid hC
    have hb1' := hC.b1
    clear hC
    by_cases hgo : i < n0 ∧ i < 5
    · obtain ⟨hin, hi5'⟩ := hgo
      have hcN : (i : Int) < n0 := by omega
      have hcM : (i : Int) < 5 := by omega
      obtain ⟨bA, off, o, rfl, hok, k0', k1', k2', k3'⟩ := HR.out.at_ hin
      have hop := open_log HW.out HC.out.bel HC.out.dr HC.out.lo HC.out.fs HC.out.sg HC.out.b1 (by omega)
      unfold Opened at hop
      rw [HC.out.con] at hop
      have HK := Lib.hid (And.intro hok (And.intro k0' (And.intro k1' (And.intro k2' k3'))))
      obtain ⟨wB, rfl⟩ : ∃ wB : World, wB = wr := ⟨_, rfl⟩
      clear hok k0' k1' k2' k3'
      go_wp2_with fail
      refine hop.mono ?_
      rintro e w3 ⟨pl, s, A3, c3, v3, rfl, hW3, hs1, hs2, hs3, hr3, he3, hb3, hpl3⟩
      have hap3 : Ap w3 (wfoot pl pb mb gs) vf := fun v hv k hk => by
        obtain ⟨q1, q2⟩ := HC.out.ap v hv k hk
        have := hb3.size
        exact ⟨by omega, fun e => by rcases e with e | e; omega; exact q2 e⟩
      have hsm := same_any A3 Af F.length c3 F.length cf v3 vf F F w3 (own_sl hr3) (own_sl (own_keep HC.out.row hb3)) he3.toS ((HC.out.each.below hb3).toS) (by omega) (by omega)
      rw [decide_eq_true rfl] at hsm
      have H3 := Lib.hid (And.intro hW3 (And.intro hs3 (And.intro (own_keep HC.out.row hb3) (And.intro (HC.out.each.below hb3) hap3))))
      clear hop hW3 hs3 hr3 he3 hb3 hap3
      go_upto_if 54 with (first
        | (go_at_call 14; refine hsm.mono ?_; rintro e w4 ⟨rfl, hb4⟩
           have hW4 := H3.out.1.below hb4
           have hr4 := own_keep H3.out.2.2.1 hb4
           have he4 := H3.out.2.2.2.1.below hb4
           have ha4 := H3.out.2.2.2.2.same hb4.size
           have q0 := (hW4.bel.cell (World.block_lt_of_cell? w _ HK.out.2.1)).trans HK.out.2.1
           have q1 := (hW4.bel.cell (World.block_lt_of_cell? w _ HK.out.2.2.1)).trans HK.out.2.2.1
           have q2 := (hW4.bel.cell (World.block_lt_of_cell? w _ HK.out.2.2.2.1)).trans HK.out.2.2.2.1
           have q3 := (hW4.bel.cell (World.block_lt_of_cell? w _ HK.out.2.2.2.2)).trans HK.out.2.2.2.2
           have H4 := Lib.hid (And.intro hW4 (And.intro hr4 (And.intro he4 ha4)))
           clear hb4 hW4 hr4 he4 ha4 hsm))
      go_cut [] (fun wx => ∃ (ar : Bool) (lf2 : Int), Wl w wx pl pb mb gs ⟨rs.map Sg.f, st, ar, lf2, (s : Int), false⟩ ∧ (ar = true → 0 ≤ o.lf) ∧ Stp w4 wx (wfoot pl pb mb gs) (wfoot pl pb mb gs))
      case first =>
        by_cases hlf : 0 ≤ o.lf
        · have harm := arm_any H4.out.1.dr o.lf
          have hE : armE o.lf false lf = 0 := by unfold armE; rw [if_neg (by omega)]; simp [dead]
          rw [hE] at harm
          simp only [if_true] at harm
          go_wp2_with (go_at_call 19; refine harm.mono ?_; rintro e w5 ⟨rfl, hD5, hS5⟩
                       have HA := Lib.hid (H4.out.1.armed hD5 hS5)
                       clear hD5 hS5 harm)
          go_meet
          exact ⟨true, o.lf, HA.out.1, fun _ => hlf, HA.out.2⟩
        · go_wp2_with fail
          go_meet
          exact ⟨false, lf, H4.out.1, (fun h => by cases h), Stp.refl _ _⟩
      case rest =>
        obtain ⟨ar, lf2, hW5, har, hS5⟩ := hcut
        obtain ⟨w5, rfl⟩ : ∃ w5 : World, w5 = wc := ⟨_, rfl⟩
        have hr5 := H4.out.1.row H4.out.2.1 plain_rows hS5
        have he5 := H4.out.2.2.1.step H4.out.2.2.2 hS5
        have ha5 := H4.out.2.2.2.step hS5
        have p0 := (hW5.bel.cell (World.block_lt_of_cell? w _ HK.out.2.1)).trans HK.out.2.1
        have p1 := (hW5.bel.cell (World.block_lt_of_cell? w _ HK.out.2.2.1)).trans HK.out.2.2.1
        have p2 := (hW5.bel.cell (World.block_lt_of_cell? w _ HK.out.2.2.2.1)).trans HK.out.2.2.2.1
        have p3 := (hW5.bel.cell (World.block_lt_of_cell? w _ HK.out.2.2.2.2)).trans HK.out.2.2.2.2
        have hG5 := gl_start (st := st) (lf := lf2) (ar := ar) (N := b) H3.out.2.1 hs1 hs2 HC.out.sy HC.out.con
        have hlv := lived_any hW5 hG5 (by omega) rfl o.P o.np o.cp o.ls HK.out.1.br HK.out.1.len HK.out.1.nn o.ev o.lf HK.out.1.ev har (.slice o.K o.kn o.kc) rfl
        have H5 := Lib.hid (And.intro hW5 (And.intro hr5 (And.intro he5 ha5)))
        clear hW5 hr5 he5 ha5 hS5 hG5 q0 q1 q2 q3
        go_wp2_with fail
        refine hlv.mono ?_
        rintro e w6 hlp
        unfold LivedPost at hlp
        obtain ⟨done, safe, m, Ad, cd, vs, gs6, y, g6, rfl, hG6, hW6, hr6, he6, hS6, hdl⟩ := hlp
        have hrF := H5.out.1.row H5.out.2.1 plain_rows hS6
        have heF := H5.out.2.2.1.step H5.out.2.2.2 hS6
        have hbF := hW6.bel
        have H6 := Lib.hid (And.intro hG6 (And.intro hW6 (And.intro hr6 (And.intro he6 (And.intro hrF heF)))))
        have hfs6 : gs6.map Gm.f = y.fs := hW6.fs
        have hlo6 : ∀ k, foot pb mb gs6 k → w.heap.size ≤ k := fun k hk => hW6.lo k (.inr hk)
        have hsN : g6.seg ≤ b + 20 := hG6.ok.sN
        have hsf := hG6.le.1
        have HX6 := Lib.hid (And.intro hfs6 hlo6)
        have hcf := own_le hrF
        have hcd := own_le hr6
        clear hlv hG6 hW6 hr6 he6 hS6 hrF heF p0 p1 p2 p3 hfs6 hlo6
        have hm1 := H6.out.1.m1
        go_wp2_with fail
        go_loopw [12] (fun s12 wr => ∃ j : Nat, j ≤ 60 ∧ s12 = .int .i64 j ∧ Below w6.heap.size w6 wr) (fun j _ => 60 - (intOf j).toNat)
        case atStart => exact ⟨0, Nat.zero_le _, rfl, Below.refl _ _⟩
        case round =>
          obtain ⟨j, hj, rfl, hbj⟩ := hrel
          have HB := Lib.hid hbj
          by_cases hjn : j < 60
          · have hcJ : (j : Int) < 60 := by omega
            have hcr := crash_any ((H6.out.2.1.dr.below hbj (Nat.le_refl _)).alloc (.cells #[.int .i64 (j : Int)] 3)) (some ⟨wr.heap.size, 0, none⟩) 1 1 [(j : Int)] (Sl.new wr _ _) (Nat.le_refl _)
            unfold CrPost at hcr
            rw [HX6.out.1] at hcr
            obtain ⟨rs7, m7, h71, h72, h73, h74, h75, h76⟩ := gl_crash H6.out.1 [(j : Int)]
            rw [h71] at hcr
            obtain ⟨T7, hT7⟩ : ∃ T7, T7 = F ++ done.take m7 := ⟨_, rfl⟩
            have hTl : T7.length ≤ 20 * i + 20 := by rw [hT7, List.length_append, List.length_take]; omega
            rw [← hT7] at h76
            have HT7 := Lib.hid hT7
            clear hT7
            have hbw := hbF.trans (hbj.mono hbF.size)
            have hbwa := hbw.alloc hbw.size (.cells #[.int .i64 (j : Int)] 3)
            have H7 := Lib.hid (And.intro h72 (And.intro h76 hbwa))
            clear hbj h71 h72 h73 h76 hbw hbwa
            go_wp2_with fail
            refine hcr.mono ?_
            rintro e w7 ⟨pb7, mb7, hs7, rfl, hfs7, hD7, hb7, hf7⟩
            have hbw7 := H7.out.2.2.trans (hb7.mono H7.out.2.2.size)
            have hop7 := open_log HW.out hbw7 hD7 (fun k hk => Nat.le_trans H7.out.2.2.size (hf7 k hk)) hfs7 H7.out.1 (by omega) (by omega)
            unfold Opened at hop7
            rw [H7.out.2.1] at hop7
            have hb67 : Below w6.heap.size w6 w7 := (HB.out.alloc HB.out.size _).trans (hb7.mono (by have := HB.out.size; simp; omega))
            have HB7 := Lib.hid hb67
            clear hcr hfs7 hD7 hb7 hf7 hbw7 hb67
            go_wp2_with fail
            refine hop7.mono ?_
            rintro e w8 ⟨pl8, s8, A8, c8, v8, rfl, -, -, -, -, hr8, he8, hb8, -⟩
            have hb68 := HB7.out.trans (hb8.mono HB7.out.size)
            have hl8 := left_any A8 Af Ad T7.length c8 F.length cf done.length cd safe m7 v8 vf vs T7 F done w8 (own_sl hr8) ((own_sl H6.out.2.2.2.2.1).below hb68) ((own_sl H6.out.2.2.1).below hb68) he8.toS (H6.out.2.2.2.2.2.below hb68).toS (H6.out.2.2.2.1.below hb68).toS (own_le hr8) hcd (by omega) (by omega) h74 h75 HT7.out
            have HB8 := Lib.hid hb68
            clear hop7 hr8 he8 hb8 hb68
            go_wp2_with (go_at_call 22; refine hl8.mono ?_; rintro e w9 ⟨rfl, hb9⟩)
            exact ⟨⟨j + 1, by omega, by go_num, HB8.out.trans (hb9.mono HB8.out.size)⟩, by simp only [intOf]; omega⟩
          · have hcJ : ¬ (j : Int) < 60 := by omega
            have hbw := hbF.trans (hbj.mono hbF.size)
            have p3 := (hbw.cell (World.block_lt_of_cell? w _ HK.out.2.2.2.2)).trans HK.out.2.2.2.2
            have hcr := crash_any (H6.out.2.1.dr.below hbj (Nat.le_refl _)) o.K o.kn o.kc o.ks (HK.out.1.sk.below hbw) HK.out.1.kc
            unfold CrPost at hcr
            rw [HX6.out.1] at hcr
            obtain ⟨rs7, m7, h71, h72, h73, h74, h75, h76⟩ := gl_crash H6.out.1 o.ks
            rw [h71] at hcr
            obtain ⟨T7, hT7⟩ : ∃ T7, T7 = F ++ done.take m7 := ⟨_, rfl⟩
            have hTl : T7.length ≤ 20 * i + 20 := by rw [hT7, List.length_append, List.length_take]; omega
            rw [← hT7] at h76
            have HT7 := Lib.hid hT7
            clear hT7
            have H7 := Lib.hid (And.intro h72 (And.intro h76 (And.intro hbw h73)))
            clear hbj h71 h72 h73 h76 hbw
            go_wp2_with fail
            refine hcr.mono ?_
            rintro e w7 ⟨pb7, mb7, hs7, rfl, hfs7, hD7, hb7, hf7⟩
            have hbw7 := H7.out.2.2.1.trans (hb7.mono H7.out.2.2.1.size)
            have hlo7 : ∀ k, foot pb7 mb7 hs7 k → w.heap.size ≤ k := fun k hk => Nat.le_trans H7.out.2.2.1.size (hf7 k hk)
            have hop7 := open_log HW.out hbw7 hD7 hlo7 hfs7 H7.out.1 (by omega) (by omega)
            unfold Opened at hop7
            rw [H7.out.2.1] at hop7
            have HD7 := Lib.hid (And.intro hbw7 (And.intro hlo7 (And.intro hfs7 hD7)))
            clear hcr hfs7 hD7 hb7 hf7 hbw7 hlo7 p3
            go_wp2_with fail
            refine hop7.mono ?_
            rintro e w8 ⟨pl8, s8, A8, c8, v8, rfl, -, -, -, -, hr8, he8, hb8, -⟩
            have HN : Hid (Cr w w8 pb7 mb7 hs7 0 0 rs7 (g6.seg + 1) T7 A8 c8 v8) :=
              ⟨HD7.out.1.trans (hb8.mono HD7.out.1.size), HD7.out.2.2.2.below hb8 (Nat.le_refl _), HD7.out.2.1, HD7.out.2.2.1, H7.out.1, Nat.le_add_left _ _, H7.out.2.2.2, H7.out.2.1, own_mono hr8 HD7.out.1.size, he8.mono HD7.out.1.size,
                fun v hv k hk => ⟨(each_lt he8 v hv k hk).2, fun e => by have h1 := (each_lt he8 v hv k hk).1; have h2 := HD7.out.2.2.2.foot_lt e; omega⟩⟩
            clear hop7 hr8 he8 hb8
            go_wp2_with fail
            exact ⟨⟨i + 1, pb7, mb7, hs7, 0, 0, rs7, g6.seg + 1, T7, A8, c8, v8, by omega, by omega, by omega, by omega, by go_num, rfl, rfl, HN.out⟩, by simp only [intOf]; omega⟩
    · have hend : ¬ ((i : Int) < n0) ∨ ((i : Int) < n0 ∧ ¬ ((i : Int) < 5)) := by omega
      rcases hend with hend | ⟨hend1, hend2⟩
      all_goals
        go_wp2_with fail
        go_ret
        exact ⟨rfl, HC.out.bel⟩
end Go.Proofs.YtnbomifnbhijbaaGreatDoor
