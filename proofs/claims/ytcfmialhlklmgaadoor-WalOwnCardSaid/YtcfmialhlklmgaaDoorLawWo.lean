/-
  The law WalOwn as a walk.
-/
import Derived.Test.YtcfmialhlklmgaaDoorWoA
namespace Go.Proofs.YtcfmialhlklmgaaDoor
open Go.RowKit Go.Maps Num Crc
set_option linter.unusedVariables false

set_option maxRecDepth 40000 in
set_option maxHeartbeats 8000000 in
theorem wown_law {w : World} (hW : WL w) {A0 : Option Addr} {n0 c0 : Nat} {ls : List (List UInt8)} (hR : Br w A0 n0 ls) (hl : ∀ l ∈ ls, l.length ≤ 140737488355328) :
    Calls Tryd.prog 4 #[.slice A0 n0 c0] w fun e w' => e = .returned (.bool true) ∧ Below w.heap.size w w' := by
  have HW := Lib.hid hW
  have HR := Lib.hid hR
  have HL := Lib.hid hl
  clear hW hR hl
  go_enter Tryd.func4, Tryd.ntmps4
  go_wp2_with fail
  refine (new_any _).mono ?_
  rintro e w1 ⟨rfl, hD1, hb1⟩
  have hf1 : ∀ k, foot (w.heap.size + 1) w.heap.size [] k → w.heap.size ≤ k := fun k hk => by rcases hk with e | e | ⟨g, hg, _⟩; omega; omega; cases hg
  have haw := awake3_any w1 (HW.out.keep hb1)
  have HD1 := Lib.hid hD1
  clear hD1
  go_wp2_with fail
  refine haw.mono ?_
  rintro e w2 ⟨rfl, hb2⟩
  have hb2' : Below w.heap.size w w2 := hb1.trans (hb2.mono hb1.size)
  have hop := open_log (rs := []) (b := 1) HW.out hb2' (HD1.out.below hb2 (Nat.le_refl _)) hf1 rfl ⟨List.Pairwise.nil, by simp⟩ (Nat.le_refl _) (by decide)
  clear haw
  go_wp2_with fail
  refine hop.mono ?_
  rintro e w3 ⟨pl, s, A3, c3, vs3, rfl, hW3, hs1, hs2, hs3, -, -, hb3, -⟩
  obtain rfl : s = 1 := by omega
  obtain ⟨hi3, ok3⟩ := is_opened (N := 1) (st := 0) (lf := 0) (ar := false) hs3 (Nat.le_refl _) (Nat.le_refl _) (fun r hr => by cases hr)
  have H3 : Hid (Wo1 w w3 pl (w.heap.size + 1) w.heap.size ls 0 none 0 [] [] _ _) := ⟨hW3, hi3, ok3, rfl, rfl, World.ownsRow_nil _ _ _ _, trivial, (fun v hv => by cases hv), by simp [Gh.con, tcon]⟩
  clear hop hW3 hs3 hi3 ok3 hs1 hs2 hb1 hb2 hb2' hb3
  go_wp2_with fail
  go_loopw [7, 8] (fun s7 s8 wr => ∃ (i : Nat) (Aw : Option Addr) (cw : Nat) (vs : List Value) (gs : List Gm) (x : Ws) (g : Gh), i ≤ n0 ∧ i ≤ 20 ∧ s8 = .int .i64 i ∧ s7 = .slice Aw i cw ∧ Wo1 w wr pl (w.heap.size + 1) w.heap.size ls i Aw cw vs gs x g) (fun _ j _ => n0 - (intOf j).toNat)
  case atStart => exact ⟨0, none, 0, _, _, _, _, Nat.zero_le _, Nat.zero_le _, rfl, rfl, H3.out⟩
  case round =>
    obtain ⟨i, Aw, cw, vs, gs, x, g, hi, hi2, rfl, rfl, hS⟩ := hrel
    have HS := Lib.hid hS
    clear hS
    by_cases hgo : i < n0 ∧ i < 20
    · obtain ⟨hin, hi20⟩ := hgo
      have hcN : (i : Int) < n0 := by omega
      have hcM : (i : Int) < 20 := by omega
      obtain ⟨b, o, K, p, c, rfl, hp, hce, hsl, hpc⟩ := HR.out.at_ hin
      have hpl := HL.out p (List.mem_of_getElem? hp)
      have hbr := HS.out.wl.bel
      have hcr : wr.cell? ⟨b, o + i, none⟩ = some (.slice K p.length c) := (hbr.cell (World.block_lt_of_cell? w _ hce)).trans hce
      obtain ⟨q, hq⟩ : ∃ q, q = p.take 700 := ⟨_, rfl⟩
      have hql : q.length ≤ 700 := by rw [hq, List.length_take]; omega
      have hcut := fun (V : World) (hV : Below wr.heap.size wr V) => cut_any K p.length c p V ((hsl.below hbr).below hV) hpl hpc
      rw [← hq] at hcut
      have hcut1 := hcut wr (Below.refl _ _)
      have HCUT := Lib.hid hcut
      have HP := Lib.hid (And.intro hp (And.intro hq (And.intro (World.block_lt_of_cell? w _ hce) (And.intro hce hbr))))
      clear hp hce hsl hq hcut
      go_wp2_with fail
      refine hcut1.mono ?_
      rintro e w4 ⟨A4, c4, rfl, ho4, hb4⟩
      obtain ⟨wB, rfl⟩ : ∃ wB : World, wB = wr := ⟨_, rfl⟩
      have hsz4 := hb4.size
      have HB4 := Lib.hid hb4
      clear hcut1 hb4 hcr
      go_wp2_with (at_builtin; refine wpList_app _ rfl (.tmp 54) (.tmp 55) 32 rfl wB.heap.size bytesEl (by decide) _ q.length (bv q) rfl (ho4.alloc _) (some ⟨w4.heap.size, 0, none⟩) 1 1 [.int .u8 77] rfl (Sl.new _ _ _) (by intro u hu; simp at hu; subst hu; rfl) (by omega) (by simp; omega) ?_
                   intro A5 c5 w5 hown5 hg5 hat5
                   obtain ⟨b5, rfl, h5a, h5b, h5c⟩ := own_head hown5 (by omega)
                   have hb45 : Below wB.heap.size wB w5 := (HB4.out.alloc hsz4 (.cells #[.int .u8 77] 5)).grown hg5 (by simp; omega) (own_blk ho4)
                   have hcr : w5.cell? ⟨b, o + i, none⟩ = some (.slice K p.length c) := ((HP.out.2.2.2.2.trans (hb45.mono HP.out.2.2.2.2.size)).cell HP.out.2.2.1).trans HP.out.2.2.2.1)
      have hcut2 := HCUT.out w5 hb45
      have H5 := Lib.hid (And.intro hown5 hb45)
      clear hcr hown5 hb45 hg5 hat5 ho4
      refine hcut2.mono ?_
      rintro e w6 ⟨A6, c6, rfl, ho6, hb6⟩
      have hsz6 := hb6.size
      have H6 := Lib.hid (And.intro ho6 hb6)
      clear hcut2 ho6 hb6
      have hb46 : Below wB.heap.size wB w6 := H5.out.2.trans (H6.out.2.mono H5.out.2.size)
      have hrow6 := (HS.out.wl.below hb46).row (own_keep HS.out.row (hb46)) plain_rows (Stp.refl _ w6)
      go_wp2_with (at_builtin; refine wpList_app _ rfl (.tmp 62) (.tmp 68) 22 rfl w.heap.size rowsEl (by decide) _ _ _ rfl (hrow6.alloc _) (some ⟨w6.heap.size, 0, none⟩) 1 1 [.slice A6 q.length c6] rfl (Sl.new _ _ _) (by intro u hu; simp at hu; subst hu; rfl) (by omega) (by have := hbr.size; simp; omega) ?_
                   intro A7 c7 w7 hown7 hg7 hat7)
      have hM := HS.out.mid H5.out.1 H5.out.2 H6.out.1 H6.out.2 hown7 hg7
      obtain ⟨e1, g', e2, e3, e4, e5⟩ := app_is HS.out.is HS.out.ok (by omega) HS.out.dd (p := q) hql
      obtain ⟨a1, a2, a3⟩ : (appX x q).2 = 0 ∧ (appX x q).1.dd = false ∧ g'.con = g.con ++ [(g'.seg, q)] := by
        rcases e5 with h | ⟨_, _, h, _⟩
        · exact h
        · rw [HS.out.ar] at h; cases h
      have hap := lappend_any (w := w7.drew) (hM.wl.below (Below.refl _ w7).drew) (some ⟨b5, 0, none⟩) q.length c5 q (wo_in (V := w7.drew) hM.room)
      rw [a1] at hap
      have har : (appX x q).1.ar = false := e1.trans HS.out.ar
      generalize (appX x q).1 = y at hap e2 a2 har
      have HN := Lib.hid (And.intro e2 (And.intro e3 (And.intro a2 (And.intro a3 har))))
      obtain ⟨bw, hA7, -, -, -⟩ := own_head hM.row (by omega)
      subst hA7
      have HM := Lib.hid hM
      have hln := HS.out.row.1
      clear e1 e2 e3 e4 e5 a1 a2 a3 har hM hown7 hg7 hat7 hrow6 hb46
      obtain ⟨z0, z1, z2, z3⟩ := wo_facts (V := w7.drew) (i := i) (by simpa using hln) HM.out.row HM.out.room HM.out.last
      have late : ∀ (w8 : World) (gs8 : List Gm), Stp w7.drew w8 (wfoot pl (w.heap.size + 1) w.heap.size gs) (wfoot pl (w.heap.size + 1) w.heap.size gs8) → Stp w7 w8 (wfoot pl (w.heap.size + 1) w.heap.size gs) (wfoot pl (w.heap.size + 1) w.heap.size gs8) ∧
          w8.cell? ⟨bw, i, none⟩ = some (.slice A6 q.length c6) ∧ w8.cell? ⟨b5, q.length, none⟩ = some (.int .u8 77) ∧
          (convert 32 9 (.slice (some ⟨b5, 0, none⟩) q.length c5)).run Tryd.prog w8 = .ok (.string (str q)) w8 ∧ (convert 32 9 (.slice A6 q.length c6)).run Tryd.prog w8 = .ok (.string (str q)) w8 := fun w8 gs8 hS8 => by
        have hS := (Below.stp (S := wfoot pl (w.heap.size + 1) w.heap.size gs) (Below.refl w7.heap.size w7).drew).trans hS8
        obtain ⟨l1, l2, l3⟩ := HM.out.late (y := y) hS
        exact ⟨hS, wo_facts (i := i) (by simpa using hln) l1 l2 l3⟩
      have HLT := Lib.hid late
      clear late
      go_region_held (fun V => V.cell? ⟨bw, i, none⟩ = some (.slice A6 q.length c6) ∧ V.cell? ⟨b5, q.length, none⟩ = some (.int .u8 77) ∧ (convert 32 9 (.slice (some ⟨b5, 0, none⟩) q.length c5)).run Tryd.prog V = .ok (.string (str q)) V ∧ (convert 32 9 (.slice A6 q.length c6)).run Tryd.prog V = .ok (.string (str q)) V) (first | exact ⟨z0, z1, z2, z3⟩ | exact ⟨x0, x1, x2, x3⟩) (first
        | (go_at_call 8; refine hap.mono ?_; rintro e w8 ⟨rfl, gs8, hW8, hS8⟩
           obtain ⟨hS8', x0, x1, x2, x3⟩ := HLT.out w8 gs8 hS8
           have H8 := Lib.hid (And.intro hW8 hS8')
           clear hW8 hS8 hS8' hap))
      clear x0 x1 x2 x3 z0 z1 z2 z3
      obtain ⟨l1, l2, l3⟩ := HM.out.late (y := y) H8.out.2
      have H9 : Hid (∃ xs : List Value, w8.ownsRow w.heap.size 5 1 (.slice (some ⟨b5, 0, none⟩) (q.length + 1) c5) (q.length + 1) xs) := ⟨_, l2⟩
      clear l1 l2 l3
      have hxm : ((q.length + 1 : Nat) : Int) = (q.length : Int) + 1 := by omega
      go_wp2_with fail
      go_loopw [94] (fun s94 wr => ∃ k : Nat, k ≤ q.length + 1 ∧ s94 = .int .i64 k ∧ (∃ xs : List Value, wr.ownsRow w.heap.size 5 1 (.slice (some ⟨b5, 0, none⟩) (q.length + 1) c5) (q.length + 1) xs) ∧ Oth (fun k => k = b5) w8 wr) (fun j _ => q.length + 1 - (intOf j).toNat)
      case atStart => exact ⟨0, Nat.zero_le _, rfl, H9.out, ⟨rfl, rfl, rfl, Nat.le_refl _, fun _ _ _ => rfl⟩⟩
      case round =>
        obtain ⟨k, hk, rfl, ⟨xs, hx⟩, hoth⟩ := hrel
        have hxl := hx.1
        by_cases hkn : k < q.length + 1
        · have hkN : (k : Int) < (q.length : Int) + 1 := by omega
          have hk0 : (0 : Int) ≤ k := by omega
          have x0 : ∃ u, wr.cell? ⟨b5, k, none⟩ = some u := ⟨xs[k]'(by omega), by rw [hx.cellAt k (by omega)]; exact List.getElem?_eq_getElem _⟩
          obtain ⟨u0, x0⟩ := x0
          have f0 := hx.frozenAt k
          have HX := Lib.hid (And.intro hx hoth)
          clear hx hoth
          go_wp2_with fail
          exact ⟨⟨k + 1, by omega, by go_num, ⟨_, (HX.out.1.stored k _).1⟩, oth_set HX.out.2 rfl⟩, by simp [intOf]; omega⟩
        · have hkN : ¬ (k : Int) < (q.length : Int) + 1 := by omega
          have hN := HM.out.next H8.out.1 H8.out.2 hoth HN.out.1 HN.out.2.1 HN.out.2.2.1 HN.out.2.2.2.2 HN.out.2.2.2.1 HS.out.con HP.out.1 HP.out.2.1
          have HNN := Lib.hid hN
          clear hx hoth hN
          go_wp2_with fail
          exact ⟨⟨i + 1, _, c7, _, gs8, y, g', by omega, by omega, by go_num, rfl, HNN.out⟩, by simp only [intOf]; omega⟩
    · have hend : ¬ ((i : Int) < n0) ∨ ((i : Int) < n0 ∧ ¬ ((i : Int) < 20)) := by omega
      obtain ⟨D, hD⟩ : ∃ D, D = g.con.map Prod.snd := ⟨_, rfl⟩
      have hcn : (tcon g.all).map Prod.snd = D := by rw [con_all HS.out.ok, hD]
      have hop1 := open_log HW.out HS.out.wl.bel HS.out.wl.dr (fun k hk => HS.out.wl.lo k (.inr hk)) (HS.out.wl.fs.trans HS.out.is.fs) HS.out.ok.all_segs (by omega) (by have := HS.out.ok.sN; omega)
      have hop2 := fun (V : World) (hV : Below wr.heap.size wr V) => open_log HW.out (HS.out.wl.bel.trans (hV.mono HS.out.wl.bel.size)) (HS.out.wl.dr.below hV (Nat.le_refl _)) (fun k hk => HS.out.wl.lo k (.inr hk)) (HS.out.wl.fs.trans HS.out.is.fs) HS.out.ok.all_segs (by omega) (by have := HS.out.ok.sN; omega)
      unfold Opened at hop1 hop2
      rw [hcn] at hop1 hop2
      have hDl : D.length = i := by
        have h1 := HS.out.each.len
        have h2 := HS.out.row.1
        rw [← hD] at h1
        omega
      subst hDl
      have HD := Lib.hid (And.intro hD True.intro)
      have HOP := Lib.hid hop2
      have hsb := HS.out.wl.bel.size
      obtain ⟨wB, rfl⟩ : ∃ wB : World, wB = wr := ⟨_, rfl⟩
      clear hop2 hcn hD
      rcases hend with hend | ⟨hend1, hend2⟩
      all_goals
        go_wp2_with fail
        refine hop1.mono ?_
        rintro e w11 ⟨pl1, s1, Ap, cp, vp, rfl, -, -, -, -, hr1, he1, hb1, -⟩
        have hop := HOP.out w11 hb1
        have H1 := Lib.hid (And.intro hr1 (And.intro he1 hb1))
        clear hop1 hr1 he1 hb1
        go_wp2_with fail
        refine hop.mono ?_
        rintro e w12 ⟨pl2, s2, Aq, cq, vq, rfl, -, -, -, -, hr2, he2, hb2, -⟩
        have H2 := Lib.hid (And.intro hr2 (And.intro he2 hb2))
        clear hop hr2 he2 hb2
        go_wp2_with fail
        have HP0 : Hid (Pq w12 w12 wB.heap.size w11.heap.size Ap D.length cp 700 vp) := pq_start H1.out.1 H1.out.2.1 H2.out.2.2 (fun l hl => by
          rw [HD.out.1, HS.out.con] at hl
          obtain ⟨p, _, rfl⟩ := List.mem_map.1 hl
          rw [List.length_take]; omega)
        go_loopw [115] (fun s115 wr => ∃ (a : Nat) (us : List Value), a ≤ D.length ∧ s115 = .int .i64 a ∧ Pq w12 wr wB.heap.size w11.heap.size Ap D.length cp (700 + 20 * a) us) (fun j _ => D.length - (intOf j).toNat)
        case atStart => exact ⟨0, vp, Nat.zero_le _, rfl, HP0.out⟩
        case round =>
          obtain ⟨a, us, ha, rfl, hP⟩ := hrel
          by_cases hin : a < D.length
          · have hcN : (a : Int) < D.length := by omega
            have ha0 : (0 : Int) ≤ a := by omega
            obtain ⟨bp, m, Av, cv, xs, hAp, hg, x0, f0, hx, hm⟩ := hP.at_ hin
            have hm2 : m ≤ 1100 := by omega
            obtain ⟨wo, rfl⟩ : ∃ wo : World, wo = wr := ⟨_, rfl⟩
            have HP := Lib.hid (And.intro hP hg)
            subst hAp
            clear hP hx hg
            go_wp2_with fail
            go_loopw [123] (fun s123 wr => ∃ k : Nat, k ≤ m ∧ s123 = .int .i64 k ∧ Pq w12 wr wB.heap.size w11.heap.size (some ⟨bp, 0, none⟩) D.length cp (700 + 20 * a) us) (fun j _ => m - (intOf j).toNat)
            case atStart => exact ⟨0, Nat.zero_le _, rfl, HP.out.1⟩
            case round =>
              obtain ⟨k, hk, rfl, hP2⟩ := hrel
              by_cases hin2 : k < m
              · have hcN2 : (k : Int) < m := by omega
                have hk0 : (0 : Int) ≤ k := by omega
                obtain ⟨y0, e0⟩ := hP2.cell HP.out.2 hin
                obtain ⟨zs, hz⟩ := hP2.elem HP.out.2
                obtain ⟨gb, hAv, -, -, -⟩ := own_head hz (by omega)
                subst hAv
                have hzl : zs.length = m := by have := hz.1; omega
                obtain ⟨u, z0⟩ : ∃ u, wr.cell? ⟨gb, k, none⟩ = some u := ⟨zs[k]'(by omega), by rw [hz.cellAt k (by omega)]; exact List.getElem?_eq_getElem (by omega)⟩
                have z1 := hz.frozenAt k
                have HP2 := Lib.hid hP2
                clear hP2 hz hzl x0 f0
                go_wp2_with fail
                exact ⟨⟨k + 1, by omega, by go_num, HP2.out.set (List.mem_of_getElem? HP.out.2)⟩, by simp [intOf]; omega⟩
              · have hcN2 : ¬ (k : Int) < m := by omega
                have HP2 := Lib.hid hP2
                clear hP2 x0 f0
                obtain ⟨wx, rfl⟩ : ∃ wx : World, wx = wr := ⟨_, rfl⟩
                go_wp2_with fail
                go_loopw [20] (fun s20 wr => ∃ (k : Nat) (us : List Value), k ≤ 20 ∧ s20 = .int .i64 k ∧ Pq w12 wr wB.heap.size w11.heap.size (some ⟨bp, 0, none⟩) D.length cp (700 + 20 * a + k) us) (fun j _ => 20 - (intOf j).toNat)
                case atStart => exact ⟨0, us, Nat.zero_le _, rfl, HP2.out⟩
                case round =>
                  obtain ⟨k, us, hk, rfl, hP3⟩ := hrel
                  by_cases hin3 : k < 20
                  · have hcN3 : (k : Int) < 20 := by omega
                    have hk0 : (0 : Int) ≤ k := by omega
                    obtain ⟨bp2, m3, A3x, c3x, zs, hb2, hg3, y0, e0, hz, hm3⟩ := hP3.at_ hin
                    injection hb2 with hb2
                    injection hb2 with hb2
                    subst hb2
                    have hsz3 := Nat.le_trans (Nat.le_trans hP3.le hP3.oth.size) (Nat.le_refl _)
                    have hsz4 := H1.out.2.2.size
                    have HP3 := Lib.hid (And.intro hP3 (And.intro hg3 hz))
                    obtain ⟨wq, rfl⟩ : ∃ wq : World, wq = wr := ⟨_, rfl⟩
                    clear hP3 hg3 hz
                    go_wp2_with (at_builtin; refine wpList_app8 _ rfl (.tmp 142) (.tmp 143) rfl wB.heap.size _ m3 zs rfl (HP3.out.2.2.alloc _) ⟨wq.heap.size, 0, none⟩ (.int .u8 8) rfl (Sl.new _ _ _) rfl (by omega) (by simp; omega) ?_
                                 intro A5 c5 w5 hx5 hg5 hat5 ht5
                                 have hrow5 := own_apart2 (HP3.out.1.row.alloc _) (HP3.out.2.2.alloc _) hg5 (by decide)
                                 have v0 : w5.cell? ⟨bp, a, none⟩ = some (.slice A3x m3 c3x) := (hrow5.cellAt a (by omega)).trans HP3.out.2.1
                                 have v1 := hrow5.frozenAt a
                                 have HV := Lib.hid (HP3.out.1.app rfl HP3.out.2.1 hm3 hx5 hg5 hat5 ht5)
                                 clear hx5 hg5 hat5 ht5 hrow5)
                    exact ⟨⟨k + 1, _, by omega, by go_num, HV.out⟩, by simp [intOf]; omega⟩
                  · have hcN3 : ¬ (k : Int) < 20 := by omega
                    have HP3 := Lib.hid hP3
                    clear hP3
                    go_wp2_with fail
                    exact ⟨⟨a + 1, us, by omega, by go_num, HP3.out.mono (by omega)⟩, by simp [intOf]; omega⟩
          · have hcN : ¬ (a : Int) < D.length := by omega
            obtain ⟨q1, q2, q3, q4, q5⟩ := pq_end HS.out HD.out.1 H1.out.2.2 H2.out.2.2 H2.out.1 H2.out.2.1 hP
            have hsa := same_any Aq Aw D.length cq D.length cw vq vs D D wr q1 q2 q3 q4 (by omega) (by omega)
            rw [decide_eq_true rfl] at hsa
            clear q1 q2 q3 q4 hP
            go_wp2_with (go_at_call 12; refine hsa.mono ?_; rintro e w13 ⟨rfl, hb13⟩)
            go_ret
            exact ⟨rfl, q5.trans (hb13.mono q5.size)⟩
end Go.Proofs.YtcfmialhlklmgaaDoor
