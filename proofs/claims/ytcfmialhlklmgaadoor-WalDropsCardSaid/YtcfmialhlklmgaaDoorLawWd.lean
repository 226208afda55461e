/-
  The law WalDrops as a walk.
-/
import Derived.Test.YtcfmialhlklmgaaDoorWaT
namespace Go.Proofs.YtcfmialhlklmgaaDoor
open Go.RowKit Go.Maps Num Crc
set_option linter.unusedVariables false

def keepP (before : Int) (seg : Nat) (t : Nat × List UInt8) : Bool := decide (before ≤ (t.1 : Int) ∨ t.1 = seg)
theorem is_dropped {g : Gh} {N : Nat} (ok : g.Ok N) {before : Int} : (tcon ({ g with rs := g.rs.filter fun r => decide (before ≤ (r.k : Int)) } : Gh).all).map Prod.snd = (g.con.filter (keepP before g.seg)).map Prod.snd := by
  rw [con_all (ok.dropped _), con_dropped ok]
  rfl
/-- Where the first loop stands. -/
structure Wd1 (w wr : World) (pl pb mb : Nat) (ls : List (List UInt8)) (i : Nat) (Aa : Option Addr) (ca : Nat) (gs : List Gm) (x : Ws) (g : Gh) : Prop where
  wl : Wl w wr pl pb mb gs x
  is : Is x g
  ok : g.Ok (i + 1)
  dd : x.dd = false
  ar : x.ar = false
  row : wr.ownsRow w.heap.size 3 1 (.slice Aa i ca) i (g.con.map fun t => Value.int .i64 (t.1 : Int))
  con : g.con.map Prod.snd = (ls.take i).map (List.take 700)
theorem Wd1.len {w wr : World} {pl pb mb i ca : Nat} {ls : List (List UInt8)} {Aa : Option Addr} {gs : List Gm} {x : Ws} {g : Gh} (h : Wd1 w wr pl pb mb ls i Aa ca gs x g) : g.con.length = i := by
  have := h.row.1
  simpa using this
set_option maxRecDepth 40000 in
set_option maxHeartbeats 8000000 in
theorem drops_law {w : World} (hW : WL w) {A0 : Option Addr} {n0 c0 : Nat} {ls : List (List UInt8)} (hR : Br w A0 n0 ls) (hl : ∀ l ∈ ls, l.length ≤ 140737488355328) (before : Int) (hbf : -9223372036854775808 ≤ before ∧ before ≤ 9223372036854775807) :
    Calls Tryd.prog 3 #[.slice A0 n0 c0, .int .i64 before] w fun e w' => e = .returned (.bool true) ∧ Below w.heap.size w w' := by
  have HW := Lib.hid hW
  have HR := Lib.hid hR
  have HL := Lib.hid hl
  clear hW hR hl
  go_enter Tryd.func3, Tryd.ntmps3
  go_wp2_with fail
  refine (new_any _).mono ?_
  rintro e w1 ⟨rfl, hD1, hb1⟩
  have hf1 : ∀ k, foot (w.heap.size + 1) w.heap.size [] k → w.heap.size ≤ k := fun k hk => by rcases hk with e | e | ⟨g, hg, _⟩; omega; omega; cases hg
  have haw := awake3_any w1 (HW.out.keep hb1)
  have HD1 := Lib.hid hD1
  clear hD1
  go_wp2_with fail
  refine haw.mono ?_
  rintro e w2 ⟨rfl, hb2⟩
  have hb2' : Below w.heap.size w w2 := hb1.trans (hb2.mono hb1.size)
  have hop := open_log (rs := []) (b := 1) HW.out hb2' (HD1.out.below hb2 (Nat.le_refl _)) hf1 rfl ⟨List.Pairwise.nil, by simp⟩ (Nat.le_refl _) (by decide)
  clear haw
  go_wp2_with fail
  refine hop.mono ?_
  rintro e w3 ⟨pl, s, A3, c3, vs3, rfl, hW3, hs1, hs2, hs3, -, -, hb3, -⟩
  obtain rfl : s = 1 := by omega
  obtain ⟨hi3, ok3⟩ := is_opened (N := 1) (st := 0) (lf := 0) (ar := false) hs3 (Nat.le_refl _) (Nat.le_refl _) (fun r hr => by cases hr)
  have H3 : Hid (Wd1 w w3 pl (w.heap.size + 1) w.heap.size ls 0 none 0 [] _ _) := ⟨hW3, hi3, ok3, rfl, rfl, World.ownsRow_nil _ _ _ _, by simp [Gh.con, tcon]⟩
  clear hop hW3 hs3 hi3 ok3 hs1 hs2 hb1 hb2 hb2' hb3
  go_wp2_with fail
  go_loopw [9, 10] (fun s9 s10 wr => ∃ (i : Nat) (Aa : Option Addr) (ca : Nat) (gs : List Gm) (x : Ws) (g : Gh), i ≤ n0 ∧ i ≤ 20 ∧ s10 = .int .i64 i ∧ s9 = .slice Aa i ca ∧ Wd1 w wr pl (w.heap.size + 1) w.heap.size ls i Aa ca gs x g) (fun _ j _ => n0 - (intOf j).toNat)
  case atStart => exact ⟨0, none, 0, _, _, _, Nat.zero_le _, Nat.zero_le _, rfl, rfl, H3.out⟩
  case round =>
    obtain ⟨i, Aa, ca, gs, x, g, hi, hi2, rfl, rfl, hS⟩ := hrel
    have HS := Lib.hid hS
    clear hS
    by_cases hgo : i < n0 ∧ i < 20
    · obtain ⟨hin, hi20⟩ := hgo
      have hcN : (i : Int) < n0 := by omega
      have hcM : (i : Int) < 20 := by omega
      obtain ⟨b, o, K, p, c, rfl, hp, hce, hsl, hpc⟩ := HR.out.at_ hin
      have hpl := HL.out p (List.mem_of_getElem? hp)
      have hbr := HS.out.wl.bel
      have hcr : wr.cell? ⟨b, o + i, none⟩ = some (.slice K p.length c) := (hbr.cell (World.block_lt_of_cell? w _ hce)).trans hce
      have hcut := cut_any K p.length c p wr (hsl.below hbr) hpl hpc
      obtain ⟨q, hq⟩ : ∃ q, q = p.take 700 := ⟨_, rfl⟩
      have hql : q.length ≤ 700 := by rw [hq, List.length_take]; omega
      rw [← hq] at hcut
      have HP := Lib.hid (And.intro hp hq)
      clear hp hce hsl hq
      obtain ⟨e1, g', e2, e3, e4, e5⟩ := app_is HS.out.is HS.out.ok (by omega) HS.out.dd (p := q) hql
      obtain ⟨a1, a2, a3⟩ : (appX x q).2 = 0 ∧ (appX x q).1.dd = false ∧ g'.con = g.con ++ [(g'.seg, q)] := by
        rcases e5 with h | ⟨_, _, h, _⟩
        · exact h
        · rw [HS.out.ar] at h; cases h
      have hap := fun (A4 : Option Addr) (c4 : Nat) (w4 : World) (hb4 : Below wr.heap.size wr w4) (hs4 : Sl w4 A4 q.length (bv q)) => lappend_any (HS.out.wl.below hb4) A4 _ c4 q hs4
      rw [a1] at hap
      have har : (appX x q).1.ar = false := e1.trans HS.out.ar
      generalize (appX x q).1 = y at hap e2 a2 har
      have HAP := Lib.hid hap
      have HN := Lib.hid (And.intro e2 (And.intro e3 (And.intro a2 (And.intro a3 har))))
      clear hap e1 e2 e3 e4 e5 a1 a2 a3 har
      go_wp2_with fail
      refine hcut.mono ?_
      rintro e w4 ⟨A4, c4, rfl, ho4, hb4⟩
      have hap := HAP.out A4 c4 w4 hb4 (own_sl ho4)
      have HB4 := Lib.hid hb4
      clear hcut ho4 hb4 hcr
      go_wp2_with fail
      refine hap.mono ?_
      rintro e w5 ⟨rfl, gs5, hW5, hS5⟩
      have hrow5 := (HS.out.wl.below HB4.out).row (own_keep HS.out.row HB4.out) plain_int hS5
      have HW5 := Lib.hid hW5
      have hsz := hW5.bel.size
      clear hap hS5 hW5
      go_wp2_with (first
        | (go_at_call 10; refine (lseg_any HW5.out).mono ?_; rintro e w6 ⟨rfl, rfl⟩)
        | (at_builtin; refine wpList_app _ rfl (.tmp 53) (.tmp 56) 30 rfl w.heap.size numEl (by decide) _ _ _ rfl (hrow5.alloc _) (some ⟨w6.heap.size, 0, none⟩) 1 1 [.int .i64 y.seg] rfl (Sl.new _ _ _) (by intro u hu; simp at hu; subst hu; rfl) (by omega) (by simp; omega) ?_; intro A7 c7 w7 hown7 hg7 hat7))
      have hW7 := (HW5.out.alloc (.cells #[.int .i64 y.seg] 3)).grown (hrow5.alloc _) plain_int (Nat.le_refl _) hg7
      refine ⟨⟨i + 1, A7, c7, gs5, y, g', by omega, by omega, by go_num, rfl, hW7, HN.out.1, HN.out.2.1, HN.out.2.2.1, HN.out.2.2.2.2, ?_, ?_⟩, by simp only [intOf]; omega⟩
      · rw [HN.out.2.2.2.1, List.map_append]
        rw [HN.out.1.seg] at hown7
        exact hown7
      · rw [HN.out.2.2.2.1, List.map_append, HS.out.con, List.take_add_one, HP.out.1]
        simp [HP.out.2]
    · have hcon := HS.out.con
      have hlen := HS.out.len
      have hend : ¬ ((i : Int) < n0) ∨ ((i : Int) < n0 ∧ ¬ ((i : Int) < 20)) := by omega
      have HK := Lib.hid (And.intro hcon hlen)
      obtain ⟨d1, d2, d3, d4⟩ := drop_is HS.out.is HS.out.ok (by omega) HS.out.dd HS.out.ar before
      have hdr := drop_any HS.out.wl before hbf
      rw [d1] at hdr
      have hys : (dropX x before).1.seg = (g.seg : Int) := d4.seg
      generalize (dropX x before).1 = y at hdr d4 hys
      have HD := Lib.hid d4
      have hsg1 := lseg_any HS.out.wl
      rw [HS.out.is.seg] at hsg1
      clear d1 d2 d3 d4 hcon hlen
      rcases hend with hend | ⟨hend1, hend2⟩
      all_goals
        go_wp2_with fail
        refine hsg1.mono ?_
        rintro e w4 ⟨rfl, rfl⟩
        go_wp2_with fail
        refine hdr.mono ?_
        rintro e w5 ⟨rfl, gs5, hW5, hS5⟩
        have hrow5 := HS.out.wl.row HS.out.row plain_int hS5
        have hsg2 := lseg_any hW5
        rw [hys] at hsg2
        have hop := open_log HW.out hW5.bel hW5.dr (fun k hk => hW5.lo k (.inr hk)) (hW5.fs.trans HD.out.fs) (HS.out.ok.dropped _).all_segs (by omega) (by have := HS.out.ok.sN; simp only; omega)
        unfold Opened at hop
        rw [is_dropped HS.out.ok] at hop
        obtain ⟨D, hD⟩ : ∃ D, D = (g.con.filter (keepP before g.seg)).map Prod.snd := ⟨_, rfl⟩
        rw [← hD] at hop
        have hDl : D.length ≤ 20 := by
          rw [hD, List.length_map]
          have := List.length_filter_le (keepP before g.seg) g.con
          have := HK.out.2
          omega
        have HDD := Lib.hid hD
        have HW5 := Lib.hid hW5
        clear hW5 hS5 hdr hsg1 hD
        go_wp2_with fail
        refine hsg2.mono ?_
        rintro e w6 ⟨rfl, rfl⟩
        go_wp2_with fail
        refine hop.mono ?_
        rintro e w7 ⟨pl2, s2, A7, c7, vs7, rfl, -, -, -, -, hr7, he7, hb7, -⟩
        have hrow7 := own_keep hrow5 hb7
        have HX := Lib.hid (And.intro hrow7 (And.intro hr7 (And.intro he7 (HW5.out.bel.trans (hb7.mono HW5.out.bel.size)))))
        clear hop hsg2 hr7 he7 hb7 hrow5 hrow7
        go_wp2_with fail
        go_loopw [14, 78] (fun s14 s78 wr => ∃ (k : Nat) (E : List (List UInt8)) (Aw : Option Addr) (cw : Nat) (vw : List Value), k ≤ i ∧ s78 = .int .i64 k ∧ s14 = .slice Aw E.length cw ∧ E = ((g.con.take k).filter (keepP before g.seg)).map Prod.snd ∧ E.length ≤ k ∧
          wr.ownsRow w7.heap.size 32 1 (.slice Aw E.length cw) E.length vw ∧ Each wr w7.heap.size vw E ∧ Below w7.heap.size w7 wr) (fun _ j _ => i - (intOf j).toNat)
        case atStart => exact ⟨0, [], none, 0, [], Nat.zero_le _, rfl, rfl, rfl, Nat.le_refl _, World.ownsRow_nil _ _ _ _, trivial, Below.refl _ _⟩
        case round =>
          obtain ⟨k, E, Aw, cw, vw, hk, rfl, rfl, hE, hEl, how, hew, hbw⟩ := hrel
          have HE := Lib.hid hE
          have HO := Lib.hid (And.intro how (And.intro hew hbw))
          clear hE
          by_cases hin : k < i
          · have hcN : (k : Int) < i := by omega
            obtain ⟨b, o, u, rfl, hu, hcell⟩ := (own_sl HX.out.1).at_ hin
            obtain ⟨t, ht⟩ : ∃ t, g.con[k]? = some t := ⟨_, List.getElem?_eq_getElem (by rw [HK.out.2]; exact hin)⟩
            rw [List.getElem?_map, ht] at hu
            obtain rfl := Option.some.inj hu
            have hcr : wr.cell? ⟨b, o + k, none⟩ = some (.int .i64 (t.1 : Int)) := (hbw.cell (World.block_lt_of_cell? w7 _ hcell)).trans hcell
            have hE1 : ((g.con.take (k + 1)).filter (keepP before g.seg)).map Prod.snd = if keepP before g.seg t then E ++ [t.2] else E := by
              rw [List.take_add_one, ht, List.filter_append, List.map_append, HE.out]
              cases hq : keepP before g.seg t <;> simp [hq]
            have hp2 : ∃ p, ls[k]? = some p ∧ t.2 = p.take 700 := by
              have h1 : (g.con.map Prod.snd)[k]? = some t.2 := by rw [List.getElem?_map, ht]; rfl
              rw [HK.out.1, List.getElem?_map, List.getElem?_take, if_pos hin] at h1
              cases hl0 : ls[k]? with
              | none => rw [hl0] at h1; cases h1
              | some p => rw [hl0] at h1; exact ⟨p, rfl, (Option.some.inj h1).symm⟩
            obtain ⟨b2, o2, K, p, c, rfl, hp, hce, hsl, hpc⟩ := HR.out.at_ (i := k) (by omega)
            have hpt : t.2 = p.take 700 := by
              obtain ⟨p', h1, h2⟩ := hp2
              rw [hp] at h1
              rw [h2, Option.some.inj h1]
            have hpl := HL.out p (List.mem_of_getElem? hp)
            have hbr : Below w.heap.size w wr := HX.out.2.2.2.trans (hbw.mono HX.out.2.2.2.size)
            have hcp : wr.cell? ⟨b2, o2 + k, none⟩ = some (.slice K p.length c) := (hbr.cell (World.block_lt_of_cell? w _ hce)).trans hce
            have hcut := cut_any K p.length c p wr (hsl.below hbr) hpl hpc
            rw [← hpt] at hcut
            have hkn : (k : Int) < n0 := by omega
            have HE1 := Lib.hid hE1
            obtain ⟨t1, t2⟩ := t
            simp only at hcr hcut HE1
            have HT := Lib.hid (And.intro ht hpt)
            clear hu ht hcell hE1 hp2 hp hce hsl hpc hpl hbr hpt how hew hbw
            have hcond : ((before ≤ (t1 : Int)) ∧ keepP before g.seg (t1, t2) = true) ∨ (¬ before ≤ (t1 : Int) ∧ t1 = g.seg ∧ keepP before g.seg (t1, t2) = true) ∨ (¬ before ≤ (t1 : Int) ∧ ¬ (t1 : Int) = g.seg ∧ keepP before g.seg (t1, t2) = false) := by
              unfold keepP
              by_cases h1 : before ≤ (t1 : Int)
              · exact .inl ⟨h1, by simp [h1]⟩
              · by_cases h2 : t1 = g.seg
                · exact .inr (.inl ⟨h1, h2, by simp [h2]⟩)
                · exact .inr (.inr ⟨h1, by omega, by simp [h1, h2]⟩)
            rcases hcond with ⟨q1, q2⟩ | ⟨q1, q2, q3⟩ | ⟨q1, q2, q3⟩
            · as_aux_lemma =>
              have hE2 := HE1.out
              rw [q2, if_pos rfl] at hE2
              have HE2 := Lib.hid hE2
              clear hE2 HE1 q2
              go_wp2_with (first
                | (go_at_call 9; refine hcut.mono ?_; rintro e w9 ⟨A9, c9, rfl, ho9, hb9⟩; have hsz9 := (HO.out.2.2.trans (hb9.mono HO.out.2.2.size)).size)
                | (at_builtin; refine wpList_app _ rfl (.tmp 95) (.tmp 101) 22 rfl w7.heap.size rowsEl (by decide) _ _ _ rfl ((own_keep HO.out.1 hb9).alloc _) (some ⟨w9.heap.size, 0, none⟩) 1 1 [.slice A9 t2.length c9] rfl (Sl.new _ _ _) (by intro u hu; simp at hu; subst hu; rfl) (by omega) (by simp; omega) ?_; intro A10 c10 w10 hown10 hg10 hat10))
              have hb9' := HO.out.2.2.trans (hb9.mono HO.out.2.2.size)
              have he9 := ((HO.out.2.1.below hb9).snoc (own_mono ho9 HO.out.2.2.size)).below ((Below.refl _ w9).alloc (Nat.le_refl _) (.cells #[.slice A9 t2.length c9] 32))
              exact ⟨⟨k + 1, E ++ [t2], A10, c10, vw ++ [.slice A9 t2.length c9], by omega, by go_num, by simp, HE2.out.symm, by simp; omega, by simpa using hown10, he9.grown ((own_keep HO.out.1 hb9).alloc _) hg10, (hb9'.alloc hb9'.size _).grown hg10 (by have := hb9'.size; simp; omega) (own_blk (own_keep HO.out.1 hb9))⟩, by simp only [intOf]; omega⟩
            · as_aux_lemma =>
              have q4 : (t1 : Int) = g.seg := by omega
              have hE2 := HE1.out
              rw [q3, if_pos rfl] at hE2
              have HE2 := Lib.hid hE2
              clear hE2 HE1 q3 q2
              go_wp2_with (first
                | (go_at_call 9; refine hcut.mono ?_; rintro e w9 ⟨A9, c9, rfl, ho9, hb9⟩; have hsz9 := (HO.out.2.2.trans (hb9.mono HO.out.2.2.size)).size)
                | (at_builtin; refine wpList_app _ rfl (.tmp 95) (.tmp 101) 22 rfl w7.heap.size rowsEl (by decide) _ _ _ rfl ((own_keep HO.out.1 hb9).alloc _) (some ⟨w9.heap.size, 0, none⟩) 1 1 [.slice A9 t2.length c9] rfl (Sl.new _ _ _) (by intro u hu; simp at hu; subst hu; rfl) (by omega) (by simp; omega) ?_; intro A10 c10 w10 hown10 hg10 hat10))
              have hb9' := HO.out.2.2.trans (hb9.mono HO.out.2.2.size)
              have he9 := ((HO.out.2.1.below hb9).snoc (own_mono ho9 HO.out.2.2.size)).below ((Below.refl _ w9).alloc (Nat.le_refl _) (.cells #[.slice A9 t2.length c9] 32))
              exact ⟨⟨k + 1, E ++ [t2], A10, c10, vw ++ [.slice A9 t2.length c9], by omega, by go_num, by simp, HE2.out.symm, by simp; omega, by simpa using hown10, he9.grown ((own_keep HO.out.1 hb9).alloc _) hg10, (hb9'.alloc hb9'.size _).grown hg10 (by have := hb9'.size; simp; omega) (own_blk (own_keep HO.out.1 hb9))⟩, by simp only [intOf]; omega⟩
            · have hE2 := HE1.out
              rw [q3, if_neg (by decide)] at hE2
              have HE2 := Lib.hid hE2
              clear hE2 HE1 q3 hcut hcp
              go_wp2_with fail
              exact ⟨⟨k + 1, E, Aw, cw, vw, by omega, by go_num, rfl, HE2.out.symm, by omega, HO.out.1, HO.out.2.1, HO.out.2.2⟩, by simp only [intOf]; omega⟩
          · have hcN : ¬ (k : Int) < i := by omega
            have hED : E = D := by
              have h1 := HE.out
              rw [List.take_of_length_le (by rw [HK.out.2]; omega)] at h1
              exact h1.trans HDD.out.symm
            clear HE
            subst hED
            have hx7 := HX.out.2.1
            have hx8 := HX.out.2.2.1
            have hsa := same_any A7 Aw E.length c7 E.length cw vs7 vw E E wr ((own_sl hx7).below hbw) (own_sl how) ((hx8.below hbw).toS) hew.toS (by omega) (by omega)
            rw [decide_eq_true rfl] at hsa
            have hbr : Below w.heap.size w wr := HX.out.2.2.2.trans (hbw.mono HX.out.2.2.2.size)
            clear hx7 hx8 how hew
            go_wp2_with (go_at_call 12; refine hsa.mono ?_; rintro e w11 ⟨rfl, hb11⟩)
            go_ret
            exact ⟨rfl, hbr.trans (hb11.mono hbr.size)⟩
end Go.Proofs.YtcfmialhlklmgaaDoor
