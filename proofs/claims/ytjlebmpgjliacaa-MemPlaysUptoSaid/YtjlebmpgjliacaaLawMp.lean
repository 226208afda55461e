/-
  The law MemPlays as a walk.
-/
import Derived.Test.YtjlebmpgjliacaaMrG
import Derived.Deep.RegionWith
namespace Go.Proofs.Ytjlebmpgjliacaa
open Go.RowKit Go.Shelf
attribute [local go_sem] Oper.semAt_some
set_option linter.unusedVariables false

set_option maxRecDepth 100000 in
set_option maxHeartbeats 8000000 in
theorem plays_in (m : Nat) {w : World} {A0 : Option Addr} {n0 c0 : Nat} {os : List Mo} (hR : Mls w A0 n0 os) (key : List UInt8) :
    CallsIn Fence.wide (m + 5) Try.prog 3 #[.slice A0 n0 c0, .string (str key)] w fun e w' => e = .returned (.bool true) ∧ Below w.heap.size w w' := by
  have HR := Lib.hid hR
  clear hR
  refine callsIn_of_wp_marks Try.func3 rfl trivial ?_ rfl
  simp only [Try.ntmps3, List.size_toArray, List.length_cons, List.length_nil, Nat.reduceAdd, Nat.reduceSub, Array.replicate_succ, Array.replicate_zero, List.push_toArray, List.append_toArray, List.nil_append, List.cons_append]
  refine wpIn_wide.2 ?_
  go_wp2_with fail
  have hb0 : Below w.heap.size w (w.alloc (.cells #[.bool false] 4)) := (Below.refl _ w).alloc (Nat.le_refl _) _
  have hr0 := Boxed.new w 4 (.bool false)
  refine (new_w hb0).mono ?_
  rintro r w1 ⟨rfl, hT1, hb1⟩
  obtain ⟨R, hRq⟩ : ∃ R, R = w.heap.size := ⟨_, rfl⟩
  obtain ⟨t, htq⟩ : ∃ t, t = (w.alloc (.cells #[.bool false] 4)).heap.size := ⟨_, rfl⟩
  rw [← htq] at hT1
  have hr1 : Boxed w1 R 4 (.bool false) := by rw [hRq]; exact (hb1.block _ hr0.lt).trans hr0
  have hRw : w.heap.size ≤ R := by omega
  have H1 := Lib.hid (And.intro hT1 (And.intro hr1 hRw))
  clear hT1 hr1 hb1 hr0 hb0 hRw
  rw [← htq]
  rw [← hRq]
  clear htq
  go_wp2_with fail
  refine (awake4_any w1).mono ?_
  rintro r w2 ⟨rfl, hb2⟩
  obtain ⟨L, hLq⟩ : ∃ L, L = w2.heap.size := ⟨_, rfl⟩
  have H2 : Hid (Ps w (w2.alloc (.cells #[.slice none 0 0] 26)) t R L [] none 0) := by
    rw [hLq]
    refine ⟨⟨(H1.out.1.below hb2).alloc _, ownE_nil _ _, fun n hn => (by cases hn)⟩, Boxed.new w2 _ _, ?_⟩
    exact (Below.heap_alloc w2 _ _ (Nat.lt_of_lt_of_le H1.out.2.1.lt hb2.size)).trans ((hb2.block _ H1.out.2.1.lt).trans H1.out.2.1)
  have H2b := Lib.hid hb2.size
  clear hb2
  go_wp2_with fail
  rw [← hLq]
  have hLw : w.heap.size ≤ L := by rw [hLq]; exact Nat.le_trans H1.out.1.bel.size H2b.out
  clear hLq
  go_loopw [8] (fun s8 wr => ∃ (i : Nat) (N : List Nd) (A : Option Addr) (c : Nat), i ≤ n0 ∧ i ≤ 100 ∧ N.length ≤ i ∧ s8 = .int .i64 i ∧ Ps w wr t R L N A c) (fun j _ => n0 - (intOf j).toNat)
  case atStart => exact ⟨0, [], none, 0, Nat.zero_le _, Nat.zero_le _, Nat.zero_le _, rfl, H2.out⟩
  case round =>
    obtain ⟨i, N, A, c, hi, hi2, hNi, rfl, hS⟩ := hrel
    have HS := Lib.hid hS
    clear hS H2
    by_cases hgo : i < n0 ∧ i < 100
    · obtain ⟨hin, hi100⟩ := hgo
      have hcN : (i : Int) < n0 := by omega
      have hcM : (i : Int) < 100 := by omega
      obtain ⟨b, off, o, rfl, ho, hok, c0', c1', c2', c3', c4', c5'⟩ := HR.out.at_ hin
      have hbr := HS.out.pl.tb.bel
      have k : ∀ {a : Addr} {u : Value}, w.cell? a = some u → ∀ V, Below w.heap.size w V → V.cell? a = some u := fun h V hV => (hV.cell (World.block_lt_of_cell? w _ h)).trans h
      have d0 := k c0' wr hbr
      have d1 := k c1' wr hbr
      have d2 := k c2' wr hbr
      have d3 := k c3' wr hbr
      have d4 := k c4' wr hbr
      have d5 := k c5' wr hbr
      have d6 := HS.out.lb.cell
      clear c0' c1' c2' c3' c4' c5' ho k hbr
      go_wp2_with fail
      have hS5 : Ps w wr.drew t R L N A c := HS.out.below (below_dN9 wr 1)
      have HS5 := Lib.hid hS5
      clear hS5
      refine only_normal ?_
      go_region_with (go_at_call 7; refine (play4_any HS5.out.pl (by omega) o hok).mono ?_; rintro r w5 ⟨N', A', c', rfl, hp5, hl5, hf5⟩
                      have hlb : Boxed w5 L 26 (.slice A N.length c) := hf5 L _ _ HS5.out.lb (by decide) (by decide)
                      have hrb : Boxed w5 R 4 (.bool false) := hf5 R _ _ HS5.out.rb (by decide) (by decide)
                      have g0 := hlb.cell
                      have g1 := hlb.frozen
                      have HP5 := Lib.hid (And.intro hp5 (And.intro hl5 (And.intro hlb hrb)))
                      clear hf5 hp5 hl5 hlb hrb)
      all_goals
        have hS6 := Ps.store (N := N) HP5.out.1 HP5.out.2.2.1 HP5.out.2.2.2 hLw
        have HS6 := Lib.hid hS6
        clear g0 g1 d0 d1 d2 d3 d4 d5 d6
        generalize hw6 : w5.setCell ⟨L, 0, none⟩ (.slice A' N'.length c') = w6 at hS6 HS6 ⊢
        clear hS6 hw6
        go_wp2_with fail
        have hL6 := fun V (h : Below w6.heap.size w6 V) => len_any ((HS6.out.below h).pl.tb.tbl.tb)
        have e6 := HS6.out.lb.cell
        have HL6 := Lib.hid hL6
        clear hL6
        refine only_normal ?_
        go_region_with (go_at_call 8; refine (HL6.out _ (by first | exact Below.refl _ _ | exact below_dN9 w6 1)).mono ?_; rintro r w7 ⟨rfl, rfl⟩)
        all_goals
          have hS7 : Ps w w6.drew t R L N' A' c' := HS6.out.below (below_dN9 w6 1)
          have HS7 := Lib.hid hS7
          clear hS7 e6
          go_wp2_with fail
          exact ⟨⟨i + 1, N', A', c', by omega, by omega, by have := HP5.out.2.1; omega, by go_num, HS7.out⟩, by simp only [intOf]; omega⟩
    · have hend : ¬ ((i : Int) < n0) ∨ ((i : Int) < n0 ∧ ¬ ((i : Int) < 100)) := by omega
      have hSn : ∀ o', Ps w (wr.alloc o') t R L N A c := fun o' => HS.out.below ((Below.refl _ wr).alloc (Nat.le_refl _) o')
      have HSn := Lib.hid hSn
      have e6 := (HS.out.below ((Below.refl _ wr).alloc (Nat.le_refl _) (.cells #[.int .i64 0] 3))).lb.cell
      have hlen : (esOf N).length = N.length := by simp [esOf]
      have hcap := own_capE HS.out.pl.row
      have hN1 : N.length ≤ 100 := by omega
      obtain ⟨p, hp⟩ : ∃ p, p = posE (esOf N) key 4611686018427387904 := ⟨_, rfl⟩
      have hpl : p ≤ N.length := by rw [hp, ← hlen]; exact posE_le _ _ _
      have HPP := Lib.hid hp
      clear hSn hp
      rcases hend with hend | ⟨hend1, hend2⟩
      all_goals
        go_wp2_with fail
        obtain ⟨Nb, hNb⟩ : ∃ Nb, Nb = wr.heap.size := ⟨_, rfl⟩
        have hNw : w.heap.size ≤ Nb := by rw [hNb]; exact HS.out.pl.tb.bel.size
        have hn0 : Boxed (wr.alloc (.cells #[.int .i64 0] 3)) Nb 3 (.int .i64 0) := by rw [hNb]; exact Boxed.new wr _ _
        have HN0 := Lib.hid hn0
        rw [← hNb]
        clear hNb hn0 e6
        go_loopw [7, 51] (fun s7 s51 wq => ∃ (j : Nat), j ≤ N.length ∧ s7 = .int .i64 (bsum ((esOf N).take j)) ∧ s51 = .int .i64 j ∧ Ps w wq t R L N A c ∧ Boxed wq Nb 3 (.int .i64 ((min j p : Nat) : Int))) (fun _ s51 _ => N.length - (intOf s51).toNat)
        case atStart => exact ⟨0, Nat.zero_le _, rfl, rfl, HSn.out _, by rw [Nat.zero_min]; exact HN0.out⟩
        case round =>
          obtain ⟨j, hj, rfl, rfl, hSq, hbq⟩ := hrel
          have HSq := Lib.hid (And.intro hSq hbq)
          clear hSq hbq
          by_cases hjn : j < N.length
          · have hcj : (j : Int) < N.length := by omega
            obtain ⟨b2, o2, x, hA2, hx, z0, z1, z2, z3⟩ := (own_sle HSq.out.1.pl.row).at_ hjn
            subst hA2
            have hxm := List.mem_of_getElem? hx
            obtain ⟨l1, l2, -, -⟩ := chk_len (HS.out.pl.tb.tbl.ok x hxm)
            have hbt := bsum_take hx
            have hbb := bsum_le (es := (esOf N).take j) (fun e he => HS.out.pl.tb.tbl.ok e (List.mem_of_mem_take he))
            have hbl : ((esOf N).take j).length = j := by rw [List.length_take, hlen]; omega
            rw [hbl] at hbb
            generalize bsum ((esOf N).take j) = bj at hbt hbb ⊢
            have k1 := str_size x.key
            have k2 := str_size x.val
            have e6 := HSq.out.1.lb.cell
            have q0 := HSq.out.2.cell
            have q1 := HSq.out.2.frozen
            have hlt := lt_pos HS.out.pl.tb.tbl.srt HS.out.pl.tb.tbl.ok key hx
            rw [← HPP.out] at hlt
            have hless : Op.bytesLess (str x.key).toList (str key).toList = decide (j < p) := by
              rw [show (str x.key).toList = x.key from ByteArray.toList_mk _, show (str key).toList = key from ByteArray.toList_mk _, bless_eq]; exact hlt
            have HBT := Lib.hid hbt
            clear hbt hlt hx hxm
            have hfinS : ∀ (q : Nat) (v : Value), Ps w ((wr.drewN q).setCell ⟨Nb, 0, none⟩ v) t R L N (some ⟨b2, o2, none⟩) c ∧ Boxed ((wr.drewN q).setCell ⟨Nb, 0, none⟩ v) Nb 3 v := fun q v => ⟨(HSq.out.1.below (below_dN9 wr q)).storeN (u := .int .i64 ((min j p : Nat) : Int)) HSq.out.2 hNw, (show Boxed (wr.drewN q) Nb _ _ from HSq.out.2).set v⟩
            have HFS := Lib.hid hfinS
            clear hfinS
            by_cases hjp : j < p
            · rw [show decide (j < p) = true by simpa using hjp] at hless
              have hm : min j p = j := by omega
              have hm2 : min (j + 1) p = j + 1 := by omega
              rw [hm] at q0
              go_wp2_with fail
              refine only_normal ?_
              go_quiet (fail)
              go_wp2_with fail
              have hj1 : ((j + 1 : Nat) : Int) = (j : Int) + 1 := by omega
              refine ⟨⟨j + 1, by omega, by rw [HBT.out, Int.natCast_add], by rw [hj1], (HFS.out nq _).1, ?_⟩, by simp only [intOf]; omega⟩
              rw [hm2, hj1]
              exact (HFS.out nq _).2
            · rw [show decide (j < p) = false by simpa using hjp] at hless
              have hm2 : min (j + 1) p = min j p := by omega
              go_wp2_with fail
              refine only_normal ?_
              go_quiet (fail)
              go_wp2_with fail
              have hj1 : ((j + 1 : Nat) : Int) = (j : Int) + 1 := by omega
              refine ⟨⟨j + 1, by omega, by rw [HBT.out, Int.natCast_add], by rw [hj1], HSq.out.1.below (below_dN9 wr nq), ?_⟩, by simp only [intOf]; omega⟩
              rw [hm2]
              exact HSq.out.2
          · have hcj : ¬ (j : Int) < N.length := by omega
            obtain rfl : j = N.length := by omega
            have hmp : min N.length p = p := by omega
            rw [hmp] at HSq
            rw [show (esOf N).take N.length = esOf N from List.take_of_length_le (by omega)]
            have hfr := from_any HSq.out.1.pl.tb.tbl.tb HSq.out.1.pl.tb.tbl.tall (split_of HSq.out.1.pl.tb.tbl.srt key 4611686018427387904)
            rw [← HPP.out] at hfr
            generalize hbs : bsum (esOf N) = bs
            go_wp2_with fail
            refine hfr.mono ?_
            rintro r w4 ⟨B1, B2, rfl, b1, b2, -, hB2, hb4⟩
            have hNB : Nb < B2 := Nat.lt_of_lt_of_le HSq.out.2.lt hB2
            have hS4 := HSq.out.1.below hb4
            have hn4 : Boxed w4 Nb 3 (.int .i64 (p : Int)) := (hb4.block _ HSq.out.2.lt).trans HSq.out.2
            have H4 := Lib.hid (And.intro hS4 (And.intro hn4 (And.intro b1 b2)))
            clear hfr hS4 hn4 b1 b2 hb4 hB2
            go_wp2_with fail
            have hTv : Tv w4 N B2 (N.length : Int) := ⟨H4.out.1.pl.tb.tbl.tb.nd, H4.out.2.2.2⟩
            have hltv : ∀ k, tvf N B2 k → k < w4.heap.size := fun k hk => hTv.lt hk
            have hww : w.heap.size ≤ w4.heap.size := H4.out.1.pl.tb.bel.size
            have hfs := from_stops (m + 3) H4.out.1.pl.tb.tbl.tall H4.out.1.pl.tb.tbl.tb.nodup hpl w4 hTv H4.out.2.2.1
            rw [fl_drop H4.out.1.pl.num] at hfs
            have HT := Lib.hid hTv
            clear hTv
            refine (wpIn_wide (n := m + 5)).1 ?_
            refine range9 12 82 rfl (by omega) rfl trivial (enters_of Try.func18 (by kernel_rfl) rfl) hfs (kps_t _) (kps_b hltv) (Below.refl _ _)
              (fun pre V => Ps w V t R L N A c ∧ Boxed V Nb 3 (.int .i64 ((p + pre.length : Nat) : Int)) ∧ pre <+: (esOf N).drop p ∧ w4.heap.size ≤ V.heap.size)
              (fun cd pre V => cd = .ret ∧ ¬ (pre <+: (esOf N).drop p))
              (fun pre X Y row hs hg hr => ⟨hs.1.grown9 hg hr hww, boxed9 hs.2.1 hg hr, hs.2.2.1, Nat.le_trans hs.2.2.2 hg.size⟩) (fun cd pre X Y row hs hg hr => hs)
              ⟨H4.out.1, H4.out.2.1, List.nil_prefix, Nat.le_refl _⟩ ?_ ?_ ?_ ?_
            · rintro l pre x V K ⟨hs1, hs2, hs3, hs4⟩ hK
              have HK := Lib.hid hK
              have HI := Lib.hid (And.intro hs1 (And.intro hs2 (And.intro hs3 hs4)))
              clear hK hs1 hs2 hs3 hs4
              simp only [ev_lit, List.setIfInBounds_toArray, List.set_cons_succ, List.set_cons_zero]
              gi_wp2_with fail
              exact HK.out V.heap.size _ ((KeepsOthers.alloc _ _).from _) (fun k hk => Below.heap_alloc V _ _ (Nat.lt_of_lt_of_le (hltv k hk) HI.out.2.2.2)) ⟨HI.out.1.below ((Below.refl _ V).alloc (Nat.le_refl _) _), HI.out.2.1.alloc _, HI.out.2.2.1, by have := HI.out.2.2.2; simp; omega⟩ (Blk.new V _ _)
            · rintro l pre x b V ⟨hs1, hs2, hs3, hs4⟩ hb hlenp
              simp only [ev_lit, List.setIfInBounds_toArray, List.set_cons_succ, List.set_cons_zero]
              obtain ⟨q, hq⟩ : ∃ q, q = p + pre.length := ⟨_, rfl⟩
              rw [← hq] at hs2
              have c0 := hs2.cell
              have c0f := hs2.frozen
              have c1 := hs1.lb.cell
              have c2 : V.cell? ⟨w.heap.size, 0, none⟩ = some (.bool false) := by have := hs1.rb.cell; rwa [hRq] at this
              have c2f : V.frozen? ⟨w.heap.size, 0, none⟩ = false := by have := hs1.rb.frozen; rwa [hRq] at this
              have e0 : V.cell? ⟨b, 0, none⟩ = some (.string (str x.key)) := Blk.cell hb rfl
              have e1 : V.cell? ⟨b, 1, none⟩ = some (.int .i64 x.seq) := Blk.cell hb rfl
              have e2 : V.cell? ⟨b, 2, none⟩ = some (.bool x.del) := Blk.cell hb rfl
              have e3 : V.cell? ⟨b, 3, none⟩ = some (.string (str x.val)) := Blk.cell hb rfl
              have hsl := own_sle hs1.pl.row
              have HI := Lib.hid (And.intro hs1 (And.intro hs2 (And.intro hs3 (And.intro hs4 hq))))
              clear hs1 hs2 hs3 hs4 hb hq
              by_cases hqn : q < N.length
              · have hcq : (q : Int) < N.length := by omega
                obtain ⟨b2, o2, y, hA2, hy, z0, z1, z2, z3⟩ := hsl.at_ hqn
                subst hA2
                have hdrop : ((esOf N).drop p)[pre.length]? = some y := by rw [List.getElem?_drop, ← HI.out.2.2.2.2]; exact hy
                have hnpo : y ≠ x → ¬ (pre ++ [x] <+: (esOf N).drop p) := fun hne h => by
                  obtain ⟨r, hr⟩ := h
                  rw [← hr, List.append_assoc, List.getElem?_append_right (Nat.le_refl _), Nat.sub_self] at hdrop
                  exact hne (by simpa using hdrop.symm)
                have htl : ∀ l : List UInt8, (str l).toList = l := fun l => ByteArray.toList_mk l
                have HD := Lib.hid hdrop
                clear hy hsl hdrop
                by_cases hk : y.key = x.key
                · by_cases hsq : y.seq = x.seq
                  · by_cases hd : y.del = x.del
                    · by_cases hv : y.val = x.val
                      · have hyx : y = x := by cases y; cases x; simp only at hk hsq hd hv; subst hk hsq hd hv; rfl
                        subst hyx
                        have hfin : ∀ w9 : World, Ps w w9 t R L N (some ⟨b2, o2, none⟩) c → KeepsOthers V w9 → (∀ k : Nat, w9.heap[k]? = V.heap[k]?) → Boxed w9 Nb 3 (.int .i64 (q : Int)) → w9.heap.size = V.heap.size → KeepsFrom w4.heap.size V (w9.setCell ⟨Nb, 0, none⟩ (.int .i64 ((q : Int) + 1))) ∧ Kps (tvf N B2) V (w9.setCell ⟨Nb, 0, none⟩ (.int .i64 ((q : Int) + 1))) ∧ Ps w (w9.setCell ⟨Nb, 0, none⟩ (.int .i64 ((q : Int) + 1))) t R L N (some ⟨b2, o2, none⟩) c ∧ Boxed (w9.setCell ⟨Nb, 0, none⟩ (.int .i64 ((q : Int) + 1))) Nb 3 (.int .i64 ((p + (pre ++ [y]).length : Nat) : Int)) ∧ (pre ++ [y] <+: (esOf N).drop p) ∧ w4.heap.size ≤ (w9.setCell ⟨Nb, 0, none⟩ (.int .i64 ((q : Int) + 1))).heap.size := fun w9 p1 p2 p3 p4 p5 => by
                          refine ⟨(p2.trans (KeepsOthers.setCell _ _ _)).from _, fun k hk' => (heap_setCell_other w9 ⟨Nb, 0, none⟩ k _ ?_).trans (p3 k), p1.storeN p4 hNw, ?_, ?_, by rw [World.size_setCell, p5]; exact HI.out.2.2.2.1⟩
                          · rcases hk' with rfl | ⟨n, hn, rfl⟩
                            · simp only; omega
                            · obtain ⟨i9, hi9, e9⟩ := List.getElem_of_mem hn
                              have hb9 := HT.out.nd i9 n (by rw [List.getElem?_eq_getElem hi9, e9])
                              have hc9 := H4.out.2.1
                              intro e
                              simp only at e
                              unfold Blk at hb9
                              unfold Boxed at hc9
                              rw [e, hc9] at hb9
                              simp at hb9
                          · rw [List.length_append, show p + (pre.length + [y].length) = q + 1 from by rw [HI.out.2.2.2.2]; simp; omega, Int.natCast_add]
                            exact p4.set _
                          · obtain ⟨r, hr⟩ := HI.out.2.2.1
                            have hd0 := HD.out
                            rw [← hr, List.getElem?_append_right (Nat.le_refl _), Nat.sub_self] at hd0
                            cases r with
                            | nil => cases hd0
                            | cons z r => 
                              simp only [List.getElem?_cons_zero, Option.some.injEq] at hd0
                              subst hd0
                              exact ⟨r, by rw [← hr]; simp⟩
                        have HFIN := Lib.hid hfin
                        clear hfin hk hsq hd hv htl
                        gi_wp2
                        refine calm_region_tail 10 (by rintro ⟨a, w, h⟩; exact h) (by kernel_rfl) (by kernel_rfl) (by kernel_rfl) ?_
                        simp only [List.take_succ_cons, List.take_zero, List.drop_succ_cons, List.drop_zero]
                        repeat still_step
                        try refine wpStill_nil ?_
                        change wpList _ _ _ _ _ V.drew
                        have y0 : V.drew.cell? ⟨Nb, 0, none⟩ = some (.int .i64 (q : Int)) := c0
                        have y1 : V.drew.frozen? ⟨Nb, 0, none⟩ = false := c0f
                        have y2 : V.drew.cell? ⟨w.heap.size, 0, none⟩ = some (.bool false) := c2
                        have y3 : V.drew.frozen? ⟨w.heap.size, 0, none⟩ = false := c2f
                        have y4 := HI.out.1.below (Below.refl _ V).drew
                        have y5 : KeepsOthers V V.drew := KeepsOthers.drew V
                        have y6 : ∀ k : Nat, V.drew.heap[k]? = V.heap[k]? := fun _ => rfl
                        have y7 : Boxed V.drew Nb 3 (.int .i64 (q : Int)) := HI.out.2.1
                        have y8 : V.drew.heap.size = V.heap.size := rfl
                        have HY := Lib.hid (And.intro y4 (And.intro y5 (And.intro y6 (And.intro y7 y8))))
                        clear c0 c0f c1 c2 c2f e0 e1 e2 e3 y4 y5 y6 y7 y8 z0 z1 z2 z3
                        generalize V.drew = w9 at y0 y1 y2 y3 HY ⊢
                        go_wp2_with fail
                        gi_wp2_with fail
                        exact HFIN.out w9 HY.out.1 HY.out.2.1 HY.out.2.2.1 HY.out.2.2.2.1 HY.out.2.2.2.2
                      · have hnp := hnpo (fun e => hv (by rw [e]))
                        have f2 : ((str y.val).toList == (str x.val).toList) = false := by rw [htl, htl]; simpa using hv
                        have f3 : ¬ (str y.val).toList = (str x.val).toList := by rw [htl, htl]; exact hv
                        rw [← hk] at e0
                        rw [← hsq] at e1
                        rw [← hd] at e2
                        clear hnpo htl hk hsq hd hv
                        gi_wp2
                        refine calm_region_tail 10 (by rintro ⟨a, w, h⟩; exact h) (by kernel_rfl) (by kernel_rfl) (by kernel_rfl) ?_
                        simp only [List.take_succ_cons, List.take_zero, List.drop_succ_cons, List.drop_zero]
                        repeat still_step
                        try refine wpStill_nil ?_
                        change wpList _ _ _ _ _ V.drew
                        have y0 : V.drew.cell? ⟨Nb, 0, none⟩ = some (.int .i64 (q : Int)) := c0
                        have y1 : V.drew.frozen? ⟨Nb, 0, none⟩ = false := c0f
                        have y2 : V.drew.cell? ⟨w.heap.size, 0, none⟩ = some (.bool false) := c2
                        have y3 : V.drew.frozen? ⟨w.heap.size, 0, none⟩ = false := c2f
                        have y4 := HI.out.1.below (Below.refl _ V).drew
                        have y5 : KeepsOthers V V.drew := KeepsOthers.drew V
                        have y6 : ∀ k : Nat, V.drew.heap[k]? = V.heap[k]? := fun _ => rfl
                        have y7 : Boxed V.drew Nb 3 (.int .i64 (q : Int)) := HI.out.2.1
                        have y8 : V.drew.heap.size = V.heap.size := rfl
                        have HY := Lib.hid (And.intro y4 (And.intro y5 (And.intro y6 (And.intro y7 y8))))
                        clear c0 c0f c1 c2 c2f e0 e1 e2 e3 y4 y5 y6 y7 y8 z0 z1 z2 z3
                        generalize V.drew = w9 at y0 y1 y2 y3 HY ⊢
                        go_wp2_with fail
                        gi_wp2_with fail
                        all_goals first | exact ⟨(HY.out.2.1.trans (KeepsOthers.setCell _ _ _)).from _, rfl, hnp⟩ | (exfalso; omega)
                    · have hnp := hnpo (fun e => hd (by rw [e]))
                      have f2 : (y.del == x.del) = false := by simpa using hd
                      rw [← hk] at e0
                      rw [← hsq] at e1
                      clear hnpo htl hk hsq
                      gi_wp2
                      refine calm_region_tail 10 (by rintro ⟨a, w, h⟩; exact h) (by kernel_rfl) (by kernel_rfl) (by kernel_rfl) ?_
                      simp only [List.take_succ_cons, List.take_zero, List.drop_succ_cons, List.drop_zero]
                      repeat still_step
                      try refine wpStill_nil ?_
                      change wpList _ _ _ _ _ V.drew
                      have y0 : V.drew.cell? ⟨Nb, 0, none⟩ = some (.int .i64 (q : Int)) := c0
                      have y1 : V.drew.frozen? ⟨Nb, 0, none⟩ = false := c0f
                      have y2 : V.drew.cell? ⟨w.heap.size, 0, none⟩ = some (.bool false) := c2
                      have y3 : V.drew.frozen? ⟨w.heap.size, 0, none⟩ = false := c2f
                      have y4 := HI.out.1.below (Below.refl _ V).drew
                      have y5 : KeepsOthers V V.drew := KeepsOthers.drew V
                      have y6 : ∀ k : Nat, V.drew.heap[k]? = V.heap[k]? := fun _ => rfl
                      have y7 : Boxed V.drew Nb 3 (.int .i64 (q : Int)) := HI.out.2.1
                      have y8 : V.drew.heap.size = V.heap.size := rfl
                      have HY := Lib.hid (And.intro y4 (And.intro y5 (And.intro y6 (And.intro y7 y8))))
                      clear c0 c0f c1 c2 c2f e0 e1 e2 e3 y4 y5 y6 y7 y8 z0 z1 z2 z3
                      generalize V.drew = w9 at y0 y1 y2 y3 HY ⊢
                      go_wp2_with fail
                      gi_wp2_with fail
                      all_goals first | exact ⟨(HY.out.2.1.trans (KeepsOthers.setCell _ _ _)).from _, rfl, hnp⟩ | (exfalso; omega)
                  · have hnp := hnpo (fun e => hsq (by rw [e]))
                    rw [← hk] at e0
                    clear hnpo htl hk
                    gi_wp2
                    refine calm_region_tail 10 (by rintro ⟨a, w, h⟩; exact h) (by kernel_rfl) (by kernel_rfl) (by kernel_rfl) ?_
                    simp only [List.take_succ_cons, List.take_zero, List.drop_succ_cons, List.drop_zero]
                    repeat still_step
                    try refine wpStill_nil ?_
                    change wpList _ _ _ _ _ V.drew
                    have y0 : V.drew.cell? ⟨Nb, 0, none⟩ = some (.int .i64 (q : Int)) := c0
                    have y1 : V.drew.frozen? ⟨Nb, 0, none⟩ = false := c0f
                    have y2 : V.drew.cell? ⟨w.heap.size, 0, none⟩ = some (.bool false) := c2
                    have y3 : V.drew.frozen? ⟨w.heap.size, 0, none⟩ = false := c2f
                    have y4 := HI.out.1.below (Below.refl _ V).drew
                    have y5 : KeepsOthers V V.drew := KeepsOthers.drew V
                    have y6 : ∀ k : Nat, V.drew.heap[k]? = V.heap[k]? := fun _ => rfl
                    have y7 : Boxed V.drew Nb 3 (.int .i64 (q : Int)) := HI.out.2.1
                    have y8 : V.drew.heap.size = V.heap.size := rfl
                    have HY := Lib.hid (And.intro y4 (And.intro y5 (And.intro y6 (And.intro y7 y8))))
                    clear c0 c0f c1 c2 c2f e0 e1 e2 e3 y4 y5 y6 y7 y8 z0 z1 z2 z3
                    generalize V.drew = w9 at y0 y1 y2 y3 HY ⊢
                    go_wp2_with fail
                    gi_wp2_with fail
                    all_goals first | exact ⟨(HY.out.2.1.trans (KeepsOthers.setCell _ _ _)).from _, rfl, hnp⟩ | (exfalso; omega)
                · have hnp := hnpo (fun e => hk (by rw [e]))
                  have f2 : ((str y.key).toList == (str x.key).toList) = false := by rw [htl, htl]; simpa using hk
                  have f3 : ¬ (str y.key).toList = (str x.key).toList := by rw [htl, htl]; exact hk
                  clear hnpo htl hk
                  gi_wp2
                  refine calm_region_tail 10 (by rintro ⟨a, w, h⟩; exact h) (by kernel_rfl) (by kernel_rfl) (by kernel_rfl) ?_
                  simp only [List.take_succ_cons, List.take_zero, List.drop_succ_cons, List.drop_zero]
                  repeat still_step
                  try refine wpStill_nil ?_
                  change wpList _ _ _ _ _ V.drew
                  have y0 : V.drew.cell? ⟨Nb, 0, none⟩ = some (.int .i64 (q : Int)) := c0
                  have y1 : V.drew.frozen? ⟨Nb, 0, none⟩ = false := c0f
                  have y2 : V.drew.cell? ⟨w.heap.size, 0, none⟩ = some (.bool false) := c2
                  have y3 : V.drew.frozen? ⟨w.heap.size, 0, none⟩ = false := c2f
                  have y4 := HI.out.1.below (Below.refl _ V).drew
                  have y5 : KeepsOthers V V.drew := KeepsOthers.drew V
                  have y6 : ∀ k : Nat, V.drew.heap[k]? = V.heap[k]? := fun _ => rfl
                  have y7 : Boxed V.drew Nb 3 (.int .i64 (q : Int)) := HI.out.2.1
                  have y8 : V.drew.heap.size = V.heap.size := rfl
                  have HY := Lib.hid (And.intro y4 (And.intro y5 (And.intro y6 (And.intro y7 y8))))
                  clear c0 c0f c1 c2 c2f e0 e1 e2 e3 y4 y5 y6 y7 y8 z0 z1 z2 z3
                  generalize V.drew = w9 at y0 y1 y2 y3 HY ⊢
                  go_wp2_with fail
                  gi_wp2_with fail
                  all_goals first | exact ⟨(HY.out.2.1.trans (KeepsOthers.setCell _ _ _)).from _, rfl, hnp⟩ | (exfalso; omega)
              · have hcq : (N.length : Int) ≤ q := by omega
                have hnp : ¬ (pre ++ [x] <+: (esOf N).drop p) := fun h => by
                  have h1 := h.length_le
                  rw [List.length_append, List.length_drop, hlen, List.length_cons, List.length_nil] at h1
                  have h2 := HI.out.2.2.2.2
                  omega
                clear hsl
                gi_wp2
                refine calm_region_tail 10 (by rintro ⟨a, w, h⟩; exact h) (by kernel_rfl) (by kernel_rfl) (by kernel_rfl) ?_
                simp only [List.take_succ_cons, List.take_zero, List.drop_succ_cons, List.drop_zero]
                repeat still_step
                try refine wpStill_nil ?_
                change wpList _ _ _ _ _ V.drew
                have y0 : V.drew.cell? ⟨Nb, 0, none⟩ = some (.int .i64 (q : Int)) := c0
                have y1 : V.drew.frozen? ⟨Nb, 0, none⟩ = false := c0f
                have y2 : V.drew.cell? ⟨w.heap.size, 0, none⟩ = some (.bool false) := c2
                have y3 : V.drew.frozen? ⟨w.heap.size, 0, none⟩ = false := c2f
                have y4 := HI.out.1.below (Below.refl _ V).drew
                have y5 : KeepsOthers V V.drew := KeepsOthers.drew V
                have y6 : ∀ k : Nat, V.drew.heap[k]? = V.heap[k]? := fun _ => rfl
                have y7 : Boxed V.drew Nb 3 (.int .i64 (q : Int)) := HI.out.2.1
                have y8 : V.drew.heap.size = V.heap.size := rfl
                have HY := Lib.hid (And.intro y4 (And.intro y5 (And.intro y6 (And.intro y7 y8))))
                clear c0 c0f c1 c2 c2f e0 e1 e2 e3 y4 y5 y6 y7 y8
                generalize V.drew = w9 at y0 y1 y2 y3 HY ⊢
                go_wp2_with fail
                gi_wp2_with fail
                all_goals first | exact ⟨(HY.out.2.1.trans (KeepsOthers.setCell _ _ _)).from _, rfl, hnp⟩ | (exfalso; omega)
            · rintro D xs V hD hxs ⟨hs1, hs2, hs3, hs4⟩ hK
              have hpn : p + xs.length = N.length := by rw [hxs, List.length_drop]; omega
              rw [hpn] at hs2
              have HI := Lib.hid (And.intro hs1 (And.intro hs2 hK))
              clear hs1 hs2 hs3 hs4 hK hxs
              go_wp2_with fail
              have hall := fun (W : World) (h : Below V.heap.size V W) => all_any ((HI.out.1.below h).pl.tb.tbl) HI.out.1.pl.num (by omega)
              have hbyt := fun (W : World) (h : Below V.heap.size V W) => bytes_any ((HI.out.1.below h).pl.tb.tbl.tb)
              rw [hbs] at hbyt
              have HALL := Lib.hid (And.intro hall hbyt)
              have k1 : ∀ W, (Boxed W Nb 3 (.int .i64 (N.length : Int)) ∧ Boxed W L 26 (.slice A N.length c)) → W.cell? ⟨Nb, 0, none⟩ = some (.int .i64 (N.length : Int)) := fun W h => h.1.cell
              have k2 : ∀ W, (Boxed W Nb 3 (.int .i64 (N.length : Int)) ∧ Boxed W L 26 (.slice A N.length c)) → W.cell? ⟨L, 0, none⟩ = some (.slice A N.length c) := fun W h => h.2.cell
              have hS0 : Boxed V.drew Nb 3 (.int .i64 (N.length : Int)) ∧ Boxed V.drew L 26 (.slice A N.length c) := ⟨HI.out.2.1, HI.out.1.lb⟩
              have hSV : Boxed V Nb 3 (.int .i64 (N.length : Int)) ∧ Boxed V L 26 (.slice A N.length c) := ⟨HI.out.2.1, HI.out.1.lb⟩
              have hst : ∀ W, Below V.heap.size V W → Boxed W Nb 3 (.int .i64 (N.length : Int)) ∧ Boxed W L 26 (.slice A N.length c) := fun W h => ⟨(h.block _ HI.out.2.1.lt).trans HI.out.2.1, (h.block _ HI.out.1.lb.lt).trans HI.out.1.lb⟩
              have hRw : ∀ W, Below V.heap.size V W → W.cell? ⟨w.heap.size, 0, none⟩ = some (.bool false) ∧ W.frozen? ⟨w.heap.size, 0, none⟩ = false := fun W h => by
                have := (HI.out.1.below h).rb
                rw [hRq] at this
                exact ⟨this.cell, this.frozen⟩
              have hne : ∀ {B : Nat} {ty : TypeId} {v : Value}, Boxed V B ty v → ty ≠ 4 → B ≠ w.heap.size := fun hb h1 e => by
                have hr := HI.out.1.rb
                rw [hRq] at hr
                unfold Boxed at hb hr
                rw [e, hr] at hb
                simp at hb
                exact h1 hb.2.symm
              have hNR := hne HI.out.2.1 (by decide)
              have hLR := hne HI.out.1.lb (by decide)
              clear hall hbyt
              refine only_normal ?_
              go_region_held (fun W => Boxed W Nb 3 (.int .i64 (N.length : Int)) ∧ Boxed W L 26 (.slice A N.length c)) (first | assumption | exact hst _ hb6 | exact hst _ hb5 | exact ⟨Boxed.other (by assumption : _ ∧ _).1 hNR _, Boxed.other (by assumption : _ ∧ _).2 hLR _⟩) (first
                | (go_at_call 11; refine (HALL.out.1 _ (below_dN9 V 1)).mono ?_; rintro r w5 ⟨A5, c5, rfl, hr5, hb5'⟩
                   have hb5 : Below V.heap.size V w5 := (below_dN9 V 1).trans (hb5'.mono (Nat.le_refl _))
                   have hcap5 := own_capE hr5
                   have hs5 := own_sle hr5
                   clear hb5' hr5)
                | (go_at_call 10; refine (same4_any _ _ _ _ _ _ w5 hs5 (own_sle (HI.out.1.below hb5).pl.row) (by omega) hcap5 hcap).mono ?_; rintro r w6 ⟨rfl, hb6'⟩
                   have hb6 : Below V.heap.size V w6 := hb5.trans (hb6'.mono hb5.size)
                   have g0 := (hRw _ hb6).1
                   have g1 := (hRw _ hb6).2
                   clear hb6')
                | (go_at_call 12; refine (HALL.out.2 _ hb6).mono ?_; rintro r w7 ⟨rfl, rfl⟩))
              all_goals
                have hrb7 : Boxed w7 w.heap.size 4 (.bool false) := by have := (HI.out.1.below hb6).rb; rwa [hRq] at this
                have hd7 := (hb6.block D (Array.getElem?_eq_some_iff.1 HI.out.2.2).1).trans HI.out.2.2
                have hK' := (KeepsOthers.setCell w7 ⟨w.heap.size, 0, none⟩ (.bool true)).same D _ hd7 rfl
                have hb8 : Below w.heap.size w (w7.setCell ⟨w.heap.size, 0, none⟩ (.bool true)) := ((HI.out.1.pl.tb.bel).trans (hb6.mono HI.out.1.pl.tb.bel.size)).setCell (p := ⟨w.heap.size, 0, none⟩) (Nat.le_refl _) _
                have hc8 := cell_kept (hrb7.set (.bool true)).cell (grownBy_putObj' _ D (.deferred none)) (fun r e => by cases e; exact ⟨_, hK', rfl⟩)
                have hb9 := hb8.grown (grownBy_putObj' _ D (.deferred none)) hb8.size (fun r e => by cases e; omega)
                have H9 := Lib.hid (And.intro hK' (And.intro hc8 hb9))
                clear hK' hc8 hb9 hb8 hd7 hrb7 g0 g1
                go_wp2_with fail
                refine ⟨by simp, .inl ⟨_, _, rfl, run_takeDeferred H9.out.1, ?_⟩⟩
                exact ⟨.bool true, by simp [results, Try.f3, go_sem, H9.out.2.1], rfl, H9.out.2.2⟩
            · rintro D cd pre V hD hpre hF hK
              exact absurd hpre hF.2
theorem plays_lawB {w : World} {A0 : Option Addr} {n0 c0 : Nat} {os : List Mo} (hR : Mls w A0 n0 os) (s : ByteArray) :
    Calls Try.prog 3 #[.slice A0 n0 c0, .string s] w fun e w' => e = .returned (.bool true) ∧ Below w.heap.size w w' := by
  have := (callsIn_wide (n := 0 + 5)).1 (plays_in 0 (c0 := c0) hR s.data.toList)
  rwa [← str_of s] at this
end Go.Proofs.Ytjlebmpgjliacaa
