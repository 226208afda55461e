/-
  A life over an open log: the law's lived.
-/
import Derived.Test.YtnbomifnbhijbaaGreatDoorWcB
import Derived.Deep.DeepCutAuto
namespace Go.Proofs.YtnbomifnbhijbaaGreatDoor
open Go.RowKit Go.Maps Num Crc
set_option linter.unusedVariables false

def LivedPost (w0 w : World) (pl pb mb : Nat) (gs0 : List Gm) (N : Nat) (F : List (List UInt8)) (ar : Bool) (e : Ending) (w' : World) : Prop :=
  ∃ (done : List (List UInt8)) (safe m : Nat) (Ad : Option Addr) (cd : Nat) (vs : List Value) (gs' : List Gm) (y : Ws) (g' : Gh), e = .returned (.tuple #[.slice Ad done.length cd, .int .i64 safe, .bool true]) ∧ Gl y g' (N + 20) F done m safe ar ∧
    Wl w0 w' pl pb mb gs' y ∧ w'.ownsRow w.heap.size 36 1 (.slice Ad done.length cd) done.length vs ∧ Each w' w.heap.size vs done ∧ Stp w w' (wfoot pl pb mb gs0) (wfoot pl pb mb gs') ∧ done.length ≤ 20
set_option maxRecDepth 40000 in
set_option maxHeartbeats 8000000 in
theorem lived_any {w0 w : World} {pl pb mb : Nat} {gs0 : List Gm} {x0 : Ws} {g0 : Gh} {N : Nat} {F : List (List UInt8)} {ar : Bool} (hW : Wl w0 w pl pb mb gs0 x0) (hG : Gl x0 g0 N F [] 0 0 ar) (hN : N + 20 ≤ 249) (hd : x0.dd = false)
    (P : Option Addr) (np cp : Nat) (ls : List (List UInt8)) (hP : Br w0 P np ls) (hpl : ∀ p ∈ ls, p.length ≤ 140737488355328) (hnp : np ≤ 140737488355328) (every left : Int) (hev : -9223372036854775808 ≤ every ∧ every ≤ 9223372036854775807) (hlf : ar = true → 0 ≤ left) (V3 : Value) (h3 : V3.oneCell' = true) :
    Calls Tryz.prog 20 #[.pointer (some ⟨pl, 0, none⟩), .agg #[.slice P np cp, .int .i64 every, .int .i64 left, V3]] w (LivedPost w0 w pl pb mb gs0 N F ar) := by
  have hw0 := hW.bel.size
  have HW := Lib.hid hW
  have HP := Lib.hid hP
  have HPL := Lib.hid hpl
  have HG := Lib.hid hG
  clear hW hP hpl hG
  go_enter Tryz.func20, Tryz.ntmps20
  go_wp2_with fail
  obtain ⟨cs, hcs⟩ : ∃ cs : Array Value, cs = #[.slice P np cp, .int .i64 every, .int .i64 left, V3] := ⟨_, rfl⟩
  have hL0 : Lm w0 w (w.alloc (.cells #[.slice P np cp, .int .i64 every, .int .i64 left, V3] 61)) pl pb mb w.heap.size cs [] none 0 [] gs0 gs0 x0 :=
    ⟨HW.out.alloc _, World.ownsRow_nil _ _ _ _, trivial, (fun v hv => by cases hv), by rw [hcs]; exact Blk.new w _ _, Below.stp ((Below.refl _ w).alloc (Nat.le_refl _) _)⟩
  generalize w.alloc (.cells #[.slice P np cp, .int .i64 every, .int .i64 left, V3] 61) = v0 at hL0 ⊢
  have HL0 := Lib.hid hL0
  have HCS := Lib.hid hcs
  clear hL0 hcs
  go_loopw [7, 8, 9, 10] (fun s7 s8 s9 s10 wr => ∃ (i : Nat) (done : List (List UInt8)) (m safe : Nat) (Ad : Option Addr) (cd : Nat) (vs : List Value) (gs : List Gm) (x : Ws) (g : Gh), i ≤ np ∧ i ≤ 20 ∧ done.length ≤ i ∧ s10 = .int .i64 i ∧ s7 = .slice Ad done.length cd ∧ s8 = .int .i64 safe ∧ s9 = .bool x.dd ∧
      Lm w0 w wr pl pb mb w.heap.size cs done Ad cd vs gs0 gs x ∧ Gl x g (N + i) F done m safe ar) (fun _ _ _ j _ => np - (intOf j).toNat)
  case atStart => exact ⟨0, [], 0, 0, none, 0, [], gs0, x0, g0, Nat.zero_le _, Nat.zero_le _, Nat.zero_le _, rfl, rfl, rfl, by rw [hd], HL0.out, HG.out⟩
  case round =>
    obtain ⟨i, done, m, safe, Ad, cd, vs, gs, x, g, hi, hi2, hdi, rfl, rfl, rfl, rfl, hL, hGl⟩ := hrel
    have HL := Lib.hid hL
    have HGl := Lib.hid hGl
    have hbx := hL.box
    rw [HCS.out] at hbx
    have b0 := hbx.cell (k := 0) rfl
    clear hL hGl
    by_cases hgo : i < np ∧ i < 20
    · obtain ⟨hin, hi20⟩ := hgo
      have hcN : (i : Int) < np := by omega
      have hcM : (i : Int) < 20 := by omega
      obtain ⟨b, o, K, p, c, rfl, hp, hce, hsl, hpc⟩ := HP.out.at_ hin
      have hpl := HPL.out p (List.mem_of_getElem? hp)
      have hbr := HL.out.wl.bel
      have x0' : wr.cell? ⟨b, o + i, none⟩ = some (.slice K p.length c) := (hbr.cell (World.block_lt_of_cell? w0 _ hce)).trans hce
      obtain ⟨q, hq⟩ : ∃ q, q = p.take 700 := ⟨_, rfl⟩
      have hql : q.length ≤ 700 := by rw [hq, List.length_take]; omega
      have hcut := cut_any K p.length c p wr (hsl.below hbr) hpl hpc
      rw [← hq] at hcut
      have hqq : q.take 700 = q := List.take_of_length_le hql
      clear hp hce hsl hq hbx
      go_wp2_with fail
      refine hcut.mono ?_
      rintro e w4 ⟨A4, c4, rfl, ho4, hb4⟩
      obtain ⟨wB, rfl⟩ : ∃ wB : World, wB = wr := ⟨_, rfl⟩
      have hle4 := own_le ho4
      have hcut2 := cut_any A4 q.length c4 q w4 (own_sl ho4) (by omega) hle4
      rw [hqq] at hcut2
      have H4 := Lib.hid (And.intro ho4 hb4)
      clear hcut ho4 hb4 x0' b0
      go_wp2_with fail
      refine hcut2.mono ?_
      rintro e w5 ⟨A5, c5, rfl, ho5, hb5⟩
      have hb45 : Below wB.heap.size wB w5 := H4.out.2.trans (hb5.mono H4.out.2.size)
      have hL5 := HL.out.below hb45
      have hap := lappend_any hL5.wl A5 q.length c5 q (own_sl ho5)
      obtain ⟨g', m', hG', hcd⟩ := gl_app HGl.out (by omega) hql
      have h45 : w5.ownsRow w.heap.size 5 1 (.slice A4 q.length c4) q.length (bv q) := own_mono (own_keep H4.out.1 hb5) HL.out.lo
      have h4f : ∀ k, (Value.slice A4 q.length c4).ownBlock = some k → k < w5.heap.size ∧ ¬ wfoot pl pb mb gs k := fun k hk => by
        have h1 := H4.out.1.lt k hk
        have h2 := hb5.size
        exact ⟨by omega, fun e => by have := HL.out.wl.foot_lt e; omega⟩
      generalize hY : (appX x q).1 = y at hap hG' hcd
      generalize hE : (appX x q).2 = ec at hap hcd
      have H5 := Lib.hid (And.intro hL5 (And.intro h45 h4f))
      have HG' := Lib.hid hG'
      clear hcut2 ho5 hb5 hb45 hL5 hG' h45 h4f hY hE
      go_wp2_with fail
      refine hap.mono ?_
      rintro e w8 ⟨rfl, gs8, hW8, hS8⟩
      have hL8 := H5.out.1.step hW8 hS8
      have h48 : w8.ownsRow w.heap.size 5 1 (.slice A4 q.length c4) q.length (bv q) := own_at H5.out.2.1 fun k hk => hS8.oth.block k (H5.out.2.2 k hk).1 (H5.out.2.2 k hk).2
      have h4g : ∀ k, (Value.slice A4 q.length c4).ownBlock = some k → ¬ wfoot pl pb mb gs8 k := fun k hk e => by
        rcases hS8.sub k e with h1 | h1
        · exact (H5.out.2.2 k hk).2 h1
        · have := (H5.out.2.2 k hk).1; omega
      have hbx8 := hL8.box
      rw [HCS.out] at hbx8
      have l2 := hbx8.cell (k := 2) rfl
      have l1 := hbx8.cell (k := 1) rfl
      have H8 := Lib.hid (And.intro hL8 (And.intro h48 h4g))
      have hlo8 := hL8.lo
      clear hap hW8 hS8 hL8 h48 h4g hbx8
      by_cases hE : 0 < every
      ·
        rcases hcd with ⟨rfl, hy, hx⟩ | ⟨rfl, hy, hr⟩
        · rw [hx] at HG' ⊢
          simp only [Bool.false_eq_true, if_false] at HG'
          go_wp2_with (at_builtin; refine wpList_app _ rfl (.tmp 60) (.tmp 62) 30 rfl w.heap.size rowsEl (by decide) _ _ _ rfl (H8.out.1.row.alloc _) (some ⟨w8.heap.size, 0, none⟩) 1 1 [.slice A4 q.length c4] rfl (Sl.new _ _ _) (by intro u hu; simp at hu; subst hu; rfl) (by omega) (by simp; omega) ?_
                       intro A7 c7 w9 hown7 hg7 hat7
                       have hL9 := H8.out.1.more hw0 H8.out.2.1 H8.out.2.2 hown7 hg7
                       have hbx9 := hL9.box
                       rw [HCS.out] at hbx9
                       have k1 := hbx9.cell (k := 1) rfl
                       have HL9 := Lib.hid hL9
                       clear hown7 hg7 hat7 hL9 hbx9)
          · obtain ⟨g2, hG2, hc2⟩ := gl_sync HG'.out (by omega)
            have hsy := lsync_any HL9.out.wl
            generalize (syncX y).1 = y2 at hsy hG2 hc2
            generalize (syncX y).2 = e2 at hsy hG2 hc2
            rcases hc2 with ⟨rfl, hy2, -⟩ | ⟨rfl, hy2, hr2⟩
            · rw [if_pos rfl] at hG2
              refine hsy.mono ?_
              rintro e w10 ⟨rfl, gs10, hW10, hS10⟩
              have HL10 := Lib.hid (HL9.out.step hW10 hS10)
              have HG2 := Lib.hid hG2
              clear hsy hW10 hS10 hG2
              go_wp2_with fail
              exact ⟨⟨i + 1, done ++ [q], m', (done ++ [q]).length, A7, c7, vs ++ [.slice A4 q.length c4], gs10, y2, g2, by omega, by omega, (by first | omega | (simp; omega)), by go_num, by simp, by simp, by rw [hy2], HL10.out, HG2.out⟩, by simp only [intOf]; omega⟩
            · rw [if_neg (by decide)] at hG2
              refine hsy.mono ?_
              rintro e w10 ⟨rfl, gs10, hW10, hS10⟩
              have HL10 := Lib.hid (HL9.out.step hW10 hS10)
              have HG2 := Lib.hid hG2
              clear hsy hW10 hS10 hG2
              go_wp2_with fail
              exact ⟨⟨i + 1, done ++ [q], m', safe, A7, c7, vs ++ [.slice A4 q.length c4], gs10, y2, g2, by omega, by omega, (by first | omega | (simp; omega)), by go_num, by simp, by simp, by rw [hy2], HL10.out, HG2.out⟩, by simp only [intOf]; omega⟩
          · exact ⟨⟨i + 1, done ++ [q], m', safe, A7, c7, vs ++ [.slice A4 q.length c4], gs8, y, g', by omega, by omega, (by first | omega | (simp; omega)), by go_num, by simp, by simp, by rw [hy], HL9.out, HG'.out⟩, by simp only [intOf]; omega⟩
        · have hleft : 0 ≤ left := hlf hr
          cases hx : x.dd with
          | false =>
            rw [hx] at HG'
            simp only [Bool.false_eq_true, if_false] at HG'
            go_wp2_with (at_builtin; refine wpList_app _ rfl (.tmp 60) (.tmp 62) 30 rfl w.heap.size rowsEl (by decide) _ _ _ rfl (H8.out.1.row.alloc _) (some ⟨w8.heap.size, 0, none⟩) 1 1 [.slice A4 q.length c4] rfl (Sl.new _ _ _) (by intro u hu; simp at hu; subst hu; rfl) (by omega) (by simp; omega) ?_
                         intro A7 c7 w9 hown7 hg7 hat7
                         have hL9 := H8.out.1.more hw0 H8.out.2.1 H8.out.2.2 hown7 hg7
                         have hbx9 := hL9.box
                         rw [HCS.out] at hbx9
                         have k1 := hbx9.cell (k := 1) rfl
                         have HL9 := Lib.hid hL9
                         clear hown7 hg7 hat7 hL9 hbx9)
            · obtain ⟨g2, hG2, hc2⟩ := gl_sync HG'.out (by omega)
              have hsy := lsync_any HL9.out.wl
              generalize (syncX y).1 = y2 at hsy hG2 hc2
              generalize (syncX y).2 = e2 at hsy hG2 hc2
              obtain ⟨rfl, hy2, hr2⟩ : e2 = 6 ∧ y2.dd = true ∧ ar = true := by
                rcases hc2 with ⟨_, _, h⟩ | h
                · rw [hy] at h; cases h
                · exact h
              rw [if_neg (by decide)] at hG2
              refine hsy.mono ?_
              rintro e w10 ⟨rfl, gs10, hW10, hS10⟩
              have HL10 := Lib.hid (HL9.out.step hW10 hS10)
              have HG2 := Lib.hid hG2
              clear hsy hW10 hS10 hG2
              go_wp2_with fail
              exact ⟨⟨i + 1, done ++ [q], m', safe, A7, c7, vs ++ [.slice A4 q.length c4], gs10, y2, g2, by omega, by omega, (by first | omega | (simp; omega)), by go_num, by simp, by simp, by rw [hy2], HL10.out, HG2.out⟩, by simp only [intOf]; omega⟩
            · exact ⟨⟨i + 1, done ++ [q], m', safe, A7, c7, vs ++ [.slice A4 q.length c4], gs8, y, g', by omega, by omega, (by first | omega | (simp; omega)), by go_num, by simp, by simp, by rw [hy], HL9.out, HG'.out⟩, by simp only [intOf]; omega⟩
          | true =>
            rw [hx] at HG'
            simp only [if_true] at HG'
            have HL8 := Lib.hid H8.out.1
            go_wp2_with fail
            · obtain ⟨g2, hG2, hc2⟩ := gl_sync HG'.out (by omega)
              have hsy := lsync_any HL8.out.wl
              generalize (syncX y).1 = y2 at hsy hG2 hc2
              generalize (syncX y).2 = e2 at hsy hG2 hc2
              obtain ⟨rfl, hy2, hr2⟩ : e2 = 6 ∧ y2.dd = true ∧ ar = true := by
                rcases hc2 with ⟨_, _, h⟩ | h
                · rw [hy] at h; cases h
                · exact h
              rw [if_neg (by decide)] at hG2
              refine hsy.mono ?_
              rintro e w10 ⟨rfl, gs10, hW10, hS10⟩
              have HL10 := Lib.hid (HL8.out.step hW10 hS10)
              have HG2 := Lib.hid hG2
              clear hsy hW10 hS10 hG2
              go_wp2_with fail
              exact ⟨⟨i + 1, done, m', safe, Ad, cd, vs, gs10, y2, g2, by omega, by omega, (by first | omega | (simp; omega)), by go_num, by simp, by simp, by rw [hy2], HL10.out, HG2.out⟩, by simp only [intOf]; omega⟩
            · exact ⟨⟨i + 1, done, m', safe, Ad, cd, vs, gs8, y, g', by omega, by omega, (by first | omega | (simp; omega)), by go_num, by simp, by simp, by rw [hy], HL8.out, HG'.out⟩, by simp only [intOf]; omega⟩
      ·
        rcases hcd with ⟨rfl, hy, hx⟩ | ⟨rfl, hy, hr⟩
        · rw [hx] at HG' ⊢
          simp only [Bool.false_eq_true, if_false] at HG'
          go_wp2_with (at_builtin; refine wpList_app _ rfl (.tmp 60) (.tmp 62) 30 rfl w.heap.size rowsEl (by decide) _ _ _ rfl (H8.out.1.row.alloc _) (some ⟨w8.heap.size, 0, none⟩) 1 1 [.slice A4 q.length c4] rfl (Sl.new _ _ _) (by intro u hu; simp at hu; subst hu; rfl) (by omega) (by simp; omega) ?_
                       intro A7 c7 w9 hown7 hg7 hat7
                       have hL9 := H8.out.1.more hw0 H8.out.2.1 H8.out.2.2 hown7 hg7
                       have hbx9 := hL9.box
                       rw [HCS.out] at hbx9
                       have k1 := hbx9.cell (k := 1) rfl
                       have HL9 := Lib.hid hL9
                       clear hown7 hg7 hat7 hL9 hbx9)
          all_goals first | (exfalso; omega) | exact ⟨⟨i + 1, done ++ [q], m', safe, A7, c7, vs ++ [.slice A4 q.length c4], gs8, y, g', by omega, by omega, (by first | omega | (simp; omega)), by go_num, by simp, by simp, by rw [hy], HL9.out, HG'.out⟩, by simp only [intOf]; omega⟩
        · have hleft : 0 ≤ left := hlf hr
          cases hx : x.dd with
          | false =>
            rw [hx] at HG'
            simp only [Bool.false_eq_true, if_false] at HG'
            go_wp2_with (at_builtin; refine wpList_app _ rfl (.tmp 60) (.tmp 62) 30 rfl w.heap.size rowsEl (by decide) _ _ _ rfl (H8.out.1.row.alloc _) (some ⟨w8.heap.size, 0, none⟩) 1 1 [.slice A4 q.length c4] rfl (Sl.new _ _ _) (by intro u hu; simp at hu; subst hu; rfl) (by omega) (by simp; omega) ?_
                         intro A7 c7 w9 hown7 hg7 hat7
                         have hL9 := H8.out.1.more hw0 H8.out.2.1 H8.out.2.2 hown7 hg7
                         have hbx9 := hL9.box
                         rw [HCS.out] at hbx9
                         have k1 := hbx9.cell (k := 1) rfl
                         have HL9 := Lib.hid hL9
                         clear hown7 hg7 hat7 hL9 hbx9)
            all_goals first | (exfalso; omega) | exact ⟨⟨i + 1, done ++ [q], m', safe, A7, c7, vs ++ [.slice A4 q.length c4], gs8, y, g', by omega, by omega, (by first | omega | (simp; omega)), by go_num, by simp, by simp, by rw [hy], HL9.out, HG'.out⟩, by simp only [intOf]; omega⟩
          | true =>
            rw [hx] at HG'
            simp only [if_true] at HG'
            have HL8 := Lib.hid H8.out.1
            go_wp2_with fail
            all_goals first | (exfalso; omega) | exact ⟨⟨i + 1, done, m', safe, Ad, cd, vs, gs8, y, g', by omega, by omega, (by first | omega | (simp; omega)), by go_num, by simp, by simp, by rw [hy], HL8.out, HG'.out⟩, by simp only [intOf]; omega⟩
    · have hend : ¬ ((i : Int) < np) ∨ ((i : Int) < np ∧ ¬ ((i : Int) < 20)) := by omega
      have hGe : Gl x g (N + 20) F done m safe ar := ⟨HGl.out.is, HGl.out.ok.mono (by omega), HGl.out.arr, HGl.out.con, HGl.out.m1, HGl.out.m2, HGl.out.sf, HGl.out.da⟩
      have HGe := Lib.hid hGe
      clear hbx hGe
      rcases hend with hend | ⟨hend1, hend2⟩
      all_goals
        go_wp2_with fail
        go_ret3
        unfold LivedPost
        exact ⟨done, safe, m, Ad, cd, vs, gs, x, g, rfl, HGe.out, HL.out.wl, HL.out.row, HL.out.each, HL.out.stp, by omega⟩
end Go.Proofs.YtnbomifnbhijbaaGreatDoor
