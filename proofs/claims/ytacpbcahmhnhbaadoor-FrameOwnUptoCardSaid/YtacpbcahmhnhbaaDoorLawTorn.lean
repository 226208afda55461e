/-
  The law FrameTorn, as a walk: it answers true and writes nothing that was there.
-/
import Derived.Test.YtacpbcahmhnhbaaDoorTorn
namespace Go.Proofs.YtacpbcahmhnhbaaDoor
open Go.RowKit Num Crc
set_option linter.unusedVariables false

theorem intsEl : El Tryd.prog 49 3 (.int .i64 0) 8 := ⟨Tryd.underlying49, by kernel_rfl, rfl⟩
/-- Rows of different element types are different rows. -/
theorem own_other {w w' : World} {B B2 e1 e2 : Nat} {v v2 : Value} {n n2 : Nat} {xs xs2 : List Value} (h : w.ownsRow B e1 1 v n xs) (ho : w.ownsRow B2 e2 1 v2 n2 xs2) (hg : w.grownBy w' v2.ownBlock) (he : e1 ≠ e2) : w'.ownsRow B e1 1 v n xs := by
  refine h.kept hg ?_
  rcases h.2 with ⟨h1, _⟩ | ⟨g, cap, cur, h1, _, h3, _⟩
  · left; rw [h1]; rfl
  · right
    rw [h1]
    rcases ho.2 with ⟨k1, _⟩ | ⟨g', cap', cur', k1, _, k3, _⟩
    · rw [k1]; simp [Value.ownBlock]
    · rw [k1]
      simp only [Value.ownBlock]
      intro e
      injection e with e
      subst e
      rw [h3] at k3
      injection k3 with k3
      injection k3 with _ k4
      exact absurd k4 he
theorem EachS.snoc {w : World} {A : Option Addr} {c : Nat} {l : List UInt8} (hn : Sl w A l.length (bv l)) :
    ∀ {vs : List Value} {ls : List (List UInt8)}, EachS w vs ls → EachS w (vs ++ [.slice A l.length c]) (ls ++ [l])
  | [], [], _ => ⟨⟨A, c, rfl, hn⟩, trivial⟩
  | _ :: vs, _ :: ls, h => ⟨h.1, EachS.snoc hn h.2⟩
  | [], _ :: _, h => h.elim
  | _ :: _, [], h => h.elim
theorem EachS.take {w : World} : ∀ {vs : List Value} {ls : List (List UInt8)} (k : Nat), EachS w vs ls → EachS w (vs.take k) (ls.take k)
  | [], [], k, _ => by cases k <;> exact trivial
  | _ :: vs, _ :: ls, 0, _ => trivial
  | _ :: vs, _ :: ls, k + 1, h => ⟨h.1, EachS.take k h.2⟩
  | [], _ :: _, _, h => h.elim
  | _ :: _, [], _, h => h.elim

set_option maxRecDepth 40000 in
set_option maxHeartbeats 12800000 in
theorem torn_law (A : Option Addr) (n c : Nat) (vs : List Value) (ls : List (List UInt8)) (x : Int) (w : World) (hL : Laid w) (hs : Sl w A n vs) (hE : EachS w vs ls) (hn : n ≤ 140737488351232) (hl : ∀ l ∈ ls, l.length ≤ 140737488351232) :
    Calls Tryd.prog 8 #[.slice A n c, .int .i64 x] w (Good w) := by
  have hln : ls.length = n := by rw [← hE.len, hs.1]
  obtain ⟨q, hq, hq64⟩ : ∃ q : Nat, IntKind.u64.wrap x = (q : Int) ∧ q < 18446744073709551616 := by
    refine ⟨(IntKind.u64.wrap x).toNat, ?_, ?_⟩ <;> rw [IntKind.wrap_u64] <;> omega
  have GL := Lib.hid hL
  have HL := Lib.hid hl
  have HE := Lib.hid hE
  have HQ := Lib.hid hq64
  clear hL hl hq64 hE
  go_enter Tryd.func8, Tryd.ntmps8
  go_wp2_with fail
  refine (awake_any w GL.out).mono ?_
  rintro e w1 ⟨rfl, hb1⟩
  go_wp2_with fail
  go_loopw [5, 6, 7, 8] (fun s5 s6 s7 s8 wr => ∃ (i : Nat) (gs : List (List UInt8)) (Ab Ag Ae : Option Addr) (cb cg ce : Nat) (vg : List Value), i ≤ n ∧ i ≤ 40 ∧ s8 = .int .i64 i ∧ s5 = .slice Ab (flat gs).length cb ∧ s6 = .slice Ag gs.length cg ∧ s7 = .slice Ae gs.length ce ∧
      wr.ownsRow w.heap.size 5 1 (.slice Ab (flat gs).length cb) (flat gs).length (bv (flat gs)) ∧ wr.ownsRow w.heap.size 23 1 (.slice Ag gs.length cg) gs.length vg ∧ wr.ownsRow w.heap.size 3 1 (.slice Ae gs.length ce) gs.length (ends gs) ∧
      EachS w vg gs ∧ (∀ g ∈ gs, g.length ≤ 4096) ∧ gs.length ≤ i ∧ (flat gs).length ≤ i * 4200 ∧ Below w.heap.size w wr) (fun _ _ _ s8 _ => n - (intOf s8).toNat)
  case atStart => exact ⟨0, [], none, none, none, 0, 0, 0, [], Nat.zero_le _, Nat.zero_le _, rfl, rfl, rfl, rfl, World.ownsRow_nil _ _ _ _, World.ownsRow_nil _ _ _ _, World.ownsRow_nil _ _ _ _, trivial, by simp, Nat.le_refl _, Nat.le_refl _, hb1⟩
  case round =>
    obtain ⟨i, gs, Ab, Ag, Ae, cb, cg, ce, vg, hi, hi40, rfl, rfl, rfl, rfl, hob, hog, hoe, heg, hg4, hgi, hfl, hbr⟩ := hrel
    have HG4 := Lib.hid hg4
    clear hg4
    by_cases hgo : i < n ∧ i < 40
    · obtain ⟨hin, hi4⟩ := hgo
      have hi4I : (i : Int) < 40 := by omega
      obtain ⟨Ai, ci, hvi, hsi⟩ := HE.out.at_ i (by omega)
      obtain ⟨ba, oa, ua, rfl, hua, hca⟩ := hs.at_ hin
      rw [hvi] at hua
      injection hua with hua
      subst hua
      have hlp := HL.out ls[i] (List.getElem_mem _)
      generalize ls[i] = p at hvi hsi hca hlp
      have hcr : wr.cell? ⟨ba, oa + i, none⟩ = some (.slice Ai p.length ci) := by
        rw [hbr.cell (World.block_lt_of_cell? w _ hca)]; exact hca
      have HCA := Lib.hid hca
      clear hca hvi
      by_cases hbig : (4096 : Int) < p.length
      · go_wp2_with fail
        refine (own_any Ai _ ci p _ (hsi.below hbr) (by omega)).mono ?_
        rintro e w2 ⟨A2, c2, rfl, hown2, hb2⟩
        have hbr2 := hbr.trans (hb2.mono hbr.size)
        go_wp2_with fail
        refine (seal_long A2 _ c2 _ (by omega)).mono ?_
        rintro e w3 ⟨rfl, rfl⟩
        have hob2 := own_keep hob hb2
        have hog2 := own_keep hog hb2
        have hoe2 := own_keep hoe hb2
        clear hob hog hoe hcr
        go_wp2_with fail
        go_roundw
        case rel => exact ⟨i + 1, gs, Ab, Ag, Ae, cb, cg, ce, vg, by omega, by omega, by go_num, rfl, rfl, rfl, hob2, hog2, hoe2, heg, HG4.out, by omega, by omega, hbr2⟩
        case measure => simp [intOf]; omega
      · have hp4 : p.length ≤ 4096 := by omega
        have hsl : (seal_ p).length ≤ 4110 := by
          have h10 := vint_len10 (n := p.length) (by omega)
          rw [seal_len]; omega
        go_wp2_with fail
        refine (own_any Ai _ ci p _ (hsi.below hbr) (by omega)).mono ?_
        rintro e w2 ⟨A2, c2, rfl, hown2, hb2⟩
        have hbr2 := hbr.trans (hb2.mono hbr.size)
        go_wp2_with fail
        refine (seal_any A2 _ c2 p _ (GL.out.keep hbr2) (own_sl hown2) hp4).mono ?_
        rintro e w3 ⟨A3, c3, rfl, hown3, hb3⟩
        have hbr3 := hbr2.trans (hb3.mono hbr2.size)
        have hob3 := own_keep (own_keep hob hb2) hb3
        have hog3 := own_keep (own_keep hog hb2) hb3
        have hoe3 := own_keep (own_keep hoe hb2) hb3
        clear hcr
        clear hob hog hoe hown2 hb2 hb3
        go_wp2_with (first
          | (at_builtin; refine wpList_app _ rfl (.tmp 40) (.tmp 41) 23 rfl w.heap.size bytesEl (by decide) _ _ _ rfl hob3 _ _ _ _ rfl (own_sl hown3) (bv_one _) (by omega) hbr3.size ?_; intro A4 c4 w4 hob4 hg4 hat4; have hog4 := own_other hog3 hob3 hg4 (by decide); have hoe4 := own_other hoe3 hob3 hg4 (by decide); have hb4 := hbr3.grown hg4 hbr3.size (own_blk hob3); have hcr4 := (hb4.cell (World.block_lt_of_cell? w _ HCA.out)).trans HCA.out)
          | (at_builtin; refine wpList_app _ rfl (.tmp 43) (.tmp 48) 45 rfl w.heap.size rowsEl (by decide) _ _ _ rfl (hog4.alloc _) (some ⟨w4.heap.size, 0, none⟩) 1 1 [.slice Ai p.length ci] rfl (Sl.new _ _ _) (by intro u hu; simp at hu; subst hu; rfl) (by omega) (by have := hb4.size; simp; omega) ?_; intro A5 c5 w5 hog5 hg5 hat5; have hob5 := own_other (hob4.alloc _) (hog4.alloc _) hg5 (by decide); have hoe5 := own_other (hoe4.alloc _) (hog4.alloc _) hg5 (by decide); have hb5 := (hb4.alloc hb4.size _).grown hg5 (by have := hb4.size; simp; omega) (own_blk hog4))
          | (at_builtin; refine wpList_app _ rfl (.tmp 50) (.tmp 53) 49 rfl w.heap.size intsEl (by decide) _ _ _ rfl (hoe5.alloc _) (some ⟨w5.heap.size, 0, none⟩) 1 1 [.int .i64 ((flat gs).length + (seal_ p).length : Nat)] rfl (by rw [Int.natCast_add]; exact Sl.new _ _ _) (by intro u hu; simp at hu; subst hu; rfl) (by omega) (by have := hb5.size; simp; omega) ?_; intro A6 c6 w6 hoe6 hg6 hat6; have hob6 := own_other (hob5.alloc _) (hoe5.alloc _) hg6 (by decide); have hog6 := own_other (hog5.alloc _) (hoe5.alloc _) hg6 (by decide); have hb6 := (hb5.alloc hb5.size _).grown hg6 (by have := hb5.size; simp; omega) (own_blk hoe5)))
        have eF : flat (gs ++ [p]) = flat gs ++ seal_ p := by rw [flat_app, flat_one]
        have eL : (gs ++ [p]).length = gs.length + 1 := by simp
        have HF := Lib.hid eF
        have HLn := Lib.hid eL
        clear eF eL hog4 hoe4 hob4 hob5 hog5 hoe5 hg4 hg5 hg6 hat4 hat5 hat6 hb4 hb5 hcr4
        go_roundw
        case rel =>
          refine ⟨i + 1, gs ++ [p], A4, A5, A6, c4, c5, c6, vg ++ [.slice Ai p.length ci], by omega, by omega, by go_num, by rw [HF.out, List.length_append], by rw [HLn.out], by rw [HLn.out], ?_, ?_, ?_, heg.snoc hsi, ?_, by rw [HLn.out]; omega, ?_, hb6⟩
          · rw [HF.out, List.length_append, bv_app]; exact hob6
          · rw [HLn.out]; exact hog6
          · rw [HLn.out, ends_snoc, HF.out, List.length_append]; exact hoe6
          · intro g hg
            rcases List.mem_append.1 hg with h | h
            · exact HG4.out g h
            · simp at h; subst h; exact hp4
          · rw [HF.out, List.length_append]; omega
        case measure => simp [intOf]; omega
    · have hend : ¬ ((i : Int) < n) ∨ ((i : Int) < n ∧ ¬ ((i : Int) < 40)) := by omega
      obtain ⟨r, hr, hr1⟩ : ∃ r : Nat, (q : Int) % (((flat gs).length : Int) + 1) = (r : Int) ∧ r ≤ (flat gs).length := by
        have h1 := Int.emod_nonneg (q : Int) (show ((flat gs).length : Int) + 1 ≠ 0 by omega)
        have h2 := Int.emod_lt_of_pos (q : Int) (show (0 : Int) < ((flat gs).length : Int) + 1 by omega)
        exact ⟨((q : Int) % (((flat gs).length : Int) + 1)).toNat, by omega, by omega⟩
      have hq64 : (q : Int) ≤ 18446744073709551615 := by have := HQ.out; omega
      have hfl2 : (flat gs).length ≤ 168000 := by omega
      have hsle := own_sl hoe
      have hcb := own_le hob
      have hcg := own_le hog
      have hrc : (r : Int) ≤ cb := by omega
      rcases hend with hend | ⟨hend1, hend2⟩
      all_goals
        go_wp2_with fail
        go_loop [11, 12] (fun s11 s12 => ∃ k : Nat, k ≤ gs.length ∧ s11 = .int .i64 k ∧ s12 = .int .i64 ((flat (gs.take k)).length : Int) ∧ (flat (gs.take k)).length ≤ r) (fun s11 _ => gs.length - (intOf s11).toNat)
        case atStart => exact ⟨0, Nat.zero_le _, rfl, by simp [flat_nil], by simp [flat_nil]⟩
        case round =>
          obtain ⟨k, hk, rfl, rfl, hkr⟩ := hrel
          by_cases hgo2 : k < gs.length ∧ (flat (gs.take (k + 1))).length ≤ r
          · obtain ⟨hk2, hle⟩ := hgo2
            obtain ⟨be, oe, ue, rfl, hue, hce⟩ := hsle.at_ hk2
            rw [ends_get gs hk2] at hue
            injection hue with hue
            subst hue
            have hleI : ((flat (gs.take (k + 1))).length : Int) ≤ r := by omega
            generalize hF1 : (flat (gs.take (k + 1))).length = F1 at hce hleI hle
            have HF1 := Lib.hid hF1
            clear hF1
            go_wp2_with fail
            go_round
            case rel => exact ⟨k + 1, by omega, by go_num, by rw [HF1.out], by rw [HF1.out]; exact hle⟩
            case measure => simp [intOf]; omega
          · have hsc := scan_cut HG4.out hk hkr hr1 (by omega)
            have hsw := scan_whole HG4.out
            have HSC := Lib.hid hsc
            have HSW := Lib.hid hsw
            clear hsc hsw
            obtain ⟨T, hT⟩ : ∃ T, T = (flat gs).take r := ⟨_, rfl⟩
            have hTr : T.length = r := by rw [hT, List.length_take]; omega
            have hslT : Sl wr Ab r (bv T) := by have h := (own_sl hob).take hr1; rwa [take_bv, ← hT] at h
            rw [← hT] at HSC
            have HTR := Lib.hid hTr
            clear hT hTr
            have hway : (∃ be oe F1, Ae = some ⟨be, oe, none⟩ ∧ (k : Int) < gs.length ∧ ¬ ((F1 : Nat) : Int) ≤ r ∧ wr.cell? ⟨be, oe + k, none⟩ = some (.int .i64 (F1 : Nat))) ∨ ¬ (k : Int) < gs.length := by
              by_cases hk2 : k < gs.length
              · obtain ⟨be, oe, ue, hAe, hue, hce⟩ := hsle.at_ hk2
                rw [ends_get gs hk2] at hue
                injection hue with hue
                subst hue
                exact .inl ⟨be, oe, _, hAe, by omega, by omega, hce⟩
              · exact .inr (by omega)
            rcases hway with ⟨be, oe, F1, rfl, hkI, hnle, hce⟩ | hkI
            all_goals
              go_wp2_with fail
              refine (own_any _ r _ T wr hslT (by omega)).mono ?_
              rintro e w2 ⟨A2, c2, rfl, hown2, hb2⟩
              have hbr2 := hbr.trans (hb2.mono hbr.size)
              have hob2 := own_keep hob hb2
              go_wp2_with fail
              refine (scan_any A2 _ c2 T _ (GL.out.keep hbr2) (own_sl hown2) (by have := HTR.out; omega) (own_le hown2)).mono ?_
              rw [HSC.out]
              rintro e w3 ⟨A3, c3, vs3, rfl, hown3, heach3, hb3⟩
              have hbr3 := hbr2.trans (hb3.mono hbr2.size)
              have hob3 := own_keep hob2 hb3
              simp only at hown3 heach3 ⊢
              go_wp2_with fail
              refine (own_any Ab _ cb (flat gs) _ (own_sl hob3) (by omega)).mono ?_
              rintro e w4 ⟨A4, c4, rfl, hown4, hb4⟩
              have hbr4 := hbr3.trans (hb4.mono hbr3.size)
              go_wp2_with fail
              refine (scan_any A4 _ c4 (flat gs) _ (GL.out.keep hbr4) (own_sl hown4) (by omega) (own_le hown4)).mono ?_
              rw [HSW.out]
              rintro e w5 ⟨A5, c5, vs5, rfl, hown5, heach5, hb5⟩
              have hbr5 := hbr4.trans (hb5.mono hbr4.size)
              have hb35 : Below w3.heap.size w3 w5 := hb4.trans (hb5.mono hb4.size)
              have hgkeep : wr.heap.size ≤ w5.heap.size ∧ Below wr.heap.size wr w5 := ⟨Nat.le_trans hb2.size (Nat.le_trans hb3.size (Nat.le_trans hb4.size hb5.size)), hb2.trans ((hb3.mono hb2.size).trans (hb35.mono (Nat.le_trans hb2.size hb3.size)))⟩
              have hsg5 := (own_sl hog).below hgkeep.2
              have heg5 : EachS w5 vg gs := heg.keep fun j hj => hbr5.block j hj
              have hs35 := (own_sl hown3).below hb35
              have he35 := heach3.toS.keep hb35.block
              have hs55 := own_sl hown5
              have he55 := heach5.toS
              simp only at hs35 he35 hs55 he55 ⊢
              go_wp2_with fail
              have hlk : (gs.take k).length = k := by rw [List.length_take]; omega
              rw [hlk] at hs35
              refine (same_any A3 Ag k c3 k cg vs3 (vg.take k) (gs.take k) (gs.take k) w5 hs35 (hsg5.take (by omega)) he35 (heg5.take k) (by omega) (by omega)).mono ?_
              rintro e w6 ⟨rfl, hb6⟩
              have hbr6 := hbr5.trans (hb6.mono hbr5.size)
              have hsg6 := hsg5.below hb6
              have heg6 : EachS w6 vg gs := heg.keep fun j hj => hbr6.block j hj
              have hs56 := hs55.below hb6
              have hdec : decide (gs.take k = gs.take k) = true := decide_eq_true rfl
              rw [hdec]
              clear hdec
              go_wp2_with fail
              refine (same_any A5 Ag gs.length c5 gs.length cg vs5 vg gs gs w6 hs56 hsg6 (he55.keep hb6.block) heg6 (by omega) (by omega)).mono ?_
              rintro e w7 ⟨rfl, hb7⟩
              have hbr7 := hbr6.trans (hb7.mono (Nat.le_trans hbr5.size hb6.size))
              have hdec2 : decide (gs = gs) = true := decide_eq_true rfl
              rw [hdec2]
              clear hdec2
              go_wp2
              go_ret
              exact ⟨by simp, hbr7⟩
end Go.Proofs.YtacpbcahmhnhbaaDoor
