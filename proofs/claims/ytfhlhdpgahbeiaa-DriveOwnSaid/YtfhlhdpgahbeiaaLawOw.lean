/-
  The law DriveOwn as a walk.
-/
import Derived.Test.YtfhlhdpgahbeiaaLawCr
namespace Go.Proofs.Ytfhlhdpgahbeiaa
open Go.RowKit Go.Maps
set_option linter.unusedVariables false

theorem own_head {w : World} {B e n c : Nat} {A : Option Addr} {xs : List Value} (h : w.ownsRow B e 1 (.slice A n c) n xs) (hn : 0 < n) : ∃ b, A = some ⟨b, 0, none⟩ ∧ n ≤ c := by
  rcases h.2 with ⟨_, h0⟩ | ⟨g, cap, cur, hv, _, _, hc, _⟩
  · omega
  · injection hv with h1 h2 h3
    subst h1 h3
    exact ⟨g, rfl, hc⟩
/-- What the drive and the reference answer to one Append. -/
theorem append_out {W w : World} {lo pb mb : Nat} {gs : List Gm} {st lf : Int} {ar : Bool} {A : Option Addr} {c : Nat} (h : Rel W lo pb mb gs st ar lf A c) (hD : Dr w pb mb gs st ar lf) (s : List UInt8) (A1 : Option Addr) (c1 : Nat) (l : List UInt8)
    (hsl : Sl w A1 l.length (bv l)) (hfr : ∀ k, (Value.slice A1 l.length c1).ownBlock = some k → ¬ foot pb mb gs k) (hs : s.length ≤ 140737488355328) (hl : l.length ≤ 140737488355328) :
    Calls Try.prog 24 #[.pointer (some ⟨pb, 0, none⟩), .string (str s), .slice A1 l.length c1] w (Out w lo pb mb gs A c (appE s l.length gs ar lf) 28 #[.agg #[.slice A gs.length c, .int .i64 st, .bool ar, .int .i64 lf], .string (str s), .string (str l)]) := by
  have hfew := h.dr.few
  have hdl : ∀ f ∈ gs.map Gm.f, f.data.length ≤ 262144 := fun f hf => by
    obtain ⟨g, hg, rfl⟩ := List.mem_map.1 hf
    exact (h.dr.file g hg).2.2.2.1
  refine (append_any hD s A1 l.length c1 l hsl hl hfr).mono ?_
  rintro e w' ⟨rfl, hp⟩
  have hr : w'.ownsRow lo 70 3 (.slice A gs.length c) gs.length (fcs (gs.map Gm.f)) → lo ≤ w'.heap.size → _ := fun ho hle => rappend_any A gs.length c (gs.map Gm.f) st ar lf s l w' lo ho (by simp) hle (by omega) hs hl hdl
  rw [app_both, old_both] at hr
  by_cases hE : appE s l.length gs ar lf = 0
  · rw [if_pos hE] at hp hr
    obtain ⟨g, hg, hD2, hS⟩ := hp
    rw [← hg, ← with_both] at hr
    have hgn : g.name = s := congrArg Fm.name hg
    exact ⟨rfl, _, _, _, _, hD2, hS, vn_with h.vn (hgn ▸ appE_vn hE), fun ho hle => (hr ho hle).mono fun e w3 hra => by rw [hE]; exact RPost.ans hra⟩
  · rw [if_neg hE] at hp hr
    exact ⟨rfl, _, _, _, _, hp.1, hp.2, h.vn, fun ho hle => (hr ho hle).mono fun e w3 hra => RPost.ans hra⟩

theorem blk_ne {w : World} {a b : Nat} {cs ds : Array Value} {s t : TypeId} (h : Blk w a cs s) (k : Blk w b ds t) (hn : s ≠ t) : a ≠ b := by
  rintro rfl
  unfold Blk at h k
  rw [h] at k
  injection k with k; injection k with _ k
  exact hn k
/-- What stands while the bytes that were handed in are written over. -/
structure OwR (w2 V : World) (Mn b9 n9 c9 : Nat) (pc mc : Nat) (gs : List Gm) (st : Int) (ar : Bool) (lf : Int) (A : Option Addr) (c : Nat) : Prop where
  rel : Rel V w2.heap.size pc mc gs st ar lf A c
  bel : Below w2.heap.size w2 V
  m : Blk V Mn (dcs A gs.length c st ar lf) 26
  room : ∃ xs, V.ownsRow w2.heap.size 5 1 (.slice (some ⟨b9, 0, none⟩) n9 c9) n9 xs
  nf : ¬ foot pc mc gs b9
section
variable {w2 V V' : World} {Mn b9 n9 c9 pc mc : Nat} {gs : List Gm} {st lf : Int} {ar : Bool} {A : Option Addr} {c : Nat}
theorem OwR.set (h : OwR w2 V Mn b9 n9 c9 pc mc gs st ar lf A c) (k : Nat) (u : Value) : OwR w2 (V.setCell ⟨b9, k, none⟩ u) Mn b9 n9 c9 pc mc gs st ar lf A c := by
  obtain ⟨xs, hx⟩ := h.room
  obtain ⟨cur, hbk⟩ := own_blk_type hx (k := b9) rfl
  refine ⟨⟨h.rel.dr.keep fun q e => setCell_other _ _ _ (fun (e' : q = b9) => h.nf (e' ▸ e)), own3_keep h.rel.own fun q e => setCell_other _ _ _ (row_ne h.rel.own hbk (by decide) q e), h.rel.vn, h.rel.flo, by rw [setCell_size]; exact h.rel.le⟩,
    h.bel.setCell (own_blk hx b9 rfl) _, h.m.keep (setCell_other _ _ _ (blk_ne h.m hbk (by decide))), ⟨_, (hx.stored k u).1⟩, h.nf⟩
theorem OwR.cell_ (h : OwR w2 V Mn b9 n9 c9 pc mc gs st ar lf A c) {k : Nat} (hk : k < n9) : (∃ u, V.cell? ⟨b9, k, none⟩ = some u) ∧ V.frozen? ⟨b9, k, none⟩ = false := by
  obtain ⟨xs, hx⟩ := h.room
  have hl : xs.length = n9 := by have := hx.1; omega
  refine ⟨⟨xs[k]'(by omega), ?_⟩, hx.frozenAt k⟩
  rw [hx.cellAt k (by omega)]
  exact List.getElem?_eq_getElem (by omega)
end
theorem read_gen {w : World} {pb mb : Nat} {gs : List Gm} {st lf : Int} {ar : Bool} (h : Dr w pb mb gs st ar lf) (s : List UInt8) :
    Calls Try.prog 29 #[.pointer (some ⟨pb, 0, none⟩), .string (str s)] w fun e w' => ∃ A c n E xs, e = .returned (.tuple #[.slice A n c, .int .i64 E]) ∧
      w'.ownsRow w.heap.size 5 1 (.slice A n c) n xs ∧ n ≤ 262144 ∧ Below w.heap.size w w' := by
  refine (read_any h s).mono ?_
  rintro e w' ⟨A, c, rfl, ho, hb⟩
  refine ⟨A, c, _, _, _, rfl, ho, ?_, hb⟩
  by_cases hE : readE s gs = 0
  · rw [if_pos hE]
    unfold oldF
    cases hf : findK Gm.name s gs with
    | none => simp [emptyF]
    | some g => exact (h.file g (find_some hf).1).2.2.2.1
  · rw [if_neg hE]; omega
/-- Behind the two Appends and the store of the reference's answer. -/
theorem OwR.mk_ {w2 wc w9 w10 w11 : World} {Mn b9 n9 c9 pc mc : Nat} {hs gs2 : List Gm} {st2 lf2 : Int} {ar2 : Bool} {A3 A11 : Option Addr} {c3 c11 : Nat} {xs : List Value} (hR7 : Rel wc w2.heap.size pc mc hs 0 false 0 A3 c3) (hm7 : Blk wc Mn (dcs A3 hs.length c3 0 false 0) 26) (hMn : w2.heap.size ≤ Mn) (hb7 : Below w2.heap.size w2 wc)
    (hb9 : Below wc.heap.size wc w9) (hroom : w9.ownsRow wc.heap.size 5 1 (.slice (some ⟨b9, 0, none⟩) n9 c9) n9 xs) (hD10 : Dr w10 pc mc gs2 st2 ar2 lf2) (hS : Stp w9 w10 (foot pc mc hs) (foot pc mc gs2)) (hv : ∀ y ∈ gs2, vname y.name = true)
    (ho11 : w11.ownsRow w2.heap.size 70 3 (.slice A11 gs2.length c11) gs2.length (fcs (gs2.map Gm.f))) (hb11 : Below w10.heap.size w10 w11) :
    OwR w2 ((((w11.setCell ⟨Mn, 0, none⟩ (.slice A11 gs2.length c11)).setCell ⟨Mn, 1, none⟩ (.int .i64 st2)).setCell ⟨Mn, 2, none⟩ (.bool ar2)).setCell ⟨Mn, 3, none⟩ (.int .i64 lf2)) Mn b9 n9 c9 pc mc gs2 st2 ar2 lf2 A11 c11 ∧
    ((((w11.setCell ⟨Mn, 0, none⟩ (.slice A11 gs2.length c11)).setCell ⟨Mn, 1, none⟩ (.int .i64 st2)).setCell ⟨Mn, 2, none⟩ (.bool ar2)).setCell ⟨Mn, 3, none⟩ (.int .i64 lf2)).ownsRow wc.heap.size 5 1 (.slice (some ⟨b9, 0, none⟩) n9 c9) n9 xs ∧
    Blk w11 Mn (dcs A3 hs.length c3 0 false 0) 26 := by
  have hD9 := hR7.dr.below hb9 (Nat.le_refl _)
  have hbase : wc.heap.size ≤ b9 := own_blk hroom b9 rfl
  have hlt9 : b9 < w9.heap.size := by obtain ⟨cur, hbk⟩ := own_blk_type hroom (k := b9) rfl; exact hbk.lt
  have hnf : ¬ foot pc mc hs b9 := fun e => by have := hR7.dr.foot_lt e; omega
  have hnf2 : ¬ foot pc mc gs2 b9 := fun e => by
    rcases hS.sub b9 e with e | e
    · exact hnf e
    · omega
  have hm9 := hm7.keep (hb9.block _ hm7.lt)
  have hm10 := hm9.keep (hS.oth.block _ hm9.lt (box_foot hD9 hm9))
  have hm11 := hm10.keep (hb11.block _ hm10.lt)
  have hr10 := own_at hroom fun k hk => hS.oth.block k (by cases hk; exact hlt9) (by cases hk; exact hnf)
  have hlt10 : b9 < w10.heap.size := by have := hS.oth.size; omega
  have hr11 := own_at hr10 fun k hk => hb11.block k (by cases hk; exact hlt10)
  obtain ⟨cur, hbk⟩ := own_blk_type hr11 (k := b9) rfl
  have hne : b9 ≠ Mn := (blk_ne hm11 hbk (by decide)).symm
  have hr12 : ((((w11.setCell ⟨Mn, 0, none⟩ (.slice A11 gs2.length c11)).setCell ⟨Mn, 1, none⟩ (.int .i64 st2)).setCell ⟨Mn, 2, none⟩ (.bool ar2)).setCell ⟨Mn, 3, none⟩ (.int .i64 lf2)).ownsRow wc.heap.size 5 1 (.slice (some ⟨b9, 0, none⟩) n9 c9) n9 xs := own_at hr11 fun k hk => set4_block _ _ _ _ _ _ _ (by cases hk; exact hne)
  have hz7 := hb7.size
  have hflo : ∀ k, foot pc mc gs2 k → w2.heap.size ≤ k := fun k hk => by
    rcases hS.sub k hk with e | e
    · exact hR7.flo k e
    · have := hb9.size; omega
  have hb2_10 : Below w2.heap.size w2 w10 := (hb7.trans (hb9.mono hz7)).trans (hS.oth.below hR7.flo (by have := hb9.size; omega))
  have hb2_11 : Below w2.heap.size w2 w11 := hb2_10.trans (hb11.mono hb2_10.size)
  have hrel : Rel w11 w2.heap.size pc mc gs2 st2 ar2 lf2 A11 c11 := ⟨hD10.below hb11 (Nat.le_refl _), ho11, hv, hflo, hb2_11.size⟩
  exact ⟨⟨hrel.box hm11 _ _ _ _, set4_below hb2_11 hMn _ _ _ _, hm11.box, ⟨_, own_base hr12 hz7⟩, hnf2⟩, hr12, hm11⟩

/-- The bytes that were read, and eights behind them. -/
def OneL (wq wr : World) (n k : Nat) (v : Value) : Prop := ∃ A c xs, v = .slice A (n + k) c ∧ wr.ownsRow wq.heap.size 5 1 (.slice A (n + k) c) (n + k) xs ∧ (0 < k → xs[n + k - 1]? = some (.int .u8 8)) ∧ Below wq.heap.size wq wr

set_option maxRecDepth 40000 in
set_option maxHeartbeats 8000000 in
theorem own_law {w : World} {A0 : Option Addr} {n0 c0 : Nat} {os : List Od} (h : Ol w A0 n0 os) (hn : n0 ≤ 140737488355328) {B1 : Option Addr} {n1 c1 : Nat} {lb : List UInt8} (hB : Sl w B1 n1 (bv lb)) (hnc : n1 ≤ c1) (hn1 : n1 ≤ 140737488355328) :
    Calls Try.prog 8 #[.slice A0 n0 c0, .slice B1 n1 c1] w fun e w' => e = .returned (.bool true) ∧ Below w.heap.size w w' := by
  have hbu := built_any (c0 := c0) h hn
  have HB1 := Lib.hid hB
  clear h hB
  go_enter Try.func8, Try.ntmps8
  go_wp2_with fail
  refine hbu.mono ?_
  rintro e w1 ⟨pb, mb, gs, st, ar, lf, A, c, rfl, hR, hb1⟩
  have hfew := hR.dr.few
  have HR := Lib.hid hR
  clear hR hbu
  go_wp2_with fail
  refine (awake_any _).mono ?_
  rintro e w2 ⟨rfl, hb2⟩
  have hb12 : Below w1.heap.size w1 w2 := ((Below.refl _ w1).alloc (Nat.le_refl _) _).trans (hb2.mono (by simp))
  have hR2 := HR.out.below hb12
  have hm2 : Blk w2 w1.heap.size (dcs A gs.length c st ar lf) 26 := (Blk.new w1 (dcs A gs.length c st ar lf) 26).keep (hb2.block _ (by simp))
  have hb02 : Below w.heap.size w w2 := hb1.trans (hb12.mono hb1.size)
  have HD : Hid (∀ V, Below w2.heap.size w2 V → Dr V pb mb gs st ar lf) := fun V hV => hR2.dr.below hV (Nat.le_refl _)
  have HF : Hid (∀ V, Below w2.heap.size w2 V → Fl V A gs.length (gs.map Gm.f)) := fun V hV => hR2.fl.below hV
  have HB2 := Lib.hid (HB1.out.below hb02)
  have dc0 : ∀ V, Below w2.heap.size w2 V → V.cell? ⟨w1.heap.size, 0, none⟩ = some (.slice A gs.length c) := fun V hV => (hm2.keep (hV.block _ hm2.lt)).cell rfl
  have dc1 : ∀ V, Below w2.heap.size w2 V → V.cell? ⟨w1.heap.size, 1, none⟩ = some (.int .i64 st) := fun V hV => (hm2.keep (hV.block _ hm2.lt)).cell rfl
  have dc2 : ∀ V, Below w2.heap.size w2 V → V.cell? ⟨w1.heap.size, 2, none⟩ = some (.bool ar) := fun V hV => (hm2.keep (hV.block _ hm2.lt)).cell rfl
  have dc3 : ∀ V, Below w2.heap.size w2 V → V.cell? ⟨w1.heap.size, 3, none⟩ = some (.int .i64 lf) := fun V hV => (hm2.keep (hV.block _ hm2.lt)).cell rfl
  have HSY := Lib.hid (file_len hR2.dr)
  have HRR := Lib.hid hR2
  have HM2 := Lib.hid hm2
  clear hb2 hb12 hm2 hR2
  go_wp2_with fail
  go_cut [8, 9] (fun s11 s12 wx => C7 w2 wx s11 s12)
  case first =>
    have hb0 : Below w2.heap.size w2 w2.drew := (Below.refl _ _).drew
    have le0 : w2.heap.size ≤ w2.heap.size := Nat.le_refl _
    go_region_held (fun V => Below w2.heap.size w2 V) (first | assumption | exact Below.al (by assumption) _ | exact set4_below (by assumption) (by assumption) _ _ _ _ | exact set4_below (Below.al (by assumption) _) (by assumption) _ _ _ _) (first
      | (go_at_call 15; refine (crash_any (HD.out _ (by assumption)) none 0 0 [] (Sl.none_ _ none) (Nat.le_refl _)).mono ?_; rintro e w3 ⟨pc, mc, hs, rfl, hhs, hD3, hb3, hf3⟩
         have hbb3 : Below w2.heap.size w2 w3 := tr2 (by assumption) hb3
         have le3 : w2.heap.size ≤ w3.heap.size := hbb3.size
         have hfl3 : ∀ k, foot pc mc hs k → w2.heap.size ≤ k := fun k hk => Nat.le_trans (Below.size (by assumption)) (hf3 k hk)
         try (have hm3 : Blk w3 w2.heap.size zcs 26 := (Blk.new w2.drew zcs 26).keep (hb3.block _ (by simp)))
         have HD3 := Lib.hid hD3
         have HF3 := Lib.hid hfl3
         clear hD3 hf3 hfl3)
      | (go_at_call 16; refine (rcrash_any A gs.length c (gs.map Gm.f) st ar lf none 0 0 [] _ (HF.out _ (by assumption)) hfew (Sl.none_ _ none) HSY.out).mono ?_; intro e w4 hfr; obtain ⟨A3, c3, rfl, ho4, hb4⟩ := FreshD.ans hfr hhs
         have hbb4 : Below w2.heap.size w2 w4 := tr2 (by assumption) hb4
         have le4 : w2.heap.size ≤ w4.heap.size := hbb4.size
         have h34 : Below w3.heap.size w3 w4 := by first | exact hb4 | exact via_alloc hb4
         have HR4 := Lib.hid (rel_of (wr := w2) (V' := w2) HD3.out HF3.out (Below.refl _ _) h34 ho4 (by assumption) hbb4 (vn_crash HRR.out.vn hhs))
         try (have hm4 := hm3.keep (hb4.block _ hm3.lt); have r0 : w4.cell? ⟨w2.heap.size, 0, none⟩ = some (.slice none 0 0) := hm4.cell rfl; have r1 : w4.cell? ⟨w2.heap.size, 1, none⟩ = some (.int .i64 0) := hm4.cell rfl; have r2 : w4.cell? ⟨w2.heap.size, 2, none⟩ = some (.bool false) := hm4.cell rfl; have r3 : w4.cell? ⟨w2.heap.size, 3, none⟩ = some (.int .i64 0) := hm4.cell rfl; have f0 := hm4.frozen 0; have f1 := hm4.frozen 1; have f2 := hm4.frozen 2; have f3 := hm4.frozen 3; have HM4 := Lib.hid hm4; clear hm4)
         try (have hm4 : Blk w4 w3.heap.size zcs 26 := (Blk.new w3 zcs 26).keep (hb4.block _ (by simp)); have r0 : w4.cell? ⟨w3.heap.size, 0, none⟩ = some (.slice none 0 0) := hm4.cell rfl; have r1 : w4.cell? ⟨w3.heap.size, 1, none⟩ = some (.int .i64 0) := hm4.cell rfl; have r2 : w4.cell? ⟨w3.heap.size, 2, none⟩ = some (.bool false) := hm4.cell rfl; have r3 : w4.cell? ⟨w3.heap.size, 3, none⟩ = some (.int .i64 0) := hm4.cell rfl; have f0 := hm4.frozen 0; have f1 := hm4.frozen 1; have f2 := hm4.frozen 2; have f3 := hm4.frozen 3; have HM4 := Lib.hid hm4; clear hm4)
         clear ho4 hfr))
    all_goals
      go_wp2_with fail
      go_meet
      first
        | exact C7.mk_ HR4.out HM4.out ⟨_, _, _, _, _, _, rfl⟩ (by assumption) hbb4
        | exact C7.al HR4.out hbb4
  case rest =>
    obtain ⟨pc, mc, hs, A3, c3, Mn, rfl, rfl, hR7, hm7, hMn, hb7⟩ := hcut
    have H7 := Lib.hid (And.intro hR7 (And.intro hm7 (And.intro hMn hb7)))
    have hb1' := HB2.out.below hb7
    obtain ⟨T, hT⟩ : ∃ T : Nat, T = min n1 1000 := ⟨_, rfl⟩
    have hTm : min (n1 : Int) 1000 = (T : Int) := by omega
    have hTc : (T : Int) ≤ c1 := by omega
    have hT0 : (0 : Int) ≤ T := by omega
    have hTb : T ≤ 1000 := by omega
    have hlb : lb.length = n1 := HB1.out.len
    obtain ⟨l0, hl0⟩ : ∃ l0, l0 = lb.take T := ⟨_, rfl⟩
    have hll : l0.length = T := by rw [hl0, List.length_take]; omega
    have hsT : Sl wc B1 T (bv l0) := by
      have := hb1'.take (k := T) (by omega)
      rw [hl0]
      simpa [bv, List.map_take] using this
    have HL0 := Lib.hid (And.intro hll hlb)
    clear hR7 hm7 hMn hb7 dc0 dc1 dc2 dc3 hb1' hT hl0 hll hlb
    go_wp2_with (first
      | (at_builtin; refine wpList_app _ rfl (.tmp 38) (.tmp 43) 33 rfl wc.heap.size bytesEl (by decide) _ 0 [] rfl (World.ownsRow_made wc #[] 0 (Nat.le_refl _) (Nat.zero_le _) rfl) B1 T c1 (bv l0) rfl (hsT.alloc _) (bv_one _) (by omega) (by simp) ?_; intro A8 c8 w8 hown8 hg8 hat8; have hrow8 : w8.ownsRow wc.heap.size 5 1 (.slice A8 T c8) T (bv l0) := by simpa using hown8)
      | (at_builtin; refine wpList_app _ rfl (.tmp 44) (.tmp 45) 33 rfl wc.heap.size bytesEl (by decide) _ _ _ rfl (hrow8.alloc _) (some ⟨w8.heap.size, 0, none⟩) 1 1 [.int .u8 77] rfl (Sl.new _ _ _) (by intro u hu; simp at hu; subst hu; rfl) (by omega) (by have := hg8.size; simp at this; simp; omega) ?_; intro A9 c9 w9 hown9 hg9 hat9
         obtain ⟨b9, rfl, h9c⟩ := own_head hown9 (by omega)
         have hT9 : T ≤ c9 := by omega
         have hsl9 : Sl w9 (some ⟨b9, 0, none⟩) T (bv l0) := by
           have h := (own_sl hown9).take (k := T) (by omega)
           rwa [List.take_left' (by rw [bv_len]; exact HL0.out.1)] at h
         have hcs9 : (convert 33 9 (.slice (some ⟨b9, 0, none⟩) T c9)).run Try.prog w9 = .ok (.string (str l0)) w9 := run_str (P := Try.prog) (c := c9) hsl9 33 5 9 Try.underlying33 Try.underlying5 Try.underlying9
         have H9 := Lib.hid (And.intro hown8 (And.intro hg8 (And.intro hown9 (And.intro hg9 (And.intro hat9 (And.intro hsl9 (And.intro hrow8 h9c)))))))
         clear hown8 hg8 hat8 hown9 hg9 hat9 hsl9 hrow8))
    obtain ⟨hown8, hg8, hown9, hg9, hat9, hsl9, hrow8, h9c⟩ := H9.out
    have hb8w : Below wc.heap.size wc w8 := ((Below.refl _ wc).alloc (Nat.le_refl _) _).grown hg8 (by simp) (own_blk (World.ownsRow_made (e := 5) (size := 1) wc #[] 0 (Nat.le_refl _) (Nat.zero_le _) rfl))
    have hb9w : Below wc.heap.size wc w9 := (hb8w.alloc hb8w.size _).grown hg9 (by have := hb8w.size; simp; omega) (own_blk hrow8)
    have hD9 := H7.out.1.dr.below hb9w (Nat.le_refl _)
    have hap := append_out (W := wc) (w := w9) H7.out.1 hD9 [111, 119, 110] (some ⟨b9, 0, none⟩) c9 l0 (by rw [HL0.out.1]; exact hsl9) (fun k hk e => by
      have h3 : b9 = k := Option.some.inj hk
      subst h3
      have h1 := H7.out.1.dr.foot_lt e
      have h2 := own_blk hown9 b9 rfl
      omega) (by simp) (by rw [HL0.out.1]; omega)
    rw [HL0.out.1, show str [111, 119, 110] = ⟨#[111, 119, 110]⟩ from rfl] at hap
    obtain ⟨E, hE⟩ : ∃ E, E = appE [111, 119, 110] T hs false 0 := ⟨_, rfl⟩
    rw [← hE] at hap
    clear hown8 hg8 hown9 hg9 hat9 hsl9 hrow8 hb8w hE hcs9
    refine hap.mono ?_
    rintro e w10 ⟨rfl, gs2, st2, ar2, lf2, hD10, hS10, hv10, hrf⟩
    have hm9 := H7.out.2.1.keep (hb9w.block _ H7.out.2.1.lt)
    have hm10 := hm9.keep (hS10.oth.block _ hm9.lt (box_foot hD9 hm9))
    have hrc := hrf (row_stp hD9 (own3_below H7.out.1.own hb9w) hS10) (by have := hb9w.size; have := hS10.oth.size; have := H7.out.1.le; omega)
    have d0 : w10.cell? ⟨Mn, 0, none⟩ = some (.slice A3 hs.length c3) := hm10.cell rfl
    have d1 : w10.cell? ⟨Mn, 1, none⟩ = some (.int .i64 0) := hm10.cell rfl
    have d2 : w10.cell? ⟨Mn, 2, none⟩ = some (.bool false) := hm10.cell rfl
    have d3 : w10.cell? ⟨Mn, 3, none⟩ = some (.int .i64 0) := hm10.cell rfl
    have HX := Lib.hid (And.intro hD10 (And.intro hS10 (And.intro hv10 hb9w)))
    clear hap hrf hD9 hm9 hm10 hD10 hS10 hv10 hb9w
    go_wp2_with fail
    refine hrc.mono ?_
    rintro e w11 ⟨A11, c11, rfl, ho11, hb11⟩
    obtain ⟨hOw, hr12, hm11⟩ := OwR.mk_ H7.out.1 H7.out.2.1 H7.out.2.2.1 H7.out.2.2.2 HX.out.2.2.2 H9.out.2.2.1 HX.out.1 HX.out.2.1 HX.out.2.2.1 ho11 hb11
    have d0 : w11.cell? ⟨Mn, 0, none⟩ = some (.slice A3 hs.length c3) := hm11.cell rfl
    have d1 : w11.cell? ⟨Mn, 1, none⟩ = some (.int .i64 0) := hm11.cell rfl
    have d2 : w11.cell? ⟨Mn, 2, none⟩ = some (.bool false) := hm11.cell rfl
    have d3 : w11.cell? ⟨Mn, 3, none⟩ = some (.int .i64 0) := hm11.cell rfl
    have f0 := hm11.frozen 0
    have f1 := hm11.frozen 1
    have f2 := hm11.frozen 2
    have f3 := hm11.frozen 3
    have hsl12 : Sl ((((w11.setCell ⟨Mn, 0, none⟩ (.slice A11 gs2.length c11)).setCell ⟨Mn, 1, none⟩ (.int .i64 st2)).setCell ⟨Mn, 2, none⟩ (.bool ar2)).setCell ⟨Mn, 3, none⟩ (.int .i64 lf2)) (some ⟨b9, 0, none⟩) T (bv l0) := by
      have h := (own_sl hr12).take (k := T) (by omega)
      rwa [List.take_left' (by rw [bv_len]; exact HL0.out.1)] at h
    have hc12 : ((((w11.setCell ⟨Mn, 0, none⟩ (.slice A11 gs2.length c11)).setCell ⟨Mn, 1, none⟩ (.int .i64 st2)).setCell ⟨Mn, 2, none⟩ (.bool ar2)).setCell ⟨Mn, 3, none⟩ (.int .i64 lf2)).cell? ⟨b9, T, none⟩ = some (.int .u8 77) := by
      rw [hr12.cellAt T (by omega)]
      rw [List.getElem?_append_right (by rw [bv_len, HL0.out.1]; exact Nat.le_refl _), bv_len, HL0.out.1]
      simp
    have HO := Lib.hid hOw
    have hcs12 : (convert 33 9 (.slice (some ⟨b9, 0, none⟩) T c9)).run Try.prog ((((w11.setCell ⟨Mn, 0, none⟩ (.slice A11 gs2.length c11)).setCell ⟨Mn, 1, none⟩ (.int .i64 st2)).setCell ⟨Mn, 2, none⟩ (.bool ar2)).setCell ⟨Mn, 3, none⟩ (.int .i64 lf2)) = .ok (.string (str l0)) ((((w11.setCell ⟨Mn, 0, none⟩ (.slice A11 gs2.length c11)).setCell ⟨Mn, 1, none⟩ (.int .i64 st2)).setCell ⟨Mn, 2, none⟩ (.bool ar2)).setCell ⟨Mn, 3, none⟩ (.int .i64 lf2)) := run_str (P := Try.prog) (c := c9) hsl12 33 5 9 Try.underlying33 Try.underlying5 Try.underlying9
    have hT1 : (T : Int) < (T : Int) + 1 := by omega
    clear hOw hr12 hm11 ho11 hb11 hrc hsl12
    go_wp2_with fail
    clear d0 d1 d2 d3 f0 f1 f2 f3 hcs12 hc12
    generalize ((((w11.setCell ⟨Mn, 0, none⟩ (.slice A11 gs2.length c11)).setCell ⟨Mn, 1, none⟩ (.int .i64 st2)).setCell ⟨Mn, 2, none⟩ (.bool ar2)).setCell ⟨Mn, 3, none⟩ (.int .i64 lf2)) = V0 at HO ⊢
    go_loopw [84] (fun j wr => ∃ k : Nat, k ≤ T + 1 ∧ j = .int .i64 k ∧ OwR w2 wr Mn b9 (T + 1) c9 pc mc gs2 st2 ar2 lf2 A11 c11) (fun j _ => T + 1 - (intOf j).toNat)
    case atStart => exact ⟨0, Nat.zero_le _, rfl, HO.out⟩
    case round =>
      obtain ⟨k, hk, rfl, hO⟩ := hrel
      by_cases hin : k < T + 1
      · have hcN : (k : Int) < (T : Int) + 1 := by omega
        have hk0 : (0 : Int) ≤ k := by omega
        obtain ⟨⟨u, x0⟩, f0⟩ := hO.cell_ hin
        have HOk := Lib.hid hO
        clear hO
        go_wp2_with fail
        exact ⟨⟨k + 1, by omega, by go_num, HOk.out.set k _⟩, by simp [intOf]; omega⟩
      · as_aux_lemma =>
          have hcN : ¬ (k : Int) < (T : Int) + 1 := by omega
          have hrd := read_gen hO.rel.dr [111, 119, 110]
          rw [show str [111, 119, 110] = ⟨#[111, 119, 110]⟩ from rfl] at hrd
          have HOk := Lib.hid hO
          clear hO
          obtain ⟨wq, rfl⟩ : ∃ wq : World, wq = wr := ⟨_, rfl⟩
          go_wp2_with fail
          refine hrd.mono ?_
          rintro e w13 ⟨A13, c13, n13, E13, xs13, rfl, ho13, hn13, hb13⟩
          have HI : Hid (∃ xs, w13.ownsRow wq.heap.size 5 1 (.slice A13 n13 c13) n13 xs) := ⟨_, ho13⟩
          have HB13 := Lib.hid hb13
          clear hrd ho13 hb13
          go_wp2_with fail
          go_loopw [98] (fun j wr => ∃ k : Nat, k ≤ n13 ∧ j = .int .i64 k ∧ (∃ xs, wr.ownsRow wq.heap.size 5 1 (.slice A13 n13 c13) n13 xs) ∧ Below wq.heap.size wq wr) (fun j _ => n13 - (intOf j).toNat)
          case atStart => exact ⟨0, Nat.zero_le _, rfl, HI.out, HB13.out⟩
          case round =>
            obtain ⟨k2, hk2, rfl, ⟨xs, hx⟩, hbq⟩ := hrel
            by_cases hin2 : k2 < n13
            · have hcN2 : (k2 : Int) < n13 := by omega
              have hk20 : (0 : Int) ≤ k2 := by omega
              obtain ⟨b13, e13, _⟩ := own_head hx (by omega)
              subst e13
              have hxl : xs.length = n13 := by have := hx.1; omega
              obtain ⟨u, x0⟩ : ∃ u, wr.cell? ⟨b13, k2, none⟩ = some u := ⟨xs[k2]'(by omega), by
                rw [hx.cellAt k2 (by omega)]
                exact List.getElem?_eq_getElem (by omega)⟩
              have f0 := hx.frozenAt k2
              have HXX := Lib.hid (And.intro hx hbq)
              clear hx hbq hxl
              go_wp2_with fail
              exact ⟨⟨k2 + 1, by omega, by go_num, ⟨_, (HXX.out.1.stored k2 _).1⟩, HXX.out.2.setCell (own_blk HXX.out.1 b13 rfl) _⟩, by simp [intOf]; omega⟩
            · have hcN2 : ¬ (k2 : Int) < n13 := by omega
              have HI2 := Lib.hid (And.intro hx hbq)
              have hxl : xs.length = n13 := by have := hx.1; omega
              have HXL := Lib.hid hxl
              clear hx hbq hxl
              obtain ⟨wp, rfl⟩ : ∃ wp : World, wp = wr := ⟨_, rfl⟩
              go_wp2_with fail
              have HOn : Hid (OneL wq wp n13 0 (.slice A13 n13 c13)) := ⟨_, _, _, rfl, HI2.out.1, fun h => by omega, HI2.out.2⟩
              go_loopw [16, 19] (fun one j wr => ∃ k : Nat, k ≤ 20 ∧ j = .int .i64 k ∧ OneL wq wr n13 k one) (fun _ j _ => 20 - (intOf j).toNat)
              case atStart => exact ⟨0, Nat.zero_le _, rfl, HOn.out⟩
              case round =>
                obtain ⟨k3, hk3, rfl, A14, c14, ys, rfl, hy, hlast, hbr⟩ := hrel
                by_cases hin3 : k3 < 20
                · have hcN3 : (k3 : Int) < 20 := by omega
                  have hk30 : (0 : Int) ≤ k3 := by omega
                  have hyl : ys.length = n13 + k3 := by have := hy.1; omega
                  have HY := Lib.hid (And.intro hyl (And.intro hy hbr))
                  have hyb := hbr.size
                  clear hlast hbr hyl
                  go_wp2_with (at_builtin; refine wpList_app _ rfl (.tmp 109) (.tmp 110) 33 rfl wq.heap.size bytesEl (by decide) _ _ _ rfl (hy.alloc _) (some ⟨wr.heap.size, 0, none⟩) 1 1 [.int .u8 8] rfl (Sl.new _ _ _) (by intro u hu; simp at hu; subst hu; rfl) (by omega) (by simp; omega) ?_; intro A16 c16 w16 hown16 hg16 hat16; have H16 := Lib.hid (And.intro hown16 hg16); clear hown16 hg16 hat16 hy)
                  obtain ⟨hyl, hy, hbr⟩ := HY.out
                  exact ⟨⟨k3 + 1, by omega, by go_num, A16, c16, _, rfl, H16.out.1, fun _ => by
                    rw [show n13 + (k3 + 1) - 1 = ys.length from by omega, List.getElem?_append_right (Nat.le_refl _)]
                    simp, (hbr.alloc hbr.size _).grown H16.out.2 (by have := hbr.size; simp; omega) (own_blk hy)⟩, by simp [intOf]; omega⟩
                · obtain rfl : k3 = 20 := by omega
                  have hcN3 : ¬ ((20 : Nat) : Int) < 20 := by decide
                  have hla := hlast (by omega)
                  have HO3 := Lib.hid (HOk.out.rel.below hbr)
                  have hfew2 := HO3.out.dr.few
                  have HM3 := Lib.hid (HOk.out.m.keep (hbr.block _ HOk.out.m.lt))
                  have hbw : Below w2.heap.size w2 wr := HOk.out.bel.trans (hbr.mono HOk.out.bel.size)
                  have HBW := Lib.hid hbw
                  obtain ⟨M, hM⟩ : ∃ M, M = n13 + 19 := ⟨_, rfl⟩
                  have hMb : (M : Int) ≤ 300000 := by omega
                  have hM0 : (0 : Int) ≤ M := by omega
                  obtain ⟨b14, rfl, _⟩ := own_head hy (by omega)
                  have hc14 : wr.cell? ⟨b14, M, none⟩ = some (.int .u8 8) := by
                    rw [hy.cellAt M (by omega), ← hla]
                    congr 1
                  have HC14 := Lib.hid hc14
                  have hnm := names_any HO3.out.dr
                  obtain ⟨wz, rfl⟩ : ∃ wz : World, wz = wr := ⟨_, rfl⟩
                  rw [show n13 + 20 = M + 1 from by omega]
                  clear hlast hla hc14 hy hbw hbr hM
                  go_wp2_with fail
                  refine hnm.mono ?_
                  rintro e w17 ⟨A17, c17, rfl, ho17, hb17⟩
                  have H17 : Hid ((∃ xs, w17.ownsRow wz.heap.size 9 1 (.slice A17 gs2.length c17) gs2.length xs) ∧ Below wz.heap.size wz w17) := ⟨⟨_, ho17⟩, hb17⟩
                  clear hnm ho17 hb17
                  go_wp2_with fail
                  go_loopw [116] (fun j wr => ∃ k : Nat, k ≤ gs2.length ∧ j = .int .i64 k ∧ (∃ xs, wr.ownsRow wz.heap.size 9 1 (.slice A17 gs2.length c17) gs2.length xs) ∧ Below wz.heap.size wz wr) (fun j _ => gs2.length - (intOf j).toNat)
                  case atStart => exact ⟨0, Nat.zero_le _, rfl, H17.out.1, H17.out.2⟩
                  case round =>
                    obtain ⟨k4, hk4, rfl, ⟨zs, hz⟩, hbz⟩ := hrel
                    by_cases hin4 : k4 < gs2.length
                    · have hcN4 : (k4 : Int) < gs2.length := by omega
                      have hk40 : (0 : Int) ≤ k4 := by omega
                      have hzl : zs.length = gs2.length := by have := hz.1; omega
                      obtain ⟨b17, e17, _⟩ := own_head hz (by omega)
                      subst e17
                      obtain ⟨u, x0⟩ : ∃ u, wr.cell? ⟨b17, k4, none⟩ = some u := ⟨zs[k4]'(by omega), by
                        rw [hz.cellAt k4 (by omega)]
                        exact List.getElem?_eq_getElem (by omega)⟩
                      have f0 := hz.frozenAt k4
                      have HZ := Lib.hid (And.intro hz hbz)
                      clear hz hbz hzl
                      go_wp2_with fail
                      exact ⟨⟨k4 + 1, by omega, by go_num, ⟨_, (HZ.out.1.stored k4 _).1⟩, HZ.out.2.setCell (own_blk HZ.out.1 b17 rfl) _⟩, by simp [intOf]; omega⟩
                    · have hcN4 : ¬ (k4 : Int) < gs2.length := by omega
                      have hR4 := HO3.out.below hbz
                      have hm4 := HM3.out.keep (hbz.block _ HM3.out.lt)
                      have d0 : wr.cell? ⟨Mn, 0, none⟩ = some (.slice A11 gs2.length c11) := hm4.cell rfl
                      have d1 : wr.cell? ⟨Mn, 1, none⟩ = some (.int .i64 st2) := hm4.cell rfl
                      have d2 : wr.cell? ⟨Mn, 2, none⟩ = some (.bool ar2) := hm4.cell rfl
                      have d3 : wr.cell? ⟨Mn, 3, none⟩ = some (.int .i64 lf2) := hm4.cell rfl
                      have ht1 := tells_any hR4.dr A11 c11 hR4.fl hR4.vn
                      have hbwr : Below w2.heap.size w2 wr := HBW.out.trans (hbz.mono HBW.out.size)
                      have HZ := Lib.hid (And.intro hbz hbwr)
                      clear hR4 hm4 hbz hbwr hz
                      go_wp2_with fail
                      refine ht1.mono ?_
                      rintro e w18 ⟨rfl, hb18⟩
                      have hb28 : Below w2.heap.size w2 w18 := HZ.out.2.trans (hb18.mono HZ.out.2.size)
                      have hmm := HM2.out.keep (hb28.block _ HM2.out.lt)
                      have m0 : w18.cell? ⟨w1.heap.size, 0, none⟩ = some (.slice A gs.length c) := hmm.cell rfl
                      have m1 : w18.cell? ⟨w1.heap.size, 1, none⟩ = some (.int .i64 st) := hmm.cell rfl
                      have m2 : w18.cell? ⟨w1.heap.size, 2, none⟩ = some (.bool ar) := hmm.cell rfl
                      have m3 : w18.cell? ⟨w1.heap.size, 3, none⟩ = some (.int .i64 lf) := hmm.cell rfl
                      have ht2 := tells_any (HD.out _ hb28) A c (HF.out _ hb28) HRR.out.vn
                      have HB28 := Lib.hid hb28
                      clear ht1 hmm hb28 d0 d1 d2 d3
                      go_wp2_with fail
                      refine ht2.mono ?_
                      rintro e w19 ⟨rfl, hb19⟩
                      have hc19 : w19.cell? ⟨b14, M, none⟩ = some (.int .u8 8) := by
                        have h1 : Below wz.heap.size wz w19 := HZ.out.1.trans ((hb18.trans (hb19.mono hb18.size)).mono HZ.out.1.size)
                        rw [h1.cell (p := ⟨b14, M, none⟩) (World.block_lt_of_cell? wz _ HC14.out)]
                        exact HC14.out
                      have hM1 : (M : Int) < (M : Int) + 1 := by omega
                      have hb29 := HB28.out.trans (hb19.mono HB28.out.size)
                      clear ht2 m0 m1 m2 m3
                      go_wp2_with fail
                      go_ret
                      exact ⟨rfl, hb02.trans (hb29.mono hb02.size)⟩
end Go.Proofs.Ytfhlhdpgahbeiaa
