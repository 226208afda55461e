/-
  The law DriveLoads as a walk.
-/
import Derived.Test.YtfhlhdpgahbeiaaRLd
import Derived.Test.YtfhlhdpgahbeiaaRwA
import Derived.Test.YtfhlhdpgahbeiaaLawCr
namespace Go.Proofs.Ytfhlhdpgahbeiaa
open Go.RowKit Go.Maps
set_option linter.unusedVariables false

/-- Where the loop of copies stands. -/
def CpL (w wr : World) (bs : List (List UInt8)) (k : Nat) (v : Value) : Prop := ∃ A c vs, v = .slice A k c ∧ wr.ownsRow w.heap.size 33 1 (.slice A k c) k vs ∧ RowsC wr w.heap.size vs (bs.take k) ∧ Below w.heap.size w wr

/-- Drive and reference behind Load. -/
theorem rel_load {w wL w5 w6 : World} {ns bs : List (List UInt8)} {pb mb : Nat} {gs : List Gm} {A : Option Addr} {c : Nat} (hbL : Below w.heap.size w wL) (hb5 : Below wL.heap.size wL w5) (hD : Dr w5 pb mb gs 0 false 0) (hgf : gs.map Gm.f = foldF (ns.zip bs)) (hfo : ∀ k, foot pb mb gs k → wL.heap.size ≤ k)
    (hb6 : Below w5.heap.size w5 w6) (ho : w6.ownsRow w5.heap.size 70 3 (.slice A (foldF (ns.zip bs)).length c) (foldF (ns.zip bs)).length (fcs (foldF (ns.zip bs)))) (hall : ns.all vname = true) : Rel w6 w.heap.size pb mb gs 0 false 0 A c := by
  have hlen : (foldF (ns.zip bs)).length = gs.length := by rw [← hgf, List.length_map]
  rw [hlen, ← hgf] at ho
  refine ⟨hD.below hb6 (Nat.le_refl _), own3_base ho (by have := hbL.size; have := hb5.size; omega), fun g hg => ?_, fun k hk => Nat.le_trans hbL.size (hfo k hk), by have := hbL.size; have := hb5.size; have := hb6.size; omega⟩
  have h1 : ∃ f ∈ foldF (ns.zip bs), f.name = g.name := ⟨g.f, by rw [← hgf]; exact List.mem_map.2 ⟨g, hg, rfl⟩, rfl⟩
  obtain ⟨p, hp, e⟩ := (fold_mem _ _).1 h1
  rw [← e]
  exact List.all_eq_true.1 hall _ (List.of_mem_zip (a := p.1) (b := p.2) hp).1

theorem blk_neq {w : World} {a b : Nat} {cs ds : Array Value} {s t : TypeId} (h : Blk w a cs s) (k : Blk w b ds t) (hn : s ≠ t) : a ≠ b := by
  rintro rfl
  unfold Blk at h k
  rw [h] at k
  injection k with k; injection k with _ k
  exact hn k
theorem own_top {w : World} {B e n c : Nat} {A : Option Addr} {xs : List Value} (h : w.ownsRow B e 1 (.slice A n c) n xs) (hn : 0 < n) : ∃ b, A = some ⟨b, 0, none⟩ := by
  rcases h.2 with ⟨_, h0⟩ | ⟨g, cap, cur, hv, _⟩
  · omega
  · injection hv with h1
    exact ⟨g, h1⟩
/-- While the copies are written over. -/
structure ZoS (w wr : World) (M LB : Nat) (A : Option Addr) (k c : Nat) (vs : List Value) (bs : List (List UInt8)) (pb mb : Nat) (gs : List Gm) (A6 : Option Addr) (c6 : Nat) : Prop where
  rel : Rel wr w.heap.size pb mb gs 0 false 0 A6 c6
  bel : Below w.heap.size w wr
  m : Blk wr M (dcs A6 gs.length c6 0 false 0) 26
  row : wr.ownsRow w.heap.size 33 1 (.slice A k c) k vs
  rows : RowsA wr w.heap.size LB vs bs
  far : ∀ q, foot pb mb gs q → LB ≤ q
theorem ZoS.set {w wr : World} {M LB : Nat} {A : Option Addr} {k c : Nat} {vs : List Value} {bs : List (List UInt8)} {pb mb : Nat} {gs : List Gm} {A6 : Option Addr} {c6 : Nat} (h : ZoS w wr M LB A k c vs bs pb mb gs A6 c6) {g n cl : Nat} {xs : List Value} (hg : wr.ownsRow w.heap.size 5 1 (.slice (some ⟨g, 0, none⟩) n cl) n xs) (hlt : g < LB) (j : Nat) (u : Value) :
    ZoS w (wr.setCell ⟨g, j, none⟩ u) M LB A k c vs bs pb mb gs A6 c6 := by
  obtain ⟨cur, hbk⟩ := own_blk_type hg (k := g) rfl
  refine ⟨⟨h.rel.dr.keep fun q e => setCell_other _ _ _ (fun (e' : q = g) => by have := h.far q e; omega), own3_keep h.rel.own fun q e => setCell_other _ _ _ (row_ne h.rel.own hbk (by decide) q e), h.rel.vn, h.rel.flo, by rw [setCell_size]; exact h.rel.le⟩,
    h.bel.setCell (own_blk hg g rfl) _, h.m.keep (setCell_other _ _ _ (blk_neq h.m hbk (by decide))), own_at h.row fun q hq => setCell_other _ _ _ ?_, h.rows.set g j u, h.far⟩
  obtain ⟨cur2, hbk2⟩ := own_blk_type h.row hq
  exact blk_neq hbk2 hbk (by decide)

set_option maxRecDepth 40000 in
set_option maxHeartbeats 8000000 in
theorem loads_law {w : World} {A0 : Option Addr} {n0 c0 : Nat} {ns : List (List UInt8)} (hs : Sl w A0 n0 (ns.map sv)) (hn0 : n0 ≤ 140737488355328) (hns : ∀ s ∈ ns, s.length ≤ 140737488355328) {B1 : Option Addr} {n1 c1 : Nat} {bs : List (List UInt8)} (hb : Br w B1 n1 bs) (hn1 : n1 ≤ 140737488355328) (hb9 : ∀ l ∈ bs, l.length ≤ 140737488355328)
    {A2 : Option Addr} {n2 c2 : Nat} {os : List Od} (h2 : Ol w A2 n2 os) (hn2 : n2 ≤ 140737488355328) :
    Calls Try.prog 4 #[.slice A0 n0 c0, .slice B1 n1 c1, .slice A2 n2 c2] w fun e w' => e = .returned (.bool true) ∧ Below w.heap.size w w' := by
  have HI := Lib.hid (And.intro hs (And.intro hb h2))
  have H9 := Lib.hid (And.intro hns hb9)
  have HL : Hid (ns.length = n0 ∧ bs.length = n1) := ⟨by have := hs.1; simpa using this, hb.1⟩
  clear hs hb h2 hns hb9
  by_cases h300 : n0 ≤ 300 ∧ n1 ≤ 300
  · obtain ⟨h30, h31⟩ := h300
    have h30i : ¬ (300 : Int) < n0 := by omega
    have h31i : ¬ (300 : Int) < n1 := by omega
    go_enter Try.func4, Try.ntmps4
    go_wp2_with fail
    refine (awake_any w).mono ?_
    rintro e w1 ⟨rfl, hb1⟩
    have HC : Hid (CpL w w1 bs 0 (.slice none 0 0)) := ⟨none, 0, [], rfl, World.ownsRow_nil _ _ _ _, RowsC.nil _ _, hb1⟩
    clear hb1
    go_wp2_with fail
    go_loopw [7, 34] (fun v j wr => ∃ k : Nat, k ≤ n1 ∧ j = .int .i64 k ∧ CpL w wr bs k v) (fun _ j _ => n1 - (intOf j).toNat)
    case atStart => exact ⟨0, Nat.zero_le _, rfl, HC.out⟩
    case round =>
      obtain ⟨k, hk, rfl, A, c, vs, rfl, ho, hrw, hbel⟩ := hrel
      by_cases hin : k < n1
      · have hcN : (k : Int) < n1 := by omega
        have hk0 : (0 : Int) ≤ k := by omega
        obtain ⟨b2, p2, K, l, cl, rfl, hlk, y0, hsl, hlc⟩ := (HI.out.2.1.below hbel).at_ hin
        have hl9 : l.length ≤ 140737488355328 := H9.out.2 l (List.mem_of_getElem? hlk)
        have hle := hbel.size
        have HX := Lib.hid (And.intro hlk (And.intro ho (And.intro hrw hbel)))
        clear hlk ho hrw hbel
        go_wp2_with (first
          | (at_builtin; refine wpList_app _ rfl (.tmp 39) (.tmp 40) 33 rfl wr.heap.size bytesEl (by decide) _ 0 [] rfl (World.ownsRow_made wr #[] 0 (Nat.le_refl _) (Nat.zero_le _) rfl) K l.length cl (bv l) rfl (hsl.alloc _) (bv_one _) (by omega) (by simp) ?_; intro A3 c3 w3 hown3 hg3 hat3
             have hrow3 : w3.ownsRow wr.heap.size 5 1 (.slice A3 l.length c3) l.length (bv l) := by simpa using hown3
             have hb3 : Below wr.heap.size wr w3 := ((Below.refl _ wr).alloc (Nat.le_refl _) _).grown hg3 (by simp) (own_blk (World.ownsRow_made (e := 5) (size := 1) wr #[] 0 (Nat.le_refl _) (Nat.zero_le _) rfl))
             have hz3 := hb3.size
             have ho3 := own_below HX.out.2.1 hb3
             have H3 := Lib.hid (And.intro hrow3 hb3)
             clear hown3 hg3 hat3 hrow3 hb3)
          | (at_builtin; refine wpList_app _ rfl (.tmp 38) (.tmp 42) 32 rfl w.heap.size rowEl (by decide) _ _ _ rfl (ho3.alloc _) (some ⟨w3.heap.size, 0, none⟩) 1 1 [.slice A3 l.length c3] rfl (Sl.new _ _ _) (by intro u hu; simp at hu; subst hu; rfl) (by omega) (by simp; omega) ?_; intro A4 c4 w4 hown4 hg4 hat4; have H4 := Lib.hid (And.intro hown4 (And.intro hg4 ho3)); clear hown4 hg4 hat4 ho3))
        obtain ⟨hlk, ho, hrw, hbel⟩ := HX.out
        obtain ⟨hrow3, hb3⟩ := H3.out
        obtain ⟨hown4, hg4, ho3⟩ := H4.out
        have hrc := ((hrw.below hb3).below ((Below.refl _ w3).alloc (Nat.le_refl _) (.cells #[.slice A3 l.length c3] 33))).grown (ho3.alloc _) hg4
        have hnew := own_apart (own_below hrow3 ((Below.refl _ w3).alloc (Nat.le_refl _) (.cells #[.slice A3 l.length c3] 33))) (ho3.alloc _) hg4 (by decide)
        refine ⟨⟨k + 1, by omega, by go_num, A4, c4, _, rfl, hown4, ?_, ?_⟩, by simp [intOf]; omega⟩
        · rw [List.take_add_one, hlk]
          exact hrc.snoc (own_base hnew hle)
        · have h1 : Below w.heap.size w w3 := hbel.trans (hb3.mono hle)
          exact (h1.alloc h1.size _).grown hg4 (by have := h1.size; simp; omega) (own_blk ho3)
      · obtain rfl : k = n1 := by omega
        have hcN : ¬ (k : Int) < k := by omega
        rw [List.take_of_length_le (by have := HL.out.2; omega)] at hrw
        have hs0 := HI.out.1.below hbel
        have HX := Lib.hid (And.intro ho (And.intro hrw hbel))
        obtain ⟨wo, rfl⟩ : ∃ wo : World, wo = wr := ⟨_, rfl⟩
        clear ho hrw hbel
        go_wp2_with (at_builtin; refine wpList_app _ rfl (.tmp 46) (.tmp 47) 31 rfl wo.heap.size strEl (by decide) _ 0 [] rfl (World.ownsRow_made wo #[] 0 (Nat.le_refl _) (Nat.zero_le _) rfl) A0 n0 c0 (ns.map sv) rfl (hs0.alloc _) (by intro u hu; obtain ⟨s, _, rfl⟩ := List.mem_map.1 hu; rfl) (by omega) (by simp) ?_; intro A3 c3 w3 hown3 hg3 hat3
                     have hrow3 : w3.ownsRow wo.heap.size 9 1 (.slice A3 n0 c3) n0 (ns.map sv) := by simpa using hown3
                     have hb3 : Below wo.heap.size wo w3 := ((Below.refl _ wo).alloc (Nat.le_refl _) _).grown hg3 (by simp) (own_blk (World.ownsRow_made (e := 9) (size := 1) wo #[] 0 (Nat.le_refl _) (Nat.zero_le _) rfl))
                     have H3 := Lib.hid (And.intro hrow3 hb3)
                     clear hown3 hg3 hat3 hrow3 hb3)
        obtain ⟨ho, hrw, hbel⟩ := HX.out
        obtain ⟨hrow3, hb3⟩ := H3.out
        have hbL : Below w.heap.size w w3 := hbel.trans (hb3.mono hbel.size)
        have hoL := own_below ho hb3
        have hrL := hrw.below hb3
        have hload := load_any A3 n0 c3 ns A k c bs w3 (own_sl hrow3) (by omega) (hrL.br hoL) (by omega) H9.out.2
        have HLL := Lib.hid (And.intro hbL (And.intro hoL hrL))
        clear ho hrw hbel hrow3 hb3 hbL hoL hrL hs0
        refine hload.mono ?_
        rintro e w5 ⟨hb5, hp⟩
        clear hload
        have hb05 : Below w.heap.size w w5 := HLL.out.1.trans (hb5.mono HLL.out.1.size)
        have hrl := rload_any A0 n0 c0 ns B1 k c1 bs w5 (HI.out.1.below hb05) h30 H9.out.1 (HI.out.2.1.below hb05) h31 H9.out.2
        have HB5 := Lib.hid (And.intro hb5 hb05)
        clear hb5 hb05
        by_cases hE : loadE ns bs = 0
        · rw [if_pos hE] at hp
          obtain ⟨pb, mb, gs, rfl, hD5, hgf, hfo⟩ := hp
          have HD5 := Lib.hid (And.intro hE (And.intro hD5 (And.intro hgf hfo)))
          clear hE hD5 hgf hfo
          go_wp2_with fail
          refine hrl.mono ?_
          rintro e w6 ⟨hb6, hp⟩
          rw [if_pos HD5.out.1] at hp
          obtain ⟨A6, c6, rfl, ho6⟩ := hp
          have hall := (loadE_ok HD5.out.1).2.1
          have hrel := rel_load HLL.out.1 HB5.out.1 HD5.out.2.1 HD5.out.2.2.1 HD5.out.2.2.2 hb6 ho6 hall
          have hlen : (foldF (ns.zip bs)).length = gs.length := by rw [← HD5.out.2.2.1, List.length_map]
          rw [hlen]
          have HR6 := Lib.hid (And.intro hrel (And.intro hb6 hall))
          clear hrl hb6 hall hrel ho6 hlen
          go_wp2_with fail
          obtain ⟨hE0, hD5', hgf, hfo⟩ := HD5.out
          have hb36 : Below w3.heap.size w3 w6 := HB5.out.1.trans (HR6.out.2.1.mono HB5.out.1.size)
          have hz6 := hb36.size
          have hM6 := Blk.new w6 (dcs A6 gs.length c6 0 false 0) 26
          have hb6a : Below w6.heap.size w6 (w6.alloc (dobj (dcs A6 gs.length c6 0 false 0))) := (Below.refl _ w6).alloc (Nat.le_refl _) _
          have hbA : Below w3.heap.size w3 (w6.alloc (dobj (dcs A6 gs.length c6 0 false 0))) := hb36.trans (hb6a.mono hz6)
          have hZ : ZoS w (w6.alloc (dobj (dcs A6 gs.length c6 0 false 0))) w6.heap.size w3.heap.size A k c vs bs pb mb gs A6 c6 :=
            ⟨HR6.out.1.below hb6a, HLL.out.1.trans (hbA.mono HLL.out.1.size), hM6, own_below HLL.out.2.1 hbA, HLL.out.2.2.any.below hbA, hfo⟩
          have hMw : w.heap.size ≤ w6.heap.size := Nat.le_trans HLL.out.1.size hz6
          generalize w6.alloc (dobj (dcs A6 gs.length c6 0 false 0)) = V0 at hZ ⊢
          have HZ := Lib.hid hZ
          have HMw := Lib.hid hMw
          clear hE0 hD5' hgf hfo hb36 hz6 hM6 hb6a hbA hZ hMw
          go_loopw [68] (fun j wr => ∃ i : Nat, i ≤ k ∧ j = .int .i64 i ∧ ZoS w wr w6.heap.size w3.heap.size A k c vs bs pb mb gs A6 c6) (fun j _ => k - (intOf j).toNat)
          case atStart => exact ⟨0, Nat.zero_le _, rfl, HZ.out⟩
          case round =>
            obtain ⟨i, hi, rfl, hz⟩ := hrel
            by_cases hin2 : i < k
            · have hcN2 : (i : Int) < k := by omega
              have hi0 : (0 : Int) ≤ i := by omega
              obtain ⟨l, hl⟩ : ∃ l, bs[i]? = some l := ⟨_, List.getElem?_eq_getElem (by have := HL.out.2; omega)⟩
              obtain ⟨K, cl, xs, hvi, hrw, hlb⟩ := hz.rows i l hl
              obtain ⟨b, o, u, rfl, hu, x0⟩ := (own_sl hz.row).at_ hin2
              rw [hvi] at hu
              have hu := (Option.some.inj hu).symm
              subst hu
              have hl9 : l.length ≤ 140737488355328 := H9.out.2 l (List.mem_of_getElem? hl)
              have HZi := Lib.hid hz
              have HV := Lib.hid (And.intro hvi hl)
              obtain ⟨wq, rfl⟩ : ∃ wq : World, wq = wr := ⟨_, rfl⟩
              clear hz hrw hlb hvi hl
              go_wp2_with fail
              go_loopw [74] (fun j wr => ∃ q : Nat, q ≤ l.length ∧ j = .int .i64 q ∧ ZoS w wr w6.heap.size w3.heap.size (some ⟨b, o, none⟩) k c vs bs pb mb gs A6 c6) (fun j _ => l.length - (intOf j).toNat)
              case atStart => exact ⟨0, Nat.zero_le _, rfl, HZi.out⟩
              case round =>
                obtain ⟨q, hq, rfl, hz⟩ := hrel
                by_cases hql : q < l.length
                · have hcq : (q : Int) < l.length := by omega
                  have hq0 : (0 : Int) ≤ q := by omega
                  obtain ⟨K', cl', ys, hvi', hrw, hlb⟩ := hz.rows i l HV.out.2
                  rw [HV.out.1] at hvi'
                  have hKK := Option.some.inj hvi'
                  injection hKK with e1 _ e3
                  subst e1 e3
                  obtain ⟨g, rfl⟩ := own_top hrw (by omega)
                  have hyl : ys.length = l.length := by have := hrw.1; omega
                  obtain ⟨u, y0⟩ : ∃ u, wr.cell? ⟨g, q, none⟩ = some u := ⟨ys[q]'(by omega), by
                    rw [hrw.cellAt q (by omega)]
                    exact List.getElem?_eq_getElem (by omega)⟩
                  have f0 := hrw.frozenAt q
                  have HG := Lib.hid (And.intro hz (And.intro hrw (hlb g rfl)))
                  clear hz hrw hlb hyl hvi'
                  go_wp2_with fail
                  exact ⟨⟨q + 1, by omega, by go_num, HG.out.1.set HG.out.2.1 HG.out.2.2 _ _⟩, by simp [intOf]; omega⟩
                · have hcq : ¬ (q : Int) < l.length := by omega
                  go_wp2_with fail
                  exact ⟨⟨i + 1, by omega, by go_num, hz⟩, by simp [intOf]; omega⟩
            · have hcN2 : ¬ (i : Int) < k := by omega
              have d0 : wr.cell? ⟨w6.heap.size, 0, none⟩ = some (.slice A6 gs.length c6) := hz.m.cell rfl
              have d1 : wr.cell? ⟨w6.heap.size, 1, none⟩ = some (.int .i64 0) := hz.m.cell rfl
              have d2 : wr.cell? ⟨w6.heap.size, 2, none⟩ = some (.bool false) := hz.m.cell rfl
              have d3 : wr.cell? ⟨w6.heap.size, 3, none⟩ = some (.int .i64 0) := hz.m.cell rfl
              have hte := tells_any hz.rel.dr A6 c6 hz.rel.fl hz.rel.vn
              have HZ2 := Lib.hid hz
              clear hz
              go_wp2_with fail
              refine hte.mono ?_
              rintro e w8 ⟨rfl, hb8⟩
              have hPL : PlL w w8 w6.heap.size (.pointer (some ⟨pb, 0, none⟩)) := ⟨_, _, _, _, _, _, _, _, rfl, HZ2.out.rel.below hb8, HZ2.out.bel.trans (hb8.mono HZ2.out.bel.size), HZ2.out.m.keep (hb8.block _ HZ2.out.m.lt)⟩
              have HPL := Lib.hid hPL
              clear hte hPL hb8 d0 d1 d2 d3
              generalize w6.heap.size = Mn at HPL HMw ⊢
              go_wp2_with fail
              go_loopw [10, 17, 18] (fun d ok j wr => ∃ q : Nat, q ≤ n2 ∧ j = .int .i64 q ∧ ok = .bool true ∧ PlL w wr Mn d) (fun _ _ j _ => n2 - (intOf j).toNat)
              case atStart => exact ⟨0, Nat.zero_le _, rfl, rfl, HPL.out⟩
              case round =>
                obtain ⟨q, hq, rfl, rfl, pd, md, gd, sd, ad, ld, Ad, cd, rfl, hRd, hbd, hmd⟩ := hrel
                have d0 : wr.cell? ⟨Mn, 0, none⟩ = some (.slice Ad gd.length cd) := hmd.cell rfl
                have d1 : wr.cell? ⟨Mn, 1, none⟩ = some (.int .i64 sd) := hmd.cell rfl
                have d2 : wr.cell? ⟨Mn, 2, none⟩ = some (.bool ad) := hmd.cell rfl
                have d3 : wr.cell? ⟨Mn, 3, none⟩ = some (.int .i64 ld) := hmd.cell rfl
                by_cases hkn : q < n2 ∧ q < 80
                · obtain ⟨hkn, h80⟩ := hkn
                  have hkN : (q : Int) < n2 := by omega
                  have hk80 : (q : Int) < 80 := by omega
                  have hk0 : (0 : Int) ≤ q := by omega
                  obtain ⟨b, off, o, rfl, ho, hok, x0, x1, x2, x3, x4, x5⟩ := (HI.out.2.2.keep hbd).at_ hkn
                  have hp := play_any (w := wr.drew) (W0 := w) hRd.drew hbd.drew o (HI.out.2.2.2.1 o (List.mem_of_getElem? ho))
                  have HRD := Lib.hid (And.intro hRd (And.intro hbd hmd))
                  clear hRd hbd hmd hok ho
                  go_wp2_with fail
                  go_region_with (go_at_call 14; refine hp.mono ?_; rintro e w12 ⟨pb2, mb2, gs2, st2, ar2, lf2, A3x, c3x, rfl, hR2, hS2⟩
                                  obtain ⟨hm12, hL12⟩ := PlL.next HRD.out.1 HRD.out.2.1 HRD.out.2.2 HMw.out hR2 ((Below.stp (S := foot pd md gd) (Below.refl wr.heap.size wr).drew).trans hS2)
                                  have d0 : w12.cell? ⟨Mn, 0, none⟩ = some (.slice Ad gd.length cd) := hm12.cell rfl
                                  have d1 : w12.cell? ⟨Mn, 1, none⟩ = some (.int .i64 sd) := hm12.cell rfl
                                  have d2 : w12.cell? ⟨Mn, 2, none⟩ = some (.bool ad) := hm12.cell rfl
                                  have d3 : w12.cell? ⟨Mn, 3, none⟩ = some (.int .i64 ld) := hm12.cell rfl
                                  have f0 := hm12.frozen 0
                                  have f1 := hm12.frozen 1
                                  have f2 := hm12.frozen 2
                                  have f3 := hm12.frozen 3
                                  have HL12 := Lib.hid hL12
                                  clear hm12 hL12 hR2 hS2)
                  all_goals
                    go_wp2_with fail
                    go_roundw
                    case rel => exact ⟨q + 1, by omega, by go_num, rfl, HL12.out⟩
                    case measure => simp [intOf]; omega
                · by_cases hk0 : q < n2
                  · have hkN : (q : Int) < n2 := by omega
                    have hk80 : ¬ (q : Int) < 80 := by omega
                    clear hkn hRd hmd d0 d1 d2 d3
                    go_wp2_with fail
                    go_ret
                    exact ⟨rfl, hbd⟩
                  · have hkN : ¬ (q : Int) < n2 := by omega
                    clear hkn hRd hmd d0 d1 d2 d3
                    go_wp2_with fail
                    go_ret
                    exact ⟨rfl, hbd⟩
        · rw [if_neg hE] at hp
          subst hp
          obtain ⟨E, hEE⟩ : ∃ E, E = loadE ns bs := ⟨_, rfl⟩
          have HE := Lib.hid (And.intro hE hEE)
          rw [← hEE]
          have hne : (E == 0) = false := by simp; omega
          have hne2 : ¬ E = 0 := by omega
          clear hE hEE
          go_wp2_with fail
          refine hrl.mono ?_
          rintro e w6 ⟨hb6, hp⟩
          rw [if_neg HE.out.1, ← HE.out.2] at hp
          subst hp
          have HB6 := Lib.hid hb6
          clear hrl hb6
          go_wp2_with fail
          go_ret
          exact ⟨rfl, (HB5.out.2.trans (HB6.out.mono HB5.out.2.size)).alloc (Nat.le_trans HB5.out.2.size HB6.out.size) _⟩
  · by_cases h30 : n0 ≤ 300
    · have h30i : ¬ (300 : Int) < n0 := by omega
      have h31i : (300 : Int) < n1 := by omega
      clear h300
      go_enter Try.func4, Try.ntmps4
      go_wp2_with fail
      refine (awake_any w).mono ?_
      rintro e w1 ⟨rfl, hb1⟩
      go_wp2_with fail
      refine (awake_any w1).mono ?_
      rintro e w2 ⟨rfl, hb2⟩
      go_wp2_with fail
      go_ret
      exact ⟨rfl, hb1.trans (hb2.mono hb1.size)⟩
    · have h30i : (300 : Int) < n0 := by omega
      clear h300
      go_enter Try.func4, Try.ntmps4
      go_wp2_with fail
      refine (awake_any w).mono ?_
      rintro e w1 ⟨rfl, hb1⟩
      go_wp2_with fail
      refine (awake_any w1).mono ?_
      rintro e w2 ⟨rfl, hb2⟩
      go_wp2_with fail
      go_ret
      exact ⟨rfl, hb1.trans (hb2.mono hb1.size)⟩
end Go.Proofs.Ytfhlhdpgahbeiaa
