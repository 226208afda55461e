/-
  What From hands back, walked: it gives the entries of its time, one by one.
-/
import Derived.Test.YtjlebmpgjliacaaMeM
import Derived.Deep.LoopGhost
namespace Go.Proofs.Ytjlebmpgjliacaa
open Go.RowKit Go.Shelf
attribute [local go_sem] Oper.semAt_some
set_option linter.unusedVariables false

/-- What a traversal from a position on gives. -/
def fl (N : List Nd) (cnt : Int) (q : Nat) : List En := ((N.drop q).filter fun n => decide (n.num ≤ cnt)).map Nd.e
theorem fl_none {N : List Nd} {cnt : Int} {q : Nat} (h : N[q]? = none) : fl N cnt q = [] := by
  unfold fl
  rw [List.drop_eq_nil_of_le (by rw [List.getElem?_eq_none_iff] at h; exact h)]; rfl
theorem fl_yes {N : List Nd} {cnt : Int} {q : Nat} {n : Nd} (h : N[q]? = some n) (hn : n.num ≤ cnt) : fl N cnt q = n.e :: fl N cnt (q + 1) := by
  have hl := (List.getElem?_eq_some_iff.1 h).1
  unfold fl
  rw [List.drop_eq_getElem_cons hl, (List.getElem?_eq_some_iff.1 h).2, List.filter_cons_of_pos (by simpa using hn)]; rfl
theorem fl_no {N : List Nd} {cnt : Int} {q : Nat} {n : Nd} (h : N[q]? = some n) (hn : ¬ n.num ≤ cnt) : fl N cnt q = fl N cnt (q + 1) := by
  have hl := (List.getElem?_eq_some_iff.1 h).1
  unfold fl
  rw [List.drop_eq_getElem_cons hl, (List.getElem?_eq_some_iff.1 h).2, List.filter_cons_of_neg (by simpa using hn)]
theorem fl_len (N : List Nd) (cnt : Int) (q : Nat) : (fl N cnt q).length ≤ N.length := by
  unfold fl
  rw [List.length_map]
  exact Nat.le_trans (List.length_filter_le _ _) (by rw [List.length_drop]; omega)
theorem fl_all {N : List Nd} {cnt : Int} (h : ∀ n ∈ N, n.num ≤ cnt) : fl N cnt 0 = esOf N := by
  unfold fl esOf
  rw [List.drop_zero, List.filter_eq_self.2 (fun n hn => by simpa using h n hn)]
/-- How far a pointer's node is from the end. -/
noncomputable def rk (N : List Nd) (v : Value) : Nat := by
  classical exact if h : ∃ q, q < N.length ∧ v = pnt N[q]? then N.length - h.choose else 0
theorem rk_at {N : List Nd} (hn : (N.map Nd.blk).Nodup) {q : Nat} (hq : q ≤ N.length) : rk N (pnt N[q]?) = N.length - q := by
  unfold rk
  rcases Nat.lt_or_ge q N.length with h | h
  · have hex : ∃ q', q' < N.length ∧ pnt N[q]? = pnt N[q']? := ⟨q, h, rfl⟩
    rw [dif_pos hex]
    obtain ⟨h1, h2⟩ := hex.choose_spec
    have : hex.choose = q := by
      generalize hex.choose = z at h1 h2
      rw [List.getElem?_eq_getElem h, List.getElem?_eq_getElem h1] at h2
      simp only [pnt, Value.pointer.injEq, Option.some.injEq, Addr.mk.injEq, and_true] at h2
      have hpw := List.pairwise_iff_getElem.1 hn
      rcases Nat.lt_trichotomy q z with h3 | h3 | h3
      · exact absurd (by rw [List.getElem_map, List.getElem_map]; exact h2) (hpw q z (by simpa using h) (by simpa using h1) h3)
      · exact h3.symm
      · exact absurd (by rw [List.getElem_map, List.getElem_map]; exact h2.symm) (hpw z q (by simpa using h1) (by simpa using h) h3)
    rw [this]
  · rw [dif_neg, show N.length - q = 0 by omega]
    rintro ⟨q', h1, h2⟩
    rw [List.getElem?_eq_none h, List.getElem?_eq_getElem h1] at h2
    simp [pnt] at h2
/-- A table's nodes, and the box of a number, as a traversal reads them. -/
structure Tv (w : World) (N : List Nd) (B2 : Nat) (cnt : Int) : Prop where
  nd : ∀ i n, N[i]? = some n → Blk w n.blk (ndc N i n) 48
  b2 : Blk w B2 #[.int .i64 cnt] 3
/-- The blocks that a traversal reads. -/
def tvf (N : List Nd) (B2 k : Nat) : Prop := k = B2 ∨ ∃ n ∈ N, k = n.blk
def Kps (S : Nat → Prop) (W W' : World) : Prop := ∀ k, S k → W'.heap[k]? = W.heap[k]?
theorem Tv.keep {w w' : World} {N : List Nd} {B2 : Nat} {cnt : Int} (h : Tv w N B2 cnt) (hk : Kps (tvf N B2) w w') : Tv w' N B2 cnt :=
  ⟨fun i n hn => (h.nd i n hn).keep (hk _ (.inr ⟨n, List.mem_of_getElem? hn, rfl⟩)), h.b2.keep (hk _ (.inl rfl))⟩
theorem Tv.below {w w' : World} {N : List Nd} {B2 : Nat} {cnt : Int} (h : Tv w N B2 cnt) (hb : Below w.heap.size w w') : Tv w' N B2 cnt :=
  ⟨fun i n hn => (h.nd i n hn).keep (hb.block _ (h.nd i n hn).lt), h.b2.keep (hb.block _ h.b2.lt)⟩
theorem grown_drewN (w : World) (k : Nat) : w.grownBy (w.drewN k) none := ⟨rfl, rfl, rfl, Nat.le_refl _, fun _ _ _ => rfl⟩
set_option maxRecDepth 100000 in
set_option maxHeartbeats 4000000 in
theorem from_stops (m : Nat) {N : List Nd} (hT : Tall N) (hnd : (N.map Nd.blk).Nodup) {p B1 B2 : Nat} {cnt : Int} (hp : p ≤ N.length) (w : World) (h : Tv w N B2 cnt) (h1 : Blk w B1 #[pnt N[p]?] 45) :
    SeqStopsK Fence.wide (m + 1) Try.prog 18 #[.pointer (some ⟨B1, 0, none⟩), .pointer (some ⟨B2, 0, none⟩)] (fun e : En => #[ev e]) (Kps (tvf N B2))
      (fun xs => xs = fl N cnt p) (fun pre => pre <+: fl N cnt p) N.length w := by
  intro l0 J Jx W hW hJ hJx hY h0
  have hTv : Tv W N B2 cnt := h.below hW
  have k1 : W.cell? ⟨B1, 0, none⟩ = some (pnt N[p]?) := (h1.keep (hW.block _ h1.lt)).cell rfl
  have HY := Lib.hid hY
  have H0 := Lib.hid h0
  have HT := Lib.hid hTv
  have HJ := Lib.hid hJ
  have HN := Lib.hid (And.intro hT hnd)
  clear hY h0 hW hTv hJ hJx h h1 hT hnd
  obtain ⟨v1, hv1⟩ : ∃ v1, v1 = pnt N[p]? := ⟨_, rfl⟩
  rw [← hv1] at k1
  have HV1 := Lib.hid hv1
  have hpt : ∃ ad, v1 = .pointer ad := by rw [hv1]; cases N[p]? <;> exact ⟨_, rfl⟩
  clear hv1
  obtain ⟨ad, rfl⟩ := hpt
  refine callsIn_of_wp Try.func18 rfl trivial ?_ rfl
  simp only [Try.ntmps18, List.size_toArray, List.length_cons, List.length_nil, Nat.reduceAdd, Nat.reduceSub, Array.replicate_succ, Array.replicate_zero, List.push_toArray, List.append_toArray, List.nil_append, List.cons_append]
  gi_wp2_with fail
  gi_loopw [4] (fun s4 wr => ∃ (q : Nat) (pre : List En), q ≤ N.length ∧ pre ++ fl N cnt q = fl N cnt p ∧ s4 = pnt N[q]? ∧ J pre wr ∧ Tv wr N B2 cnt) (fun s4 _ => rk N s4)
  case atStart => exact ⟨p, [], hp, rfl, HV1.out, H0.out, HT.out⟩
  case round =>
    obtain ⟨q, pre, hq, hpre, rfl, hJp, hTv⟩ := hrel
    rcases (show N[q]? = none ∨ ∃ n, N[q]? = some n by cases N[q]? <;> simp) with hn | ⟨n, hn⟩
    · rw [fl_none hn, List.append_nil] at hpre
      have hm9 : pnt N[q]? = .pointer none := by rw [hn]; rfl
      rw [hm9]
      have HE := Lib.hid (And.intro hpre hJp)
      clear hpre hJp hTv hm9
      gi_wp2_with fail
      go_end0
      exact ⟨⟨_, rfl⟩, .inl ⟨pre, HE.out.1, HE.out.2⟩⟩
    · have hql := (List.getElem?_eq_some_iff.1 hn).1
      have hm9 : pnt N[q]? = .pointer (some ⟨n.blk, 0, none⟩) := by rw [hn]; rfl
      have hrk := rk_at HN.out.2 hq
      have hrk1 := rk_at HN.out.2 (q := q + 1) (by omega)
      have hb := hTv.nd q n hn
      have z0 : wr.cell? ⟨n.blk, 0, none⟩ = some (.string (str n.e.key)) := hb.cell rfl
      have z1 : wr.cell? ⟨n.blk, 1, none⟩ = some (.int .i64 n.e.seq) := hb.cell rfl
      have z2 : wr.cell? ⟨n.blk, 2, none⟩ = some (.bool n.e.del) := hb.cell rfl
      have z3 : wr.cell? ⟨n.blk, 3, none⟩ = some (.string (str n.e.val)) := hb.cell rfl
      have z4 : wr.cell? ⟨n.blk, 4, none⟩ = some (.int .i64 n.num) := hb.cell rfl
      have z6 : wr.cell? ⟨B2, 0, none⟩ = some (.int .i64 cnt) := hTv.b2.cell rfl
      rw [hm9] at hrk ⊢
      have HR := Lib.hid (And.intro hrk hrk1)
      have HE := Lib.hid (And.intro hpre (And.intro hJp (And.intro hTv (And.intro hn hm9))))
      clear hpre hJp hTv hm9 hb hrk hrk1 hn
      by_cases hc : n.num ≤ cnt
      · have hcN : ¬ cnt < n.num := by omega
        gi_wp2_with fail
        gi_quiet (fail)
        have hJk := HJ.out pre wr (wr.drewN nq) none HE.out.2.1 (grown_drewN wr nq) (fun r e => by cases e)
        obtain ⟨fn, tmps, assign, body, hy, hR⟩ := HY.out pre n.e (wr.drewN nq) hJk (by have := congrArg List.length HE.out.1; rw [List.length_append, fl_yes HE.out.2.2.2.1 hc, List.length_cons] at this; have := fl_len N cnt p; omega)
        rw [ev_lit] at hy
        rw [show decide (cnt < n.num) = false from by simp; omega]
        clear hJk
        gi_wp2_with fail
        refine hR.mono ?_
        rintro e W3 (⟨rfl, hJ3, hk3⟩ | ⟨rfl, hJx3⟩)
        · have hT3 : Tv W3 N B2 cnt := (HE.out.2.2.1.keep (w' := wr.drewN nq) (fun _ _ => rfl)).keep hk3
          have hx := (hT3.nd q n HE.out.2.2.2.1).cell (ndc_get (L := 0) (by decide))
          rw [nx_zero HN.out.1 (by omega)] at hx
          have H3 := Lib.hid (And.intro hT3 hJ3)
          clear hT3 hJ3 hk3 hR hy
          gi_wp2_with fail
          refine ⟨⟨q + 1, pre ++ [n.e], by omega, ?_, rfl, H3.out.2, H3.out.1⟩, by rw [HR.out.1, HR.out.2]; omega⟩
          rw [List.append_assoc, ← HE.out.1, fl_yes HE.out.2.2.2.1 hc]; rfl
        · gi_wp2_with fail
          refine bodyPost_ret (results_none rfl _ _ _) rfl ?_
          refine ⟨⟨_, rfl⟩, .inr ⟨pre ++ [n.e], ?_, hJx3⟩⟩
          rw [← HE.out.1, fl_yes HE.out.2.2.2.1 hc]
          exact ⟨fl N cnt (q + 1), by rw [List.append_assoc]; rfl⟩
      · have hcN : cnt < n.num := by omega
        gi_wp2_with fail
        gi_quiet (fail)
        have hTk := HE.out.2.2.1.keep (w' := wr.drewN nq) (fun _ _ => rfl)
        have hJk := HJ.out pre wr (wr.drewN nq) none HE.out.2.1 (grown_drewN wr nq) (fun r e => by cases e)
        have hx := (hTk.nd q n HE.out.2.2.2.1).cell (ndc_get (L := 0) (by decide))
        rw [nx_zero HN.out.1 (by omega)] at hx
        have HX := Lib.hid (And.intro hTk hJk)
        clear hTk hJk
        gi_wp2_with fail
        exact ⟨⟨q + 1, pre, by omega, by rw [← HE.out.1, fl_no HE.out.2.2.2.1 (by omega)], rfl, HX.out.2, HX.out.1⟩, by rw [HR.out.1, HR.out.2]; omega⟩
end Go.Proofs.Ytjlebmpgjliacaa
