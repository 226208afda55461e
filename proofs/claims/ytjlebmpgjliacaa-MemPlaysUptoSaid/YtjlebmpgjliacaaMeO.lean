/-
  slices.AppendSeq at entries, over what From hands back.
-/
import Derived.Test.YtjlebmpgjliacaaMeN
namespace Go.Proofs.Ytjlebmpgjliacaa
open Go.RowKit Go.Shelf
attribute [local go_sem] Oper.semAt_some
set_option linter.unusedVariables false

theorem kps_t (S : Nat → Prop) {A B C : World} (h1 : Kps S A B) (h2 : Kps S B C) : Kps S A C := fun k hk => (h2 k hk).trans (h1 k hk)
theorem kps_b {S : Nat → Prop} {D : Nat} (hS : ∀ k, S k → k < D) (W : World) (l : Nat) (o o' : Obj) (hl : D ≤ l) (_ : W.heap[l]? = some o) (_ : o.isCells = false) (_ : o.isWalk = false) : Kps S W (W.putObj l o') :=
  fun k hk => World.putObj_heap_other (by have := hS k hk; omega)
/-- An entry as it lies: four cells in a block of its own. -/
def EBlk (W : World) (b : Nat) (e : En) : Prop := Blk W b (ec e).toArray 30
theorem EBlk.grown {W W' : World} {b : Nat} {e : En} {row : Option Nat} (h : EBlk W b e) (hg : W.grownBy W' row) (hr : ∀ r, row = some r → ∃ o : Obj, W.heap[r]? = some o ∧ o.isCells = false) : EBlk W' b e :=
  h.keep (hg.block b h.lt (fun e' => by
    obtain ⟨o, ho, hc⟩ := hr _ e'.symm
    unfold EBlk Blk at h
    rw [h] at ho; cases ho; cases hc))
theorem Tv.lt {w : World} {N : List Nd} {B2 : Nat} {cnt : Int} (h : Tv w N B2 cnt) {k : Nat} (hk : tvf N B2 k) : k < w.heap.size := by
  rcases hk with rfl | ⟨n, hn, rfl⟩
  · exact h.b2.lt
  · obtain ⟨i, hi, e⟩ := List.getElem_of_mem hn
    exact (h.nd i n (by rw [List.getElem?_eq_getElem hi, e])).lt
theorem Tv.ty {w : World} {N : List Nd} {B2 : Nat} {cnt : Int} (h : Tv w N B2 cnt) {k : Nat} (hk : tvf N B2 k) : ∃ cs t, Blk w k cs t ∧ t ≠ 30 ∧ t ≠ 26 := by
  rcases hk with rfl | ⟨n, hn, rfl⟩
  · exact ⟨_, _, h.b2, by decide, by decide⟩
  · obtain ⟨i, hi, e⟩ := List.getElem_of_mem hn
    exact ⟨_, _, h.nd i n (by rw [List.getElem?_eq_getElem hi, e]), by decide, by decide⟩
theorem below_from5 {w V V' : World} {row : Option Nat} {B D : Nat} (h : Below B w V) (hg : V.grownBy V' row) (hB : B ≤ D) (hr : ∀ r, row = some r → D ≤ r ∧ ∃ o : Obj, V.heap[r]? = some o ∧ o.isCells = false) (hs : B ≤ V.heap.size) : Below B w V' :=
  h.grown hg hs fun r e => Nat.le_trans hB (hr r e).1
theorem AE : (26 : TypeId) ≠ 30 := by decide
/-- A slice's own row of entries is none of the blocks that a traversal reads. -/
theorem Tv.row {w : World} {N : List Nd} {B2 : Nat} {cnt : Int} (h : Tv w N B2 cnt) {k : Nat} (hk : tvf N B2 k) {base n : Nat} {v : Value} {xs : List Value} (hr : w.ownsRow base 30 4 v n xs) : some k ≠ v.ownBlock := by
  obtain ⟨cs, t, hb, h1, _⟩ := h.ty hk
  intro e
  obtain ⟨cur, hc⟩ := ownS_type hr e.symm
  unfold Blk at hb hc
  rw [hb] at hc
  simp at hc
  exact h1 hc.2
set_option maxRecDepth 100000 in
set_option maxHeartbeats 4000000 in
theorem appE_any (m : Nat) {N : List Nd} (hT : Tall N) (hnd : (N.map Nd.blk).Nodup) {p B1 B2 : Nat} {cnt : Int} (hp : p ≤ N.length) (hN : N.length ≤ 100000) (w : World) (h : Tv w N B2 cnt) (h1 : Blk w B1 #[pnt N[p]?] 45)
    {base : Nat} {v0 : Value} (hbase : base ≤ w.heap.size) (hrow : w.ownsRow base 30 4 v0 0 []) :
    CallsIn Fence.wide (m + 5) Try.prog 19 #[v0, .func (.func 18) #[] #[.pointer (some ⟨B1, 0, none⟩), .pointer (some ⟨B2, 0, none⟩)]] w fun e w' =>
      ∃ A c, e = .returned (.slice A (fl N cnt p).length c) ∧ w'.ownsRow base 30 4 (.slice A (fl N cnt p).length c) (fl N cnt p).length (ecs (fl N cnt p)) ∧ Below base w w' := by
  obtain ⟨i0, hi, hz0, hz1, hz2⟩ := info_parts entInfo
  obtain ⟨A0, c0, rfl⟩ := ownS_form hrow
  refine callsIn_of_wp_marks Try.func19 rfl trivial ?_ rfl
  simp only [Try.ntmps19, List.size_toArray, List.length_cons, List.length_nil, Nat.reduceAdd, Nat.reduceSub, Array.replicate_succ, Array.replicate_zero, List.push_toArray, List.append_toArray, List.nil_append, List.cons_append]
  gi_wp2_with fail
  have hs0 := Boxed.new w 26 (.slice A0 0 c0)
  have hb0 : Below base w (w.alloc (.cells #[.slice A0 0 c0] 26)) := (Below.refl _ w).alloc hbase _
  have hTU : Tv (w.alloc (.cells #[.slice A0 0 c0] 26)) N B2 cnt := h.below ((Below.refl _ w).alloc (Nat.le_refl _) _)
  have h1U : Blk (w.alloc (.cells #[.slice A0 0 c0] 26)) B1 #[pnt N[p]?] 45 := h1.keep (Below.heap_alloc w _ _ h1.lt)
  have hrU : (w.alloc (.cells #[.slice A0 0 c0] 26)).ownsRow base 30 4 (.slice A0 0 c0) 0 (ecs []) := ownS_below hrow ((Below.refl _ w).alloc (Nat.le_refl _) _)
  have hsz : (w.alloc (.cells #[.slice A0 0 c0] 26)).heap.size = w.heap.size + 1 := by simp
  generalize w.alloc (.cells #[.slice A0 0 c0] 26) = U at hs0 hb0 hTU h1U hrU hsz ⊢
  have hlt : ∀ k, tvf N B2 k → k < U.heap.size := fun k hk => hTU.lt hk
  apply wpIn_rangeFunc_ownH (Kp := Kps (tvf N B2)) (α := En) (encs := fun x : En => #[ev x]) rfl (by omega) (gf := 18) (lb := #[.pointer (some ⟨B1, 0, none⟩), .pointer (some ⟨B2, 0, none⟩)]) rfl trivial (enters_of Try.func18 (by kernel_rfl) rfl)
    (from_stops (m + 3) hT hnd hp U hTU h1U) (kps_t _) (kps_b hlt) (Below.refl _ _) (fun _ => rfl)
    (fun pre V => (∃ v, Boxed V w.heap.size 26 v ∧ V.ownsRow base 30 4 v pre.length (ecs pre) ∧ True) ∧ Below base w V ∧ Tv V N B2 cnt)
    (fun cd pre V => False)
    (fun pre X Y row hs hg hr => ⟨(holdsRow_own base w.heap.size 26 30 4 (fun pre : List En => pre.length) (fun pre => ecs pre) (fun _ _ => True)) pre X Y row hs.1 hg (fun r e => (hr r e).2), below_from5 hs.2.1 hg (by omega) hr (Nat.le_trans hbase (by have := hs.2.1.size; omega)), hs.2.2.keep (fun k hk => hg.block k (hs.2.2.lt hk) (fun e => by have := (hr k e.symm).1; have := hlt k hk; omega))⟩)
    (fun cd pre X Y row hs hg hr => hs)
    ⟨⟨_, hs0, hrU, trivial⟩, hb0, hTU⟩
    (fun x a' V => ∃ b, EBlk V b x ∧ a' = { tmps := #[.slice A0 0 c0, .func (.func 18) #[] #[.pointer (some ⟨B1, 0, none⟩), .pointer (some ⟨B2, 0, none⟩)], .pointer (some ⟨w.heap.size, 0, none⟩), undef, .slice none 0 0, .pointer (some ⟨b, 0, none⟩), .func (.func 18) #[] #[.pointer (some ⟨B1, 0, none⟩), .pointer (some ⟨B2, 0, none⟩)], ev x, undef, undef, undef, undef, undef], defers := [] })
    (fun x a' _ X Y row hs hg hr => by obtain ⟨b, e1, e2⟩ := hs; exact ⟨b, e1.grown hg (fun r e => (hr r e).2), e2⟩)
  · rintro l pre x V K ⟨⟨v, hbv, hrv, -⟩, hbel, hTv⟩ hK
    have HK := Lib.hid hK
    have HI := Lib.hid (And.intro hbv (And.intro hrv (And.intro hbel hTv)))
    clear hK hbv hrv hbel hTv
    simp only [ev_lit]
    gi_wp2_with fail
    refine HK.out _ _ ((KeepsOthers.alloc _ _).from _) (fun k hk => Below.heap_alloc V _ _ (HI.out.2.2.2.lt hk)) ⟨⟨v, HI.out.1.alloc _, ownS_below HI.out.2.1 ((Below.refl _ V).alloc (Nat.le_refl _) _), trivial⟩, HI.out.2.2.1.alloc (Nat.le_trans hbase (by have := HI.out.2.2.1.size; omega)) _, HI.out.2.2.2.below ((Below.refl _ V).alloc (Nat.le_refl _) _)⟩ ⟨V.heap.size, Blk.new V _ _, rfl⟩
  · rintro l pre x a' V hl hex ⟨⟨v, hbv, hrv, -⟩, hbel, hTv⟩ ⟨b, hb, rfl⟩ hlen
    obtain ⟨A, c, rfl⟩ := ownS_form hrv
    have c0 := hbv.cell
    have f0 := hbv.frozen
    have e0 : V.cell? ⟨b, 0, none⟩ = some (.string (str x.key)) := Blk.cell hb rfl
    have e1 : V.cell? ⟨b, 1, none⟩ = some (.int .i64 x.seq) := Blk.cell hb rfl
    have e2 : V.cell? ⟨b, 2, none⟩ = some (.bool x.del) := Blk.cell hb rfl
    have e3 : V.cell? ⟨b, 3, none⟩ = some (.string (str x.val)) := Blk.cell hb rfl
    have HI := Lib.hid (And.intro hbv (And.intro hrv (And.intro hbel hTv)))
    clear hbv hrv hbel hTv hb hex hl
    simp only [ev_lit]
    have hcs : ∀ (j : Nat) (u : Value), (ec x)[j]? = some u → (V.alloc (.cells #[.string (str x.key), .int .i64 x.seq, .bool x.del, .string (str x.val)] 30)).cell? ((⟨V.heap.size, 0, none⟩ : Addr).add j) = some u := fun j u hu => by
      have hb : Blk (V.alloc (.cells #[.string (str x.key), .int .i64 x.seq, .bool x.del, .string (str x.val)] 30)) V.heap.size (ec x).toArray 30 := Blk.new V _ _
      rw [add_plain]
      refine hb.cell ?_
      rw [List.getElem?_toArray, Nat.zero_add]
      exact hu
    have hb9 : base ≤ V.heap.size := Nat.le_trans hbase (by have := HI.out.2.2.1.size; omega)
    have HCS := Lib.hid hcs
    clear hcs
    have hone : ∀ u ∈ ec x, u.oneCell' = true := fun u hu => ecs_one [x] u (by simpa [ecs] using hu)
    gi_wp2_with (refine wpListIn_append_own (V.alloc (.cells #[.string (str x.key), .int .i64 x.seq, .bool x.del, .string (str x.val)] 30)) rfl (.tmp 8) (.tmp 10) 26 rfl base 30 i0 _ 4 48 Try.underlying26 hi hz0 hz1 hz2 rfl (by omega) (.slice A pre.length c) pre.length (ecs pre) rfl (ownS_below HI.out.2.1 ((Below.refl _ V).alloc (Nat.le_refl _) _)) ⟨V.heap.size, 0, none⟩ 1 1 (ec x) rfl rfl HCS.out hone (by simp only [maxLen]; omega) (by omega) (by simp; omega) (fun v' w' q1 q2 q3 => ?_)
                 obtain ⟨A', c', rfl⟩ := ownS_form q1
                 have HA := Lib.hid (And.intro (Boxed.appended HI.out.1 AE HI.out.2.1 hb9 hbase q1 q2) q2)
                 have g0 := HA.out.1.1.cell
                 have g1 := HA.out.1.1.frozen
                 clear q1 q2 q3)
    obtain ⟨⟨r1, r2, r3, r4, r5⟩, hgr⟩ := HA.out
    have hkp : Kps (tvf N B2) V (w'.setCell ⟨w.heap.size, 0, none⟩ (.slice A' (pre.length + 1) c')) := fun k hk => by
      have hkl := HI.out.2.2.2.lt hk
      have hne : k ≠ w.heap.size := fun e => by
        obtain ⟨cs, t, hb, _, h2⟩ := HI.out.2.2.2.ty hk
        have hbx := HI.out.1
        unfold Boxed at hbx
        unfold Blk at hb
        rw [e, hbx] at hb
        simp at hb
        exact h2 hb.2.symm
      exact ((heap_setCell_other w' ⟨w.heap.size, 0, none⟩ k _ hne).trans (hgr.block k (by simp; omega) (HI.out.2.2.2.row hk HI.out.2.1))).trans (Below.heap_alloc V _ _ hkl)
    refine ⟨r4.from _, hkp, ⟨_, r2, ?_, trivial⟩, HI.out.2.2.1.trans r5, HI.out.2.2.2.keep hkp⟩
    rw [show (pre ++ [x]).length = pre.length + 1 from by simp, ecs_app, show ecs [x] = ec x from by simp [ecs]]
    exact r3
  · rintro D xs V hD rfl ⟨⟨v, hbv, hrv, -⟩, hbel, hTv⟩ hK
    obtain ⟨A, c, rfl⟩ := ownS_form hrv
    have c0 := hbv.cell
    have HI := Lib.hid (And.intro hbv (And.intro hrv (And.intro hbel hK)))
    clear hbv hrv hbel hTv hK
    gi_wp2_with fail
    have hbV : base ≤ V.heap.size := Nat.le_trans hbase (by have := HI.out.2.2.1.size; omega)
    refine ⟨by simp, .inl ⟨_, _, rfl, run_takeDeferred HI.out.2.2.2, ?_⟩⟩
    exact ⟨_, results_tmp rfl _ _ _, A, c, rfl, ownsRow_putObj HI.out.2.1 (.deferred none) HI.out.2.2.2 rfl, HI.out.2.2.1.grown (grownBy_putObj' _ D (.deferred none)) hbV (fun r e => by cases e; omega)⟩
  · rintro D cd pre V hD hpre hF hK
    exact hF.elim
end Go.Proofs.Ytjlebmpgjliacaa
