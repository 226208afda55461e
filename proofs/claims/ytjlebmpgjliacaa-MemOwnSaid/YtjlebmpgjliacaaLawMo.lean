/-
  The law MemOwn as a walk.
-/
import Derived.Test.YtjlebmpgjliacaaMrG
import Derived.Deep.RegionLaw
import Derived.Deep.CutBlock
import Derived.LoopN
namespace Go.Proofs.Ytjlebmpgjliacaa
open Go.RowKit Go.Shelf
attribute [local go_sem] Oper.semAt_some
set_option linter.unusedVariables false

theorem geq_str (t : TypeId) (a b : ByteArray) : binOp .geq t (.string a) (.string b) = pure (.bool (!Op.bytesLess a.toList b.toList)) := by simp [binOp, Op.stringOp]
attribute [local go_sem] geq_str
theorem run_equalIn_func_nil {P : Program} (w : World) (d : Nat) (t : TypeId) {ps rs : Array TypeId} {vd : Bool} (f : Fn) (a b : Array Value) (h : P.underlying t = some (.func ps rs vd)) : (Op.equalIn (d + 1) t (.func f a b) .nilFunc).run P w = .ok false w := by
  simp [Op.equalIn, run_underlying h]
theorem func_nil (w : World) (f : Fn) (a b : Array Value) : (binOp BinOp.eql 35 (.func f a b) .nilFunc).run Try.prog w = .ok (.bool false) w := by
  have h : (Op.equal 35 (.func f a b) .nilFunc).run Try.prog w = .ok false w := run_equalIn_func_nil w 9999 _ f a b Try.underlying35
  simp only [binOp]
  simp [h]
attribute [local go_sem] func_nil
/-- Where the law stands: the table, the reference's list, what stop is, and what is to be answered. -/
structure Po (w wr : World) (t R S : Nat) (stop : Int) (N : List Nd) (A : Option Addr) (c : Nat) : Prop where
  pl : Pl w wr t N A c
  sb : Boxed wr S 3 (.int .i64 stop)
  rb : Boxed wr R 4 (.bool false)
theorem Po.below {w wr w' : World} {t R S c : Nat} {stop : Int} {N : List Nd} {A : Option Addr} (h : Po w wr t R S stop N A c) (hb : Below wr.heap.size wr w') : Po w w' t R S stop N A c :=
  ⟨h.pl.below hb, (hb.block _ h.sb.lt).trans h.sb, (hb.block _ h.rb.lt).trans h.rb⟩
theorem Po.keep {w wr w' : World} {t R S c B : Nat} {stop : Int} {N : List Nd} {A : Option Addr} (h : Po w wr t R S stop N A c) (hR : R < B) (hS : S < B) (ht : ∀ k, tfoot t N k → k < B) (hl : ∀ k, (Value.slice A N.length c).ownBlock = some k → k < B)
    (hk : ∀ k : Nat, k < B → w'.heap[k]? = wr.heap[k]?) (hb : Below w.heap.size w w') : Po w w' t R S stop N A c :=
  ⟨⟨h.pl.tb.stay (fun k hk' => hk k (ht k hk')) hb, ownS_keep h.pl.row fun k hk' => hk k (hl k hk'), h.pl.num⟩, (hk S hS).trans h.sb, (hk R hR).trans h.rb⟩
/-- append onto an own row of entries, as one step of a region that draws. -/
theorem step_appE {ops : Array Oper} {o : Oper} {a : Act} {w : World} {K : Act → World → Prop} {Q : Exit → Act → World → Prop} {E : Prop}
    (hg : o.guard = none) (s x : Operand) (hop : o.op = Op.call { callee := Callee.builtin Builtin.append, args := #[s, x], argTypes := #[26, 26] })
    (base : Nat) (v : Value) (n : Nat) (xs : List En) (hs : a.eval s = v) (hown : w.ownsRow base 30 4 v n (ecs xs))
    (A : Option Addr) (m c : Nat) (ys : List En) (hx : a.eval x = .slice A m c) (hr : Sle w A m ys) (hA : A ≠ none) (hlen : n + m ≤ 1000000) (hbase : base ≤ w.heap.size)
    (hK : ∀ A' c' w', w'.ownsRow base 30 4 (.slice A' (n + m) c') (n + m) (ecs (xs ++ ys)) → w.grownBy w' v.ownBlock → K (a.put o.dst (.slice A' (n + m) c')) w') :
    if Region.wanted o (yielded ops a.tmps) = true then Oper.wp Try.prog o a w K Q else E := by
  have hw : Region.wanted o (yielded ops a.tmps) = true := by simp [Region.wanted, hg]
  rw [if_pos hw]
  obtain ⟨A', c', w', hrun, h2, h3⟩ := run_appE w base o.type v n xs hown A m c ys hr hlen hbase (fun e => hA e)
  unfold Oper.wp
  simp [execOp, hop, resolve, invoke, builtin, hs, hx, hrun, Result.andThen]
  exact hK A' c' w' h2 h3
theorem own_blk6 {w : World} {B e s n c : Nat} {A : Option Addr} {xs : List Value} (h : w.ownsRow B e s (.slice A n c) n xs) (hn : 0 < n) : ∃ g, A = some ⟨g, 0, none⟩ ∧ B ≤ g := by
  rcases h.2 with ⟨hv, h0⟩ | ⟨g, cap, cur, hv, hb, _⟩
  · omega
  · cases hv; exact ⟨g, rfl, hb⟩
theorem ecs_set : ∀ (es : List En) (k : Nat) (e : En), k < es.length →
    ((((ecs es).set (k * 4) (.string (str e.key))).set (k * 4 + 1) (.int .i64 e.seq)).set (k * 4 + 2) (.bool e.del)).set (k * 4 + 3) (.string (str e.val)) = ecs (es.set k e)
  | [], k, e, h => by simp at h
  | x :: r, 0, e, h => rfl
  | x :: r, k + 1, e, h => by
    have := ecs_set r k e (by simpa using h)
    rw [List.set_cons_succ, show ecs (x :: r.set k e) = ec x ++ ecs (r.set k e) from rfl, ← this, show ecs (x :: r) = ec x ++ ecs r from rfl]
    rw [show (k + 1) * 4 = (ec x).length + k * 4 from by simp [ec]; omega]
    rw [Nat.add_assoc, Nat.add_assoc, Nat.add_assoc]
    rw [List.set_append_right _ _ (by omega), List.set_append_right _ _ (by omega), List.set_append_right _ _ (by omega), List.set_append_right _ _ (by omega)]
    simp only [Nat.add_sub_cancel_left]
theorem rep_set {α : Type} (L : List α) (q : α) (k : Nat) (h : k < L.length) : (List.replicate k q ++ L.drop k).set k q = List.replicate (k + 1) q ++ L.drop (k + 1) := by
  rw [List.set_append_right _ _ (by simp), List.length_replicate, Nat.sub_self, List.drop_eq_getElem_cons h, List.set_cons_zero, List.replicate_succ', List.append_assoc]
  rfl
theorem fl_ins {N : List Nd} {cnt : Int} {p q : Nat} {x : Nd} (hp : p ≤ N.length) (hq : q ≤ N.length) (hx : ¬ x.num ≤ cnt) : ∃ p', p' ≤ (ins N q x).length ∧ pnt (ins N q x)[p']? = pnt N[p]? ∧ fl (ins N q x) cnt p' = fl N cnt p := by
  by_cases hqp : q ≤ p
  · refine ⟨p + 1, by rw [ins_len hq]; omega, ?_, ?_⟩
    · unfold ins
      rw [List.getElem?_append_right (by rw [List.length_take]; omega), List.length_take, show p + 1 - min q N.length = (p - q) + 1 from by omega, List.getElem?_cons_succ, List.getElem?_drop, show q + (p - q) = p from by omega]
    · unfold fl ins
      rw [List.drop_append, List.drop_of_length_le (by rw [List.length_take]; omega), List.length_take, show p + 1 - min q N.length = (p - q) + 1 from by omega, List.drop_succ_cons, List.drop_drop, show q + (p - q) = p from by omega, List.nil_append]
  · refine ⟨p, by rw [ins_len hq]; omega, ?_, ?_⟩
    · rw [ins_lt hq (by omega)]
    · unfold fl ins
      rw [List.drop_append_of_le_length (by rw [List.length_take]; omega), List.filter_append, List.filter_cons_of_neg (by simpa using hx), ← List.filter_append, ← List.drop_append_of_le_length (by rw [List.length_take]; omega), List.take_append_drop]
/-- Where the law stands behind From: the table may grow; the traversal gives what there was. -/
structure Mp (w wr : World) (t R S Wb U B1 B2 : Nat) (stop : Int) (cnt : Nat) (es : List En) (v1 : Value) (A : Option Addr) (c : Nat) (N : List Nd) (p : Nat) : Prop where
  tb : TbW w wr t N
  num : Num N
  ge : cnt ≤ N.length
  le : p ≤ N.length
  pn : pnt N[p]? = v1
  fe : fl N (cnt : Int) p = es
  sb : Boxed wr S 3 (.int .i64 stop)
  rb : Boxed wr R 4 (.bool false)
  wb : Boxed wr Wb 26 (.slice A es.length c)
  row : wr.ownsRow U 30 4 (.slice A es.length c) es.length (ecs es)
  b1 : Blk wr B1 #[v1] 45
  b2 : Blk wr B2 #[.int .i64 (cnt : Int)] 3
section
variable {w wr w' : World} {t R S Wb U B1 B2 cnt c p : Nat} {stop : Int} {es : List En} {v1 : Value} {A : Option Addr} {N : List Nd}
theorem Mp.below (h : Mp w wr t R S Wb U B1 B2 stop cnt es v1 A c N p) (hb : Below wr.heap.size wr w') : Mp w w' t R S Wb U B1 B2 stop cnt es v1 A c N p :=
  ⟨h.tb.below hb, h.num, h.ge, h.le, h.pn, h.fe, (hb.block _ h.sb.lt).trans h.sb, (hb.block _ h.rb.lt).trans h.rb, (hb.block _ h.wb.lt).trans h.wb, ownS_below h.row hb, h.b1.keep (hb.block _ h.b1.lt), h.b2.keep (hb.block _ h.b2.lt)⟩
theorem Mp.put (h : Mp w wr t R S Wb U B1 B2 stop cnt es v1 A c N p) {e : En} {r : Ending} (hp : PutW w wr t N e r w') :
    ∃ N' p' cd, r = .returned (.int .i64 cd) ∧ Mp w w' t R S Wb U B1 B2 stop cnt es v1 A c N' p' ∧ N'.length ≤ N.length + 1 := by
  obtain ⟨hr, ho, N', hT, hfo, hN⟩ := hp
  have hk : ∀ k cs ty, Blk wr k cs ty → ty ≠ 50 → ty ≠ 48 → w'.heap[k]? = wr.heap[k]? := fun k cs ty hb h1 h2 => ho.block k hb.lt (h.tb.apart hb h1 h2)
  have hpl : posE (esOf N) e.key e.seq ≤ N.length := by have := posE_le (esOf N) e.key e.seq; simpa [esOf] using this
  have hfr : ∃ p', Num N' ∧ cnt ≤ N'.length ∧ p' ≤ N'.length ∧ pnt N'[p']? = v1 ∧ fl N' (cnt : Int) p' = es ∧ N'.length ≤ N.length + 1 := by
    rcases hN with ⟨_, rfl⟩ | ⟨_, hl, _, b, ht, rfl⟩
    · exact ⟨p, h.num, h.ge, h.le, h.pn, h.fe, Nat.le_succ _⟩
    · obtain ⟨p', h1, h2, h3⟩ := fl_ins (cnt := (cnt : Int)) (x := ⟨e, ((N.length + 1 : Nat) : Int), b, ht⟩) h.le hpl (by have := h.ge; simp only; omega)
      exact ⟨p', h.num.ins hpl, by rw [hl]; exact Nat.le_succ_of_le h.ge, h1, h2.trans h.pn, h3.trans h.fe, by rw [hl]; exact Nat.le_refl _⟩
  obtain ⟨p', f1, f2, f3, f4, f5, f6⟩ := hfr
  refine ⟨N', p', _, hr, ⟨hT, f1, f2, f3, f4, f5, (hk S _ _ h.sb (by decide) (by decide)).trans h.sb, (hk R _ _ h.rb (by decide) (by decide)).trans h.rb, (hk Wb _ _ h.wb (by decide) (by decide)).trans h.wb, ownS_keep h.row fun k hk' => ?_, h.b1.keep (hk B1 _ _ h.b1 (by decide) (by decide)), h.b2.keep (hk B2 _ _ h.b2 (by decide) (by decide))⟩, f6⟩
  obtain ⟨cur, hb⟩ := ownS_type h.row hk'
  exact hk k _ _ hb (by decide) (by decide)
end
/-- Where the law stands in its ranges: nothing below Z has changed; the boxes of turn and n; the marks of the ranges that are over. -/
structure Tu (wX V : World) (Z T nB : Nat) (tau k : Int) (Ds : List Nat) : Prop where
  bel : Below Z wX V
  zle : Z ≤ V.heap.size
  tb : Boxed V T 3 (.int .i64 tau)
  nb : Boxed V nB 3 (.int .i64 k)
  ds : ∀ D ∈ Ds, V.heap[D]? = some (.deferred (some []))
section
variable {wX V V' : World} {Z T nB : Nat} {tau k : Int} {Ds : List Nat}
theorem Tu.below (h : Tu wX V Z T nB tau k Ds) (hb : Below V.heap.size V V') : Tu wX V' Z T nB tau k Ds :=
  ⟨h.bel.trans (hb.mono h.zle), Nat.le_trans h.zle hb.size, (hb.block _ h.tb.lt).trans h.tb, (hb.block _ h.nb.lt).trans h.nb, fun D hD => (hb.block D (Array.getElem?_eq_some_iff.1 (h.ds D hD)).1).trans (h.ds D hD)⟩
theorem Tu.grown9 (h : Tu wX V Z T nB tau k Ds) {row : Option Nat} {D0 : Nat} (hg : V.grownBy V' row) (hr : ∀ r, row = some r → D0 ≤ r ∧ ∃ o : Obj, V.heap[r]? = some o ∧ o.isCells = false) (hZ : Z ≤ D0) (hDs : ∀ D ∈ Ds, D < D0) : Tu wX V' Z T nB tau k Ds :=
  ⟨h.bel.grown hg h.zle (fun r e => Nat.le_trans hZ (hr r e).1), Nat.le_trans h.zle hg.size, boxed9 h.tb hg hr, boxed9 h.nb hg hr, fun D hD => (hg.block D (Array.getElem?_eq_some_iff.1 (h.ds D hD)).1 (fun e => by have := (hr D e.symm).1; have := hDs D hD; omega)).trans (h.ds D hD)⟩
theorem Tu.setN (h : Tu wX V Z T nB tau k Ds) (hne : T ≠ nB) (hZ : Z ≤ nB) (k' : Int) : Tu wX (V.setCell ⟨nB, 0, none⟩ (.int .i64 k')) Z T nB tau k' Ds :=
  ⟨h.bel.setCell (p := ⟨nB, 0, none⟩) hZ _, by rw [World.size_setCell]; exact h.zle, h.tb.other hne _, h.nb.set _, fun D hD => (heap_setCell_other V ⟨nB, 0, none⟩ D _ (fun e => by
    have h1 := h.ds D hD
    have h2 := h.nb
    simp only at e
    unfold Boxed at h2
    rw [e, h2] at h1
    cases h1)).trans (h.ds D hD)⟩
end
def mkD6 (Ds : List Nat) : List Deferred := Ds.map fun D => { target := .collected D, args := #[] }
theorem leaves_marks6 {F : Fence} {n : Nat} {P : Program} {fn : Func} {tmps : Array Value} {R : Ending → World → Prop} (Qw : World → Prop) : ∀ (Ds : List Nat) (V : World), (∀ V D, D ∈ Ds → V.heap[D]? = some (.deferred (some [])) → Qw V → Qw (V.putObj D (.deferred none))) →
    (∀ V, Qw V → LeavesInM F n P fn tmps R [] .returning V) → Qw V → (∀ D ∈ Ds, V.heap[D]? = some (.deferred (some []))) → Ds.Pairwise (· ≠ ·) → LeavesInM F n P fn tmps R (mkD6 Ds) .returning V := by
  intro Ds
  induction Ds with
  | nil => exact fun V _ he hq _ _ => he V hq
  | cons D r ih =>
    intro V hQ he hq hd hp
    have hD := hd D (List.mem_cons_self ..)
    have hp2 := List.pairwise_cons.1 hp
    refine ⟨by simp, .inl ⟨D, _, rfl, run_takeDeferred hD, ?_⟩⟩
    exact ih _ (fun V D' h => hQ V D' (List.mem_cons_of_mem _ h)) he (hQ V D (List.mem_cons_self ..) hD hq) (fun D' h' => (World.putObj_heap_other (fun e => hp2.1 D' h' (by omega))).trans (hd D' (List.mem_cons_of_mem _ h'))) hp2.2
/-- A region all of whose orders end alike. -/
theorem region_to {P : Program} {c : Code} {Q : Exit → Act → World → Prop} {a : Act} {w : World} (a1 : Act) (w1 : World) (h1 : c.wp P (Exit.then (fun a' w' => a' = a1 ∧ w' = w1) (fun _ _ _ => False)) a w) (h2 : Q .normal a1 w1) : c.wp P Q a w :=
  wp_mono h1 fun e a w hq => by
    cases e <;> first | (obtain ⟨rfl, rfl⟩ := hq; exact h2) | exact hq.elim
/-- A range that ends, or is left by a break: what follows is the same. -/
theorem cut_range {P : Program} {c : Code} {id : Nat} {Q : Exit → Act → World → Prop} {a : Act} {w : World} (R : Nat → World → Prop)
    (h1 : c.wp P (fun e a' V => (e = .normal ∨ e = .exit id) ∧ ∃ D, a' = { a with defers := { target := .collected D, args := #[] } :: a.defers } ∧ R D V) a w)
    (h2 : ∀ D V, R D V → Q .normal { a with defers := { target := .collected D, args := #[] } :: a.defers } V) : c.wp P (Exit.inBlock id Q) a w :=
  wp_mono h1 fun e a' V hq => by
    obtain ⟨he, D, rfl, hR⟩ := hq
    rcases he with rfl | rfl
    · exact h2 D V hR
    · simp only [Exit.inBlock, if_true]; exact h2 D V hR
set_option maxRecDepth 100000 in
set_option maxHeartbeats 80000000 in
theorem own_in (m : Nat) {w : World} {A0 A1 : Option Addr} {n0 c0 n1 c1 : Nat} {os os1 : List Mo} (hR : Mls w A0 n0 os) (hR1 : Mls w A1 n1 os1) (key : List UInt8) (stop : Int) (hst : -9223372036854775808 ≤ stop ∧ stop ≤ 9223372036854775807) :
    CallsIn Fence.wide (m + 5) Try.prog 4 #[.slice A0 n0 c0, .slice A1 n1 c1, .agg #[.string (str key), .int .i64 stop]] w fun e w' => e = .returned (.bool true) ∧ Below w.heap.size w w' := by
  have HR := Lib.hid hR
  have HR1 := Lib.hid hR1
  clear hR hR1
  refine callsIn_of_wp_marks Try.func4 rfl trivial ?_ rfl
  simp only [Try.ntmps4, List.size_toArray, List.length_cons, List.length_nil, Nat.reduceAdd, Nat.reduceSub, Array.replicate_succ, Array.replicate_zero, List.push_toArray, List.append_toArray, List.nil_append, List.cons_append]
  refine wpIn_wide.2 ?_
  go_wp2_with fail
  apply region_to
  case h1 =>
    go_region_with (fail)
    all_goals exact ⟨rfl, rfl⟩
  go_wp2_with fail
  have hb0 : Below w.heap.size w (((w.alloc (.cells #[.string (str key), .int .i64 stop] 41)).alloc (.cells #[.bool false] 4)).alloc (.cells #[.int .i64 stop] 3)).drew := ((((Below.refl _ w).alloc (Nat.le_refl _) _).alloc (by simp) _).alloc (by simp; omega) _).drew
  have hs0 : Boxed (((w.alloc (.cells #[.string (str key), .int .i64 stop] 41)).alloc (.cells #[.bool false] 4)).alloc (.cells #[.int .i64 stop] 3)).drew (w.heap.size + 1 + 1) 3 (.int .i64 stop) := by
    have := Boxed.new ((w.alloc (.cells #[.string (str key), .int .i64 stop] 41)).alloc (.cells #[.bool false] 4)) 3 (.int .i64 stop)
    rw [World.size_alloc, World.size_alloc] at this
    exact this
  have hr0 : Boxed (((w.alloc (.cells #[.string (str key), .int .i64 stop] 41)).alloc (.cells #[.bool false] 4)).alloc (.cells #[.int .i64 stop] 3)).drew (w.heap.size + 1) 4 (.bool false) := by
    have := (Boxed.new (w.alloc (.cells #[.string (str key), .int .i64 stop] 41)) 4 (.bool false)).alloc (.cells #[.int .i64 stop] 3)
    rw [World.size_alloc] at this
    exact this
  generalize (((w.alloc (.cells #[.string (str key), .int .i64 stop] 41)).alloc (.cells #[.bool false] 4)).alloc (.cells #[.int .i64 stop] 3)).drew = U0 at hb0 hs0 hr0 ⊢
  obtain ⟨R, hRq⟩ : ∃ R, R = w.heap.size + 1 := ⟨_, rfl⟩
  obtain ⟨S, hSq⟩ : ∃ S, S = w.heap.size + 1 + 1 := ⟨_, rfl⟩
  rw [← hSq, ← hRq]
  rw [← hSq] at hs0
  rw [← hRq] at hr0
  have hRw : w.heap.size ≤ R ∧ w.heap.size ≤ S := by omega
  have HRW := Lib.hid hRw
  clear hRw hRq hSq
  refine (new_w hb0).mono ?_
  rintro r w1 ⟨rfl, hT1, hb1⟩
  obtain ⟨t, htq⟩ : ∃ t, t = U0.heap.size := ⟨_, rfl⟩
  rw [← htq] at hT1
  rw [← htq]
  have hr1 : Boxed w1 R 4 (.bool false) := (hb1.block _ hr0.lt).trans hr0
  have hs1 : Boxed w1 S 3 (.int .i64 stop) := (hb1.block _ hs0.lt).trans hs0
  have H1 : Hid (Po w w1 t R S stop [] none 0) := ⟨⟨hT1, ownE_nil _ _, fun n hn => (by cases hn)⟩, hs1, hr1⟩
  clear hT1 hr1 hs1 hb1 hr0 hs0 hb0 htq
  go_wp2_with fail
  refine (awake4_any w1).mono ?_
  rintro r w2 ⟨rfl, hb2⟩
  have H2 : Hid (Po w w2 t R S stop [] none 0) := H1.out.below hb2
  clear hb2 H1
  go_upto_block 0 with fail
  go_cut [10, 11] from 33 to 52 (fun s10 s11 wx => ∃ (i : Nat) (N : List Nd) (A : Option Addr) (c : Nat), N.length ≤ 100 ∧ s10 = .slice A N.length c ∧ s11 = .int .i64 i ∧ Po w wx t R S stop N A c)
  case first =>
    go_wp2_with fail
    go_loopw [10, 11] (fun s10 s11 wr => ∃ (i : Nat) (N : List Nd) (A : Option Addr) (c : Nat), i ≤ n0 ∧ i ≤ 100 ∧ N.length ≤ i ∧ s10 = .slice A N.length c ∧ s11 = .int .i64 i ∧ Po w wr t R S stop N A c) (fun _ j _ => n0 - (intOf j).toNat)
    case atStart => exact ⟨0, [], none, 0, Nat.zero_le _, Nat.zero_le _, Nat.zero_le _, rfl, rfl, H2.out⟩
    case round =>
      obtain ⟨i, N, A, c, hi, hi2, hNi, rfl, rfl, hS⟩ := hrel
      have HS := Lib.hid hS
      clear hS H2
      by_cases hgo : i < n0 ∧ i < 100
      · obtain ⟨hin, hi100⟩ := hgo
        have hcN : (i : Int) < n0 := by omega
        have hcM : (i : Int) < 100 := by omega
        obtain ⟨b, off, o, rfl, ho, hok, c0', c1', c2', c3', c4', c5'⟩ := HR.out.at_ hin
        have hbr := HS.out.pl.tb.bel
        have k : ∀ {a : Addr} {u : Value}, w.cell? a = some u → ∀ V, Below w.heap.size w V → V.cell? a = some u := fun h V hV => (hV.cell (World.block_lt_of_cell? w _ h)).trans h
        have d0 := k c0' wr hbr
        have d1 := k c1' wr hbr
        have d2 := k c2' wr hbr
        have d3 := k c3' wr hbr
        have d4 := k c4' wr hbr
        have d5 := k c5' wr hbr
        clear c0' c1' c2' c3' c4' c5' ho k hbr
        go_wp2_with fail
        refine (play4_any HS.out.pl (by omega) o hok).mono ?_
        rintro r w5 ⟨N', A', c', rfl, hp5, hl5, hf5⟩
        have H5 : Hid (Po w w5 t R S stop N' A' c') := ⟨hp5, hf5 S _ _ HS.out.sb (by decide) (by decide), hf5 R _ _ HS.out.rb (by decide) (by decide)⟩
        clear hp5 hf5 d0 d1 d2 d3 d4 d5
        go_wp2_with fail
        exact ⟨⟨i + 1, N', A', c', by omega, by omega, by omega, rfl, by go_num, H5.out⟩, by simp only [intOf]; omega⟩
      · have hend : ¬ ((i : Int) < n0) ∨ ((i : Int) < n0 ∧ ¬ ((i : Int) < 100)) := by omega
        rcases hend with hend | ⟨hend1, hend2⟩
        · go_wp2_with fail
          go_meet
          exact ⟨i, N, A, c, by omega, rfl, rfl, HS.out⟩
        · go_wp2_with fail
          go_meet
          exact ⟨i, N, A, c, by omega, rfl, rfl, HS.out⟩
  case rest =>
    obtain ⟨i, N, A, c, hN1, rfl, rfl, hS⟩ := hcut
    have HS := Lib.hid hS
    clear hS
    have hlen : (esOf N).length = N.length := by simp [esOf]
    have hcap := own_capE HS.out.pl.row
    have hSn := HS.out.below ((Below.refl _ wc).alloc (Nat.le_refl _) (.cells #[.slice none 0 0] 26))
    have hwb := Boxed.new wc 26 (.slice none 0 0)
    have HSn := Lib.hid (And.intro hSn hwb)
    clear hSn hwb
    go_wp2_with fail
    obtain ⟨Wb, hWq⟩ : ∃ Wb, Wb = wc.heap.size := ⟨_, rfl⟩
    rw [← hWq] at HSn ⊢
    have hWw : w.heap.size ≤ Wb := by rw [hWq]; exact HS.out.pl.tb.bel.size
    have hWR : R < Wb ∧ S < Wb := by rw [hWq]; exact ⟨HS.out.rb.lt, HS.out.sb.lt⟩
    have hWt : ∀ k, tfoot t N k → k < Wb := fun k hk => by rw [hWq]; exact HS.out.pl.tb.tbl.tb.foot_lt hk
    have hWl : ∀ k, (Value.slice A N.length c).ownBlock = some k → k < Wb := fun k hk => by rw [hWq]; exact ownS_lt HS.out.pl.row k hk
    generalize hU : wc.alloc (.cells #[.slice none 0 0] 26) = U at HSn ⊢
    have hUs : Wb < U.heap.size := HSn.out.2.lt
    have HW := Lib.hid (And.intro hWw (And.intro hWR (And.intro hWt (And.intro hWl hUs))))
    obtain ⟨p, hp⟩ : ∃ p, p = posE (esOf N) key 4611686018427387904 := ⟨_, rfl⟩
    have hpl : p ≤ N.length := by rw [hp, ← hlen]; exact posE_le _ _ _
    have HPP := Lib.hid hp
    clear hWq hWw hWR hWt hWl hUs hU hp HS
    go_loopw [13, 55] (fun s13 s55 wq => ∃ (j : Nat) (A2 : Option Addr) (c2 : Nat), j ≤ N.length ∧ s55 = .int .i64 j ∧ Po w wq t R S stop N A c ∧ Boxed wq Wb 26 (.slice A2 (j - p) c2) ∧ wq.ownsRow U.heap.size 30 4 (.slice A2 (j - p) c2) (j - p) (ecs (((esOf N).drop p).take (j - p))) ∧ U.heap.size ≤ wq.heap.size) (fun _ s55 _ => N.length - (intOf s55).toNat)
    case atStart => exact ⟨0, none, 0, Nat.zero_le _, rfl, HSn.out.1, by rw [Nat.zero_sub]; exact HSn.out.2, by rw [Nat.zero_sub]; exact ownE_nil _ _, Nat.le_refl _⟩
    case round =>
      obtain ⟨j, A2, c2, hj, rfl, hSq, hbq, hrw, hsz⟩ := hrel
      have HSq := Lib.hid (And.intro hSq (And.intro hbq (And.intro hrw hsz)))
      clear hSq hbq hrw
      by_cases hjn : j < N.length
      · have hcj : (j : Int) < N.length := by omega
        obtain ⟨b2, o2, x, hA2, hx, z0, z1, z2, z3⟩ := (own_sle HSq.out.1.pl.row).at_ hjn
        subst hA2
        have hlt := lt_pos HSq.out.1.pl.tb.tbl.srt HSq.out.1.pl.tb.tbl.ok key hx
        rw [← HPP.out] at hlt
        have hless : Op.bytesLess (str x.key).toList (str key).toList = decide (j < p) := by
          rw [show (str x.key).toList = x.key from ByteArray.toList_mk _, show (str key).toList = key from ByteArray.toList_mk _, bless_eq]; exact hlt
        have HX := Lib.hid hx
        clear hlt hx
        by_cases hjp : j < p
        · rw [show decide (j < p) = true by simpa using hjp] at hless
          have hm : j + 1 - p = j - p := by omega
          go_wp2_with fail
          refine ⟨⟨j + 1, A2, c2, by omega, by go_num, ?_⟩, by simp only [intOf]; omega⟩
          rw [hm]; exact HSq.out
        · rw [show decide (j < p) = false by simpa using hjp] at hless
          have hm : j + 1 - p = (j - p) + 1 := by omega
          have g0 := HSq.out.2.1.cell
          go_wp2_with fail
          have hsd : U.heap.size ≤ wr.heap.size := HSq.out.2.2.2
          have g4 : ((wr.alloc (.cells #[.string (str x.key), .int .i64 x.seq, .bool x.del, .string (str x.val)] 30)).drew).cell? ⟨Wb, 0, none⟩ = some (.slice A2 (j - p) c2) := (HSq.out.2.1.alloc (.cells #[.string (str x.key), .int .i64 x.seq, .bool x.del, .string (str x.val)] 30)).cell
          have g5 : (wr.alloc (.cells #[.string (str x.key), .int .i64 x.seq, .bool x.del, .string (str x.val)] 30)).cell? ⟨Wb, 0, none⟩ = some (.slice A2 (j - p) c2) := (HSq.out.2.1.alloc (.cells #[.string (str x.key), .int .i64 x.seq, .bool x.del, .string (str x.val)] 30)).cell
          refine only_normal ?_
          go_region_law (refine step_appE rfl (.tmp 65) (.tmp 70) rfl U.heap.size _ _ (((esOf N).drop p).take (j - p)) rfl (ownS_below HSq.out.2.2.1 (((Below.refl _ _).alloc (Nat.le_refl _) _).drew)) _ 1 1 [x] rfl ((Sle.new wr x).below ((Below.refl _ _).drew)) (by simp) (by omega) (by simp; omega) ?_; intro A7 c7 w7 hown7 hg7
                         have hb7 := ((show Boxed ((wr.alloc (.cells #[.string (str x.key), .int .i64 x.seq, .bool x.del, .string (str x.val)] 30)).drew) Wb 26 (.slice A2 (j - p) c2) from HSq.out.2.1.alloc (.cells #[.string (str x.key), .int .i64 x.seq, .bool x.del, .string (str x.val)] 30))).kept hg7 (HSq.out.2.1.not_row AE HSq.out.2.2.1)
                         have g2 := hb7.cell
                         have g3 := hb7.frozen
                         have H7 := Lib.hid (And.intro hown7 (And.intro hg7 hb7))
                         clear hown7 hg7 hb7)
          all_goals
            have hWU := HW.out.2.2.2.2
            have hlo : ∀ k : Nat, k < Wb → (w7.setCell ⟨Wb, 0, none⟩ (.slice A7 (j - p + 1) c7)).heap[k]? = wr.heap[k]? := fun k hk => by
              rw [heap_setCell_other w7 ⟨Wb, 0, none⟩ k _ (by simp only; omega)]
              refine (H7.out.2.1.block k (by simp; omega) (fun e => ?_)).trans (Below.heap_alloc wr (.cells #[.string (str x.key), .int .i64 x.seq, .bool x.del, .string (str x.val)] 30) _ (by omega))
              have := ownS_blk HSq.out.2.2.1 k e.symm
              omega
            have hbel : Below w.heap.size w (w7.setCell ⟨Wb, 0, none⟩ (.slice A7 (j - p + 1) c7)) := by
              have h1 := HSq.out.1.pl.tb.bel
              refine (((h1.alloc h1.size (.cells #[.string (str x.key), .int .i64 x.seq, .bool x.del, .string (str x.val)] 30)).drew).grown H7.out.2.1 ((h1.alloc h1.size (.cells #[.string (str x.key), .int .i64 x.seq, .bool x.del, .string (str x.val)] 30)).drew).size (fun k e => ?_)).setCell (p := ⟨Wb, 0, none⟩) HW.out.1 _
              have := ownS_blk HSq.out.2.2.1 k e
              have := HW.out.1
              omega
            go_wp2_with fail
            refine ⟨⟨j + 1, A7, c7, by omega, by go_num, HSq.out.1.keep HW.out.2.1.1 HW.out.2.1.2 HW.out.2.2.1 HW.out.2.2.2.1 hlo hbel, ?_, ?_, ?_⟩, by simp only [intOf]; omega⟩
            · rw [hm]; exact H7.out.2.2.set _
            · rw [hm, List.take_add_one, List.getElem?_drop, show p + (j - p) = j from by omega, HX.out]
              exact H7.out.1.kept (grownBy_setCell' w7 Wb _) (.inr (H7.out.2.2.not_row AE H7.out.1).symm)
            · rw [World.size_setCell]
              have := H7.out.2.1.size
              simp only [World.size_drew, World.size_alloc] at this
              omega
      · have hcj : ¬ (j : Int) < N.length := by omega
        obtain rfl : j = N.length := by omega
        rw [List.take_of_length_le (show ((esOf N).drop p).length ≤ N.length - p by rw [List.length_drop, hlen]; exact Nat.le_refl _)] at HSq
        have hfr := from_any HSq.out.1.pl.tb.tbl.tb HSq.out.1.pl.tb.tbl.tall (split_of HSq.out.1.pl.tb.tbl.srt key 4611686018427387904)
        rw [← HPP.out] at hfr
        go_wp2_with fail
        refine hfr.mono ?_
        rintro r w4 ⟨B1, B2, rfl, b1, b2, hB1, hB2, hb4⟩
        have H4 := Lib.hid (And.intro (HSq.out.1.below hb4) (And.intro (show Boxed w4 Wb 26 (.slice A2 (N.length - p) c2) from (hb4.block _ HSq.out.2.1.lt).trans HSq.out.2.1) (And.intro (ownS_below HSq.out.2.2.1 hb4) (And.intro b1 (And.intro b2 (And.intro (Nat.le_trans HSq.out.2.2.2 hB1) (And.intro (Nat.le_trans HSq.out.2.2.2 hB2) (Nat.le_trans HSq.out.2.2.2 hb4.size))))))))
        clear hfr b1 b2 hB1 hB2 hb4 HSq
        go_wp2_with fail
        refine (all_any H4.out.1.pl.tb.tbl H4.out.1.pl.num (by omega)).mono ?_
        rintro r w5 ⟨A5, c5, rfl, hr5, hb5⟩
        have hcap5 := own_capE hr5
        have H5 := Lib.hid (And.intro (H4.out.1.below (hb5.mono (Nat.le_refl _))) (And.intro (show Boxed w5 Wb 26 (.slice A2 (N.length - p) c2) from (hb5.block _ H4.out.2.1.lt).trans H4.out.2.1) (And.intro (ownS_below H4.out.2.2.1 (hb5.mono (Nat.le_refl _))) (And.intro (H4.out.2.2.2.1.keep (hb5.block _ H4.out.2.2.2.1.lt)) (H4.out.2.2.2.2.1.keep (hb5.block _ H4.out.2.2.2.2.1.lt))))))
        have H5r := Lib.hid hr5
        have hb5s := hb5.size
        clear hb5 hr5
        go_wp2_with fail
        have hbz : ∀ {wq : World}, Below w4.heap.size w5 wq → w4.heap.size ≤ wq.heap.size := fun hb => Nat.le_trans hb5s hb.size
        go_loopw [16, 82] (fun s16 s82 wq => ∃ (k : Nat), k ≤ N.length ∧ s82 = .int .i64 k ∧ Below w4.heap.size w5 wq ∧ wq.ownsRow w4.heap.size 30 4 (.slice A5 N.length c5) N.length (ecs (List.replicate k ⟨[63], 0, false, []⟩ ++ (esOf N).drop k))) (fun _ s82 _ => N.length - (intOf s82).toNat)
        case atStart => exact ⟨0, Nat.zero_le _, rfl, Below.refl _ _, H5r.out⟩
        case round =>
          obtain ⟨k, hk, rfl, hbq, hrw⟩ := hrel
          have HQ := Lib.hid (And.intro hbq hrw)
          clear hbq hrw
          by_cases hkn : k < N.length
          · have hcj : (k : Int) < N.length := by omega
            obtain ⟨g, rfl, hgZ⟩ := own_blk6 HQ.out.2 (by omega)
            obtain ⟨b5, o5, x5, hA5, hx5, z0, z1, z2, z3⟩ := (own_sle HQ.out.2).at_ hkn
            cases hA5
            rw [Nat.zero_add] at z0 z1 z2 z3
            have y0 := HQ.out.2.frozenAt (k * 4)
            have y1 := HQ.out.2.frozenAt (k * 4 + 1)
            have y2 := HQ.out.2.frozenAt (k * 4 + 2)
            have y3 := HQ.out.2.frozenAt (k * 4 + 3)
            clear hx5
            go_wp2_with fail
            refine ⟨⟨k + 1, by omega, by go_num, ?_, ?_⟩, by simp only [intOf]; omega⟩
            · exact (((HQ.out.1.setCell (p := ⟨g, _, none⟩) hgZ _).setCell (p := ⟨g, _, none⟩) hgZ _).setCell (p := ⟨g, _, none⟩) hgZ _).setCell (p := ⟨g, _, none⟩) hgZ _
            · have h4 := ((((HQ.out.2.stored (k * 4) (.string (str [63]))).1.stored (k * 4 + 1) (.int .i64 0)).1.stored (k * 4 + 2) (.bool false)).1.stored (k * 4 + 3) (.string (str []))).1
              have hl0 : k < (List.replicate k (⟨[63], 0, false, []⟩ : En) ++ (esOf N).drop k).length := by rw [List.length_append, List.length_replicate, List.length_drop]; omega
              have h5 := ecs_set _ k ⟨[63], 0, false, []⟩ hl0
              rw [rep_set (esOf N) _ k (by omega)] at h5
              rw [← h5]
              exact h4
          · have hcj : ¬ (k : Int) < N.length := by omega
            obtain rfl : k = N.length := by omega
            rw [List.drop_of_length_le (show (esOf N).length ≤ N.length by omega), List.append_nil] at HQ
            have hz := hbz HQ.out.1
            go_wp2_with fail
            have HZ0 := Lib.hid hz
            clear hz
            go_loopw [15, 17] (fun s15 s17 wq => ∃ (k : Nat) (A6 : Option Addr) (c6 : Nat), k ≤ 20 ∧ s17 = .int .i64 k ∧ s15 = .slice A6 (N.length + k) c6 ∧ Below w4.heap.size w5 wq ∧ w4.heap.size ≤ wq.heap.size ∧ wq.ownsRow w4.heap.size 30 4 (.slice A6 (N.length + k) c6) (N.length + k) (ecs (List.replicate N.length ⟨[63], 0, false, []⟩ ++ List.replicate k ⟨[33], 0, false, []⟩))) (fun _ s17 _ => 20 - (intOf s17).toNat)
            case atStart => exact ⟨0, A5, c5, Nat.zero_le _, rfl, rfl, HQ.out.1, HZ0.out, by rw [List.replicate_zero, List.append_nil]; exact HQ.out.2⟩
            case round =>
              obtain ⟨k, A6, c6, hk20, rfl, rfl, hbq, hsz, hrw⟩ := hrel
              have HQ2 := Lib.hid (And.intro hbq (And.intro hsz hrw))
              clear hbq hrw
              by_cases hkn : k < 20
              · have hck : (k : Int) < 20 := by omega
                go_wp2_with (at_builtin; refine wpList_appE _ rfl (.tmp 94) (.tmp 96) rfl w4.heap.size _ _ _ rfl (ownS_below HQ2.out.2.2 ((Below.refl _ _).alloc (Nat.le_refl _) _)) _ 1 1 [⟨[33], 0, false, []⟩] rfl (Sle.new wr ⟨[33], 0, false, []⟩) (by simp) (by omega) (by simp; omega) ?_; intro A7 c7 w7 hown7 hg7
                             have H7 := Lib.hid (And.intro hown7 hg7)
                             clear hown7 hg7)
                refine ⟨⟨k + 1, A7, c7, by omega, by go_num, by rw [Nat.add_assoc], ?_, ?_, ?_⟩, by simp only [intOf]; omega⟩
                · refine ((HQ2.out.1.alloc hsz _).grown H7.out.2 (by simp; omega) (fun k e => ownS_blk HQ2.out.2.2 k e))
                · have := H7.out.2.size
                  rw [World.size_alloc] at this
                  omega
                · have := H7.out.1
                  rw [List.append_assoc, ← List.replicate_succ', Nat.add_assoc] at this
                  exact this
              · have hck : ¬ (k : Int) < 20 := by omega
                obtain rfl : k = 20 := by omega
                have hWU := HW.out.2.2.2.2
                have hU4 := H4.out.2.2.2.2.2.2.2
                have hlt : ∀ k, k < Wb → k < w4.heap.size := fun k hk => by omega
                have hP6 : Po w wr t R S stop N A c := H5.out.1.keep (hlt _ HW.out.2.1.1) (hlt _ HW.out.2.1.2) (fun k hk => hlt k (HW.out.2.2.1 k hk)) (fun k hk => hlt k (HW.out.2.2.2.1 k hk)) (fun k hk => HQ2.out.1.block k hk) (H5.out.1.pl.tb.bel.trans (HQ2.out.1.mono (Nat.le_trans (Nat.le_trans HW.out.1 (Nat.le_of_lt hWU)) hU4)))
                have HP6 := Lib.hid hP6
                clear hP6
                go_wp2_with fail
                refine (all_any HP6.out.pl.tb.tbl HP6.out.pl.num (by omega)).mono ?_
                rintro r w8 ⟨A8, c8, rfl, hr8, hb8⟩
                have hcap8 := own_capE hr8
                have hs8 := own_sle hr8
                have HB8 := Lib.hid hb8
                clear hr8 hb8
                go_wp2_with fail
                refine (same4_any _ _ _ _ _ _ w8 hs8 (own_sle (HP6.out.below (HB8.out.mono (Nat.le_refl _))).pl.row) (by omega) hcap8 hcap).mono ?_
                rintro r w9 ⟨rfl, hb9⟩
                have hb89 := HB8.out.trans (hb9.mono HB8.out.size)
                have hM : Mp w w9 t R S Wb U.heap.size B1 B2 stop N.length ((esOf N).drop p) (pnt N[p]?) A2 c2 N p := by
                  have hP9 := HP6.out.below (hb89.mono (Nat.le_refl _))
                  have hes : ((esOf N).drop p).length = N.length - p := by rw [List.length_drop, hlen]
                  have hk : ∀ k, k < w4.heap.size → w9.heap[k]? = w5.heap[k]? := fun k hk => (hb89.block k (Nat.lt_of_lt_of_le hk HQ2.out.2.1)).trans (HQ2.out.1.block k hk)
                  refine ⟨hP9.pl.tb, hP9.pl.num, Nat.le_refl _, hpl, rfl, fl_drop hP9.pl.num p, hP9.sb, hP9.rb, ?_, ?_, H5.out.2.2.2.1.keep (hk _ H4.out.2.2.2.1.lt), H5.out.2.2.2.2.keep (hk _ H4.out.2.2.2.2.1.lt)⟩
                  · rw [hes]; exact (hk Wb (by omega)).trans H5.out.2.1
                  · rw [hes]; exact ownS_keep H5.out.2.2.1 fun k hk' => hk k (ownS_lt H4.out.2.2.1 k hk')
                have HM := Lib.hid hM
                clear hM hs8 hb9 hb89
                go_upto_block 8 with fail
                clear HB8 HP6 HQ2 HZ0 HQ H5r H5 H4 HW HSn HR hcap8
                go_cut [18] from 103 to 124 (fun s18 wx => ∃ (N' : List Nd) (p' : Nat) (i1 : Nat), N'.length ≤ 200 ∧ s18 = .int .i64 i1 ∧ Mp w wx t R S Wb U.heap.size B1 B2 stop N.length ((esOf N).drop p) (pnt N[p]?) A2 c2 N' p')
                case first =>
                  go_wp2_with fail
                  go_loopw [18] (fun s18 wq => ∃ (i1 : Nat) (N' : List Nd) (p' : Nat), i1 ≤ n1 ∧ i1 ≤ 100 ∧ N'.length ≤ N.length + i1 ∧ s18 = .int .i64 i1 ∧ Mp w wq t R S Wb U.heap.size B1 B2 stop N.length ((esOf N).drop p) (pnt N[p]?) A2 c2 N' p') (fun j _ => n1 - (intOf j).toNat)
                  case atStart => exact ⟨0, N, p, Nat.zero_le _, Nat.zero_le _, Nat.le_refl _, rfl, HM.out⟩
                  case round =>
                    obtain ⟨i1, N', p', hi1, hi2, hNl, rfl, hM⟩ := hrel
                    clear HM
                    have HM := Lib.hid hM
                    clear hM
                    by_cases hgo : i1 < n1 ∧ i1 < 100
                    · obtain ⟨hin, hi100⟩ := hgo
                      have hcN : (i1 : Int) < n1 := by omega
                      have hcM : (i1 : Int) < 100 := by omega
                      obtain ⟨b, off, o, rfl, ho, hok, c0', c1', c2', c3', c4', c5'⟩ := HR1.out.at_ hin
                      have hbr := HM.out.tb.bel
                      have k : ∀ {a : Addr} {u : Value}, w.cell? a = some u → ∀ V, Below w.heap.size w V → V.cell? a = some u := fun h V hV => (hV.cell (World.block_lt_of_cell? w _ h)).trans h
                      have d1 := k c1' wr hbr
                      have d2 := k c2' wr hbr
                      have d3 := k c3' wr hbr
                      have d4 := k c4' wr hbr
                      have d5 := k c5' wr hbr
                      clear c0' c1' c2' c3' c4' c5' ho k hbr
                      have hp := put_w ((HM.out.below (below_dN9 wr 1)).tb) (by omega) o.e o.ht hok.1
                      change Calls _ _ _ wr.drew (PutW w wr.drew t N' o.e) at hp
                      rw [ev_lit] at hp
                      have HP := Lib.hid hp
                      have HMd := Lib.hid (HM.out.below (below_dN9 wr 1))
                      clear hp
                      go_wp2_with fail
                      refine only_normal ?_
                      go_still_tail 11, (by kernel_rfl)
                      change wpList _ _ _ _ _ wr.drew
                      clear d1 d2 d3 d4 d5
                      change Hid (Mp w wr.drew t R S Wb U.heap.size B1 B2 stop N.length ((esOf N).drop p) (pnt N[p]?) A2 c2 N' p') at HMd
                      generalize wr.drew = w10 at HP HMd ⊢
                      go_wp2_with fail
                      refine HP.out.mono ?_
                      intro r w11 hq
                      obtain ⟨N'', p'', cd, rfl, hM', hl'⟩ := HMd.out.put hq
                      have HM' := Lib.hid hM'
                      clear hq hM'
                      go_wp2_with fail
                      exact ⟨⟨i1 + 1, N'', p'', by omega, by omega, by omega, by go_num, HM'.out⟩, by simp only [intOf]; omega⟩
                    · have hend : ¬ ((i1 : Int) < n1) ∨ ((i1 : Int) < n1 ∧ ¬ ((i1 : Int) < 100)) := by omega
                      rcases hend with hend | ⟨hend1, hend2⟩
                      · go_wp2_with fail
                        go_meet
                        exact ⟨N', p', i1, by omega, rfl, HM.out⟩
                      · go_wp2_with fail
                        go_meet
                        exact ⟨N', p', i1, by omega, rfl, HM.out⟩
                case rest =>
                  obtain ⟨N', p', i1, hNl, rfl, hM⟩ := hcut
                  clear HM
                  have HM := Lib.hid hM
                  clear hM
                  obtain ⟨es2, hes2⟩ : ∃ es2, es2 = (esOf N).drop p := ⟨_, rfl⟩
                  obtain ⟨v1, hv1⟩ : ∃ v1, v1 = pnt N[p]? := ⟨_, rfl⟩
                  rw [← hes2, ← hv1] at HM
                  have hes2l : es2.length ≤ 100 := by rw [hes2, List.length_drop]; omega
                  clear hes2 hv1
                  go_wp2_with fail
                  refine wp_loop_rounds 3 ?_
                  rw [rounds_succ]
                  go_wp2_with fail
                  obtain ⟨wX, hwX⟩ : ∃ wX, wX = wc := ⟨_, rfl⟩
                  subst hwX
                  obtain ⟨Z, hZq⟩ : ∃ Z, Z = wX.heap.size := ⟨_, rfl⟩
                  have hT0 : Tu wX ((wX.alloc (.cells #[.int .i64 0] 3)).alloc (.cells #[.int .i64 0] 3)) wX.heap.size wX.heap.size (wX.heap.size + 1) 0 0 [] :=
                    ⟨((Below.refl _ wX).alloc (Nat.le_refl _) _).alloc (by simp) _, by simp; omega, (Boxed.new wX _ _).alloc _, (by have := Boxed.new (wX.alloc (.cells #[.int .i64 0] 3)) 3 (.int .i64 0); rwa [World.size_alloc] at this), fun D hD => (by cases hD)⟩
                  have hV0s : Z < ((wX.alloc (.cells #[.int .i64 0] 3)).alloc (.cells #[.int .i64 0] 3)).heap.size := by rw [hZq]; simp; omega
                  generalize (wX.alloc (.cells #[.int .i64 0] 3)).alloc (.cells #[.int .i64 0] 3) = V0 at hT0 hV0s ⊢
                  obtain ⟨T, hTq⟩ : ∃ T, T = wX.heap.size := ⟨_, rfl⟩
                  obtain ⟨nB, hnq⟩ : ∃ nB, nB = wX.heap.size + 1 := ⟨_, rfl⟩
                  have hSZ : S < Z := by rw [hZq]; exact HM.out.sb.lt
                  rw [← hnq] at hT0 ⊢
                  have hT1 : Tu wX V0 Z T nB 0 0 [] := by rw [hZq, hTq]; exact hT0
                  have HT0 := Lib.hid hT1
                  rw [← hTq]
                  have hTn : T ≠ nB := by omega
                  have hZn : Z ≤ nB := by omega
                  have hSn10 : S ≠ nB := by omega
                  have hZV : Z ≤ V0.heap.size := by omega
                  have hDV : ∀ D ∈ ([] : List Nat), D < V0.heap.size := fun D hD => by cases hD
                  clear hT0 hT1 hTq hnq hSZ
                  have hMV0 := HM.out.below (hZq ▸ HT0.out.bel : Below wX.heap.size wX V0)
                  have hTv : Tv V0 N' B2 (N.length : Int) := ⟨hMV0.tb.tbl.tb.nd, hMV0.b2⟩
                  have hltv : ∀ k, tvf N' B2 k → k < V0.heap.size := fun k hk => hTv.lt hk
                  have htvZ : ∀ k, tvf N' B2 k → k < Z := fun k hk => by
                    rw [hZq]
                    exact Tv.lt (w := wX) ⟨HM.out.tb.tbl.tb.nd, HM.out.b2⟩ hk
                  have hfs := from_stops (m + 3) hMV0.tb.tbl.tall hMV0.tb.tbl.tb.nodup HM.out.le V0 hTv (by rw [HM.out.pn]; exact hMV0.b1)
                  rw [HM.out.fe] at hfs
                  clear hMV0 hTv
                  refine cut_range (fun D V => V0.heap.size ≤ D ∧ V.heap[D]? = some (.deferred (some [])) ∧ ∃ k : Int, Tu wX V Z T nB 0 k [] ∧ (k = (es2.length : Int) ∨ k = stop)) ?_ ?_
                  · refine (wpIn_wide (n := m + 5)).1 ?_
                    refine range9 21 130 rfl (by omega) rfl trivial (enters_of Try.func18 (by kernel_rfl) rfl) hfs (kps_t _) (kps_b hltv) (Below.refl _ _)
                      (fun pre V => Tu wX V Z T nB 0 (pre.length : Int) [] ∧ pre <+: es2 ∧ True ∧ V0.heap.size ≤ V.heap.size)
                      (fun cd pre V => (cd = .ret ∧ ¬ (pre <+: es2)) ∨ (cd = .exit 12 ∧ pre <+: es2 ∧ Tu wX V Z T nB 0 (pre.length : Int) [] ∧ (pre.length : Int) = stop))
                      (fun pre X Y row hs hg hr => ⟨hs.1.grown9 hg hr hZV hDV, hs.2.1, trivial, Nat.le_trans hs.2.2.2 hg.size⟩) (fun cd pre X Y row hs hg hr => hs.elim .inl (fun h => .inr ⟨h.1, h.2.1, h.2.2.1.grown9 hg hr hZV hDV, h.2.2.2⟩))
                      ⟨HT0.out, List.nil_prefix, trivial, Nat.le_refl _⟩ ?_ ?_ ?_ ?_
                    · rintro l pre x V K ⟨hs1, hs2, hs3, hs4⟩ hK
                      have HK := Lib.hid hK
                      have HI := Lib.hid (And.intro hs1 (And.intro hs2 (And.intro hs3 hs4)))
                      clear hK hs1 hs2 hs3 hs4
                      simp only [ev_lit, List.setIfInBounds_toArray, List.set_cons_succ, List.set_cons_zero]
                      gi_wp2_with fail
                      exact HK.out V.heap.size _ ((KeepsOthers.alloc _ _).from _) (fun k hk => Below.heap_alloc V _ _ (Nat.lt_of_lt_of_le (hltv k hk) HI.out.2.2.2)) ⟨HI.out.1.below ((Below.refl _ V).alloc (Nat.le_refl _) _), HI.out.2.1, trivial, by have := HI.out.2.2.2; simp; omega⟩ (Blk.new V _ _)
                    · rintro l pre x b V ⟨hs1, hs2, hs3, hs4⟩ hb hlenp
                      simp only [ev_lit, List.setIfInBounds_toArray, List.set_cons_succ, List.set_cons_zero]
                      have hMV := HM.out.below (hZq ▸ hs1.bel : Below wX.heap.size wX V)
                      have c0 := hs1.nb.cell
                      have c0f := hs1.nb.frozen
                      have c3 := hs1.tb.cell
                      have c1 := hMV.wb.cell
                      have c4 := hMV.sb.cell
                      have c2 : V.cell? ⟨R, 0, none⟩ = some (.bool false) := hMV.rb.cell
                      have c2f : V.frozen? ⟨R, 0, none⟩ = false := hMV.rb.frozen
                      have e0 : V.cell? ⟨b, 0, none⟩ = some (.string (str x.key)) := Blk.cell hb rfl
                      have e1 : V.cell? ⟨b, 1, none⟩ = some (.int .i64 x.seq) := Blk.cell hb rfl
                      have e2 : V.cell? ⟨b, 2, none⟩ = some (.bool x.del) := Blk.cell hb rfl
                      have e3 : V.cell? ⟨b, 3, none⟩ = some (.string (str x.val)) := Blk.cell hb rfl
                      have hsl := own_sle hMV.row
                      have HI := Lib.hid (And.intro hs1 (And.intro hs2 (And.intro hs3 hs4)))
                      clear hs1 hs2 hs3 hs4 hb hMV
                      by_cases hqn : pre.length < es2.length
                      · have hcq : (pre.length : Int) < es2.length := by omega
                        obtain ⟨b2, o2, y, hA2, hy, z0, z1, z2, z3⟩ := hsl.at_ hqn
                        subst hA2
                        have hnpo : y ≠ x → ¬ (pre ++ [x] <+: es2) := fun hne h => by
                          obtain ⟨r, hr⟩ := h
                          rw [← hr, List.append_assoc, List.getElem?_append_right (Nat.le_refl _), Nat.sub_self] at hy
                          exact hne (by simpa using hy.symm)
                        have htl : ∀ l : List UInt8, (str l).toList = l := fun l => ByteArray.toList_mk l
                        have HD := Lib.hid hy
                        clear hy hsl
                        by_cases hk : y.key = x.key
                        · by_cases hsq : y.seq = x.seq
                          · by_cases hd : y.del = x.del
                            · by_cases hv : y.val = x.val
                              · have hyx : y = x := by cases y; cases x; simp only at hk hsq hd hv; subst hk hsq hd hv; rfl
                                subst hyx
                                have hpfx : pre ++ [y] <+: es2 := by
                                  obtain ⟨r, hr⟩ := HI.out.2.1
                                  have hd0 := HD.out
                                  rw [← hr, List.getElem?_append_right (Nat.le_refl _), Nat.sub_self] at hd0
                                  cases r with
                                  | nil => cases hd0
                                  | cons z r =>
                                    simp only [List.getElem?_cons_zero, Option.some.injEq] at hd0
                                    subst hd0
                                    exact ⟨r, by rw [← hr]; simp⟩
                                have hfin : ∀ w9 : World, Tu wX w9 Z T nB 0 (pre.length : Int) [] → KeepsOthers V w9 → (∀ k : Nat, w9.heap[k]? = V.heap[k]?) → w9.heap.size = V.heap.size → KeepsFrom V0.heap.size V (w9.setCell ⟨nB, 0, none⟩ (.int .i64 ((pre.length : Int) + 1))) ∧ Kps (tvf N' B2) V (w9.setCell ⟨nB, 0, none⟩ (.int .i64 ((pre.length : Int) + 1))) ∧ Tu wX (w9.setCell ⟨nB, 0, none⟩ (.int .i64 ((pre.length : Int) + 1))) Z T nB 0 ((pre ++ [y]).length : Int) [] ∧ V0.heap.size ≤ (w9.setCell ⟨nB, 0, none⟩ (.int .i64 ((pre.length : Int) + 1))).heap.size := fun w9 p1 p2 p3 p5 => by
                                  refine ⟨(p2.trans (KeepsOthers.setCell _ _ _)).from _, fun k hk' => (heap_setCell_other w9 ⟨nB, 0, none⟩ k _ ?_).trans (p3 k), ?_, by rw [World.size_setCell, p5]; exact HI.out.2.2.2⟩
                                  · have := htvZ k hk'
                                    simp only; omega
                                  · have hl1 : ((pre ++ [y]).length : Int) = (pre.length : Int) + 1 := by rw [List.length_append, List.length_cons, List.length_nil]; omega
                                    rw [hl1]
                                    exact p1.setN hTn hZn _
                                have HFIN := Lib.hid hfin
                                clear hfin hk hsq hd hv htl hnpo
                                by_cases hstp : (pre.length : Int) + 1 = stop
                                · rw [← hstp] at c4
                                  gi_wp2
                                  refine calm_region_tail 10 (by rintro ⟨a, w, h⟩; exact h) (by kernel_rfl) (by kernel_rfl) (by kernel_rfl) ?_
                                  simp only [List.take_succ_cons, List.take_zero, List.drop_succ_cons, List.drop_zero]
                                  repeat still_step
                                  try refine wpStill_nil ?_
                                  change wpList _ _ _ _ _ V.drew
                                  have y0 : V.drew.cell? ⟨nB, 0, none⟩ = some (.int .i64 (pre.length : Int)) := c0
                                  have y1 : V.drew.frozen? ⟨nB, 0, none⟩ = false := c0f
                                  have y2 : V.drew.cell? ⟨R, 0, none⟩ = some (.bool false) := c2
                                  have y3 : V.drew.frozen? ⟨R, 0, none⟩ = false := c2f
                                  have y9 : V.drew.cell? ⟨T, 0, none⟩ = some (.int .i64 0) := c3
                                  have y10 : V.drew.cell? ⟨S, 0, none⟩ = some (.int .i64 ((pre.length : Int) + 1)) := c4
                                  have y4 := HI.out.1.below (Below.refl _ V).drew
                                  have y5 : KeepsOthers V V.drew := KeepsOthers.drew V
                                  have y6 : ∀ k : Nat, V.drew.heap[k]? = V.heap[k]? := fun _ => rfl
                                  have y8 : V.drew.heap.size = V.heap.size := rfl
                                  have HY := Lib.hid (And.intro y4 (And.intro y5 (And.intro y6 y8)))
                                  clear c0 c0f c1 c2 c2f c3 c4 e0 e1 e2 e3 y4 y5 y6 y8 z0 z1 z2 z3
                                  generalize V.drew = w9 at y0 y1 y2 y3 y9 y10 HY ⊢
                                  go_wp2_with fail
                                  all_goals try (exfalso; omega)
                                  have HF := Lib.hid (HFIN.out w9 HY.out.1 HY.out.2.1 HY.out.2.2.1 HY.out.2.2.2)
                                  have s1 : ∀ {bb : Nat} {u : Value}, bb ≠ nB → w9.cell? ⟨bb, 0, none⟩ = some u → (w9.setCell ⟨nB, 0, none⟩ (.int .i64 ((pre.length : Int) + 1))).cell? ⟨bb, 0, none⟩ = some u := fun h1 h2 => (World.cell?_of_block (heap_setCell_other w9 ⟨nB, 0, none⟩ _ _ h1)).trans h2
                                  have x9 := s1 hTn y9
                                  have x10 := s1 hSn10 y10
                                  have x0 := HF.out.2.2.1.nb.cell
                                  rw [List.length_append, List.length_cons, List.length_nil, Nat.zero_add, Int.natCast_add, Int.natCast_one] at x0
                                  gi_wp2_with fail
                                  have HFo := HF.out
                                  rw [hstp] at HFo
                                  all_goals first | exact ⟨HFo.1, .inr ⟨rfl, hpfx, HFo.2.2.1, by rw [List.length_append, List.length_cons, List.length_nil]; omega⟩⟩ | (exfalso; omega)
                                · gi_wp2
                                  refine calm_region_tail 10 (by rintro ⟨a, w, h⟩; exact h) (by kernel_rfl) (by kernel_rfl) (by kernel_rfl) ?_
                                  simp only [List.take_succ_cons, List.take_zero, List.drop_succ_cons, List.drop_zero]
                                  repeat still_step
                                  try refine wpStill_nil ?_
                                  change wpList _ _ _ _ _ V.drew
                                  have y0 : V.drew.cell? ⟨nB, 0, none⟩ = some (.int .i64 (pre.length : Int)) := c0
                                  have y1 : V.drew.frozen? ⟨nB, 0, none⟩ = false := c0f
                                  have y2 : V.drew.cell? ⟨R, 0, none⟩ = some (.bool false) := c2
                                  have y3 : V.drew.frozen? ⟨R, 0, none⟩ = false := c2f
                                  have y9 : V.drew.cell? ⟨T, 0, none⟩ = some (.int .i64 0) := c3
                                  have y10 : V.drew.cell? ⟨S, 0, none⟩ = some (.int .i64 stop) := c4
                                  have y4 := HI.out.1.below (Below.refl _ V).drew
                                  have y5 : KeepsOthers V V.drew := KeepsOthers.drew V
                                  have y6 : ∀ k : Nat, V.drew.heap[k]? = V.heap[k]? := fun _ => rfl
                                  have y8 : V.drew.heap.size = V.heap.size := rfl
                                  have HY := Lib.hid (And.intro y4 (And.intro y5 (And.intro y6 y8)))
                                  clear c0 c0f c1 c2 c2f c3 c4 e0 e1 e2 e3 y4 y5 y6 y8 z0 z1 z2 z3
                                  generalize V.drew = w9 at y0 y1 y2 y3 y9 y10 HY ⊢
                                  go_wp2_with fail
                                  all_goals try (exfalso; omega)
                                  have HF := Lib.hid (HFIN.out w9 HY.out.1 HY.out.2.1 HY.out.2.2.1 HY.out.2.2.2)
                                  have s1 : ∀ {bb : Nat} {u : Value}, bb ≠ nB → w9.cell? ⟨bb, 0, none⟩ = some u → (w9.setCell ⟨nB, 0, none⟩ (.int .i64 ((pre.length : Int) + 1))).cell? ⟨bb, 0, none⟩ = some u := fun h1 h2 => (World.cell?_of_block (heap_setCell_other w9 ⟨nB, 0, none⟩ _ _ h1)).trans h2
                                  have x9 := s1 hTn y9
                                  have x10 := s1 hSn10 y10
                                  have x0 := HF.out.2.2.1.nb.cell
                                  rw [List.length_append, List.length_cons, List.length_nil, Nat.zero_add, Int.natCast_add, Int.natCast_one] at x0
                                  gi_wp2_with fail
                                  all_goals first | exact ⟨HF.out.1, HF.out.2.1, HF.out.2.2.1, hpfx, trivial, HF.out.2.2.2⟩ | (exfalso; omega) | contradiction
                              · have hnp := hnpo (fun e => hv (by rw [e]))
                                have f2 : ((str y.val).toList == (str x.val).toList) = false := by rw [htl, htl]; simpa using hv
                                have f3 : ¬ (str y.val).toList = (str x.val).toList := by rw [htl, htl]; exact hv
                                rw [← hk] at e0
                                rw [← hsq] at e1
                                rw [← hd] at e2
                                clear hnpo htl hk hsq hd hv
                                gi_wp2
                                refine calm_region_tail 10 (by rintro ⟨a, w, h⟩; exact h) (by kernel_rfl) (by kernel_rfl) (by kernel_rfl) ?_
                                simp only [List.take_succ_cons, List.take_zero, List.drop_succ_cons, List.drop_zero]
                                repeat still_step
                                try refine wpStill_nil ?_
                                change wpList _ _ _ _ _ V.drew
                                have y0 : V.drew.cell? ⟨nB, 0, none⟩ = some (.int .i64 (pre.length : Int)) := c0
                                have y1 : V.drew.frozen? ⟨nB, 0, none⟩ = false := c0f
                                have y2 : V.drew.cell? ⟨R, 0, none⟩ = some (.bool false) := c2
                                have y3 : V.drew.frozen? ⟨R, 0, none⟩ = false := c2f
                                have y9 : V.drew.cell? ⟨T, 0, none⟩ = some (.int .i64 0) := c3
                                have y10 : V.drew.cell? ⟨S, 0, none⟩ = some (.int .i64 stop) := c4
                                have y4 := HI.out.1.below (Below.refl _ V).drew
                                have y5 : KeepsOthers V V.drew := KeepsOthers.drew V
                                have y6 : ∀ k : Nat, V.drew.heap[k]? = V.heap[k]? := fun _ => rfl
                                have y8 : V.drew.heap.size = V.heap.size := rfl
                                have HY := Lib.hid (And.intro y4 (And.intro y5 (And.intro y6 y8)))
                                clear c0 c0f c1 c2 c2f c3 c4 e0 e1 e2 e3 y4 y5 y6 y8 z0 z1 z2 z3
                                generalize V.drew = w9 at y0 y1 y2 y3 y9 y10 HY ⊢
                                go_wp2_with fail
                                gi_wp2_with fail
                                all_goals first | exact ⟨(HY.out.2.1.trans (KeepsOthers.setCell _ _ _)).from _, .inl ⟨rfl, hnp⟩⟩ | (exfalso; omega)
                            · have hnp := hnpo (fun e => hd (by rw [e]))
                              have f2 : (y.del == x.del) = false := by simpa using hd
                              rw [← hk] at e0
                              rw [← hsq] at e1
                              clear hnpo htl hk hsq
                              gi_wp2
                              refine calm_region_tail 10 (by rintro ⟨a, w, h⟩; exact h) (by kernel_rfl) (by kernel_rfl) (by kernel_rfl) ?_
                              simp only [List.take_succ_cons, List.take_zero, List.drop_succ_cons, List.drop_zero]
                              repeat still_step
                              try refine wpStill_nil ?_
                              change wpList _ _ _ _ _ V.drew
                              have y0 : V.drew.cell? ⟨nB, 0, none⟩ = some (.int .i64 (pre.length : Int)) := c0
                              have y1 : V.drew.frozen? ⟨nB, 0, none⟩ = false := c0f
                              have y2 : V.drew.cell? ⟨R, 0, none⟩ = some (.bool false) := c2
                              have y3 : V.drew.frozen? ⟨R, 0, none⟩ = false := c2f
                              have y9 : V.drew.cell? ⟨T, 0, none⟩ = some (.int .i64 0) := c3
                              have y10 : V.drew.cell? ⟨S, 0, none⟩ = some (.int .i64 stop) := c4
                              have y4 := HI.out.1.below (Below.refl _ V).drew
                              have y5 : KeepsOthers V V.drew := KeepsOthers.drew V
                              have y6 : ∀ k : Nat, V.drew.heap[k]? = V.heap[k]? := fun _ => rfl
                              have y8 : V.drew.heap.size = V.heap.size := rfl
                              have HY := Lib.hid (And.intro y4 (And.intro y5 (And.intro y6 y8)))
                              clear c0 c0f c1 c2 c2f c3 c4 e0 e1 e2 e3 y4 y5 y6 y8 z0 z1 z2 z3
                              generalize V.drew = w9 at y0 y1 y2 y3 y9 y10 HY ⊢
                              go_wp2_with fail
                              gi_wp2_with fail
                              all_goals first | exact ⟨(HY.out.2.1.trans (KeepsOthers.setCell _ _ _)).from _, .inl ⟨rfl, hnp⟩⟩ | (exfalso; omega)
                          · have hnp := hnpo (fun e => hsq (by rw [e]))
                            rw [← hk] at e0
                            clear hnpo htl hk
                            gi_wp2
                            refine calm_region_tail 10 (by rintro ⟨a, w, h⟩; exact h) (by kernel_rfl) (by kernel_rfl) (by kernel_rfl) ?_
                            simp only [List.take_succ_cons, List.take_zero, List.drop_succ_cons, List.drop_zero]
                            repeat still_step
                            try refine wpStill_nil ?_
                            change wpList _ _ _ _ _ V.drew
                            have y0 : V.drew.cell? ⟨nB, 0, none⟩ = some (.int .i64 (pre.length : Int)) := c0
                            have y1 : V.drew.frozen? ⟨nB, 0, none⟩ = false := c0f
                            have y2 : V.drew.cell? ⟨R, 0, none⟩ = some (.bool false) := c2
                            have y3 : V.drew.frozen? ⟨R, 0, none⟩ = false := c2f
                            have y9 : V.drew.cell? ⟨T, 0, none⟩ = some (.int .i64 0) := c3
                            have y10 : V.drew.cell? ⟨S, 0, none⟩ = some (.int .i64 stop) := c4
                            have y4 := HI.out.1.below (Below.refl _ V).drew
                            have y5 : KeepsOthers V V.drew := KeepsOthers.drew V
                            have y6 : ∀ k : Nat, V.drew.heap[k]? = V.heap[k]? := fun _ => rfl
                            have y8 : V.drew.heap.size = V.heap.size := rfl
                            have HY := Lib.hid (And.intro y4 (And.intro y5 (And.intro y6 y8)))
                            clear c0 c0f c1 c2 c2f c3 c4 e0 e1 e2 e3 y4 y5 y6 y8 z0 z1 z2 z3
                            generalize V.drew = w9 at y0 y1 y2 y3 y9 y10 HY ⊢
                            go_wp2_with fail
                            gi_wp2_with fail
                            all_goals first | exact ⟨(HY.out.2.1.trans (KeepsOthers.setCell _ _ _)).from _, .inl ⟨rfl, hnp⟩⟩ | (exfalso; omega)
                        · have hnp := hnpo (fun e => hk (by rw [e]))
                          have f2 : ((str y.key).toList == (str x.key).toList) = false := by rw [htl, htl]; simpa using hk
                          have f3 : ¬ (str y.key).toList = (str x.key).toList := by rw [htl, htl]; exact hk
                          clear hnpo htl hk
                          gi_wp2
                          refine calm_region_tail 10 (by rintro ⟨a, w, h⟩; exact h) (by kernel_rfl) (by kernel_rfl) (by kernel_rfl) ?_
                          simp only [List.take_succ_cons, List.take_zero, List.drop_succ_cons, List.drop_zero]
                          repeat still_step
                          try refine wpStill_nil ?_
                          change wpList _ _ _ _ _ V.drew
                          have y0 : V.drew.cell? ⟨nB, 0, none⟩ = some (.int .i64 (pre.length : Int)) := c0
                          have y1 : V.drew.frozen? ⟨nB, 0, none⟩ = false := c0f
                          have y2 : V.drew.cell? ⟨R, 0, none⟩ = some (.bool false) := c2
                          have y3 : V.drew.frozen? ⟨R, 0, none⟩ = false := c2f
                          have y9 : V.drew.cell? ⟨T, 0, none⟩ = some (.int .i64 0) := c3
                          have y10 : V.drew.cell? ⟨S, 0, none⟩ = some (.int .i64 stop) := c4
                          have y4 := HI.out.1.below (Below.refl _ V).drew
                          have y5 : KeepsOthers V V.drew := KeepsOthers.drew V
                          have y6 : ∀ k : Nat, V.drew.heap[k]? = V.heap[k]? := fun _ => rfl
                          have y8 : V.drew.heap.size = V.heap.size := rfl
                          have HY := Lib.hid (And.intro y4 (And.intro y5 (And.intro y6 y8)))
                          clear c0 c0f c1 c2 c2f c3 c4 e0 e1 e2 e3 y4 y5 y6 y8 z0 z1 z2 z3
                          generalize V.drew = w9 at y0 y1 y2 y3 y9 y10 HY ⊢
                          go_wp2_with fail
                          gi_wp2_with fail
                          all_goals first | exact ⟨(HY.out.2.1.trans (KeepsOthers.setCell _ _ _)).from _, .inl ⟨rfl, hnp⟩⟩ | (exfalso; omega)
                      · have hcq : (es2.length : Int) ≤ pre.length := by omega
                        have hnp : ¬ (pre ++ [x] <+: es2) := fun h => by
                          have h1 := h.length_le
                          rw [List.length_append, List.length_cons, List.length_nil] at h1
                          omega
                        clear hsl
                        gi_wp2
                        refine calm_region_tail 10 (by rintro ⟨a, w, h⟩; exact h) (by kernel_rfl) (by kernel_rfl) (by kernel_rfl) ?_
                        simp only [List.take_succ_cons, List.take_zero, List.drop_succ_cons, List.drop_zero]
                        repeat still_step
                        try refine wpStill_nil ?_
                        change wpList _ _ _ _ _ V.drew
                        have y0 : V.drew.cell? ⟨nB, 0, none⟩ = some (.int .i64 (pre.length : Int)) := c0
                        have y1 : V.drew.frozen? ⟨nB, 0, none⟩ = false := c0f
                        have y2 : V.drew.cell? ⟨R, 0, none⟩ = some (.bool false) := c2
                        have y3 : V.drew.frozen? ⟨R, 0, none⟩ = false := c2f
                        have y9 : V.drew.cell? ⟨T, 0, none⟩ = some (.int .i64 0) := c3
                        have y10 : V.drew.cell? ⟨S, 0, none⟩ = some (.int .i64 stop) := c4
                        have y4 := HI.out.1.below (Below.refl _ V).drew
                        have y5 : KeepsOthers V V.drew := KeepsOthers.drew V
                        have y6 : ∀ k : Nat, V.drew.heap[k]? = V.heap[k]? := fun _ => rfl
                        have y8 : V.drew.heap.size = V.heap.size := rfl
                        have HY := Lib.hid (And.intro y4 (And.intro y5 (And.intro y6 y8)))
                        clear c0 c0f c1 c2 c2f c3 c4 e0 e1 e2 e3 y4 y5 y6 y8
                        generalize V.drew = w9 at y0 y1 y2 y3 y9 y10 HY ⊢
                        go_wp2_with fail
                        gi_wp2_with fail
                        all_goals first | exact ⟨(HY.out.2.1.trans (KeepsOthers.setCell _ _ _)).from _, .inl ⟨rfl, hnp⟩⟩ | (exfalso; omega)
                    · rintro D xs V hD hxs ⟨hs1, hs2, hs3, hs4⟩ hK
                      exact ⟨.inl rfl, D, rfl, hD, hK, _, hs1, .inl (by rw [hxs])⟩
                    · rintro D cd pre V hD hpre hF hK
                      rcases hF with hF | ⟨rfl, _, hF, hst2⟩
                      · exact absurd hpre hF.2
                      · gi_wp2_with fail
                        first | exact ⟨.inr rfl, D, rfl, hD, hK, _, hF, .inr hst2⟩ | exact ⟨D, rfl, hD, hK, _, hF, .inr hst2⟩ | exact ⟨hD, hK, _, hF, .inr hst2⟩ | exact ⟨_, hF, .inr hst2⟩ | (rw [hZq] at hF; exact ⟨_, hF, .inr hst2⟩)
                  · rintro D1 V1 ⟨hD1, hK1, k1, hT1, hk1⟩
                    have hMV1 := HM.out.below (hZq ▸ hT1.bel : Below wX.heap.size wX V1)
                    have c3 := hT1.tb.cell
                    have c0 := hT1.nb.cell
                    have c1 := hMV1.wb.cell
                    have c4 := hMV1.sb.cell
                    have H1 := Lib.hid (And.intro hT1 (And.intro hD1 hK1))
                    clear hT1 hD1 hK1 hMV1
                    go_upto_region 45 with fail
                    go_cut [164] from 152 to 164 (fun s164 wx => s164 = .bool false ∧ wx = V1)
                    case first =>
                      rcases hk1 with rfl | rfl
                      · go_wp2_with fail
                        all_goals first | (go_meet; exact ⟨rfl, rfl⟩)
                      · go_wp2_with fail
                        all_goals first | (go_meet; exact ⟨rfl, rfl⟩)
                    case rest =>
                      obtain ⟨rfl, rfl⟩ := hcut
                      have hlW : D1 < wc.heap.size := (Array.getElem?_eq_some_iff.1 H1.out.2.2).1
                      have hZc := H1.out.1.zle
                      go_wp2_with fail
                      rw [rounds_succ]
                      go_wp2_with fail
                      have hT2 : Tu wX ((wc.alloc (.cells #[.int .i64 1] 3)).alloc (.cells #[.int .i64 0] 3)) Z wc.heap.size (wc.heap.size + 1) 1 0 [D1] :=
                        ⟨(H1.out.1.bel.alloc hZc _).alloc (by simp; omega) _, by simp; omega, (Boxed.new wc _ _).alloc _, (by have := Boxed.new (wc.alloc (.cells #[.int .i64 1] 3)) 3 (.int .i64 0); rwa [World.size_alloc] at this), fun D hD => by
                          obtain rfl := List.mem_singleton.1 hD
                          exact ((Below.heap_alloc _ _ _ (by simp; omega)).trans (Below.heap_alloc _ _ _ hlW)).trans H1.out.2.2⟩
                      have hV2s : wc.heap.size + 1 < ((wc.alloc (.cells #[.int .i64 1] 3)).alloc (.cells #[.int .i64 0] 3)).heap.size := by simp
                      generalize (wc.alloc (.cells #[.int .i64 1] 3)).alloc (.cells #[.int .i64 0] 3) = V2 at hT2 hV2s ⊢
                      have hZD1 : Z ≤ D1 := by have := H1.out.2.1; omega
                      clear hTn hZn hSn10 hZV hDV hfs htvZ hltv c3 c0 c1 c4 hV0s
                      obtain ⟨T2, hTq⟩ : ∃ T2, T2 = wc.heap.size := ⟨_, rfl⟩
                      obtain ⟨nB2, hnq⟩ : ∃ nB2, nB2 = wc.heap.size + 1 := ⟨_, rfl⟩
                      have hSZ : S < Z := by rw [hZq]; exact HM.out.sb.lt
                      rw [← hnq] at hT2 ⊢
                      rw [← hTq] at hT2 ⊢
                      have HT2 := Lib.hid hT2
                      have hTn : T2 ≠ nB2 := by omega
                      have hZn : Z ≤ nB2 := by omega
                      have hSn10 : S ≠ nB2 := by omega
                      have hZV : Z ≤ V2.heap.size := by omega
                      have hDV : ∀ D ∈ [D1], D < V2.heap.size := fun D hD => by rw [List.mem_singleton] at hD; omega
                      clear hT2 hTq hnq hSZ
                      have hMV0 := HM.out.below (hZq ▸ HT2.out.bel : Below wX.heap.size wX V2)
                      have hTv : Tv V2 N' B2 (N.length : Int) := ⟨hMV0.tb.tbl.tb.nd, hMV0.b2⟩
                      have hltv : ∀ k, tvf N' B2 k → k < V2.heap.size := fun k hk => hTv.lt hk
                      have htvZ : ∀ k, tvf N' B2 k → k < Z := fun k hk => by
                        rw [hZq]
                        exact Tv.lt (w := wX) ⟨HM.out.tb.tbl.tb.nd, HM.out.b2⟩ hk
                      have hfs := from_stops (m + 3) hMV0.tb.tbl.tall hMV0.tb.tbl.tb.nodup HM.out.le V2 hTv (by rw [HM.out.pn]; exact hMV0.b1)
                      rw [HM.out.fe] at hfs
                      clear hMV0 hTv
                      refine cut_range (fun D V => V2.heap.size ≤ D ∧ V.heap[D]? = some (.deferred (some [])) ∧ ∃ k : Int, Tu wX V Z T2 nB2 1 k [D1] ∧ (k = (es2.length : Int))) ?_ ?_
                      · refine (wpIn_wide (n := m + 5)).1 ?_
                        refine range9 21 130 rfl (by omega) rfl trivial (enters_of Try.func18 (by kernel_rfl) rfl) hfs (kps_t _) (kps_b hltv) (Below.refl _ _)
                          (fun pre V => Tu wX V Z T2 nB2 1 (pre.length : Int) [D1] ∧ pre <+: es2 ∧ True ∧ V2.heap.size ≤ V.heap.size)
                          (fun cd pre V => (cd = .ret ∧ ¬ (pre <+: es2)) ∨ False)
                          (fun pre X Y row hs hg hr => ⟨hs.1.grown9 hg hr hZV hDV, hs.2.1, trivial, Nat.le_trans hs.2.2.2 hg.size⟩) (fun cd pre X Y row hs hg hr => hs)
                          ⟨HT2.out, List.nil_prefix, trivial, Nat.le_refl _⟩ ?_ ?_ ?_ ?_
                        · rintro l pre x V K ⟨hs1, hs2, hs3, hs4⟩ hK
                          have HK := Lib.hid hK
                          have HI := Lib.hid (And.intro hs1 (And.intro hs2 (And.intro hs3 hs4)))
                          clear hK hs1 hs2 hs3 hs4
                          simp only [ev_lit, List.setIfInBounds_toArray, List.set_cons_succ, List.set_cons_zero]
                          gi_wp2_with fail
                          exact HK.out V.heap.size _ ((KeepsOthers.alloc _ _).from _) (fun k hk => Below.heap_alloc V _ _ (Nat.lt_of_lt_of_le (hltv k hk) HI.out.2.2.2)) ⟨HI.out.1.below ((Below.refl _ V).alloc (Nat.le_refl _) _), HI.out.2.1, trivial, by have := HI.out.2.2.2; simp; omega⟩ (Blk.new V _ _)
                        · rintro l pre x b V ⟨hs1, hs2, hs3, hs4⟩ hb hlenp
                          simp only [ev_lit, List.setIfInBounds_toArray, List.set_cons_succ, List.set_cons_zero]
                          have hMV := HM.out.below (hZq ▸ hs1.bel : Below wX.heap.size wX V)
                          have c0 := hs1.nb.cell
                          have c0f := hs1.nb.frozen
                          have c3 := hs1.tb.cell
                          have c1 := hMV.wb.cell
                          have c4 := hMV.sb.cell
                          have c2 : V.cell? ⟨R, 0, none⟩ = some (.bool false) := hMV.rb.cell
                          have c2f : V.frozen? ⟨R, 0, none⟩ = false := hMV.rb.frozen
                          have e0 : V.cell? ⟨b, 0, none⟩ = some (.string (str x.key)) := Blk.cell hb rfl
                          have e1 : V.cell? ⟨b, 1, none⟩ = some (.int .i64 x.seq) := Blk.cell hb rfl
                          have e2 : V.cell? ⟨b, 2, none⟩ = some (.bool x.del) := Blk.cell hb rfl
                          have e3 : V.cell? ⟨b, 3, none⟩ = some (.string (str x.val)) := Blk.cell hb rfl
                          have hsl := own_sle hMV.row
                          have HI := Lib.hid (And.intro hs1 (And.intro hs2 (And.intro hs3 hs4)))
                          clear hs1 hs2 hs3 hs4 hb hMV
                          by_cases hqn : pre.length < es2.length
                          · have hcq : (pre.length : Int) < es2.length := by omega
                            obtain ⟨b2, o2, y, hA2, hy, z0, z1, z2, z3⟩ := hsl.at_ hqn
                            subst hA2
                            have hnpo : y ≠ x → ¬ (pre ++ [x] <+: es2) := fun hne h => by
                              obtain ⟨r, hr⟩ := h
                              rw [← hr, List.append_assoc, List.getElem?_append_right (Nat.le_refl _), Nat.sub_self] at hy
                              exact hne (by simpa using hy.symm)
                            have htl : ∀ l : List UInt8, (str l).toList = l := fun l => ByteArray.toList_mk l
                            have HD := Lib.hid hy
                            clear hy hsl
                            by_cases hk : y.key = x.key
                            · by_cases hsq : y.seq = x.seq
                              · by_cases hd : y.del = x.del
                                · by_cases hv : y.val = x.val
                                  · have hyx : y = x := by cases y; cases x; simp only at hk hsq hd hv; subst hk hsq hd hv; rfl
                                    subst hyx
                                    have hpfx : pre ++ [y] <+: es2 := by
                                      obtain ⟨r, hr⟩ := HI.out.2.1
                                      have hd0 := HD.out
                                      rw [← hr, List.getElem?_append_right (Nat.le_refl _), Nat.sub_self] at hd0
                                      cases r with
                                      | nil => cases hd0
                                      | cons z r =>
                                        simp only [List.getElem?_cons_zero, Option.some.injEq] at hd0
                                        subst hd0
                                        exact ⟨r, by rw [← hr]; simp⟩
                                    have hfin : ∀ w9 : World, Tu wX w9 Z T2 nB2 1 (pre.length : Int) [D1] → KeepsOthers V w9 → (∀ k : Nat, w9.heap[k]? = V.heap[k]?) → w9.heap.size = V.heap.size → KeepsFrom V2.heap.size V (w9.setCell ⟨nB2, 0, none⟩ (.int .i64 ((pre.length : Int) + 1))) ∧ Kps (tvf N' B2) V (w9.setCell ⟨nB2, 0, none⟩ (.int .i64 ((pre.length : Int) + 1))) ∧ Tu wX (w9.setCell ⟨nB2, 0, none⟩ (.int .i64 ((pre.length : Int) + 1))) Z T2 nB2 1 ((pre ++ [y]).length : Int) [D1] ∧ V2.heap.size ≤ (w9.setCell ⟨nB2, 0, none⟩ (.int .i64 ((pre.length : Int) + 1))).heap.size := fun w9 p1 p2 p3 p5 => by
                                      refine ⟨(p2.trans (KeepsOthers.setCell _ _ _)).from _, fun k hk' => (heap_setCell_other w9 ⟨nB2, 0, none⟩ k _ ?_).trans (p3 k), ?_, by rw [World.size_setCell, p5]; exact HI.out.2.2.2⟩
                                      · have := htvZ k hk'
                                        simp only; omega
                                      · have hl1 : ((pre ++ [y]).length : Int) = (pre.length : Int) + 1 := by rw [List.length_append, List.length_cons, List.length_nil]; omega
                                        rw [hl1]
                                        exact p1.setN hTn hZn _
                                    have HFIN := Lib.hid hfin
                                    clear hfin hk hsq hd hv htl hnpo
                                    gi_wp2
                                    refine calm_region_tail 10 (by rintro ⟨a, w, h⟩; exact h) (by kernel_rfl) (by kernel_rfl) (by kernel_rfl) ?_
                                    simp only [List.take_succ_cons, List.take_zero, List.drop_succ_cons, List.drop_zero]
                                    repeat still_step
                                    try refine wpStill_nil ?_
                                    change wpList _ _ _ _ _ V.drew
                                    have y0 : V.drew.cell? ⟨nB2, 0, none⟩ = some (.int .i64 (pre.length : Int)) := c0
                                    have y1 : V.drew.frozen? ⟨nB2, 0, none⟩ = false := c0f
                                    have y2 : V.drew.cell? ⟨R, 0, none⟩ = some (.bool false) := c2
                                    have y3 : V.drew.frozen? ⟨R, 0, none⟩ = false := c2f
                                    have y9 : V.drew.cell? ⟨T2, 0, none⟩ = some (.int .i64 1) := c3
                                    have y10 : V.drew.cell? ⟨S, 0, none⟩ = some (.int .i64 stop) := c4
                                    have y4 := HI.out.1.below (Below.refl _ V).drew
                                    have y5 : KeepsOthers V V.drew := KeepsOthers.drew V
                                    have y6 : ∀ k : Nat, V.drew.heap[k]? = V.heap[k]? := fun _ => rfl
                                    have y8 : V.drew.heap.size = V.heap.size := rfl
                                    have HY := Lib.hid (And.intro y4 (And.intro y5 (And.intro y6 y8)))
                                    clear c0 c0f c1 c2 c2f c3 c4 e0 e1 e2 e3 y4 y5 y6 y8 z0 z1 z2 z3
                                    generalize V.drew = w9 at y0 y1 y2 y3 y9 y10 HY ⊢
                                    go_wp2_with fail
                                    all_goals try (exfalso; omega)
                                    have HF := Lib.hid (HFIN.out w9 HY.out.1 HY.out.2.1 HY.out.2.2.1 HY.out.2.2.2)
                                    have s1 : ∀ {bb : Nat} {u : Value}, bb ≠ nB2 → w9.cell? ⟨bb, 0, none⟩ = some u → (w9.setCell ⟨nB2, 0, none⟩ (.int .i64 ((pre.length : Int) + 1))).cell? ⟨bb, 0, none⟩ = some u := fun h1 h2 => (World.cell?_of_block (heap_setCell_other w9 ⟨nB2, 0, none⟩ _ _ h1)).trans h2
                                    have x9 := s1 hTn y9
                                    have x10 := s1 hSn10 y10
                                    have x0 := HF.out.2.2.1.nb.cell
                                    rw [List.length_append, List.length_cons, List.length_nil, Nat.zero_add, Int.natCast_add, Int.natCast_one] at x0
                                    gi_wp2_with fail
                                    all_goals first | exact ⟨HF.out.1, HF.out.2.1, HF.out.2.2.1, hpfx, trivial, HF.out.2.2.2⟩ | (exfalso; omega) | contradiction
                                  · have hnp := hnpo (fun e => hv (by rw [e]))
                                    have f2 : ((str y.val).toList == (str x.val).toList) = false := by rw [htl, htl]; simpa using hv
                                    have f3 : ¬ (str y.val).toList = (str x.val).toList := by rw [htl, htl]; exact hv
                                    rw [← hk] at e0
                                    rw [← hsq] at e1
                                    rw [← hd] at e2
                                    clear hnpo htl hk hsq hd hv
                                    gi_wp2
                                    refine calm_region_tail 10 (by rintro ⟨a, w, h⟩; exact h) (by kernel_rfl) (by kernel_rfl) (by kernel_rfl) ?_
                                    simp only [List.take_succ_cons, List.take_zero, List.drop_succ_cons, List.drop_zero]
                                    repeat still_step
                                    try refine wpStill_nil ?_
                                    change wpList _ _ _ _ _ V.drew
                                    have y0 : V.drew.cell? ⟨nB2, 0, none⟩ = some (.int .i64 (pre.length : Int)) := c0
                                    have y1 : V.drew.frozen? ⟨nB2, 0, none⟩ = false := c0f
                                    have y2 : V.drew.cell? ⟨R, 0, none⟩ = some (.bool false) := c2
                                    have y3 : V.drew.frozen? ⟨R, 0, none⟩ = false := c2f
                                    have y9 : V.drew.cell? ⟨T2, 0, none⟩ = some (.int .i64 1) := c3
                                    have y10 : V.drew.cell? ⟨S, 0, none⟩ = some (.int .i64 stop) := c4
                                    have y4 := HI.out.1.below (Below.refl _ V).drew
                                    have y5 : KeepsOthers V V.drew := KeepsOthers.drew V
                                    have y6 : ∀ k : Nat, V.drew.heap[k]? = V.heap[k]? := fun _ => rfl
                                    have y8 : V.drew.heap.size = V.heap.size := rfl
                                    have HY := Lib.hid (And.intro y4 (And.intro y5 (And.intro y6 y8)))
                                    clear c0 c0f c1 c2 c2f c3 c4 e0 e1 e2 e3 y4 y5 y6 y8 z0 z1 z2 z3
                                    generalize V.drew = w9 at y0 y1 y2 y3 y9 y10 HY ⊢
                                    go_wp2_with fail
                                    gi_wp2_with fail
                                    all_goals first | exact ⟨(HY.out.2.1.trans (KeepsOthers.setCell _ _ _)).from _, .inl ⟨rfl, hnp⟩⟩ | (exfalso; omega)
                                · have hnp := hnpo (fun e => hd (by rw [e]))
                                  have f2 : (y.del == x.del) = false := by simpa using hd
                                  rw [← hk] at e0
                                  rw [← hsq] at e1
                                  clear hnpo htl hk hsq
                                  gi_wp2
                                  refine calm_region_tail 10 (by rintro ⟨a, w, h⟩; exact h) (by kernel_rfl) (by kernel_rfl) (by kernel_rfl) ?_
                                  simp only [List.take_succ_cons, List.take_zero, List.drop_succ_cons, List.drop_zero]
                                  repeat still_step
                                  try refine wpStill_nil ?_
                                  change wpList _ _ _ _ _ V.drew
                                  have y0 : V.drew.cell? ⟨nB2, 0, none⟩ = some (.int .i64 (pre.length : Int)) := c0
                                  have y1 : V.drew.frozen? ⟨nB2, 0, none⟩ = false := c0f
                                  have y2 : V.drew.cell? ⟨R, 0, none⟩ = some (.bool false) := c2
                                  have y3 : V.drew.frozen? ⟨R, 0, none⟩ = false := c2f
                                  have y9 : V.drew.cell? ⟨T2, 0, none⟩ = some (.int .i64 1) := c3
                                  have y10 : V.drew.cell? ⟨S, 0, none⟩ = some (.int .i64 stop) := c4
                                  have y4 := HI.out.1.below (Below.refl _ V).drew
                                  have y5 : KeepsOthers V V.drew := KeepsOthers.drew V
                                  have y6 : ∀ k : Nat, V.drew.heap[k]? = V.heap[k]? := fun _ => rfl
                                  have y8 : V.drew.heap.size = V.heap.size := rfl
                                  have HY := Lib.hid (And.intro y4 (And.intro y5 (And.intro y6 y8)))
                                  clear c0 c0f c1 c2 c2f c3 c4 e0 e1 e2 e3 y4 y5 y6 y8 z0 z1 z2 z3
                                  generalize V.drew = w9 at y0 y1 y2 y3 y9 y10 HY ⊢
                                  go_wp2_with fail
                                  gi_wp2_with fail
                                  all_goals first | exact ⟨(HY.out.2.1.trans (KeepsOthers.setCell _ _ _)).from _, .inl ⟨rfl, hnp⟩⟩ | (exfalso; omega)
                              · have hnp := hnpo (fun e => hsq (by rw [e]))
                                rw [← hk] at e0
                                clear hnpo htl hk
                                gi_wp2
                                refine calm_region_tail 10 (by rintro ⟨a, w, h⟩; exact h) (by kernel_rfl) (by kernel_rfl) (by kernel_rfl) ?_
                                simp only [List.take_succ_cons, List.take_zero, List.drop_succ_cons, List.drop_zero]
                                repeat still_step
                                try refine wpStill_nil ?_
                                change wpList _ _ _ _ _ V.drew
                                have y0 : V.drew.cell? ⟨nB2, 0, none⟩ = some (.int .i64 (pre.length : Int)) := c0
                                have y1 : V.drew.frozen? ⟨nB2, 0, none⟩ = false := c0f
                                have y2 : V.drew.cell? ⟨R, 0, none⟩ = some (.bool false) := c2
                                have y3 : V.drew.frozen? ⟨R, 0, none⟩ = false := c2f
                                have y9 : V.drew.cell? ⟨T2, 0, none⟩ = some (.int .i64 1) := c3
                                have y10 : V.drew.cell? ⟨S, 0, none⟩ = some (.int .i64 stop) := c4
                                have y4 := HI.out.1.below (Below.refl _ V).drew
                                have y5 : KeepsOthers V V.drew := KeepsOthers.drew V
                                have y6 : ∀ k : Nat, V.drew.heap[k]? = V.heap[k]? := fun _ => rfl
                                have y8 : V.drew.heap.size = V.heap.size := rfl
                                have HY := Lib.hid (And.intro y4 (And.intro y5 (And.intro y6 y8)))
                                clear c0 c0f c1 c2 c2f c3 c4 e0 e1 e2 e3 y4 y5 y6 y8 z0 z1 z2 z3
                                generalize V.drew = w9 at y0 y1 y2 y3 y9 y10 HY ⊢
                                go_wp2_with fail
                                gi_wp2_with fail
                                all_goals first | exact ⟨(HY.out.2.1.trans (KeepsOthers.setCell _ _ _)).from _, .inl ⟨rfl, hnp⟩⟩ | (exfalso; omega)
                            · have hnp := hnpo (fun e => hk (by rw [e]))
                              have f2 : ((str y.key).toList == (str x.key).toList) = false := by rw [htl, htl]; simpa using hk
                              have f3 : ¬ (str y.key).toList = (str x.key).toList := by rw [htl, htl]; exact hk
                              clear hnpo htl hk
                              gi_wp2
                              refine calm_region_tail 10 (by rintro ⟨a, w, h⟩; exact h) (by kernel_rfl) (by kernel_rfl) (by kernel_rfl) ?_
                              simp only [List.take_succ_cons, List.take_zero, List.drop_succ_cons, List.drop_zero]
                              repeat still_step
                              try refine wpStill_nil ?_
                              change wpList _ _ _ _ _ V.drew
                              have y0 : V.drew.cell? ⟨nB2, 0, none⟩ = some (.int .i64 (pre.length : Int)) := c0
                              have y1 : V.drew.frozen? ⟨nB2, 0, none⟩ = false := c0f
                              have y2 : V.drew.cell? ⟨R, 0, none⟩ = some (.bool false) := c2
                              have y3 : V.drew.frozen? ⟨R, 0, none⟩ = false := c2f
                              have y9 : V.drew.cell? ⟨T2, 0, none⟩ = some (.int .i64 1) := c3
                              have y10 : V.drew.cell? ⟨S, 0, none⟩ = some (.int .i64 stop) := c4
                              have y4 := HI.out.1.below (Below.refl _ V).drew
                              have y5 : KeepsOthers V V.drew := KeepsOthers.drew V
                              have y6 : ∀ k : Nat, V.drew.heap[k]? = V.heap[k]? := fun _ => rfl
                              have y8 : V.drew.heap.size = V.heap.size := rfl
                              have HY := Lib.hid (And.intro y4 (And.intro y5 (And.intro y6 y8)))
                              clear c0 c0f c1 c2 c2f c3 c4 e0 e1 e2 e3 y4 y5 y6 y8 z0 z1 z2 z3
                              generalize V.drew = w9 at y0 y1 y2 y3 y9 y10 HY ⊢
                              go_wp2_with fail
                              gi_wp2_with fail
                              all_goals first | exact ⟨(HY.out.2.1.trans (KeepsOthers.setCell _ _ _)).from _, .inl ⟨rfl, hnp⟩⟩ | (exfalso; omega)
                          · have hcq : (es2.length : Int) ≤ pre.length := by omega
                            have hnp : ¬ (pre ++ [x] <+: es2) := fun h => by
                              have h1 := h.length_le
                              rw [List.length_append, List.length_cons, List.length_nil] at h1
                              omega
                            clear hsl
                            gi_wp2
                            refine calm_region_tail 10 (by rintro ⟨a, w, h⟩; exact h) (by kernel_rfl) (by kernel_rfl) (by kernel_rfl) ?_
                            simp only [List.take_succ_cons, List.take_zero, List.drop_succ_cons, List.drop_zero]
                            repeat still_step
                            try refine wpStill_nil ?_
                            change wpList _ _ _ _ _ V.drew
                            have y0 : V.drew.cell? ⟨nB2, 0, none⟩ = some (.int .i64 (pre.length : Int)) := c0
                            have y1 : V.drew.frozen? ⟨nB2, 0, none⟩ = false := c0f
                            have y2 : V.drew.cell? ⟨R, 0, none⟩ = some (.bool false) := c2
                            have y3 : V.drew.frozen? ⟨R, 0, none⟩ = false := c2f
                            have y9 : V.drew.cell? ⟨T2, 0, none⟩ = some (.int .i64 1) := c3
                            have y10 : V.drew.cell? ⟨S, 0, none⟩ = some (.int .i64 stop) := c4
                            have y4 := HI.out.1.below (Below.refl _ V).drew
                            have y5 : KeepsOthers V V.drew := KeepsOthers.drew V
                            have y6 : ∀ k : Nat, V.drew.heap[k]? = V.heap[k]? := fun _ => rfl
                            have y8 : V.drew.heap.size = V.heap.size := rfl
                            have HY := Lib.hid (And.intro y4 (And.intro y5 (And.intro y6 y8)))
                            clear c0 c0f c1 c2 c2f c3 c4 e0 e1 e2 e3 y4 y5 y6 y8
                            generalize V.drew = w9 at y0 y1 y2 y3 y9 y10 HY ⊢
                            go_wp2_with fail
                            gi_wp2_with fail
                            all_goals first | exact ⟨(HY.out.2.1.trans (KeepsOthers.setCell _ _ _)).from _, .inl ⟨rfl, hnp⟩⟩ | (exfalso; omega)
                        · rintro D xs V hD hxs ⟨hs1, hs2, hs3, hs4⟩ hK
                          exact ⟨.inl rfl, D, rfl, hD, hK, _, hs1, by rw [hxs]⟩
                        · rintro D cd pre V hD hpre hF hK
                          rcases hF with hF | hF
                          · exact absurd hpre hF.2
                          · exact hF.elim
                      · rintro D2 V3 ⟨hD2, hK2, k2, hT3, rfl⟩
                        have hMV3 := HM.out.below (hZq ▸ hT3.bel : Below wX.heap.size wX V3)
                        have c3 := hT3.tb.cell
                        have c0 := hT3.nb.cell
                        have c1 := hMV3.wb.cell
                        have c4 := hMV3.sb.cell
                        have c5 := fun o => (hMV3.rb.alloc o).cell
                        have c6 := fun o => (hMV3.rb.alloc o).frozen
                        have hlW3 : D1 < V2.heap.size := by omega
                        have H3 := Lib.hid (And.intro hT3 (And.intro hD2 (And.intro hK2 hMV3)))
                        clear hT3 hD2 hK2 hMV3
                        go_wp2_with fail
                        rw [rounds_succ]
                        go_wp2_with fail
                        have hb9 : Below w.heap.size w ((V3.alloc (.cells #[.int .i64 2] 3)).setCell ⟨R, 0, none⟩ (.bool true)) :=
                          (H3.out.2.2.2.tb.bel.alloc H3.out.2.2.2.tb.bel.size _).setCell (p := ⟨R, 0, none⟩) HRW.out.1 _
                        have hr9 := (H3.out.2.2.2.rb.alloc (.cells #[.int .i64 2] 3)).set (.bool true)
                        have hd9 : ∀ D ∈ [D2, D1], ((V3.alloc (.cells #[.int .i64 2] 3)).setCell ⟨R, 0, none⟩ (.bool true)).heap[D]? = some (.deferred (some [])) := fun D hD => by
                          have hV3 : V3.heap[D]? = some (.deferred (some [])) := by
                            rcases List.mem_cons.1 hD with rfl | hD
                            · exact H3.out.2.2.1
                            · exact H3.out.1.ds D hD
                          have hlt := (Array.getElem?_eq_some_iff.1 hV3).1
                          have h1 := (Below.heap_alloc V3 (.cells #[.int .i64 2] 3) _ hlt).trans hV3
                          refine (heap_setCell_other _ ⟨R, 0, none⟩ D _ (fun e => ?_)).trans h1
                          have h2 := H3.out.2.2.2.rb.alloc (.cells #[.int .i64 2] 3)
                          simp only at e
                          unfold Boxed at h2
                          rw [e, h2] at h1
                          cases h1
                        have hpw : [D2, D1].Pairwise (· ≠ ·) := by
                          have := H3.out.2.1
                          refine List.pairwise_cons.2 ⟨fun D hD => ?_, List.pairwise_cons.2 ⟨fun D hD => (by cases hD), List.Pairwise.nil⟩⟩
                          rw [List.mem_singleton] at hD
                          omega
                        generalize (V3.alloc (.cells #[.int .i64 2] 3)).setCell ⟨R, 0, none⟩ (.bool true) = V4 at hb9 hr9 hd9 ⊢
                        refine leaves_marks6 (fun V => Boxed V R 4 (.bool true) ∧ Below w.heap.size w V ∧ w.heap.size ≤ V.heap.size) [D2, D1] V4 (fun V D hm hk hq => ⟨?_, ?_, ?_⟩) (fun V hq => ?_) ⟨hr9, hb9, hb9.size⟩ hd9 hpw
                        · refine (World.putObj_heap_other (fun e => ?_)).trans hq.1
                          have h2 := hq.1
                          unfold Boxed at h2
                          rw [e, hk] at h2
                          cases h2
                        · exact hq.2.1.grown (grownBy_putObj' V D (.deferred none)) hq.2.2 (fun r e => by
                            cases e
                            have h1 := H3.out.2.1
                            rcases List.mem_cons.1 hm with rfl | hm
                            · have := HM.out.tb.bel.size
                              omega
                            · rw [List.mem_singleton] at hm
                              subst hm
                              have := HM.out.tb.bel.size
                              have := H1.out.2.1
                              omega)
                        · exact Nat.le_trans hq.2.2 (grownBy_putObj' V D (.deferred none)).size
                        · have hc9 := hq.1.cell
                          exact ⟨.bool true, by simp [results, Try.f4, go_sem, hc9], rfl, hq.2.1⟩
theorem own_lawB {w : World} {A0 A1 : Option Addr} {n0 c0 n1 c1 : Nat} {os os1 : List Mo} (hR : Mls w A0 n0 os) (hR1 : Mls w A1 n1 os1) (s : ByteArray) (stop : Int) (hst : -9223372036854775808 ≤ stop ∧ stop ≤ 9223372036854775807) :
    Calls Try.prog 4 #[.slice A0 n0 c0, .slice A1 n1 c1, .agg #[.string s, .int .i64 stop]] w fun e w' => e = .returned (.bool true) ∧ Below w.heap.size w w' := by
  have := (callsIn_wide (n := 0 + 5)).1 (own_in 0 (c0 := c0) (c1 := c1) hR hR1 s.data.toList stop hst)
  rwa [← str_of s] at this
end Go.Proofs.Ytjlebmpgjliacaa
