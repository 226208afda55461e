/-
  Rows of entries; a call of the law's script as it lies in memory, and a script of such.
-/
import Derived.Test.YtjlebmpgjliacaaMeK
namespace Go.Proofs.Ytjlebmpgjliacaa
open Go.RowKit
set_option linter.unusedVariables false

/-! ### rows of entries -/
def ecs (es : List En) : List Value := es.flatMap ec
theorem ecs_app (a b : List En) : ecs (a ++ b) = ecs a ++ ecs b := by simp [ecs]
theorem ecs_len (es : List En) : (ecs es).length = 4 * es.length := by
  induction es with
  | nil => rfl
  | cons e r ih => simp only [ecs, List.flatMap_cons, List.length_append, List.length_cons] at ih ⊢; simp only [ec, List.length_cons, List.length_nil]; omega
theorem ecs_get : ∀ (es : List En) (k : Nat) (e : En), es[k]? = some e → ∀ j, j < 4 → (ecs es)[4 * k + j]? = (ec e)[j]?
  | a :: r, 0, e, h, j, hj => by
    simp at h
    subst h
    show (ec a ++ ecs r)[4 * 0 + j]? = _
    rw [List.getElem?_append_left (by simp [ec]; omega)]
    simp
  | a :: r, k + 1, e, h, j, hj => by
    show (ec a ++ ecs r)[4 * (k + 1) + j]? = _
    rw [List.getElem?_append_right (by simp [ec]; omega)]
    simp only [List.getElem?_cons_succ] at h
    have := ecs_get r k e h j hj
    rw [← this]
    congr 1
    simp [ec]; omega
theorem ecs_one (es : List En) : ∀ u ∈ ecs es, u.oneCell' = true := by
  intro u hu
  obtain ⟨e, _, h⟩ := List.mem_flatMap.1 hu
  simp [ec] at h
  rcases h with rfl | rfl | rfl | rfl <;> rfl
section
variable {w w' : World} {B B' e s n : Nat} {v : Value} {xs : List Value}
theorem ownS_blk (h : w.ownsRow B e s v n xs) : ∀ k, v.ownBlock = some k → B ≤ k := fun k hk => (h.lt k hk).1
theorem ownS_lt (h : w.ownsRow B e s v n xs) : ∀ k, v.ownBlock = some k → k < w.heap.size := fun k hk => (h.lt k hk).2
theorem ownS_form (h : w.ownsRow B e s v n xs) : ∃ A c, v = .slice A n c := by
  rcases h.2 with ⟨rfl, rfl⟩ | ⟨g, cap, cur, rfl, _⟩
  · exact ⟨_, _, rfl⟩
  · exact ⟨_, _, rfl⟩
theorem ownS_keep (h : w.ownsRow B e s v n xs) (hk : ∀ k, v.ownBlock = some k → w'.heap[k]? = w.heap[k]?) : w'.ownsRow B e s v n xs := by
  refine ⟨h.1, ?_⟩
  rcases h.2 with h2 | ⟨g, cap, cur, rfl, h3, h4, h5⟩
  · exact .inl h2
  · exact .inr ⟨g, cap, cur, rfl, h3, (hk g rfl).trans h4, h5⟩
theorem ownS_below (h : w.ownsRow B e s v n xs) (hb : Below w.heap.size w w') : w'.ownsRow B e s v n xs := ownS_keep h fun k hk => hb.block k (ownS_lt h k hk)
theorem ownS_base (h : w.ownsRow B e s v n xs) (hB : B' ≤ B) : w.ownsRow B' e s v n xs := by
  refine ⟨h.1, ?_⟩
  rcases h.2 with h2 | ⟨g, cap, cur, rfl, h3, h4⟩
  · exact .inl h2
  · exact .inr ⟨g, cap, cur, rfl, Nat.le_trans hB h3, h4⟩
theorem ownS_type (h : w.ownsRow B e s v n xs) {k : Nat} (hk : v.ownBlock = some k) : ∃ cur, Blk w k cur e := by
  rcases h.2 with ⟨rfl, _⟩ | ⟨g, cap, cur, rfl, h3, h4, h5⟩
  · cases hk
  · cases hk; exact ⟨cur, h4⟩
end
/-- A slice that reads as a list of entries. -/
def Sle (w : World) (A : Option Addr) (n : Nat) (es : List En) : Prop :=
  es.length = n ∧ (0 < n → ∃ b o : Nat, A = some ⟨b, o, none⟩ ∧ ∀ k e, es[k]? = some e → ∀ j, j < 4 → w.cell? ⟨b, o + (4 * k + j), none⟩ = (ec e)[j]?)
theorem own_sle {w : World} {B n c : Nat} {A : Option Addr} {es : List En} (h : w.ownsRow B 30 4 (.slice A n c) n (ecs es)) : Sle w A n es := by
  have hl : es.length = n := by
    have := h.1
    rw [ecs_len] at this; omega
  refine ⟨hl, fun hn => ?_⟩
  rcases h.2 with ⟨_, h0⟩ | ⟨g, cap, cur, hv, _⟩
  · omega
  · injection hv with hA hn' hc'
    subst hA
    refine ⟨g, 0, rfl, fun k e he j hj => ?_⟩
    have hg := ecs_get es k e he j hj
    have hj2 : j < (ec e).length := by simp [ec]; omega
    rw [List.getElem?_eq_getElem hj2] at hg ⊢
    have := h.cells (g := g) rfl (4 * k + j) _ hg
    rwa [add_plain] at this
theorem Sle.below {w w' : World} {A : Option Addr} {n : Nat} {es : List En} (h : Sle w A n es) (hb : Below w.heap.size w w') : Sle w' A n es :=
  ⟨h.1, fun hn => by
    obtain ⟨b, o, e, hc⟩ := h.2 hn
    refine ⟨b, o, e, fun k x hx j hj => ?_⟩
    have hcj := hc k x hx j hj
    have hj2 : j < (ec x).length := by simp [ec]; omega
    rw [List.getElem?_eq_getElem hj2] at hcj ⊢
    exact (World.cell?_of_block (w := w) (hb.block _ (World.block_lt_of_cell? w _ hcj))).trans hcj⟩
theorem Sle.at_ {w : World} {A : Option Addr} {n k : Nat} {es : List En} (h : Sle w A n es) (hk : k < n) : ∃ (b o : Nat) (e : En), A = some ⟨b, o, none⟩ ∧ es[k]? = some e ∧
    w.cell? ⟨b, o + k * 4, none⟩ = some (.string (str e.key)) ∧ w.cell? ⟨b, o + k * 4 + 1, none⟩ = some (.int .i64 e.seq) ∧ w.cell? ⟨b, o + k * 4 + 2, none⟩ = some (.bool e.del) ∧ w.cell? ⟨b, o + k * 4 + 3, none⟩ = some (.string (str e.val)) := by
  obtain ⟨b, o, e, hc⟩ := h.2 (by omega)
  have hl : k < es.length := by have := h.1; omega
  have hg : es[k]? = some es[k] := List.getElem?_eq_getElem hl
  have hk4 : ∀ j, o + (4 * k + j) = o + k * 4 + j := fun j => by omega
  have h0 := hc k _ hg 0 (by decide)
  have h1 := hc k _ hg 1 (by decide)
  have h2 := hc k _ hg 2 (by decide)
  have h3 := hc k _ hg 3 (by decide)
  rw [hk4] at h0 h1 h2 h3
  exact ⟨b, o, es[k], e, hg, h0, h1, h2, h3⟩
theorem entInfo : (Try.prog.info? 30).map (fun i => (i.zero, i.size, i.bytes)) = some (some (.agg #[.string ⟨#[]⟩, .int .i64 0, .bool false, .string ⟨#[]⟩]), 4, 48) := by kernel_rfl
theorem run_appE (w : World) (base : Nat) (ty : TypeId) (v : Value) (n : Nat) (xs : List En) (hown : w.ownsRow base 30 4 v n (ecs xs)) (A : Option Addr) (m c : Nat) (ys : List En) (hr : Sle w A m ys)
    (hlen : n + m ≤ 1000000) (hbase : base ≤ w.heap.size) (hc : A = none → False) :
    ∃ A' c' w', (Builtin.append_ #[26, 26] ty #[v, .slice A m c]).run Try.prog w = .ok (.slice A' (n + m) c') w' ∧ w'.ownsRow base 30 4 (.slice A' (n + m) c') (n + m) (ecs (xs ++ ys)) ∧ w.grownBy w' v.ownBlock := by
  obtain ⟨i, hi, hz0, hz1, hz2⟩ := info_parts entInfo
  cases A with
  | none => exact absurd rfl (fun e => hc e)
  | some ad =>
    obtain ⟨v', w', hrun, h2, h3, _, h5⟩ := run_append_own_at (P := Try.prog) w base 26 ty 30 i _ 4 48 Try.underlying26 hi hz0 hz1 hz2 rfl (by omega) v n (ecs xs) hown ad m c (ecs ys) (by rw [ecs_len, hr.1]; omega)
      (fun j u hu => by
        have hjl := (List.getElem?_eq_some_iff.1 hu).1
        rw [ecs_len, hr.1] at hjl
        obtain ⟨b, o, e, hcell⟩ := hr.2 (by omega)
        obtain rfl := Option.some.inj e
        have hyl : j / 4 < ys.length := by have := hr.1; omega
        have hk : ys[j / 4]? = some ys[j / 4] := List.getElem?_eq_getElem hyl
        have h1 := hcell (j / 4) _ hk (j % 4) (by omega)
        have h4 := ecs_get ys (j / 4) _ hk (j % 4) (by omega)
        rw [show 4 * (j / 4) + j % 4 = j from by omega] at h1 h4
        rw [add_plain, h1, ← h4]
        exact hu) (ecs_one _) (by simp only [maxLen]; omega) (by omega) hbase
    rw [← ecs_app] at h2
    obtain ⟨A', c', rfl⟩ := ownS_form h2
    exact ⟨A', c', w', hrun, h2, h3⟩
theorem wpList_appE (w : World) {ops : Array Oper} {rest : List Oper} {o : Oper} {a : Act} {Q : Exit → Act → World → Prop} (hgd : o.guard = none) (s x : Operand)
    (ho : o.op = .call { callee := .builtin .append, args := #[s, x], argTypes := #[26, 26] })
    (base : Nat) (v : Value) (n : Nat) (xs : List En) (hs : a.eval s = v) (hown : w.ownsRow base 30 4 v n (ecs xs))
    (A : Option Addr) (m c : Nat) (ys : List En) (hx : a.eval x = .slice A m c) (hr : Sle w A m ys) (hA : A ≠ none)
    (hlen : n + m ≤ 1000000) (hbase : base ≤ w.heap.size)
    (h : ∀ A' c' w', w'.ownsRow base 30 4 (.slice A' (n + m) c') (n + m) (ecs (xs ++ ys)) → w.grownBy w' v.ownBlock →
      wpList Try.prog ops Q rest (a.put o.dst (.slice A' (n + m) c')) w') :
    wpList Try.prog ops Q (o :: rest) a w := by
  refine wpList_plain hgd fun K hK => ?_
  obtain ⟨A', c', w', hrun, h2, h3⟩ := run_appE w base o.type v n xs hown A m c ys hr hlen hbase (fun e => hA e)
  unfold Oper.wp execOp
  simp only [ho, resolve, invoke, builtin, Sem.run_bind, Sem.run_pure, Result.andThen_ok, List.map_toArray, List.map_cons, List.map_nil, hs, hx, hrun]
  exact hK _ _ (h A' c' w' h2 h3)
theorem Sle.new (w : World) (e : En) : Sle (w.alloc (.cells #[.string (str e.key), .int .i64 e.seq, .bool e.del, .string (str e.val)] 30)) (some ⟨w.heap.size, 0, none⟩) 1 [e] := by
  have hb : Blk (w.alloc (.cells #[.string (str e.key), .int .i64 e.seq, .bool e.del, .string (str e.val)] 30)) w.heap.size (ec e).toArray 30 := Blk.new w _ _
  refine ⟨rfl, fun _ => ⟨w.heap.size, 0, rfl, fun k x hx j hj => ?_⟩⟩
  cases k with
  | succ k => simp at hx
  | zero =>
    obtain rfl := Option.some.inj hx
    have hj2 : j < (ec e).length := by simp [ec]; omega
    rw [List.getElem?_eq_getElem hj2]
    refine hb.cell ?_
    rw [show (ec e).toArray[0 + (4 * 0 + j)]? = (ec e)[j]? from by simp]
    exact List.getElem?_eq_getElem hj2
theorem ownE_nil (w : World) (B : Nat) : w.ownsRow B 30 4 (.slice none 0 0) 0 (ecs []) := ⟨rfl, .inl ⟨rfl, rfl⟩⟩

/-! ### the law's script -/
structure Mo where
  ask : Bool
  e : En
  ht : Int
def Mo.cells (o : Mo) : List Value := [.bool o.ask, .string (str o.e.key), .int .i64 o.e.seq, .bool o.e.del, .string (str o.e.val), .int .i64 o.ht]
def Mo.Ok (o : Mo) : Prop := (-9223372036854775808 ≤ o.ht ∧ o.ht ≤ 9223372036854775807) ∧ (-9223372036854775808 ≤ o.e.seq ∧ o.e.seq ≤ 9223372036854775807)
def Mls (w : World) (A : Option Addr) (n : Nat) (os : List Mo) : Prop :=
  os.length = n ∧ (∀ o ∈ os, o.Ok) ∧ (0 < n → ∃ b off : Nat, A = some ⟨b, off, none⟩ ∧ ∀ i o, os[i]? = some o → ∀ j u, o.cells[j]? = some u → w.cell? ⟨b, off + i * 6 + j, none⟩ = some u)
theorem Mls.none_ (w : World) : Mls w none 0 [] := ⟨rfl, by simp, fun h => by omega⟩
theorem Mls.below {w w' : World} {A : Option Addr} {n : Nat} {os : List Mo} (h : Mls w A n os) (hb : Below w.heap.size w w') : Mls w' A n os :=
  ⟨h.1, h.2.1, fun hn => by
    obtain ⟨b, off, e, hc⟩ := h.2.2 hn
    refine ⟨b, off, e, fun i o ho j u hu => ?_⟩
    have hcj := hc i o ho j u hu
    exact (World.cell?_of_block (w := w) (hb.block _ (World.block_lt_of_cell? w _ hcj))).trans hcj⟩
theorem Mls.at_ {w : World} {A : Option Addr} {n : Nat} {os : List Mo} {i : Nat} (h : Mls w A n os) (hi : i < n) : ∃ (b off : Nat) (o : Mo), A = some ⟨b, off, none⟩ ∧ os[i]? = some o ∧ o.Ok ∧
    w.cell? ⟨b, off + i * 6, none⟩ = some (.bool o.ask) ∧ w.cell? ⟨b, off + i * 6 + 1, none⟩ = some (.string (str o.e.key)) ∧ w.cell? ⟨b, off + i * 6 + 2, none⟩ = some (.int .i64 o.e.seq) ∧
    w.cell? ⟨b, off + i * 6 + 3, none⟩ = some (.bool o.e.del) ∧ w.cell? ⟨b, off + i * 6 + 4, none⟩ = some (.string (str o.e.val)) ∧ w.cell? ⟨b, off + i * 6 + 5, none⟩ = some (.int .i64 o.ht) := by
  obtain ⟨b, off, e, hc⟩ := h.2.2 (by omega)
  have hl : i < os.length := by have := h.1; omega
  have hg : os[i]? = some os[i] := List.getElem?_eq_getElem hl
  exact ⟨b, off, os[i], e, hg, h.2.1 _ (List.getElem_mem hl), hc i _ hg 0 _ rfl, hc i _ hg 1 _ rfl, hc i _ hg 2 _ rfl, hc i _ hg 3 _ rfl, hc i _ hg 4 _ rfl, hc i _ hg 5 _ rfl⟩
end Go.Proofs.Ytjlebmpgjliacaa
