/-
  What the law WalOwn's loops leave: rows that are written over, and what stands beside them.
-/
import Derived.Test.YtnbomifnbhijbaaGreatDoorWaT
namespace Go.Proofs.YtnbomifnbhijbaaGreatDoor
open Go.RowKit Go.Maps Num Crc
set_option linter.unusedVariables false

/-- Rows that stand apart from the blocks in F. -/
def Ap (w : World) (F : Nat → Prop) (vs : List Value) : Prop := ∀ v ∈ vs, ∀ k, v.ownBlock = some k → k < w.heap.size ∧ ¬ F k
theorem Each.at2 {w w' : World} {B : Nat} : ∀ {vs : List Value} {ls : List (List UInt8)}, Each w B vs ls → (∀ v ∈ vs, ∀ k, v.ownBlock = some k → w'.heap[k]? = w.heap[k]?) → Each w' B vs ls
  | [], [], _, _ => trivial
  | v :: vs, l :: ls, h, hk => by
    obtain ⟨⟨A, c, rfl, ho⟩, h2⟩ := h
    exact ⟨⟨A, c, rfl, own_at ho (hk _ (List.mem_cons_self ..))⟩, Each.at2 h2 fun v hv => hk v (List.mem_cons_of_mem _ hv)⟩
  | [], _ :: _, h, _ => h.elim
  | _ :: _, [], h, _ => h.elim
theorem Ap.step {w w' : World} {F F' : Nat → Prop} {vs : List Value} (h : Ap w F vs) (hS : Stp w w' F F') : Ap w' F' vs := fun v hv k hk => by
  obtain ⟨h1, h2⟩ := h v hv k hk
  exact ⟨Nat.lt_of_lt_of_le h1 hS.oth.size, fun h3 => (hS.sub k h3).elim h2 fun h4 => by omega⟩
theorem Ap.same {w w' : World} {F : Nat → Prop} {vs : List Value} (h : Ap w F vs) (hS : w.heap.size ≤ w'.heap.size) : Ap w' F vs := fun v hv k hk => ⟨Nat.lt_of_lt_of_le (h v hv k hk).1 hS, (h v hv k hk).2⟩
theorem Each.step {w w' : World} {F F' : Nat → Prop} {B : Nat} {vs : List Value} {ls : List (List UInt8)} (h : Each w B vs ls) (ha : Ap w F vs) (hS : Stp w w' F F') : Each w' B vs ls :=
  h.at2 fun v hv k hk => hS.oth.block k (ha v hv k hk).1 (ha v hv k hk).2
theorem own_apart2 {a b : World} {B B2 e e2 n n2 : Nat} {v v2 : Value} {xs xs2 : List Value} (h : a.ownsRow B e 1 v n xs) (ho : a.ownsRow B2 e2 1 v2 n2 xs2) (hg : a.grownBy b v2.ownBlock) (hne : e ≠ e2) : b.ownsRow B e 1 v n xs :=
  own_at h fun k hk => by
    obtain ⟨cur, hb⟩ := own_blk_type h hk
    refine hg.block k hb.lt fun e1 => ?_
    obtain ⟨cur2, hb2⟩ := own_blk_type ho e1.symm
    unfold Blk at hb hb2
    rw [hb] at hb2
    injection hb2 with hb2
    injection hb2 with _ h5
    exact hne h5
theorem own_ne2 {a : World} {B B2 e e2 n n2 : Nat} {v v2 : Value} {xs xs2 : List Value} (h : a.ownsRow B e 1 v n xs) (ho : a.ownsRow B2 e2 1 v2 n2 xs2) (hne : e ≠ e2) {k : Nat} (hk : v.ownBlock = some k) : v2.ownBlock ≠ some k := fun e1 => by
  obtain ⟨cur, hb⟩ := own_blk_type h hk
  obtain ⟨cur2, hb2⟩ := own_blk_type ho e1
  unfold Blk at hb hb2
  rw [hb] at hb2
  injection hb2 with hb2
  injection hb2 with _ h5
  exact hne h5
theorem own_head {w : World} {B e n c : Nat} {A : Option Addr} {xs : List Value} (h : w.ownsRow B e 1 (.slice A n c) n xs) (hn : 0 < n) : ∃ b, A = some ⟨b, 0, none⟩ ∧ B ≤ b ∧ b < w.heap.size ∧ n ≤ c := by
  rcases h.2 with ⟨_, h0⟩ | ⟨g, cap, cur, hv, h3, h4, h5, _⟩
  · omega
  · injection hv with h1 h2 h6
    subst h1 h6
    exact ⟨g, rfl, h3, (Array.getElem?_eq_some_iff.1 h4).1, h5⟩
/-- Where the first loop stands. -/
structure Wo1 (w wr : World) (pl pb mb : Nat) (ls : List (List UInt8)) (i : Nat) (Aw : Option Addr) (cw : Nat) (vs : List Value) (gs : List Gm) (x : Ws) (g : Gh) : Prop where
  wl : Wl w wr pl pb mb gs x
  is : Is x g
  ok : g.Ok (i + 1)
  dd : x.dd = false
  ar : x.ar = false
  row : wr.ownsRow w.heap.size 36 1 (.slice Aw i cw) i vs
  each : Each wr w.heap.size vs (g.con.map Prod.snd)
  ap : Ap wr (wfoot pl pb mb gs) vs
  con : g.con.map Prod.snd = (ls.take i).map (List.take 700)
/-- Ahead of Append: the payload handed in lies in block b5, with one byte more; the list of copies is one longer. -/
structure Wo2 (w w7 : World) (pl pb mb : Nat) (i b5 c5 : Nat) (A7 A6 : Option Addr) (c7 c6 : Nat) (vs : List Value) (cs : List (List UInt8)) (q : List UInt8) (gs : List Gm) (x : Ws) : Prop where
  wl : Wl w w7 pl pb mb gs x
  row : w7.ownsRow w.heap.size 36 1 (.slice A7 (i + 1) c7) (i + 1) (vs ++ [.slice A6 q.length c6])
  each : Each w7 w.heap.size (vs ++ [.slice A6 q.length c6]) (cs ++ [q])
  ap : Ap w7 (wfoot pl pb mb gs) (vs ++ [.slice A6 q.length c6])
  ne : ∀ v ∈ vs ++ [.slice A6 q.length c6], v.ownBlock ≠ some b5
  nr : (Value.slice A7 (i + 1) c7).ownBlock ≠ some b5
  room : w7.ownsRow w.heap.size 5 1 (.slice (some ⟨b5, 0, none⟩) (q.length + 1) c5) (q.length + 1) (bv q ++ [.int .u8 77])
  last : w7.ownsRow w.heap.size 5 1 (.slice A6 q.length c6) q.length (bv q)
  lt : b5 < w7.heap.size
  ge : w.heap.size ≤ b5
  nf : ¬ wfoot pl pb mb gs b5
theorem Wo1.mid {w wB w5 w6 w7 : World} {pl pb mb i b5 c5 cw c6 c7 : Nat} {ls : List (List UInt8)} {q : List UInt8} {Aw A6 A7 : Option Addr} {vs : List Value} {gs : List Gm} {x : Ws} {g : Gh} {o : Obj}
    (h : Wo1 w wB pl pb mb ls i Aw cw vs gs x g) (h5 : w5.ownsRow wB.heap.size 5 1 (.slice (some ⟨b5, 0, none⟩) (q.length + 1) c5) (q.length + 1) (bv q ++ [.int .u8 77])) (hb5 : Below wB.heap.size wB w5)
    (h6 : w6.ownsRow w5.heap.size 5 1 (.slice A6 q.length c6) q.length (bv q)) (hb6 : Below w5.heap.size w5 w6)
    (h7 : w7.ownsRow w.heap.size 36 1 (.slice A7 (i + 1) c7) (i + 1) (vs ++ [.slice A6 q.length c6])) (hg : (w6.alloc o).grownBy w7 (Value.slice Aw i cw).ownBlock) :
    Wo2 w w7 pl pb mb i b5 c5 A7 A6 c7 c6 vs (g.con.map Prod.snd) q gs x := by
  have hbr := h.wl.bel
  have hb46 : Below wB.heap.size wB w6 := hb5.trans (hb6.mono hb5.size)
  have hrow6 : w6.ownsRow w.heap.size 36 1 (.slice Aw i cw) i vs := own_keep h.row hb46
  have hal : Below w6.heap.size w6 (w6.alloc o) := (Below.refl _ w6).alloc (Nat.le_refl _) o
  have hl5 := h5.lt b5 rfl
  have h5' : (w6.alloc o).ownsRow wB.heap.size 5 1 (.slice (some ⟨b5, 0, none⟩) (q.length + 1) c5) (q.length + 1) (bv q ++ [.int .u8 77]) := own_keep (own_keep h5 hb6) hal
  have h5'' := own_apart2 h5' (own_keep hrow6 hal) hg (by decide)
  have h6'' := own_apart2 (own_keep h6 hal) (own_keep hrow6 hal) hg (by decide)
  have he6 : Each w6 w.heap.size (vs ++ [.slice A6 q.length c6]) (g.con.map Prod.snd ++ [q]) := (h.each.below hb46).snoc (own_mono h6 (Nat.le_trans hbr.size hb5.size))
  have hF : ∀ k, wfoot pl pb mb gs k → k < wB.heap.size := fun k hk => h.wl.foot_lt hk
  have hsz : w6.heap.size ≤ w7.heap.size := by have := hg.size; simp at this; omega
  have hs6 := hb6.size
  have hs5 := hb5.size
  have hs0 := hbr.size
  refine ⟨((h.wl.below hb46).alloc o).grown (own_keep hrow6 hal) plain_rows (Nat.le_refl _) hg, h7, (he6.below hal).grown (own_keep hrow6 hal) hg, ?_, ?_, ?_, own_mono h5'' hbr.size, own_mono h6'' (by omega), by omega, by omega, fun e => by have := hF _ e; omega⟩
  · intro v hv k hk
    rcases List.mem_append.1 hv with hv | hv
    · have := h.ap v hv k hk
      exact ⟨by omega, this.2⟩
    · obtain rfl := List.mem_singleton.1 hv
      have := h6.lt k hk
      exact ⟨by omega, fun e => by have := hF _ e; omega⟩
  · intro v hv hk
    rcases List.mem_append.1 hv with hv | hv
    · have := (h.ap v hv b5 hk).1
      omega
    · obtain rfl := List.mem_singleton.1 hv
      have := h6.lt b5 hk
      omega
  · exact own_ne2 h5'' h7 (by decide) rfl
/-- Behind Append. -/
theorem Wo2.late {w w7 w8 : World} {pl pb mb i b5 c5 c6 c7 : Nat} {cs : List (List UInt8)} {q : List UInt8} {A6 A7 : Option Addr} {vs : List Value} {gs gs8 : List Gm} {x y : Ws}
    (h : Wo2 w w7 pl pb mb i b5 c5 A7 A6 c7 c6 vs cs q gs x) (hS : Stp w7 w8 (wfoot pl pb mb gs) (wfoot pl pb mb gs8)) :
    w8.ownsRow w.heap.size 36 1 (.slice A7 (i + 1) c7) (i + 1) (vs ++ [.slice A6 q.length c6]) ∧ w8.ownsRow w.heap.size 5 1 (.slice (some ⟨b5, 0, none⟩) (q.length + 1) c5) (q.length + 1) (bv q ++ [.int .u8 77]) ∧
      w8.ownsRow w.heap.size 5 1 (.slice A6 q.length c6) q.length (bv q) := by
  refine ⟨h.wl.row h.row plain_rows hS, own_at h.room fun k hk => ?_, own_at h.last fun k hk => ?_⟩
  · cases hk
    exact hS.oth.block _ h.lt h.nf
  · obtain ⟨h1, h2⟩ := h.ap _ (List.mem_append_right _ (List.mem_singleton.2 rfl)) k hk
    exact hS.oth.block k h1 h2
/-- What is read behind Append. -/
theorem wo_facts {V : World} {B i b5 c5 c6 c7 bw : Nat} {q : List UInt8} {A6 : Option Addr} {vs : List Value} (hv : vs.length = i)
    (h1 : V.ownsRow B 36 1 (.slice (some ⟨bw, 0, none⟩) (i + 1) c7) (i + 1) (vs ++ [.slice A6 q.length c6])) (h2 : V.ownsRow B 5 1 (.slice (some ⟨b5, 0, none⟩) (q.length + 1) c5) (q.length + 1) (bv q ++ [.int .u8 77])) (h3 : V.ownsRow B 5 1 (.slice A6 q.length c6) q.length (bv q)) :
    V.cell? ⟨bw, i, none⟩ = some (.slice A6 q.length c6) ∧ V.cell? ⟨b5, q.length, none⟩ = some (.int .u8 77) ∧
      (convert 36 9 (.slice (some ⟨b5, 0, none⟩) q.length c5)).run Tryz.prog V = .ok (.string (str q)) V ∧ (convert 36 9 (.slice A6 q.length c6)).run Tryz.prog V = .ok (.string (str q)) V := by
  have k1 := h1.cells (g := bw) rfl i (.slice A6 q.length c6) (by rw [List.getElem?_append_right (by omega), hv]; simp)
  have k2 := h2.cells (g := b5) rfl q.length (.int .u8 77) (by rw [List.getElem?_append_right (by simp [bv]), bv_len]; simp)
  rw [add_plain, Nat.zero_add] at k1 k2
  have hs : Sl V (some ⟨b5, 0, none⟩) q.length (bv q) := by
    have := (own_sl h2).take (k := q.length) (by omega)
    rwa [List.take_append_of_le_length (by simp [bv]), List.take_of_length_le (by simp [bv])] at this
  exact ⟨k1, k2, run_str (P := Tryz.prog) (c := c5) hs 36 5 9 Tryz.underlying36 Tryz.underlying5 Tryz.underlying9,
    run_str (P := Tryz.prog) (c := c6) (own_sl h3) 36 5 9 Tryz.underlying36 Tryz.underlying5 Tryz.underlying9⟩
theorem wo_in {V : World} {B b5 c5 : Nat} {q : List UInt8} (h2 : V.ownsRow B 5 1 (.slice (some ⟨b5, 0, none⟩) (q.length + 1) c5) (q.length + 1) (bv q ++ [.int .u8 77])) : Sl V (some ⟨b5, 0, none⟩) q.length (bv q) := by
  have := (own_sl h2).take (k := q.length) (by omega)
  rwa [List.take_append_of_le_length (by simp [bv]), List.take_of_length_le (by simp [bv])] at this
/-- Behind the loop that writes over what was handed in. -/
theorem Wo2.next {w w7 w8 w9 : World} {pl pb mb i b5 c5 : Nat} {ls : List (List UInt8)} {p q : List UInt8} {A7 A6 : Option Addr} {c7 c6 : Nat} {vs : List Value} {gs gs8 : List Gm} {x y : Ws} {g g' : Gh}
    (h : Wo2 w w7 pl pb mb i b5 c5 A7 A6 c7 c6 vs (g.con.map Prod.snd) q gs x)
    (hW8 : Wl w w8 pl pb mb gs8 y) (hS : Stp w7 w8 (wfoot pl pb mb gs) (wfoot pl pb mb gs8)) (ho : Oth (fun k => k = b5) w8 w9)
    (hi : Is y g') (hok : g'.Ok (i + 1 + 1)) (hd : y.dd = false) (hr : y.ar = false) (hc : g'.con = g.con ++ [(g'.seg, q)]) (hcon : g.con.map Prod.snd = (ls.take i).map (List.take 700)) (hp : ls[i]? = some p) (hq : q = p.take 700) :
    Wo1 w w9 pl pb mb ls (i + 1) A7 c7 (vs ++ [.slice A6 q.length c6]) gs8 y g' := by
  have hlt := h.lt
  have hbw : Below w.heap.size w w9 := hW8.bel.trans (ho.below (fun k hk => by rw [hk]; exact h.ge) hW8.bel.size)
  have hF8 : ¬ wfoot pl pb mb gs8 b5 := fun h3 => (hS.sub _ h3).elim h.nf fun h2 => by omega
  have hcs : g'.con.map Prod.snd = g.con.map Prod.snd ++ [q] := by rw [hc, List.map_append]; rfl
  have ha8 := h.ap.step hS
  refine ⟨hW8.stay (fun k hk => ho.block k (hW8.foot_lt hk) fun e => hF8 (e ▸ hk)) hbw, hi, hok, hd, hr, ?_, ?_, fun v hv k hk => ⟨Nat.lt_of_lt_of_le (ha8 v hv k hk).1 ho.size, (ha8 v hv k hk).2⟩, ?_⟩
  · have h8 := (h.late hS (y := y)).1
    exact own_at h8 fun k hk => ho.block k (h8.lt k hk).2 fun e => h.nr (e ▸ hk)
  · rw [hcs]
    exact (h.each.step h.ap hS).at2 fun v hv k hk => ho.block k (ha8 v hv k hk).1 fun e => h.ne v hv (e ▸ hk)
  · rw [hcs, hcon, List.take_add_one, hp, hq]
    simp
/-! ### rows that are written over -/
/-- Blocks of bytes stay blocks of bytes, as long. -/
def TyU (V V' : World) : Prop := ∀ (k : Nat) (cur : Array Value), V.heap[k]? = some (Obj.cells cur 5 (0, 0)) → ∃ cur' : Array Value, V'.heap[k]? = some (Obj.cells cur' 5 (0, 0)) ∧ cur'.size = cur.size
theorem TyU.trans {a b c : World} (h : TyU a b) (k : TyU b c) : TyU a c := fun i cur hi => by
  obtain ⟨c1, h1, h2⟩ := h i cur hi
  obtain ⟨c2, h3, h4⟩ := k i c1 h1
  exact ⟨c2, h3, h4.trans h2⟩
theorem typ_same {V V' : World} (h : ∀ k, k < V.heap.size → V'.heap[k]? = V.heap[k]?) : TyU V V' := fun k cur hk => ⟨cur, (h k (Array.getElem?_eq_some_iff.1 hk).1).trans hk, rfl⟩
theorem typ_alloc (V : World) (o : Obj) : TyU V (V.alloc o) := typ_same fun k hk => heap_alloc_old V o hk
theorem typ_set (V : World) (g k : Nat) (u : Value) : TyU V (V.setCell ⟨g, k, none⟩ u) := fun i cur hi => by
  by_cases e : i = g
  · subst e
    exact ⟨_, heap_setCell_same V i k cur _ u hi, by simp⟩
  · exact ⟨cur, (heap_setCell_other V ⟨g, k, none⟩ i u e).trans hi, rfl⟩
/-- A row's shape stays. -/
theorem own_typ {V V' : World} {B m : Nat} {v : Value} {xs : List Value} (h : V.ownsRow B 5 1 v m xs) (ht : TyU V V') : ∃ xs', V'.ownsRow B 5 1 v m xs' := by
  rcases h.2 with ⟨rfl, rfl⟩ | ⟨g, cap, cur, rfl, h1, h2, h3, h4, h5, h6⟩
  · exact ⟨[], World.ownsRow_nil _ _ _ _⟩
  · obtain ⟨cur', k1, k2⟩ := ht g cur h2
    exact ⟨cur'.toList.take (m * 1), by simp; omega, .inr ⟨g, cap, cur', rfl, h1, k1, h3, h4, k2.trans h5, rfl⟩⟩
theorem typ_app {V V' : World} {B m : Nat} {v v' : Value} {xs : List Value} {ty : TypeId} {a : Addr} {c : Nat} {u : Value} (hown : V.ownsRow B 5 1 v m xs) (hu : V.cell? a = some u) (h1 : u.oneCell' = true) (hm : m ≤ 1000000)
    (hrun : (Builtin.append_ #[36, 36] ty #[v, .slice (some a) 1 c]).run Tryz.prog V = .ok v' V') : TyU V V' := by
  obtain ⟨i, hi, hz0, hz1, hz2⟩ := info_parts bytesEl.hi
  have hnews : ∀ j x, [u][j]? = some x → V.cell? (a.add j) = some x := fun j x hx => by
    cases j with
    | zero => simp at hx; subst hx; simpa [Addr.add] using hu
    | succ j => simp at hx
  rcases hown.2 with ⟨rfl, rfl⟩ | ⟨g, cap, cur, rfl, h1', h2, h3, h4, h5, h6⟩
  · have hr := run_append_nil (P := Tryz.prog) V 36 ty 5 i _ bytesEl.ht hi hz0 a 1 c [u] (by rw [hz1]; rfl) hnews (by omega) (by omega) (by rw [hz2]; omega)
    rw [hr] at hrun
    injection hrun with _ hw
    rw [← hw]
    exact typ_same fun k hk => heap_alloc_old V.drew _ hk
  · by_cases hroom : m + 1 ≤ cap
    · have hr := run_append_room (P := Tryz.prog) V 36 ty 5 i bytesEl.ht hi g m cap cur h2 a 1 c [u] (by rw [hz1]; rfl) hnews (by simpa using h1) hroom (by rw [hz1]; simp; omega)
      rw [hr] at hrun
      injection hrun with _ hw
      rw [← hw]
      intro k cu hk
      by_cases e : k = g
      · subst e
        rw [h2] at hk
        injection hk with hk
        injection hk with hk
        subst hk
        refine ⟨_, setRow_heap V k _ _ _ _ h2, ?_⟩
        rw [hz1]
        simp
        omega
      · exact ⟨cu, (setRow_other V g k _ e).trans hk, rfl⟩
    · have hr := run_append_grow (P := Tryz.prog) V 36 ty 5 i _ bytesEl.ht hi hz0 ⟨g, 0, none⟩ m cap xs (by rw [hz1]; exact hown.1) (hown.cells (g := g) rfl) a 1 c [u] (by rw [hz1]; rfl) hnews (by omega) (by omega) (growslice_fits (by omega) (by rw [hz2]; omega))
      rw [hr] at hrun
      injection hrun with _ hw
      rw [← hw]
      exact typ_same fun k hk => heap_alloc_old V.drew _ hk
theorem wpList_app8 (w : World) {ops : Array Oper} {rest : List Oper} {o : Oper} {a : Act} {Q : Exit → Act → World → Prop} (hgd : o.guard = none) (s x : Operand)
    (ho : o.op = .call { callee := .builtin .append, args := #[s, x], argTypes := #[36, 36] })
    (base : Nat) (v : Value) (n : Nat) (xs : List Value) (hs : a.eval s = v) (hown : w.ownsRow base 5 1 v n xs)
    (A : Addr) (u : Value) (hx : a.eval x = .slice (some A) 1 1) (hr : Sl w (some A) 1 [u]) (h1 : u.oneCell' = true) (hn : n ≤ 1000000) (hbase : base ≤ w.heap.size)
    (h : ∀ A' c' w', (∃ xs', w'.ownsRow base 5 1 (.slice A' (n + 1) c') (n + 1) xs') → w.grownBy w' v.ownBlock →
      ((Value.slice A' (n + 1) c').ownBlock = v.ownBlock ∨ (Value.slice A' (n + 1) c').ownBlock = some w.heap.size) → TyU w w' → wpList Tryz.prog ops Q rest (a.put o.dst (.slice A' (n + 1) c')) w') :
    wpList Tryz.prog ops Q (o :: rest) a w := by
  refine wpList_plain hgd fun K hK => ?_
  have hu : w.cell? A = some u := by
    obtain ⟨b, o, e, hc⟩ := hr.2 (by omega)
    injection e with e
    subst e
    exact hc 0 u rfl
  obtain ⟨A', c', w', hrun, h2, h3, h4⟩ := run_app (P := Tryz.prog) w base (ty := o.type) bytesEl (by decide) v n xs hown (some A) 1 1 [u] hr (by simpa using h1) (by omega) hbase
  have h5 := typ_app hown hu h1 hn hrun
  unfold Oper.wp execOp
  simp only [ho, resolve, invoke, builtin, Sem.run_bind, Sem.run_pure, Result.andThen_ok, List.map_toArray, List.map_cons, List.map_nil, hs, hx, hrun]
  exact hK _ _ (h A' c' w' ⟨_, h2⟩ h3 h4 h5)
/-- Where the loops over the answered payloads stand: w12 is the world behind the second Open. -/
structure Pq (w12 V : World) (B1 B2 : Nat) (Ap : Option Addr) (n cp N : Nat) (vs : List Value) : Prop where
  oth : Oth (fun k => B1 ≤ k ∧ k < B2) w12 V
  row : V.ownsRow B1 36 1 (.slice Ap n cp) n vs
  pb : ∀ k, (Value.slice Ap n cp).ownBlock = some k → k < B2
  le : B2 ≤ w12.heap.size
  shp : ∀ v ∈ vs, ∃ m xs, V.ownsRow B1 5 1 v m xs ∧ m ≤ N
  zone : ∀ v ∈ vs, ∀ k, v.ownBlock = some k → k < B2 ∨ w12.heap.size ≤ k
section
variable {w12 V V2 : World} {B1 B2 n cp N bp : Nat} {Ap : Option Addr} {vs : List Value}
theorem Oth.set {S : Nat → Prop} {w V : World} {g k : Nat} {u : Value} (h : Oth S w V) (hg : S g ∨ w.heap.size ≤ g) : Oth S w (V.setCell ⟨g, k, none⟩ u) :=
  ⟨h.os, h.tape, h.output, by rw [setCell_size]; exact h.size, fun i hi hn => (setCell_other _ _ _ (fun (e : i = g) => by subst e; exact hg.elim hn fun h => by omega)).trans (h.block i hi hn)⟩
/-- A byte is stored into a payload. -/
theorem Pq.set (h : Pq w12 V B1 B2 Ap n cp N vs) {g m c k : Nat} {u : Value} (hv : Value.slice (some ⟨g, 0, none⟩) m c ∈ vs) : Pq w12 (V.setCell ⟨g, k, none⟩ u) B1 B2 Ap n cp N vs := by
  obtain ⟨m', xs, hx, hm⟩ := h.shp _ hv
  have hb := own_blk hx g rfl
  refine ⟨h.oth.set ?_, own_at h.row fun i hi => setCell_other _ _ _ fun (e : i = g) => own_ne2 hx h.row (by decide) (k := g) rfl (e ▸ hi), h.pb, h.le, fun v hv' => ?_, h.zone⟩
  · rcases h.zone _ hv g rfl with hz | hz
    · exact .inl ⟨hb, hz⟩
    · exact .inr hz
  · obtain ⟨m2, xs2, h2, h3⟩ := h.shp v hv'
    obtain ⟨xs3, h4⟩ := own_typ h2 (typ_set V g k u)
    exact ⟨m2, xs3, h4, h3⟩
/-- A byte is appended to a payload, which is put back. -/
theorem Pq.app (h : Pq w12 V B1 B2 Ap n cp N vs) {i m : Nat} {v v' : Value} {o : Obj} (hA : Ap = some ⟨bp, 0, none⟩) (hi : vs[i]? = some v) (hm : m ≤ N) (h2 : ∃ xs', V2.ownsRow B1 5 1 v' (m + 1) xs') (hg : (V.alloc o).grownBy V2 v.ownBlock)
    (hat : v'.ownBlock = v.ownBlock ∨ v'.ownBlock = some (V.alloc o).heap.size) (ht : TyU (V.alloc o) V2) : Pq w12 (V2.setCell ⟨bp, i, none⟩ v') B1 B2 Ap n cp (N + 1) (vs.set i v') := by
  subst hA
  have hvm := List.mem_of_getElem? hi
  obtain ⟨m0, xs0, hx0, _⟩ := h.shp v hvm
  have hrow1 := h.row.alloc o
  have hx1 := hx0.alloc o
  have hrow2 := own_apart2 hrow1 hx1 hg (by decide)
  have hbp := h.row.lt bp rfl
  have hpb := h.pb bp rfl
  have hsz : V.heap.size ≤ V2.heap.size := by have := hg.size; simp at this; omega
  have ho2 : Oth (fun k => B1 ≤ k ∧ k < B2) w12 V2 := ⟨hg.os.trans h.oth.os, hg.tape.trans h.oth.tape, hg.output.trans h.oth.output, Nat.le_trans h.oth.size hsz, fun k hk hn => by
    have hkV : k < V.heap.size := Nat.lt_of_lt_of_le hk h.oth.size
    refine (hg.block k (by simp; omega) fun e => ?_).trans ((heap_alloc_old V o hkV).trans (h.oth.block k hk hn))
    have := own_blk hx0 k e.symm
    rcases h.zone v hvm k e.symm with hz | hz
    · exact hn ⟨this, hz⟩
    · omega⟩
  refine ⟨ho2.set (.inl ⟨hbp.1, hpb⟩), (hrow2.stored i v').1, h.pb, h.le, fun u hu => ?_, fun u hu k hk => ?_⟩
  · rcases List.mem_or_eq_of_mem_set hu with hu | rfl
    · obtain ⟨m1, xs1, h3, h4⟩ := h.shp u hu
      obtain ⟨xs2, h5⟩ := own_typ h3 (((typ_alloc V o).trans ht).trans (typ_set V2 bp i v'))
      exact ⟨m1, xs2, h5, by omega⟩
    · obtain ⟨xs', h3⟩ := h2
      obtain ⟨xs2, h5⟩ := own_typ h3 (typ_set V2 bp i u)
      exact ⟨m + 1, xs2, h5, by omega⟩
  · rcases List.mem_or_eq_of_mem_set hu with hu | rfl
    · exact h.zone u hu k hk
    · rcases hat with e | e
      · exact h.zone v hvm k (e ▸ hk)
      · rw [e] at hk
        injection hk with hk
        refine .inr ?_
        have := h.oth.size
        simp at hk
        omega
theorem Each.mem {w : World} {B : Nat} : ∀ {vs : List Value} {ls : List (List UInt8)}, Each w B vs ls → ∀ v ∈ vs, ∃ l ∈ ls, ∃ A c, v = .slice A l.length c ∧ w.ownsRow B 5 1 (.slice A l.length c) l.length (bv l)
  | [], [], _, v, hv => by cases hv
  | u :: vs, l :: ls, h, v, hv => by
    obtain ⟨h1, h2⟩ := h
    rcases List.mem_cons.1 hv with rfl | hv
    · exact ⟨l, List.mem_cons_self .., h1⟩
    · obtain ⟨l', hl', h3⟩ := Each.mem h2 v hv
      exact ⟨l', List.mem_cons_of_mem _ hl', h3⟩
  | [], _ :: _, h, _, _ => h.elim
  | _ :: _, [], h, _, _ => h.elim
theorem pq_start {wB w11 w12 : World} {vp : List Value} {D : List (List UInt8)} (h1 : w11.ownsRow wB.heap.size 36 1 (.slice Ap n cp) n vp) (h2 : Each w11 wB.heap.size vp D) (h3 : Below w11.heap.size w11 w12) (hD : ∀ l ∈ D, l.length ≤ 700) :
    Pq w12 w12 wB.heap.size w11.heap.size Ap n cp 700 vp := by
  refine ⟨⟨rfl, rfl, rfl, Nat.le_refl _, fun _ _ _ => rfl⟩, own_keep h1 h3, fun k hk => (h1.lt k hk).2, h3.size, fun v hv => ?_, fun v hv k hk => by
    obtain ⟨l, hl, A, c, rfl, ho⟩ := h2.mem v hv
    exact .inl (ho.lt k hk).2⟩
  obtain ⟨l, hl, A, c, rfl, ho⟩ := h2.mem v hv
  exact ⟨_, _, own_keep ho h3, hD l hl⟩
/-- The cell of a payload. -/
theorem Pq.at_ (h : Pq w12 V B1 B2 Ap n cp N vs) {a : Nat} (ha : a < n) : ∃ bp m Av cv xs, Ap = some ⟨bp, 0, none⟩ ∧ vs[a]? = some (.slice Av m cv) ∧ V.cell? ⟨bp, a, none⟩ = some (.slice Av m cv) ∧ V.frozen? ⟨bp, a, none⟩ = false ∧ V.ownsRow B1 5 1 (.slice Av m cv) m xs ∧ m ≤ N := by
  have hrow := h.row
  obtain ⟨bp, rfl, -, -, -⟩ := own_head hrow (by omega)
  have hl : vs.length = n := by have := hrow.1; omega
  have hg : vs[a]? = some (vs[a]'(by omega)) := List.getElem?_eq_getElem (by omega)
  obtain ⟨m, xs, hx, hm⟩ := h.shp _ (List.getElem_mem (by omega : a < vs.length))
  obtain ⟨Av, cv, e⟩ := own_form hx
  rw [e] at hx hg
  exact ⟨bp, m, Av, cv, xs, rfl, hg, (hrow.cellAt a (by omega)).trans hg, hrow.frozenAt a, hx, hm⟩
theorem Pq.elem (h : Pq w12 V B1 B2 Ap n cp N vs) {a m cv : Nat} {Av : Option Addr} (hg : vs[a]? = some (.slice Av m cv)) : ∃ xs, V.ownsRow B1 5 1 (.slice Av m cv) m xs := by
  obtain ⟨m', xs, hx, _⟩ := h.shp _ (List.mem_of_getElem? hg)
  obtain rfl : m = m' := by
    rcases hx.2 with ⟨e, h0⟩ | ⟨g, cap, cur, e, _⟩
    · injection e with _ e2 _
      omega
    · injection e
  exact ⟨xs, hx⟩
theorem Pq.cell (h : Pq w12 V B1 B2 (some ⟨bp, 0, none⟩) n cp N vs) {a : Nat} {v : Value} (hg : vs[a]? = some v) (ha : a < n) : V.cell? ⟨bp, a, none⟩ = some v ∧ V.frozen? ⟨bp, a, none⟩ = false :=
  ⟨(h.row.cellAt a (by omega)).trans hg, h.row.frozenAt a⟩
theorem Pq.out (h : Pq w12 V B1 B2 Ap n cp N vs) {k : Nat} (hk : k < w12.heap.size) (hb : k < B1 ∨ B2 ≤ k) : V.heap[k]? = w12.heap[k]? := h.oth.block k hk fun e => by omega
theorem Pq.row_ (h : Pq w12 V B1 B2 Ap n cp N vs) {B e m : Nat} {v : Value} {xs : List Value} (ho : w12.ownsRow B e 1 v m xs) (hb : ∀ k, v.ownBlock = some k → k < B1 ∨ B2 ≤ k) : V.ownsRow B e 1 v m xs :=
  own_at ho fun k hk => h.out (ho.lt k hk).2 (hb k hk)
theorem Pq.each_ (h : Pq w12 V B1 B2 Ap n cp N vs) {B : Nat} {us : List Value} {ls : List (List UInt8)} (he : Each w12 B us ls) (hb : ∀ v ∈ us, ∀ k, v.ownBlock = some k → k < B1 ∨ B2 ≤ k) : Each V B us ls :=
  he.at2 fun v hv k hk => by
    obtain ⟨l, hl, A, c, rfl, ho⟩ := he.mem v hv
    exact h.out (ho.lt k hk).2 (hb _ hv k hk)
/-- At the end: the second answer and the copies are as they were. -/
theorem pq_end {w wB w11 : World} {pl pb mb i cw cq : Nat} {Aw Aq : Option Addr} {ls D : List (List UInt8)} {ws vq : List Value} {gs : List Gm} {x : Ws} {g : Gh} (hs : Wo1 w wB pl pb mb ls i Aw cw ws gs x g) (hD : D = g.con.map Prod.snd)
    (hb1 : Below wB.heap.size wB w11) (hb2 : Below w11.heap.size w11 w12) (hq : w12.ownsRow w11.heap.size 36 1 (.slice Aq n cq) n vq) (heq : Each w12 w11.heap.size vq D) (h : Pq w12 V wB.heap.size w11.heap.size Ap n cp N vs) :
    Sl V Aq n vq ∧ Sl V Aw i ws ∧ EachS V vq D ∧ EachS V ws D ∧ Below w.heap.size w V := by
  have hb : Below wB.heap.size wB w12 := hb1.trans (hb2.mono hb1.size)
  refine ⟨own_sl (h.row_ hq fun k hk => .inr (hq.lt k hk).1), own_sl (h.row_ (own_keep hs.row hb) fun k hk => .inl (hs.row.lt k hk).2), (h.each_ heq fun v hv k hk => ?_).toS, ?_, (hs.wl.bel.trans (hb.mono hs.wl.bel.size)).trans (h.oth.below (fun k hk => Nat.le_trans hs.wl.bel.size hk.1) (Nat.le_trans hs.wl.bel.size hb.size))⟩
  · obtain ⟨l, hl, A, c, rfl, ho⟩ := heq.mem v hv
    exact .inr (ho.lt k hk).1
  · rw [hD]
    refine (h.each_ (hs.each.below hb) fun v hv k hk => ?_).toS
    exact .inl (hs.ap v hv k hk).1
theorem Pq.drew (h : Pq w12 V B1 B2 Ap n cp N vs) (q : Nat) : Pq w12 (V.drewN q) B1 B2 Ap n cp N vs :=
  ⟨⟨h.oth.os, h.oth.tape, h.oth.output, h.oth.size, h.oth.block⟩, h.row, h.pb, h.le, h.shp, h.zone⟩
theorem Pq.mono (h : Pq w12 V B1 B2 Ap n cp N vs) {M : Nat} (hM : N ≤ M) : Pq w12 V B1 B2 Ap n cp M vs :=
  ⟨h.oth, h.row, h.pb, h.le, fun v hv => by obtain ⟨m, xs, h1, h2⟩ := h.shp v hv; exact ⟨m, xs, h1, by omega⟩, h.zone⟩
end
end Go.Proofs.YtnbomifnbhijbaaGreatDoor
