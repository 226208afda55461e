/-
  A filter as it is built, by the program.
-/
import Derived.Test.YtnbomifnbhijbaaBlP
namespace Go.Proofs.Ytnbomifnbhijbaa
open Go.RowKit Go.Shelf
attribute [local go_sem] Oper.semAt_some
set_option linter.unusedVariables false

section
variable {F : Fence} {m : Nat} {P : Program} (w : World)
theorem wpListIn_min {ops : Array Oper} {rest : List Oper} {o : Oper} {a : Act} {Q : Exit → Act → World → Prop} (hgd : o.guard = none) (s x : Operand) (t : TypeId)
    (ho : o.op = .call { callee := .builtin .min, args := #[s, x], argTypes := #[t, t] }) (p q r : Int) (hs : a.eval s = .int .i64 p) (hx : a.eval x = .int .i64 q) (hr : (if q < p then q else p) = r)
    (h : wpListIn F m P ops Q rest (a.put o.dst (.int .i64 r)) w) : wpListIn F m P ops Q (o :: rest) a w := by
  refine wpListIn_plain hgd fun K hK => ?_
  unfold Oper.wpIn
  refine ⟨?_, ?_⟩
  · simp [Oper.about, ho, resolve, Target.leads, Sem.run_pure]
  · rw [Oper.semAt_plain F _ _ (by rw [ho]; intro c hc'; cases hc')]
    subst hr
    simp [execOp, ho, resolve, invoke, builtin, hs, hx, Builtin.min_, Builtin.min2]
    exact hK _ _ h
theorem wpListIn_max {ops : Array Oper} {rest : List Oper} {o : Oper} {a : Act} {Q : Exit → Act → World → Prop} (hgd : o.guard = none) (s x : Operand) (t : TypeId)
    (ho : o.op = .call { callee := .builtin .max, args := #[s, x], argTypes := #[t, t] }) (p q r : Int) (hs : a.eval s = .int .i64 p) (hx : a.eval x = .int .i64 q) (hr : (if p < q then q else p) = r)
    (h : wpListIn F m P ops Q rest (a.put o.dst (.int .i64 r)) w) : wpListIn F m P ops Q (o :: rest) a w := by
  refine wpListIn_plain hgd fun K hK => ?_
  unfold Oper.wpIn
  refine ⟨?_, ?_⟩
  · simp [Oper.about, ho, resolve, Target.leads, Sem.run_pure]
  · rw [Oper.semAt_plain F _ _ (by rw [ho]; intro c hc'; cases hc')]
    subst hr
    simp [execOp, ho, resolve, invoke, builtin, hs, hx, Builtin.max_, Builtin.max2]
    exact hK _ _ h
end
def mkD (Ds : List Nat) : List Deferred := Ds.map fun D => { target := .collected D, args := #[] }
theorem leaves_marks {F : Fence} {n : Nat} {P : Program} {fn : Func} {tmps : Array Value} {R : Ending → World → Prop} (Qw : World → Prop) : ∀ (Ds : List Nat) (V : World), (∀ V D, D ∈ Ds → V.heap[D]? = some (.deferred (some [])) → Qw V → Qw (V.putObj D (.deferred none))) →
    (∀ V, Qw V → LeavesInM F n P fn tmps R [] .returning V) → Qw V → (∀ D ∈ Ds, V.heap[D]? = some (.deferred (some []))) → Ds.Pairwise (· ≠ ·) → LeavesInM F n P fn tmps R (mkD Ds) .returning V := by
  intro Ds
  induction Ds with
  | nil => exact fun V _ he hq _ _ => he V hq
  | cons D r ih =>
    intro V hQ he hq hd hp
    have hD := hd D (List.mem_cons_self ..)
    have hp2 := List.pairwise_cons.1 hp
    refine ⟨by simp, .inl ⟨D, _, rfl, run_takeDeferred hD, ?_⟩⟩
    exact ih _ (fun V D' h => hQ V D' (List.mem_cons_of_mem _ h)) he (hQ V D (List.mem_cons_self ..) hD hq) (fun D' h' => (World.putObj_heap_other (fun e => hp2.1 D' h' (by omega))).trans (hd D' (List.mem_cons_of_mem _ h'))) hp2.2
/-- Where the loop over the keys stands. -/
structure BuS (w V : World) (S K : Nat) (F : List UInt8) (Ds : List Nat) : Prop where
  fb : Fb V w.heap.size F
  box : Boxed V (w.heap.size + 1) 50 (.slice (some ⟨w.heap.size, 0, none⟩) (S + 1) (S + 1))
  bel : Below w.heap.size w V
  ds : ∀ D ∈ Ds, V.heap[D]? = some (.deferred (some [])) ∧ w.heap.size + 2 ≤ D
theorem BuS.below {w V V' : World} {S K : Nat} {F : List UInt8} {Ds : List Nat} (h : BuS w V S K F Ds) (hb : Below V.heap.size V V') : BuS w V' S K F Ds :=
  ⟨(hb.block _ h.fb.lt).trans h.fb, (hb.block _ h.box.lt).trans h.box, h.bel.trans (hb.mono h.bel.size), fun D hm => ⟨(hb.block D (Array.getElem?_eq_some_iff.1 (h.ds D hm).1).1).trans (h.ds D hm).1, (h.ds D hm).2⟩⟩
theorem BuS.set {w V : World} {S K : Nat} {F : List UInt8} {Ds : List Nat} (h : BuS w V S K F Ds) (q : Nat) (v : UInt8) : BuS w (V.setCell ⟨w.heap.size, q, none⟩ (.int .u8 (v.toNat : Int))) S K (F.set q v) Ds :=
  ⟨h.fb.set v, (heap_setCell_other V ⟨w.heap.size, q, none⟩ (w.heap.size + 1) _ (by simp only; omega)).trans h.box, h.bel.setCell (p := ⟨w.heap.size, q, none⟩) (Nat.le_refl _) _, fun D hm => ⟨(heap_setCell_other V ⟨w.heap.size, q, none⟩ D _ (by have := (h.ds D hm).2; simp only; omega)).trans (h.ds D hm).1, (h.ds D hm).2⟩⟩
theorem or_val {y r : Nat} (hy : y < 2 ^ 8) (hr8 : r < 8) (h3 : y ||| 2 ^ r < 256) : bits .or .u8 (y : Int) ((2 : Int) ^ r % 256) = (((UInt8.ofNat (y ||| 2 ^ r)).toNat : Nat) : Int) := by
  have h1 : 2 ^ r < 256 := by have := Bl.pow_lt r; rwa [Nat.mod_eq_of_lt hr8] at this
  have h2 : ((2 ^ r : Nat) : Int) = (2 : Int) ^ r := by push_cast; rfl
  rw [← h2]
  generalize 2 ^ r = z at h1 h3 ⊢
  have hz : ((z : Nat) : Int) % 256 = z := by omega
  rw [hz, u8_or_nat y z hy h1, UInt8.toNat_ofNat', Nat.mod_eq_of_lt h3]
theorem build_start (ks : List (List UInt8)) (per : Int) : Bl.adds (8 * Bl.sizeF ks.length per) (Bl.kF per) ((List.replicate (Bl.sizeF ks.length per + 1) 0).set (Bl.sizeF ks.length per) (UInt8.ofNat (Bl.kF per))) ks = Bl.build ks per := by
  have h1 := Bl.size_ge ks.length per
  unfold Bl.build
  generalize Bl.sizeF ks.length per = s at h1 ⊢
  rw [List.replicate_succ', List.set_append_right _ _ (by rw [List.length_replicate]; exact Nat.le_refl _)]
  rw [List.length_replicate, Nat.sub_self, List.set_cons_zero]
  exact Bl.adds_last (Bl.kF per) _ (by omega) ks (List.replicate s 0) List.length_replicate
theorem BuS.from_ {w V V' : World} {S K E : Nat} {F : List UInt8} {Ds : List Nat} {row : Option Nat} (h : BuS w V S K F Ds) (hg : V.grownBy V' row) (hE : w.heap.size + 2 ≤ E) (hD : ∀ D ∈ Ds, D < E)
    (hr : ∀ r, row = some r → E ≤ r ∧ ∃ o : Obj, V.heap[r]? = some o ∧ o.isCells = false) : BuS w V' S K F Ds := by
  refine ⟨(hg.block _ h.fb.lt (fun e => by have := (hr _ e.symm).1; omega)).trans h.fb, boxed_from h.box hg hr, below_from h.bel hg (by omega) hr h.bel.size, fun D hm => ⟨?_, (h.ds D hm).2⟩⟩
  exact (hg.block D (Array.getElem?_eq_some_iff.1 (h.ds D hm).1).1 (fun e => by have := (hr _ e.symm).1; have := hD D hm; omega)).trans (h.ds D hm).1
set_option maxRecDepth 100000 in
set_option maxHeartbeats 4000000 in
theorem build_any (m n c : Nat) (A : Option Addr) (ks : List (List UInt8)) (per : Int) (hp : -9223372036854775808 ≤ per ∧ per ≤ 9223372036854775807) (w : World) (hS : Sl w A n (ks.map svB)) (hn : n ≤ 65536) (hc : n ≤ c) (hl : ∀ l ∈ ks, l.length ≤ 4611686018427387904) :
    CallsIn Fence.wide (m + 5) Try.prog 23 #[.slice A n c, .int .i64 per] w fun e w' => ∃ A' c', e = .returned (.slice A' (Bl.sizeF n per + 1) c') ∧ w'.ownsRow w.heap.size 5 1 (.slice A' (Bl.sizeF n per + 1) c') (Bl.sizeF n per + 1) (bv (Bl.build ks per)) ∧ Below w.heap.size w w' := by
  obtain ⟨P, hP⟩ : ∃ P, P = Bl.perC per := ⟨_, rfl⟩
  obtain ⟨M, hM⟩ : ∃ M, M = n * P := ⟨_, rfl⟩
  have m1 : (if (24 : Int) < per then 24 else per) = min per 24 := by omega
  have m2 : (if (1 : Int) < min per 24 then min per 24 else 1) = (P : Int) := by rw [hP]; unfold Bl.perC; omega
  have m3 : (if (65536 : Int) < n then 65536 else (n : Int)) = n := by omega
  have m4 : (n : Int) * P = (M : Int) := by rw [hM]; omega
  have m5 : (if (64 : Int) < M then (M : Int) else 64) = ((max 64 M : Nat) : Int) := by omega
  have hP1 : P ≤ 24 := by rw [hP]; exact Bl.perC_le per
  have hP2 : 1 ≤ P := by rw [hP]; exact Bl.perC_pos per
  have hM1 : M ≤ 1572864 := by rw [hM]; exact Nat.mul_le_mul hn hP1
  have m6 : (if (1 : Int) < (P : Int) * 69 / 100 then (P : Int) * 69 / 100 else 1) = ((max 1 (P * 69 / 100) : Nat) : Int) := by omega
  have hSz : Bl.sizeF n per = (max 64 M + 7) / 8 := by unfold Bl.sizeF; rw [← hP, ← hM]
  have hK : Bl.kF per = max 1 (P * 69 / 100) := by unfold Bl.kF; rw [← hP]
  obtain ⟨MM, hMM⟩ : ∃ MM : Array Value, MM = (bv (List.replicate ((max 64 M + 7) / 8 + 1) 0)).toArray := ⟨_, rfl⟩
  have hmk := mk_bytesB ((max 64 M + 7) / 8 + 1) (by omega)
  rw [← hMM] at hmk
  obtain ⟨M2, hM2⟩ : ∃ M2, M2 = max 64 M := ⟨_, rfl⟩
  obtain ⟨K, hK2⟩ : ∃ K, K = max 1 (P * 69 / 100) := ⟨_, rfl⟩
  rw [← hM2] at m5 hSz hmk hMM
  rw [← hK2] at m6 hK
  have hM3 : 64 ≤ M2 ∧ M2 ≤ 1572864 := by omega
  have hK3 : 1 ≤ K ∧ K ≤ 16 := by omega
  have HX := Lib.hid (And.intro hSz hK)
  have hnI : (n : Int) ≤ 65536 := by omega
  have hncI : (n : Int) ≤ c := by omega
  clear hM2 hK2 hP hM hSz hK
  have hF0 : Fb ((w.alloc (.cells MM 5)).alloc (.cells #[.slice (some ⟨w.heap.size, 0, none⟩) ((M2 + 7) / 8 + 1) ((M2 + 7) / 8 + 1)] 50)) w.heap.size (List.replicate ((M2 + 7) / 8 + 1) 0) := by
    rw [hMM]
    exact (Below.heap_alloc _ _ _ (by simp)).trans (heap_alloc_new w _)
  have hB0 : Boxed ((w.alloc (.cells MM 5)).alloc (.cells #[.slice (some ⟨w.heap.size, 0, none⟩) ((M2 + 7) / 8 + 1) ((M2 + 7) / 8 + 1)] 50)) (w.heap.size + 1) 50 (.slice (some ⟨w.heap.size, 0, none⟩) ((M2 + 7) / 8 + 1) ((M2 + 7) / 8 + 1)) := by
    have := Boxed.new (w.alloc (.cells MM 5)) 50 (.slice (some ⟨w.heap.size, 0, none⟩) ((M2 + 7) / 8 + 1) ((M2 + 7) / 8 + 1)); rwa [World.size_alloc] at this
  have hb0 : Below w.heap.size w ((w.alloc (.cells MM 5)).alloc (.cells #[.slice (some ⟨w.heap.size, 0, none⟩) ((M2 + 7) / 8 + 1) ((M2 + 7) / 8 + 1)] 50)) := ((Below.refl _ w).alloc (Nat.le_refl _) _).alloc (by simp) _
  have x3 := hF0.cell (k := (M2 + 7) / 8) (by simp)
  have x4 := hF0.frozen (k := (M2 + 7) / 8)
  have HMM := Lib.hid hMM
  clear hF0 hB0 hb0 hMM
  refine callsIn_of_wp_marks Try.func23 rfl trivial ?_ rfl
  simp only [Try.ntmps23, List.size_toArray, List.length_cons, List.length_nil, Nat.reduceAdd, Nat.reduceSub, Array.replicate_succ, Array.replicate_zero, List.push_toArray, List.append_toArray, List.nil_append, List.cons_append]
  gi_wp2_with (first
    | (refine wpListIn_min _ rfl (.tmp 13) (.const (.int .i64 65536)) 3 rfl n 65536 n rfl rfl m3 ?_)
    | (refine wpListIn_min _ rfl (.tmp 16) (.const (.int .i64 24)) 3 rfl per 24 (min per 24) rfl rfl m1 ?_)
    | (refine wpListIn_max _ rfl (.const (.int .i64 1)) (.tmp 17) 3 rfl 1 (min per 24) P rfl rfl m2 ?_)
    | (refine wpListIn_max _ rfl (.const (.int .i64 64)) (.tmp 22) 3 rfl 64 M M2 rfl rfl m5 ?_)
    | (refine wpListIn_max _ rfl (.const (.int .i64 1)) (.tmp 28) 3 rfl 1 ((P : Int) * 69 / 100) K rfl rfl m6 ?_))
  have hMM2 : MM.setIfInBounds ((M2 + 7) / 8) (.int .u8 (K : Int)) = (bv ((List.replicate ((M2 + 7) / 8 + 1) 0).set ((M2 + 7) / 8) (UInt8.ofNat K))).toArray := by
    have hk : Value.int .u8 (K : Int) = Value.int .u8 (((UInt8.ofNat K).toNat : Nat) : Int) := by rw [UInt8.toNat_ofNat', Nat.mod_eq_of_lt (by omega)]
    rw [HMM.out, hk]
    apply Array.ext'
    simp [bv, List.map_set]
  have hFS : Fb ((w.alloc (.cells (MM.setIfInBounds ((M2 + 7) / 8) (.int .u8 (K : Int))) 5)).alloc (.cells #[.slice (some ⟨w.heap.size, 0, none⟩) ((M2 + 7) / 8 + 1) ((M2 + 7) / 8 + 1)] 50)) w.heap.size ((List.replicate ((M2 + 7) / 8 + 1) 0).set ((M2 + 7) / 8) (UInt8.ofNat K)) := by
    rw [hMM2]
    exact (Below.heap_alloc _ _ _ (by simp)).trans (heap_alloc_new w _)
  have hBS : Boxed ((w.alloc (.cells (MM.setIfInBounds ((M2 + 7) / 8) (.int .u8 (K : Int))) 5)).alloc (.cells #[.slice (some ⟨w.heap.size, 0, none⟩) ((M2 + 7) / 8 + 1) ((M2 + 7) / 8 + 1)] 50)) (w.heap.size + 1) 50 (.slice (some ⟨w.heap.size, 0, none⟩) ((M2 + 7) / 8 + 1) ((M2 + 7) / 8 + 1)) := by
    have := Boxed.new (w.alloc (.cells (MM.setIfInBounds ((M2 + 7) / 8) (.int .u8 (K : Int))) 5)) 50 (.slice (some ⟨w.heap.size, 0, none⟩) ((M2 + 7) / 8 + 1) ((M2 + 7) / 8 + 1)); rwa [World.size_alloc] at this
  have hbS : Below w.heap.size w ((w.alloc (.cells (MM.setIfInBounds ((M2 + 7) / 8) (.int .u8 (K : Int))) 5)).alloc (.cells #[.slice (some ⟨w.heap.size, 0, none⟩) ((M2 + 7) / 8 + 1) ((M2 + 7) / 8 + 1)] 50)) := ((Below.refl _ w).alloc (Nat.le_refl _) _).alloc (by simp) _
  have hVs : ((w.alloc (.cells (MM.setIfInBounds ((M2 + 7) / 8) (.int .u8 (K : Int))) 5)).alloc (.cells #[.slice (some ⟨w.heap.size, 0, none⟩) ((M2 + 7) / 8 + 1) ((M2 + 7) / 8 + 1)] 50)).heap.size = w.heap.size + 2 := by simp
  generalize ((w.alloc (.cells (MM.setIfInBounds ((M2 + 7) / 8) (.int .u8 (K : Int))) 5)).alloc (.cells #[.slice (some ⟨w.heap.size, 0, none⟩) ((M2 + 7) / 8 + 1) ((M2 + 7) / 8 + 1)] 50)) = V0 at hFS hBS hbS hVs ⊢
  obtain ⟨S, hSS⟩ : ∃ S, S = (M2 + 7) / 8 := ⟨_, rfl⟩
  have hXS : Bl.sizeF n per = S := by rw [HX.out.1, hSS]
  have hS8 : 8 ≤ S ∧ S ≤ 196608 := by omega
  rw [← hSS] at hFS hBS
  rw [show ((M2 : Nat) + 7 : Int) / 8 = ((S : Nat) : Int) by omega, ← hSS]
  obtain ⟨F0, hF0⟩ : ∃ F0, F0 = (List.replicate (S + 1) 0).set S (UInt8.ofNat K) := ⟨_, rfl⟩
  rw [← hF0] at hFS
  have hF0l : F0.length = S + 1 := by rw [hF0]; simp
  have H0 : Hid (BuS w V0 S K (Bl.adds (8 * S) K F0 (ks.take 0)) []) := ⟨hFS, hBS, hbS, fun D hD => (by cases hD)⟩
  have HSl := Lib.hid (And.intro hS hF0)
  clear hMM2 hFS hBS hbS hSS hF0 hS m1 m2 m3 m4 m5 m6 x3 x4
  refine wpIn_loop (fun a' w' => ∃ (i : Nat) (Ds : List Nat) (u9 u41 u42 u43 u44 u45 u46 u47 u48 u60 : Value), i ≤ n ∧ BuS w w' S K (Bl.adds (8 * S) K F0 (ks.take i)) Ds ∧ Ds.Pairwise (· ≠ ·) ∧ a' = Act.mk #[
      .slice A n c, .int .i64 P, undef, undef, .slice none 0 0, .int .i64 S, .int .i64 K, .pointer (some ⟨w.heap.size + 1, 0, none⟩), undef, u9, undef, .slice A n c,
      .slice A n c, .int .i64 n, .int .i64 n, .slice A n c, .int .i64 per, .int .i64 (min per 24), .int .i64 P, .slice A n c, .int .i64 n, .int .i64 P, .int .i64 M, .int .i64 M2,
      .int .i64 (M2 + 7), .int .i64 S, .int .i64 P, .int .i64 (P * 69), .int .i64 (P * 69 / 100), .int .i64 K, .int .i64 S, .int .i64 (S + 1),
      .slice (some ⟨w.heap.size, 0, none⟩) (S + 1) (S + 1), .slice (some ⟨w.heap.size, 0, none⟩) (S + 1) (S + 1), .int .i64 S, .int .i64 K, .int .u8 K, .pointer (some ⟨w.heap.size, S, none⟩), .slice A n c,
      .int .i64 n, .int .i64 i, u41, u42, u43, u44, u45, u46, u47, u48, undef, undef, undef, undef, undef, undef, undef, undef, undef, undef, undef, u60, undef] (mkD Ds)) (fun a' w' => n - (intOf (a'.tmps.getD 40 undef)).toNat) ?_ ?_
  · exact ⟨0, [], _, _, _, _, _, _, _, _, _, _, Nat.zero_le _, H0.out, List.Pairwise.nil, rfl⟩
  · rintro a' wr ⟨i, Ds, u9, u41, u42, u43, u44, u45, u46, u47, u48, u60, hi, hB, hD, rfl⟩
    have HB := Lib.hid (And.intro hB hD)
    by_cases hin : i < n
    · have hcN : (i : Int) < n := by omega
      obtain ⟨b, o, u, rfl, hu, hce⟩ := HSl.out.1.at_ hin
      have x0 := (hB.bel.cell (World.block_lt_of_cell? w _ hce)).trans hce
      obtain ⟨key, hkey, rfl⟩ : ∃ key, ks[i]? = some key ∧ u = svB key := by
        rw [List.getElem?_map] at hu
        cases h : ks[i]? with
        | none => rw [h] at hu; cases hu
        | some key => rw [h] at hu; exact ⟨key, rfl, (Option.some.inj hu).symm⟩
      unfold svB at x0
      have hkl := hl key (List.mem_of_getElem? hkey)
      have HK := Lib.hid hkey
      clear hB hD hu hce hkey
      gi_wp2_with fail
      refine ⟨trivial, ?_⟩
      rw [show (8 : Int) * S = ((8 * S : Nat) : Int) by omega]
      refine (places_any (m + 3) key (8 * S) K wr).mono ?_
      rintro e W1 ⟨rfl, hP, hb1, hs1⟩
      have hB1 : BuS w W1 S K (Bl.adds (8 * S) K F0 (ks.take i)) Ds := HB.out.1.below hb1
      have hlo : w.heap.size + 2 ≤ wr.heap.size := HB.out.1.box.lt
      have hDs : ∀ D ∈ Ds, D < wr.heap.size := fun D hm => (Array.getElem?_eq_some_iff.1 (HB.out.1.ds D hm).1).1
      generalize hG : Bl.adds (8 * S) K F0 (ks.take i) = G at hB1
      have hGl : G.length = S + 1 := by rw [← hG, Bl.adds_len]; exact hF0l
      have H1 := Lib.hid (And.intro hB1 (And.intro hP (And.intro hDs hG)))
      clear x0 hP hb1 hB1 hDs hG
      gi_wp2_with fail
      have hKt : ∀ {A B C : World}, Kp3 wr.heap.size A B → Kp3 wr.heap.size B C → Kp3 wr.heap.size A C := fun h1 h2 j hj1 hj2 => (h2 j hj1 hj2).trans (h1 j hj1 hj2)
      have hKb : ∀ (V : World) (l : Nat) (o o' : Obj), W1.heap.size ≤ l → V.heap[l]? = some o → o.isCells = false → o.isWalk = false → Kp3 wr.heap.size V (V.putObj l o') := fun V l o o' hl _ _ _ j hj1 hj2 => World.putObj_heap_other (by omega)
      apply wpIn_rangeFunc_ownF (Kp := Kp3 wr.heap.size) (α := Fin (8 * S)) (encs := fun x : Fin (8 * S) => #[.int .i64 ((x.val : Nat) : Int)]) rfl (by omega) (gf := 43) (lb := #[.pointer (some ⟨wr.heap.size, 0, none⟩), .pointer (some ⟨wr.heap.size + 1, 0, none⟩), .pointer (some ⟨wr.heap.size + 2, 0, none⟩)]) rfl trivial (enters_of Try.func43 (by kernel_rfl) rfl)
        (places_stops (m + 3) key hkl (8 * S) K wr.heap.size (by omega) (by omega) (by omega) W1 H1.out.2.1) hKt hKb (Below.refl _ _) (fun _ => rfl)
        (fun pre V => BuS w V S K ((pre.map Fin.val).foldl Bl.setB G) Ds) (fun _ _ _ => False)
        (fun pre V V' row hs hg hr => hs.from_ hg (by omega) (fun D hm => by have := H1.out.2.2.1 D hm; omega) hr)
        (fun cd pre V V' row hs hg hr => hs) H1.out.1
      · intro l x V K2 hK2
        have HK2 := Lib.hid hK2
        clear hK2
        gi_wp2
        exact HK2.out
      · rintro l' pre x V hBV hlen
        have hxl := x.isLt
        generalize hGx : (pre.map Fin.val).foldl Bl.setB G = Gx at hBV
        have hGxl : Gx.length = S + 1 := by rw [← hGx, Bl.fold_len]; exact hGl
        have hpG : x.val / 8 < Gx.length := by omega
        have c0 := hBV.box.cell
        have x3 := hBV.fb.cell hpG
        have x4 := hBV.fb.frozen (k := x.val / 8)
        have hy := Gx[x.val / 8].toNat_lt
        have hGp : Gx.getD (x.val / 8) 0 = Gx[x.val / 8] := by rw [List.getD_eq_getElem?_getD, List.getElem?_eq_getElem hpG]; rfl
        have hsB : Bl.setB Gx x.val = Gx.set (x.val / 8) (UInt8.ofNat (Gx[x.val / 8].toNat ||| 2 ^ (x.val % 8))) := by unfold Bl.setB; rw [hGp]
        have hor := Bl.or_lt Gx[x.val / 8] x.val
        have HH2 := Lib.hid (And.intro hBV (And.intro hGx (And.intro hsB hor)))
        generalize Gx[x.val / 8].toNat = y at x3 hy HH2
        obtain ⟨q, hqd⟩ : ∃ q, q = x.val / 8 := ⟨_, rfl⟩
        obtain ⟨r, hrd⟩ : ∃ r, r = x.val % 8 := ⟨_, rfl⟩
        have hqS : (q : Int) < (S : Int) + 1 := by omega
        have hr8 : r < 8 := by omega
        rw [← hqd] at x3 x4
        have hq : IntKind.i64.wrap (((x.val : Nat) : Int) / 8) = ((q : Nat) : Int) := by rw [IntWalk.i64_in _ (by omega)]; omega
        have hr : ((x.val : Nat) : Int).tmod 8 = ((r : Nat) : Int) := by rw [Int.tmod_eq_emod_of_nonneg (Int.natCast_nonneg _)]; omega
        have HQ := Lib.hid (And.intro hqd hrd)
        clear hBV hGx hsB hor hGp hqd hrd hpG hGxl
        gi_wp2
        refine wpIn_region_tail 10 (by rintro ⟨a, w, h⟩; exact h) (by kernel_rfl) (by kernel_rfl) (by kernel_rfl) ?_
        simp only [List.take_succ_cons, List.take_zero, List.drop_succ_cons, List.drop_zero]
        repeat still_step
        try refine wpStill_nil ?_
        change wpList _ _ _ _ _ V.drew
        have y3 : V.drew.cell? ⟨w.heap.size, q, none⟩ = some (.int .u8 (y : Int)) := x3
        have y4 : V.drew.frozen? ⟨w.heap.size, q, none⟩ = false := x4
        have hVd : BuS w V.drew S K Gx Ds := HH2.out.1.below (Below.refl _ V).drew
        have hVk : Kp3 wr.heap.size V V.drew := fun _ _ _ => rfl
        have hVo : KeepsOthers V V.drew := KeepsOthers.drew V
        have HD := Lib.hid (And.intro hVd (And.intro hVk hVo))
        clear c0 x3 x4 hVd hVk hVo
        generalize V.drew = w4 at y3 y4 HD ⊢
        go_wp2_with fail
        have hv := or_val hy hr8 (by have h3 := HH2.out.2.2.2; rwa [← HQ.out.2] at h3)
        rw [hv]
        refine ⟨HD.out.2.2.trans (KeepsOthers.setCell _ _ _), fun j hj1 hj2 => (heap_setCell_other w4 ⟨w.heap.size, q, none⟩ j _ (by simp only; omega)).trans (HD.out.2.1 j hj1 hj2), ?_⟩
        show BuS w _ S K (((pre ++ [x]).map Fin.val).foldl Bl.setB G) Ds
        rw [List.map_append, List.foldl_append, HH2.out.2.1]
        show BuS w _ S K (Bl.setB Gx x.val) Ds
        rw [HH2.out.2.2.1, ← HQ.out.1, ← HQ.out.2]
        exact HD.out.1.set q _
      · rintro D xs V hD2 hxs hBV hK
        have hB2 : BuS w V S K (Bl.adds (8 * S) K F0 (ks.take (i + 1))) (D :: Ds) := by
          rw [List.take_add_one, HK.out]
          show BuS w V S K (Bl.adds (8 * S) K F0 (ks.take i ++ [key])) (D :: Ds)
          rw [Bl.adds_snoc, H1.out.2.2.2]
          unfold Bl.addK
          rw [← hxs]
          refine ⟨hBV.fb, hBV.box, hBV.bel, fun D' hm => ?_⟩
          rcases List.mem_cons.1 hm with rfl | hm
          · exact ⟨hK, by omega⟩
          · exact hBV.ds D' hm
        have hP2 : (D :: Ds).Pairwise (· ≠ ·) := List.pairwise_cons.2 ⟨fun D' hm e => by have := H1.out.2.2.1 D' hm; omega, HB.out.2⟩
        have HE := Lib.hid (And.intro hB2 hP2)
        clear hB2 hP2 hBV hK hxs
        gi_wp2
        exact ⟨⟨i + 1, D :: Ds, _, _, _, _, _, _, _, _, _, _, by omega, HE.out.1, HE.out.2, rfl⟩, by simp [intOf]; omega⟩
      · rintro D cd pre V hD2 hpre h hK
        exact h.elim
    · have hcN : ¬ (i : Int) < n := by omega
      obtain rfl : i = n := by omega
      have c0 := hB.box.cell
      clear hB hD
      gi_wp2
      have hkl : ks.length = i := by have := HSl.out.1.1; simpa using this
      have htk : ks.take i = ks := List.take_of_length_le (by rw [hkl]; exact Nat.le_refl _)
      refine leaves_marks (fun V => Fb V w.heap.size (Bl.build ks per) ∧ Below w.heap.size w V) Ds wr (fun V D hm hk hq => ⟨?_, ?_⟩) (fun V hq => ?_) ⟨?_, HB.out.1.bel⟩ (fun D hm => (HB.out.1.ds D hm).1) HB.out.2
      · have := (HB.out.1.ds D hm).2
        exact (World.putObj_heap_other (by omega)).trans hq.1
      · have := (HB.out.1.ds D hm).2
        exact hq.2.grown (grownBy_putObj' V D (.deferred none)) hq.2.size (fun r e => by cases e; omega)
      · have hbl : (Bl.build ks per).length = S + 1 := by rw [Bl.build_len, hkl, hXS]
        have hrow := hq.1.row (B := w.heap.size) (Nat.le_refl _) (by rw [hbl]; simp only [maxLen]; omega)
        rw [hbl] at hrow
        exact ⟨_, results_tmp rfl _ _ _, _, _, rfl, hrow, hq.2⟩
      · have hf := HB.out.1.fb
        have hbs := build_start ks per
        rw [hkl, hXS, HX.out.2] at hbs
        rw [htk, HSl.out.2, hbs] at hf
        exact hf
end Go.Proofs.Ytnbomifnbhijbaa
