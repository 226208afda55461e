/-
  A filter as it is built, by the reference.
-/
import Derived.Test.YtnbomifnbhijbaaBlF
import Derived.StillTailTactics
namespace Go.Proofs.Ytnbomifnbhijbaa
open Go.RowKit
set_option linter.unusedVariables false

def svB (l : List UInt8) : Value := .string (str l)
section
variable {P : Program} (w : World)
theorem wpList_min {ops : Array Oper} {rest : List Oper} {o : Oper} {a : Act} {Q : Exit → Act → World → Prop} (hgd : o.guard = none) (s x : Operand) (t : TypeId)
    (ho : o.op = .call { callee := .builtin .min, args := #[s, x], argTypes := #[t, t] }) (p q r : Int) (hs : a.eval s = .int .i64 p) (hx : a.eval x = .int .i64 q) (hr : (if q < p then q else p) = r)
    (h : wpList P ops Q rest (a.put o.dst (.int .i64 r)) w) : wpList P ops Q (o :: rest) a w := by
  refine wpList_plain hgd fun K hK => ?_
  unfold Oper.wp execOp
  subst hr
  simp only [ho, resolve, invoke, builtin, Sem.run_bind, Sem.run_pure, Result.andThen_ok, List.map_toArray, List.map_cons, List.map_nil, hs, hx, Builtin.min_, Builtin.min2, List.foldlM]
  exact hK _ _ h
theorem wpList_max {ops : Array Oper} {rest : List Oper} {o : Oper} {a : Act} {Q : Exit → Act → World → Prop} (hgd : o.guard = none) (s x : Operand) (t : TypeId)
    (ho : o.op = .call { callee := .builtin .max, args := #[s, x], argTypes := #[t, t] }) (p q r : Int) (hs : a.eval s = .int .i64 p) (hx : a.eval x = .int .i64 q) (hr : (if p < q then q else p) = r)
    (h : wpList P ops Q rest (a.put o.dst (.int .i64 r)) w) : wpList P ops Q (o :: rest) a w := by
  refine wpList_plain hgd fun K hK => ?_
  unfold Oper.wp execOp
  subst hr
  simp only [ho, resolve, invoke, builtin, Sem.run_bind, Sem.run_pure, Result.andThen_ok, List.map_toArray, List.map_cons, List.map_nil, hs, hx, Builtin.max_, Builtin.max2, List.foldlM]
  exact hK _ _ h
end
theorem mk_bytesB (k : Nat) (hk : k ≤ 1000000) (x : Int) (W : World) (hx : x = k) : (Instr.makeSlice 50 (.int .i64 x) (.int .i64 x)).run Try.prog W = .ok (.slice (some ⟨W.heap.size, 0, none⟩) k k) (W.alloc (.cells (bv (List.replicate k 0)).toArray 5)) := by
  obtain ⟨i, hi, hz0, hz1, hz2⟩ := info_parts bytesElB.hi
  subst hx
  have h := run_make (P := Try.prog) W 50 5 i (.int .u8 0) bytesElB.ht hi hz0 .i64 .i64 (k : Int) (k : Int) (by omega) (by omega) (by rw [hz2]; omega) (by omega)
  rw [h]
  have e : madeCells (Value.int .u8 0).cells ((k : Int).toNat * i.size) = (bv (List.replicate k 0)).toArray := by
    apply Array.ext'
    have e1 : (Value.int IntKind.u8 0).cells = #[.int .u8 0] := rfl
    rw [e1, toList_madeCells_one, hz1]
    simp [bv]
  rw [e]
  rfl
theorem Bl.build_set (ks : List (List UInt8)) (per : Int) : (Bl.adds (8 * Bl.sizeF ks.length per) (Bl.kF per) (List.replicate (Bl.sizeF ks.length per + 1) 0) ks).set (Bl.sizeF ks.length per) (UInt8.ofNat (Bl.kF per)) = Bl.build ks per := by
  have h1 := Bl.size_ge ks.length per
  unfold Bl.build
  generalize Bl.sizeF ks.length per = s at h1 ⊢
  rw [List.replicate_succ', Bl.adds_last (Bl.kF per) 0 (by omega) ks (List.replicate s 0) (by simp), List.set_append_right _ _ (by simp [Bl.adds_len])]
  simp [Bl.adds_len]
/-- A filter's bytes as a block. -/
def Fb (W : World) (b : Nat) (l : List UInt8) : Prop := W.heap[b]? = some (.cells (bv l).toArray 5 (0, 0))
theorem Fb.lt {W : World} {b : Nat} {l : List UInt8} (h : Fb W b l) : b < W.heap.size := (Array.getElem?_eq_some_iff.1 h).1
theorem Fb.cell {W : World} {b k : Nat} {l : List UInt8} (h : Fb W b l) (hk : k < l.length) : W.cell? ⟨b, k, none⟩ = some (.int .u8 (l[k].toNat : Int)) := by
  rw [cell_of_row _ b k _ _ (0, 0) h]
  simpa using bv_get hk
theorem Fb.frozen {W : World} {b k : Nat} {l : List UInt8} (h : Fb W b l) : W.frozen? ⟨b, k, none⟩ = false := by
  simp [World.frozen?, show W.heap[b]? = _ from h]
theorem Fb.set {W : World} {b k : Nat} {l : List UInt8} (h : Fb W b l) (v : UInt8) : Fb (W.setCell ⟨b, k, none⟩ (.int .u8 (v.toNat : Int))) b (l.set k v) := by
  unfold Fb at h ⊢
  rw [heap_setCell_same W b k _ _ (.int .u8 (v.toNat : Int)) h]
  congr 2
  apply Array.ext'
  simp [bv, List.map_set]
theorem Fb.row {W : World} {b B : Nat} {l : List UInt8} (h : Fb W b l) (hB : B ≤ b) (hl : l.length ≤ maxLen) : W.ownsRow B 5 1 (.slice (some ⟨b, 0, none⟩) l.length l.length) l.length (bv l) :=
  ⟨by simp [bv], .inr ⟨b, l.length, _, rfl, hB, h, Nat.le_refl _, hl, by simp [bv], by rw [Nat.mul_one, List.take_of_length_le (by simp [bv])]⟩⟩
theorem sl_setB {W : World} {A1 : Option Addr} {K B k : Nat} {xs : List Value} {u : Value} (h : Sl W A1 K xs) (hb : ∀ g o, A1 = some ⟨g, o, none⟩ → g ≠ B) : Sl (W.setCell ⟨B, k, none⟩ u) A1 K xs :=
  ⟨h.1, fun hn => by
    obtain ⟨g, o, e, hc⟩ := h.2 hn
    exact ⟨g, o, e, fun j v hv => (World.cell?_of_block (w := W) (a := ⟨g, o + j, none⟩) (heap_setCell_other W ⟨B, k, none⟩ g u (hb g o e))).trans (hc j v hv)⟩⟩
set_option maxRecDepth 100000 in
set_option maxHeartbeats 4000000 in
theorem rbuild_any (n c : Nat) (A : Option Addr) (ks : List (List UInt8)) (per : Int) (hp : -9223372036854775808 ≤ per ∧ per ≤ 9223372036854775807) (w : World) (hS : Sl w A n (ks.map svB)) (hn : n ≤ 65536) (hc : n ≤ c) (hl : ∀ l ∈ ks, l.length ≤ 4611686018427387904) :
    Calls Try.prog 24 #[.slice A n c, .int .i64 per] w fun e w' => ∃ A' c', e = .returned (.slice A' (Bl.sizeF n per + 1) c') ∧ w'.ownsRow w.heap.size 5 1 (.slice A' (Bl.sizeF n per + 1) c') (Bl.sizeF n per + 1) (bv (Bl.build ks per)) ∧ Below w.heap.size w w' := by
  obtain ⟨P, hP⟩ : ∃ P, P = Bl.perC per := ⟨_, rfl⟩
  obtain ⟨M, hM⟩ : ∃ M, M = n * P := ⟨_, rfl⟩
  have m1 : (if per < 24 then per else 24) = min per 24 := by omega
  have m2 : (if (1 : Int) < min per 24 then min per 24 else 1) = (P : Int) := by rw [hP]; unfold Bl.perC; omega
  have m3 : (if (65536 : Int) < n then 65536 else (n : Int)) = n := by omega
  have m4 : (n : Int) * P = (M : Int) := by rw [hM]; omega
  have m5 : (if (64 : Int) < M then (M : Int) else 64) = ((max 64 M : Nat) : Int) := by omega
  have hP1 : P ≤ 24 := by rw [hP]; exact Bl.perC_le per
  have hP2 : 1 ≤ P := by rw [hP]; exact Bl.perC_pos per
  have hM1 : M ≤ 1572864 := by rw [hM]; exact Nat.mul_le_mul hn hP1
  have m6 : (if (1 : Int) < (P : Int) * 69 / 100 then (P : Int) * 69 / 100 else 1) = ((max 1 (P * 69 / 100) : Nat) : Int) := by omega
  have hSz : Bl.sizeF n per = (max 64 M + 7) / 8 := by unfold Bl.sizeF; rw [← hP, ← hM]
  have hK : Bl.kF per = max 1 (P * 69 / 100) := by unfold Bl.kF; rw [← hP]
  have hmk := mk_bytesB ((max 64 M + 7) / 8 + 1) (by omega)
  obtain ⟨M2, hM2⟩ : ∃ M2, M2 = max 64 M := ⟨_, rfl⟩
  obtain ⟨K, hK2⟩ : ∃ K, K = max 1 (P * 69 / 100) := ⟨_, rfl⟩
  rw [← hM2] at m5 hSz hmk
  rw [← hK2] at m6 hK
  have hM3 : 64 ≤ M2 ∧ M2 ≤ 1572864 := by omega
  have hK3 : 1 ≤ K ∧ K ≤ 16 := by omega
  have HX := Lib.hid (And.intro hSz hK)
  clear hM2 hK2 hP hM hSz hK
  go_enter Try.func24, Try.ntmps24
  go_wp2_with (first
    | (refine wpList_min _ rfl (.const (.int .i64 24)) (.tmp 12) 3 rfl 24 per (min per 24) rfl rfl m1 ?_)
    | (refine wpList_max _ rfl (.const (.int .i64 1)) (.tmp 13) 3 rfl 1 (min per 24) P rfl rfl m2 ?_)
    | (refine wpList_min _ rfl (.tmp 16) (.const (.int .i64 65536)) 3 rfl n 65536 n rfl rfl m3 ?_)
    | (refine wpList_max _ rfl (.const (.int .i64 64)) (.tmp 20) 3 rfl 64 M M2 rfl rfl m5 ?_)
    | (refine wpList_max _ rfl (.const (.int .i64 1)) (.tmp 26) 3 rfl 1 ((P : Int) * 69 / 100) K rfl rfl m6 ?_))
  clear m1 m2 m3 m4 m5 m6 hmk
  obtain ⟨S, hSS⟩ : ∃ S, S = (M2 + 7) / 8 := ⟨_, rfl⟩
  have hXS : Bl.sizeF n per = S := by rw [HX.out.1, hSS]
  have hS8 : 8 ≤ S ∧ S ≤ 196608 := by omega
  rw [show ((M2 : Nat) + 7 : Int) / 8 = ((S : Nat) : Int) by omega, ← hSS]
  have hF0 : Fb (w.alloc (.cells (bv (List.replicate (S + 1) 0)).toArray 5)) w.heap.size (List.replicate (S + 1) 0) := heap_alloc_new w _
  have hb0 : Below w.heap.size w (w.alloc (.cells (bv (List.replicate (S + 1) 0)).toArray 5)) := (Below.refl _ w).alloc (Nat.le_refl _) _
  generalize w.alloc (.cells (bv (List.replicate (S + 1) 0)).toArray 5) = V0 at hF0 hb0 ⊢
  have HF0 := Lib.hid (And.intro hF0 hb0)
  have HS := Lib.hid hS
  clear hSS hS hF0 hb0
  go_loopw [9] (fun s9 wr => ∃ i : Nat, i ≤ n ∧ s9 = .int .i64 i ∧ Fb wr w.heap.size (Bl.adds (8 * S) K (List.replicate (S + 1) 0) (ks.take i)) ∧ Below w.heap.size w wr) (fun j _ => n - (intOf j).toNat)
  case atStart => exact ⟨0, Nat.zero_le _, rfl, HF0.out.1, HF0.out.2⟩
  case round =>
    obtain ⟨i, hi, rfl, hF, hbw⟩ := hrel
    by_cases hin : i < n
    · have hcN : (i : Int) < n := by omega
      obtain ⟨b, o, u, rfl, hu, hce⟩ := HS.out.at_ hin
      have x0 := (hbw.cell (World.block_lt_of_cell? w _ hce)).trans hce
      obtain ⟨key, hkey, rfl⟩ : ∃ key, ks[i]? = some key ∧ u = svB key := by
        rw [List.getElem?_map] at hu
        cases h : ks[i]? with
        | none => rw [h] at hu; cases hu
        | some key => rw [h] at hu; exact ⟨key, rfl, (Option.some.inj hu).symm⟩
      have hrp := rplaces_any key (hl key (List.mem_of_getElem? hkey)) (8 * S) K (by omega) (by omega) (by omega) wr
      rw [show ((8 * S : Nat) : Int) = 8 * (S : Int) by omega] at hrp
      unfold svB at x0
      have HH := Lib.hid (And.intro hF (And.intro hbw hkey))
      have hsz := hbw.size
      have hFl := hF.lt
      clear hF hbw hu hce hkey
      go_wp2_with fail
      refine hrp.mono ?_
      rintro e w1 ⟨A1, c1, rfl, ho1, hb1⟩
      have hF1 : Fb w1 w.heap.size (Bl.adds (8 * S) K (List.replicate (S + 1) 0) (ks.take i)) := (hb1.block _ hFl).trans HH.out.1
      have hA1 : ∀ g o, A1 = some ⟨g, o, none⟩ → g ≠ w.heap.size := fun g o e h => by
        subst e
        have := own_blk ho1 g rfl
        omega
      have H1 := Lib.hid (And.intro hF1 (And.intro (own_sl ho1) (And.intro (HH.out.2.1.trans (hb1.mono hsz)) hA1)))
      clear hrp ho1 hb1 hF1 hA1 x0
      go_wp2_with fail
      obtain ⟨wB, rfl⟩ : ∃ wB : World, wB = wr := ⟨_, rfl⟩
      go_loopw [11] (fun s11 wx => ∃ j : Nat, j ≤ K ∧ s11 = .int .i64 j ∧ Fb wx w.heap.size (((Bl.places key (8 * S) K).take j).foldl Bl.setB (Bl.adds (8 * S) K (List.replicate (S + 1) 0) (ks.take i))) ∧ Sl wx A1 K (iv (Bl.places key (8 * S) K)) ∧ Below w.heap.size w wx) (fun j _ => K - (intOf j).toNat)
      case atStart => exact ⟨0, Nat.zero_le _, rfl, H1.out.1, H1.out.2.1, H1.out.2.2.1⟩
      case round =>
        obtain ⟨j, hj, rfl, hF, hS1, hbx⟩ := hrel
        generalize hG : ((Bl.places key (8 * S) K).take j).foldl Bl.setB (Bl.adds (8 * S) K (List.replicate (S + 1) 0) (ks.take i)) = G at hF
        by_cases hjn : j < K
        · have hcN : (j : Int) < K := by omega
          obtain ⟨b1, o1, u, rfl, hu, x1⟩ := hS1.at_ hjn
          obtain ⟨p, hp, rfl⟩ := iv_get _ hu
          have hpl : p < 8 * S := Bl.places_lt key (n := 8 * S) (by omega) K p (List.mem_of_getElem? hp)
          have hGl : G.length = S + 1 := by rw [← hG, Bl.fold_len, Bl.adds_len, List.length_replicate]
          have hpG : p / 8 < G.length := by omega
          have x3 := hF.cell hpG
          have x4 := hF.frozen (k := p / 8)
          have hy := G[p / 8].toNat_lt
          have hGp : G.getD (p / 8) 0 = G[p / 8] := by rw [List.getD_eq_getElem?_getD, List.getElem?_eq_getElem hpG]; rfl
          have hsB : Bl.setB G p = G.set (p / 8) (UInt8.ofNat (G[p / 8].toNat ||| 2 ^ (p % 8))) := by unfold Bl.setB; rw [hGp]
          have hor := Bl.or_lt G[p / 8] p
          have HH2 := Lib.hid (And.intro hF (And.intro hS1 (And.intro hbx (And.intro hp (And.intro hG (And.intro hsB hor))))))
          generalize G[p / 8].toNat = y at x3 hy HH2
          obtain ⟨q, hqd⟩ : ∃ q, q = p / 8 := ⟨_, rfl⟩
          obtain ⟨r, hrd⟩ : ∃ r, r = p % 8 := ⟨_, rfl⟩
          have hq : IntKind.i64.wrap ((p : Int) / 8) = ((q : Nat) : Int) := by rw [IntWalk.i64_in _ (by omega)]; omega
          have hr : (p : Int).tmod 8 = ((r : Nat) : Int) := by rw [Int.tmod_eq_emod_of_nonneg (Int.natCast_nonneg _)]; omega
          have hqS : (q : Int) < (S : Int) + 1 := by omega
          have hr8 : r < 8 := by omega
          rw [← hqd] at x3 x4
          have HQ := Lib.hid (And.intro hqd hrd)
          clear hF hS1 hbx hp hu hG hsB hor hGp hqd hrd hpG
          go_wp2_with fail
          go_still_tail 22, (by kernel_rfl)
          change wpList _ _ _ _ _ wr.drew
          have y3 : wr.drew.cell? ⟨w.heap.size, q, none⟩ = some (.int .u8 (y : Int)) := x3
          have y4 : wr.drew.frozen? ⟨w.heap.size, q, none⟩ = false := x4
          have hFd : Fb wr.drew w.heap.size G := HH2.out.1
          have hSd : Sl wr.drew (some ⟨b1, o1, none⟩) K (iv (Bl.places key (8 * S) K)) := HH2.out.2.1
          have hBd : Below w.heap.size w wr.drew := HH2.out.2.2.1.drew
          have HD := Lib.hid (And.intro hFd (And.intro hSd hBd))
          clear x1 x3 x4 hFd hSd hBd
          generalize wr.drew = w4 at y3 y4 HD ⊢
          go_wp2_with fail
          have hp2 : (2 : Int) ^ r % 256 = ((2 ^ r : Nat) : Int) := by
            have h1 : 2 ^ r < 256 := by have := Bl.pow_lt r; rwa [Nat.mod_eq_of_lt hr8] at this
            have h2 : ((2 ^ r : Nat) : Int) = (2 : Int) ^ r := by push_cast; rfl
            rw [← h2]; exact Int.emod_eq_of_lt (Int.natCast_nonneg _) (by exact_mod_cast h1)
          have hv : bits .or .u8 (y : Int) ((2 : Int) ^ r % 256) = (((UInt8.ofNat (y ||| 2 ^ r)).toNat : Nat) : Int) := by
            have h3 := HH2.out.2.2.2.2.2.2
            rw [← HQ.out.2] at h3
            have h1 : 2 ^ r < 256 := by have := Bl.pow_lt r; rwa [Nat.mod_eq_of_lt hr8] at this
            rw [hp2, u8_or_nat y (2 ^ r) hy h1, UInt8.toNat_ofNat', Nat.mod_eq_of_lt h3]
          refine ⟨⟨j + 1, by omega, by go_num, ?_, sl_setB HD.out.2.1 (fun g o e => by cases e; exact H1.out.2.2.2 _ _ rfl), HD.out.2.2.setCell (p := ⟨w.heap.size, q, none⟩) (Nat.le_refl _) _⟩, by simp only [intOf]; omega⟩
          rw [List.take_add_one, HH2.out.2.2.2.1, List.foldl_append, HH2.out.2.2.2.2.1, hv, HQ.out.1, HQ.out.2]
          show Fb _ _ (Bl.setB G p)
          rw [HH2.out.2.2.2.2.2.1, ← HQ.out.1, ← HQ.out.2]
          exact HD.out.1.set _
        · have hcN : ¬ (j : Int) < K := by omega
          obtain rfl : j = K := by omega
          have HR := Lib.hid (And.intro hF hbx)
          clear hF hS1 hbx
          go_wp2_with fail
          refine ⟨⟨i + 1, by omega, by go_num, ?_, HR.out.2⟩, by simp only [intOf]; omega⟩
          have h1 := HR.out.1
          have ht : (Bl.places key (8 * S) j).take j = Bl.places key (8 * S) j := List.take_of_length_le (by rw [Bl.places_len]; exact Nat.le_refl _)
          rw [← hG, ht] at h1
          rw [List.take_add_one, HH.out.2.2]
          show Fb _ _ (Bl.adds _ _ _ (ks.take i ++ [key]))
          rw [Bl.adds_snoc]
          exact h1
    · have hcN : ¬ (i : Int) < n := by omega
      obtain rfl : i = n := by omega
      have hkl : ks.length = i := by have := HS.out.1; simpa using this
      have hFl2 : (Bl.adds (8 * S) K (List.replicate (S + 1) 0) (ks.take i)).length = S + 1 := by rw [Bl.adds_len, List.length_replicate]
      have x3 := hF.cell (k := S) (by omega)
      have x4 := hF.frozen (k := S)
      have hSS : (S : Int) < (S : Int) + 1 := by omega
      have HR := Lib.hid (And.intro hF (And.intro hbw hkl))
      generalize ((Bl.adds (8 * S) K (List.replicate (S + 1) 0) (ks.take i))[S]'(by omega)).toNat = y at x3
      clear hF hbw hkl hFl2
      go_wp2_with fail
      go_ret
      have hK8 : ((K : Nat) : Int) = (((UInt8.ofNat K).toNat : Nat) : Int) := by rw [UInt8.toNat_ofNat', Nat.mod_eq_of_lt (by omega)]
      have hfin := HR.out.1.set (k := S) (UInt8.ofNat K)
      have htk : ks.take i = ks := List.take_of_length_le (by rw [HR.out.2.2]; exact Nat.le_refl _)
      have hbs := Bl.build_set ks per
      rw [HR.out.2.2, hXS, HX.out.2] at hbs
      rw [htk, hbs, ← hK8] at hfin
      have hbl : (Bl.build ks per).length = S + 1 := by rw [Bl.build_len, HR.out.2.2, hXS]
      have hrow := hfin.row (B := w.heap.size) (Nat.le_refl _) (by rw [hbl]; simp only [maxLen]; omega)
      rw [hbl] at hrow
      exact ⟨_, _, rfl, hrow, HR.out.2.1.setCell (p := ⟨w.heap.size, S, none⟩) (Nat.le_refl _) _⟩
end Go.Proofs.Ytnbomifnbhijbaa
