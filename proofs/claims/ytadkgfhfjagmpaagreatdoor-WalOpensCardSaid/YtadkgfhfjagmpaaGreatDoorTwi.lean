/-
  Does a name come twice: sorted, and made short.
-/
import Derived.Test.YtadkgfhfjagmpaaGreatDoorVal
import Derived.Shelf.Slices.CompactS
namespace Go.Proofs.YtadkgfhfjagmpaaGreatDoor
open Go.RowKit Go.Maps Go.Sort Go.Shelf
set_option linter.unusedVariables false

theorem keeps_all {l : List (List UInt8)} (h : l.Nodup) : (Lib.compact l).length = l.length := by
  rw [Lib.compact_all]
  intro j hj
  rcases Nat.eq_zero_or_pos j with rfl | hp
  · simp [Lib.keeps]
  · refine Lib.keeps_pos ?_
    have h1 : l.toArray[j]! = l[j] := by rw [getElem!_pos _ j (by simpa using hj)]; simp
    have h2 : l.toArray[j - 1]! = l[j - 1] := by rw [getElem!_pos _ (j - 1) (by simp; omega)]; simp
    rw [h1, h2]
    intro e
    have := (List.getElem_inj h).1 e
    omega
theorem keeps_less {l : List (List UInt8)} (hs : l.Pairwise (fun x y => x ≤ y)) (h : ¬ l.Nodup) : (Lib.compact l).length < l.length := by
  have hex : ∃ j, 0 < j ∧ j < l.length ∧ Lib.keeps l.toArray j = false := by
    rw [List.nodup_iff_pairwise_ne] at h
    rw [List.pairwise_iff_getElem] at h
    have h' : ∃ i j, ∃ (hi : i < l.length) (hj : j < l.length), i < j ∧ l[i] = l[j] := by
      apply Classical.byContradiction
      intro hn
      exact h fun i j hi hj hij e => hn ⟨i, j, hi, hj, hij, e⟩
    obtain ⟨i, j, hi, hj, hij, e⟩ := h'
    refine ⟨j, by omega, hj, Lib.keeps_neg (by omega) ?_⟩
    have h1 : l.toArray[j]! = l[j] := by rw [getElem!_pos _ j (by simpa using hj)]; simp
    have h2 : l.toArray[j - 1]! = l[j - 1] := by rw [getElem!_pos _ (j - 1) (by simp; omega)]; simp
    rw [h1, h2]
    have hp := List.pairwise_iff_getElem.1 hs
    have a1 : l[j - 1] ≤ l[j] := hp (j - 1) j (by omega) hj (by omega)
    rcases Nat.lt_or_ge i (j - 1) with hlt | hge
    · have a2 : l[i] ≤ l[j - 1] := hp i (j - 1) hi (by omega) hlt
      rw [e] at a2
      exact List.le_antisymm a2 a1
    · have : i = j - 1 := by omega
      subst this
      exact e.symm
  obtain ⟨j, h0, hj, hk⟩ := hex
  unfold Lib.compact Lib.compactUpTo
  rw [List.length_map]
  have hlen : (List.range l.length).length = l.length := by simp
  have hle := List.length_filter_lt_length_iff_exists (p := Lib.keeps l.toArray) (l := List.range l.length)
  rw [hlen] at hle
  exact hle.2 ⟨j, by simpa using hj, by simp [hk]⟩
theorem sort_pair (ns : List (List UInt8)) : (ns.mergeSort (fun x y => decide (x ≤ y))).Pairwise (fun x y => x ≤ y) := by
  have := List.pairwise_mergeSort (le := fun (x y : List UInt8) => decide (x ≤ y)) (fun a b c h1 h2 => by simp only [decide_eq_true_eq] at h1 h2 ⊢; exact List.le_trans h1 h2) (fun a b => by simp only [Bool.or_eq_true, decide_eq_true_eq]; exact List.le_total a b) ns
  exact this.imp (fun h => by simpa using h)
theorem twice_len (ns : List (List UInt8)) : decide ((Lib.compact (ns.mergeSort (fun x y => decide (x ≤ y)))).length < ns.length) = decide (¬ ns.Nodup) := by
  have hl : (ns.mergeSort (fun x y => decide (x ≤ y))).length = ns.length := List.length_mergeSort ns
  have hp := (List.mergeSort_perm ns (fun x y => decide (x ≤ y))).nodup_iff
  by_cases h : ns.Nodup
  · have := keeps_all (hp.2 h)
    rw [hl] at this
    simp [this, h]
  · have := keeps_less (sort_pair ns) (fun e => h (hp.1 e))
    rw [hl] at this
    simp [this, h]

def Tryz.lays194_ren : Go.Shelf.Ren := ⟨fun | 194 => 154 | n => n, fun | 31 => 25 | 9 => 9 | 3 => 3 | 4 => 4 | 0 => 0 | n => n, fun | n => n⟩
theorem Tryz.lays194 : Go.Proofs.Lays.n194 Tryz.prog Tryz.lays194_ren := {
  mixed := by kernel_rfl
  f194 := Tryz.func154.trans (congrArg some (by kernel_rfl))
  t0 := Tryz.underlying0
  a0 := Tryz.isAgg0
  z0 := Tryz.sizeOf0
  v0 := Tryz.zeroValue0
  t3 := Tryz.underlying3
  a3 := Tryz.isAgg3
  z3 := Tryz.sizeOf3
  v3 := Tryz.zeroValue3
  t4 := Tryz.underlying4
  a4 := Tryz.isAgg4
  z4 := Tryz.sizeOf4
  v4 := Tryz.zeroValue4
  t9 := Tryz.underlying9
  a9 := Tryz.isAgg9
  z9 := Tryz.sizeOf9
  v9 := Tryz.zeroValue9
  t31 := Tryz.underlying25
  a31 := Tryz.isAgg25
  z31 := Tryz.sizeOf25
  v31 := Tryz.zeroValue25 }

theorem vals_any (A : Option Addr) (n c : Nat) (w : World) : Calls Tryz.prog 153 #[.slice A n c] w fun e w' => e = .returned (.func (.func 185) #[] #[.pointer (some ⟨w.heap.size, 0, none⟩)]) ∧ w' = w.alloc (.cells #[.slice A n c] 25) := by
  go_enter Tryz.func153, Tryz.ntmps153
  go_wp2_with fail
  go_ret
  exact ⟨rfl, rfl⟩
theorem collect_vals (Bx n c : Nat) (A : Option Addr) (ns : List (List UInt8)) (w : World) (h : VBox w Bx A n c ns) (hn9 : n ≤ 1000000) :
    Calls Tryz.prog 158 #[.func (.func 185) #[] #[.pointer (some ⟨Bx, 0, none⟩)]] w fun e w' => ∃ v, e = .returned v ∧ w'.ownsRow w.heap.size 9 1 v n (ns.map encStr) ∧ Below w.heap.size w w' := by
  have ha := (callsIn_wide (n := 0 + 3)).1 (vals_append 0 Bx n c A ns w h hn9)
  go_enter Tryz.func158, Tryz.ntmps158
  go_wp2_with (go_at_call 188; refine ha.mono ?_; rintro e w' ⟨v, rfl, ho, hb⟩)
  go_ret
  exact ⟨v, rfl, ho, hb⟩
theorem sorted_vals (Bx n c : Nat) (A : Option Addr) (ns : List (List UInt8)) (w : World) (h : VBox w Bx A n c ns) (hn9 : n ≤ 1000000) :
    Calls Tryz.prog 109 #[.func (.func 185) #[] #[.pointer (some ⟨Bx, 0, none⟩)]] w fun e w' => ∃ v, e = .returned v ∧ w'.ownsRow w.heap.size 9 1 v n ((ns.mergeSort (fun x y => decide (x ≤ y))).map encStr) ∧ Below w.heap.size w w' := by
  have hl := h.len
  have hc := collect_vals Bx n c A ns w h hn9
  clear h
  go_enter Tryz.func109, Tryz.ntmps109
  go_wp2_with fail
  refine hc.mono ?_
  rintro e W ⟨v, rfl, hrow, hb⟩
  rcases hrow.2 with ⟨rfl, hz⟩ | ⟨gb, cap, cur, rfl, hbase, hgb, r1, r2, r3, r4⟩
  · subst hz
    obtain rfl : ns = [] := List.eq_nil_of_length_eq_zero hl
    have hs := AnyM.slices_Sort_string_none Tryz.sort159 none 0 W
    clear hc hl
    go_wp2_with (go_at_call 159; refine hs.mono ?_; rintro e w' ⟨rfl, rfl⟩)
    go_ret
    exact ⟨_, rfl, by simpa using hrow, hb⟩
  · have hH : Holds encStr W gb 0 ns.toArray := holds_of_block hgb (by subst hl; simpa using r4)
    have hgl : gb < W.heap.size := (Array.getElem?_eq_some_iff.1 hgb).1
    have hs := AnyM.slices_Sort_string Tryz.sort159 gb 0 cap ns W hH hgl (by omega)
    subst hl
    have HB := Lib.hid (And.intro hbase (And.intro hgb (And.intro r1 (And.intro r2 (And.intro r3 hb)))))
    clear hc hrow r1 r2 r3 r4 hbase hgb hb hH hgl
    go_wp2_with (go_at_call 159; refine hs.mono ?_; rintro e w' ⟨rfl, nn, os, rfl⟩)
    go_ret
    obtain ⟨hbase, hgb, r1, r2, r3, hb⟩ := HB.out
    exact ⟨_, rfl, ownsRow_sorted (by simp) hbase hgb r1 r2 r3, hb.grown (grownBy_sorted _) hb.size (fun j hj => by cases hj; exact hbase)⟩
set_option maxHeartbeats 2000000 in
theorem twice_any (A : Option Addr) (n c : Nat) (ns : List (List UInt8)) (w : World) (hs : Sl w A n (ns.map sv)) (hn9 : n ≤ 1000000) :
    Calls Tryz.prog 101 #[.slice A n c] w fun e w' => e = .returned (.bool (decide (¬ ns.Nodup))) ∧ Below w.heap.size w w' := by
  have hl : ns.length = n := by have := hs.1; simpa using this
  have htw := twice_len ns
  have hms : (ns.mergeSort (fun x y => decide (x ≤ y))).length = n := by rw [List.length_mergeSort, hl]
  obtain ⟨ms, hms2⟩ : ∃ ms, ms = ns.mergeSort (fun x y => decide (x ≤ y)) := ⟨_, rfl⟩
  have hbox : VBox (w.alloc (.cells #[.slice A n c] 25)) w.heap.size A n c ns := ⟨(Blk.new w #[.slice A n c] 25).cell rfl, by simp, hs.alloc _, hl⟩
  have hso := sorted_vals w.heap.size n c A ns _ hbox hn9
  have hva := vals_any A n c w
  rw [← hms2] at htw hms hso
  have HT := Lib.hid htw
  clear hbox hs htw hms2
  go_enter Tryz.func101, Tryz.ntmps101
  go_wp2_with (first
    | (go_at_call 153; refine hva.mono ?_; rintro e w' ⟨rfl, rfl⟩)
    | (go_at_call 109; refine hso.mono ?_; rintro e W ⟨v, rfl, hrow, hb⟩))
  have hres : ∀ k : Nat, k = (Lib.compact ms).length → decide (k < n) = decide (¬ ns.Nodup) := fun k hk => by
    rw [← HT.out, hl, hk]
  have HR := Lib.hid hres
  rcases hrow.2 with ⟨rfl, hz⟩ | ⟨gb, cap, cur, rfl, hbase, hgb, r1, r2, r3, r4⟩
  · subst hz
    obtain rfl : ms = [] := List.eq_nil_of_length_eq_zero hms
    have hs := Any.slices_Compact_string_empty Tryz.lays194 none 0 W
    have HB := Lib.hid hb
    clear hso hva hrow hms hl hres hb
    go_wp2_with (go_at_call 154; refine hs.mono ?_; rintro e w' ⟨rfl, rfl⟩)
    go_ret
    refine ⟨?_, ((Below.refl _ w).alloc (Nat.le_refl _) _).trans (HB.out.mono (by simp))⟩
    rw [← HR.out 0 rfl]
    rfl
  · have hH : Holds encStr W gb 0 ms.toArray := holds_of_block hgb (by rw [← hms] at r4; simpa using r4)
    have hgl : gb < W.heap.size := (Array.getElem?_eq_some_iff.1 hgb).1
    have hs := Any.slices_Compact_string Tryz.lays194 gb 0 cap ms W hH (by omega) (by omega)
    rw [hms] at hs
    have hle : (Lib.compact ms).length ≤ n := by
      rw [← hms]
      unfold Lib.compact Lib.compactUpTo
      rw [List.length_map]
      exact Nat.le_trans (List.length_filter_le _ _) (by simp)
    obtain ⟨K, hK⟩ : ∃ K, K = (Lib.compact ms).length := ⟨_, rfl⟩
    have hr := HR.out K hK
    rw [← hK] at hs hle
    have HB := Lib.hid (And.intro hbase (And.intro hb hr))
    clear hso hva hrow hms hl hres hb hr r1 r2 r3 r4 hbase hgb hH hgl hK
    go_wp2_with (go_at_call 154; refine hs.mono ?_; rintro e w' ⟨rfl, q, rfl⟩)
    go_ret
    obtain ⟨hbase, hb, hr⟩ := HB.out
    refine ⟨by rw [← hr]; rfl, ?_⟩
    have h1 : Below w.heap.size w W := ((Below.refl _ w).alloc (Nat.le_refl _) _).trans (hb.mono (by simp))
    have h2 := grownBy_sorted (w := W) (g := gb) (n := q) (os := #[]) (Lib.compact ms ++ List.replicate (n - K) []).toArray
    rw [grow_empty] at h2
    exact h1.grown h2 h1.size (fun j hj => by cases hj; simp at hbase; omega)
end Go.Proofs.YtadkgfhfjagmpaaGreatDoor
