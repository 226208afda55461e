/-
  Layer 5's law: cut, awake; Build and May as plain calls.
-/
import Derived.Test.YtnbomifnbhijbaaBlH
namespace Go.Proofs.Ytnbomifnbhijbaa
open Go.RowKit Go.Shelf
set_option linter.unusedVariables false

theorem build_c (n c : Nat) (A : Option Addr) (ks : List (List UInt8)) (per : Int) (hp : -9223372036854775808 ≤ per ∧ per ≤ 9223372036854775807) (w : World) (hS : Sl w A n (ks.map svB)) (hn : n ≤ 65536) (hc : n ≤ c) (hl : ∀ l ∈ ks, l.length ≤ 4611686018427387904) :
    Calls Try.prog 23 #[.slice A n c, .int .i64 per] w fun e w' => ∃ A' c', e = .returned (.slice A' (Bl.sizeF n per + 1) c') ∧ w'.ownsRow w.heap.size 5 1 (.slice A' (Bl.sizeF n per + 1) c') (Bl.sizeF n per + 1) (bv (Bl.build ks per)) ∧ Below w.heap.size w w' :=
  (callsIn_wide (n := 0 + 5)).1 (build_any 0 n c A ks per hp w hS hn hc hl)
theorem may_c (n c : Nat) (A : Option Addr) (f l : List UInt8) (hl : l.length ≤ 4611686018427387904) (w : World) (hS : Sl w A n (bv f)) (hn : n ≤ 4611686018427387904) (hc : n ≤ c) :
    Calls Try.prog 27 #[.slice A n c, .string (str l)] w fun e w' => e = .returned (.bool (Bl.may f l)) ∧ Below w.heap.size w w' :=
  (callsIn_wide (n := 0 + 5)).1 (may_any 0 n c A f l hl w hS hn hc)
theorem strElB : El Try.prog 48 9 (.string ByteArray.empty) 16 := ⟨Try.underlying48, by kernel_rfl, rfl⟩
theorem svB_one (ks : List (List UInt8)) : ∀ u ∈ ks.map svB, u.oneCell' = true := by
  intro u hu
  obtain ⟨k, _, rfl⟩ := List.mem_map.1 hu
  rfl
theorem cut5_any (A : Option Addr) (n c : Nat) (ks : List (List UInt8)) (w : World) (hs : Sl w A n (ks.map svB)) (hn : n ≤ 140737488355328) (hc : n ≤ c) :
    Calls Try.prog 22 #[.slice A n c] w fun e w' => ∃ A' c', e = .returned (.slice A' (ks.take 200).length c') ∧ w'.ownsRow w.heap.size 9 1 (.slice A' (ks.take 200).length c') (ks.take 200).length ((ks.take 200).map svB) ∧ Below w.heap.size w w' := by
  have hl : ks.length = n := by have := hs.1; simpa using this
  subst hl
  obtain ⟨k, hk⟩ : ∃ k, k = (ks.take 200).length := ⟨_, rfl⟩
  have hmin : (if (200 : Int) < ks.length then (200 : Int) else ks.length) = k := by rw [hk, List.length_take]; omega
  have hkl : k ≤ ks.length := by rw [hk, List.length_take]; omega
  have hkl2 : (k : Int) ≤ ks.length := by omega
  have hkc : (k : Int) ≤ c := by omega
  have hm : k ≤ 200 := by rw [hk, List.length_take]; omega
  have hs1 : Sl w A k ((ks.take 200).map svB) := by
    have h1 := hs.take (k := k) hkl
    rwa [← List.map_take, show ks.take k = ks.take 200 from by rw [hk, List.length_take]; exact (List.take_eq_take_min ..).symm] at h1
  rw [← hk]
  generalize ks.take 200 = t at hs1 hk ⊢
  clear hk
  go_enter Try.func22, Try.ntmps22
  go_wp2_with (first
    | (refine wpList_min _ rfl (.tmp 6) (.const (.int .i64 200)) 3 rfl ks.length 200 k rfl rfl hmin ?_)
    | (at_builtin; refine wpList_app _ rfl (.tmp 3) (.tmp 8) 48 rfl w.heap.size strElB (by decide) _ 0 [] rfl (World.ownsRow_made w #[] 0 (Nat.le_refl _) (Nat.zero_le _) rfl) A k c (t.map svB) rfl (hs1.alloc _) (svB_one _) (by omega) (by simp) ?_; intro A1 c1 w1 hown1 hg1 hat1))
  go_ret
  have hb : Below w.heap.size w w1 := ((Below.refl _ w).alloc (Nat.le_refl _) _).grown hg1 (by simp) (by intro k e; cases e; exact Nat.le_refl _)
  rw [Nat.zero_add] at hown1
  exact ⟨A1, c1, rfl, hown1, hb⟩
set_option maxRecDepth 20000 in
set_option maxHeartbeats 1000000 in
theorem awake5_any (w : World) : Calls Try.prog 21 #[] w fun e w' => e = .returned (.bool true) ∧ Below w.heap.size w w' := by
  have h0 : (Bl.hash [] : Nat) = 2166136261 := by decide +kernel
  have h1 : (Bl.hash [97] : Nat) = 3826002220 := by decide +kernel
  have hsz : Bl.sizeF 1 10 = 8 := by decide +kernel
  have hk : Bl.kF 10 = 6 := by decide +kernel
  have hmay : Bl.may (Bl.build [[97]] 10) [97] = true := Bl.may_keeps [[97]] 10 (by decide) [97] (List.mem_singleton.2 rfl)
  have hlen : (Bl.build [[97]] 10).length = 9 := by rw [Bl.build_len]; show Bl.sizeF 1 10 + 1 = 9; rw [hsz]
  have hlast : ((Bl.build [[97]] 10).getD 8 0).toNat = 6 := by
    have := Bl.build_last [[97]] 10
    rwa [show Bl.sizeF ([[97]] : List (List UInt8)).length 10 = 8 from hsz, hk] at this
  have hb := fun (V : World) (A : Option Addr) (hS : Sl V A 1 ([[97]].map svB)) => build_c 1 1 A [[97]] 10 (by decide) V hS (by decide) (by decide) (by intro l hl; simp at hl; subst hl; decide)
  have hh0 := fun (V : World) => hash_any [] (by decide) V
  have hh1 := fun (V : World) => hash_any [97] (by decide) V
  rw [hsz] at hb
  rw [h0] at hh0
  rw [h1] at hh1
  have HB := Lib.hid hb
  have H0 := Lib.hid hh0
  have H1 := Lib.hid hh1
  have HM := Lib.hid (And.intro hmay (And.intro hlen hlast))
  clear h0 h1 hsz hk hmay hlen hlast hb hh0 hh1
  go_enter Try.func21, Try.ntmps21
  go_wp2_with fail
  refine (HB.out _ (some ⟨w.heap.size, 0, none⟩) (Sl.new w (svB [97]) 9)).mono ?_
  rintro e w1 ⟨A1, c1, rfl, ho1, hb1⟩
  have hS1 := own_sl ho1
  have hle1 := own_le ho1
  obtain ⟨b, o, hl8, rfl, hc8⟩ := hS1.byte (k := 8) (by decide)
  have hg8 : (Bl.build [[97]] 10)[8].toNat = 6 := by
    have := HM.out.2.2
    rwa [List.getD_eq_getElem?_getD, List.getElem?_eq_getElem hl8] at this
  rw [hg8] at hc8
  have hmy := may_c 9 c1 _ (Bl.build [[97]] 10) [97] (by decide) w1 hS1 (by decide) hle1
  rw [HM.out.1] at hmy
  have hbw : Below w.heap.size w w1 := ((Below.refl _ w).alloc (Nat.le_refl _) (.cells #[svB [97]] 9)).trans (hb1.mono (by simp))
  have hh0 := H0.out w1
  have hh1 := H1.out w1
  clear ho1 hb1 hS1 hg8
  go_wp2_with (first
    | (go_at_call 25; refine hh0.mono ?_; rintro e w2 ⟨rfl, rfl⟩; clear hh0)
    | (go_at_call 25; refine hh1.mono ?_; rintro e w3 ⟨rfl, rfl⟩; clear hh1)
    | (go_at_call 27; refine hmy.mono ?_; rintro e w4 ⟨rfl, hb4⟩))
  go_ret
  exact ⟨rfl, hbw.trans (hb4.mono hbw.size)⟩
end Go.Proofs.Ytnbomifnbhijbaa
