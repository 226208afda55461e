/-
  The law's cut: a payload's first bytes, as new memory.
-/
import Derived.Test.YtnbomifnbhijbaaGreatDoorWaJ
namespace Go.Proofs.YtnbomifnbhijbaaGreatDoor
open Go.RowKit Go.Maps Num Crc
set_option linter.unusedVariables false

theorem cut_any (A : Option Addr) (n c : Nat) (l : List UInt8) (w : World) (hs : Sl w A n (bv l)) (hn : n ≤ 140737488355328) (hc : n ≤ c) :
    Calls Tryz.prog 34 #[.slice A n c] w fun e w' => ∃ A' c', e = .returned (.slice A' (l.take 700).length c') ∧ w'.ownsRow w.heap.size 5 1 (.slice A' (l.take 700).length c') (l.take 700).length (bv (l.take 700)) ∧ Below w.heap.size w w' := by
  have hl := hs.len
  subst hl
  obtain ⟨k, hk⟩ : ∃ k, k = (l.take 700).length := ⟨_, rfl⟩
  have hmin : min (l.length : Int) 700 = k := by rw [hk, List.length_take]; omega
  have hmin2 : min 700 l.length = k := by rw [hk, List.length_take]
  have hkl : k ≤ l.length := by omega
  have hkl2 : (k : Int) ≤ l.length := by omega
  have hkc : (k : Int) ≤ c := by omega
  have hm : k ≤ 700 := by omega
  have hs1 : Sl w A k (bv (l.take 700)) := by
    have h1 := hs.take (k := k) hkl
    rwa [show (bv l).take k = bv (l.take 700) from by
      rw [take_bv]
      congr 1
      rw [← hmin2]
      by_cases h : l.length ≤ 700
      · rw [Nat.min_eq_right h, List.take_of_length_le (Nat.le_refl _), List.take_of_length_le h]
      · rw [Nat.min_eq_left (by omega)]] at h1
  rw [← hk]
  generalize l.take 700 = t at hs1 hk ⊢
  clear hk
  go_enter Tryz.func34, Tryz.ntmps34
  go_wp2_with (at_builtin; refine wpList_app _ rfl (.tmp 3) (.tmp 8) 36 rfl w.heap.size bytesEl (by decide) _ 0 [] rfl (World.ownsRow_made w #[] 0 (Nat.le_refl _) (Nat.zero_le _) rfl) A k c (bv t) rfl (hs1.alloc _) (bv_one _) (by omega) (by simp) ?_; intro A1 c1 w1 hown1 hg1 hat1)
  go_ret
  have hb : Below w.heap.size w w1 := ((Below.refl _ w).alloc (Nat.le_refl _) _).grown hg1 (by simp) (by intro k e; cases e; exact Nat.le_refl _)
  rw [Nat.zero_add] at hown1
  exact ⟨A1, c1, rfl, hown1, hb⟩
end Go.Proofs.YtnbomifnbhijbaaGreatDoor
