/-
  Contracts of the readers of numbers and texts.
-/
import Derived.Test.YtcfmialhlklmgaaDoorFrameA
namespace Go.Proofs.YtcfmialhlklmgaaDoor
open Go.RowKit Num

theorem ret_two {a b a' b' : Int} (h1 : a = a') (h2 : b = b') : Ending.returned (.tuple #[.int .u64 a, .int .i64 b]) = .returned (.tuple #[.int .u64 a', .int .i64 b']) := by rw [h1, h2]

set_option maxHeartbeats 1600000 in
theorem takeUint_any (A : Option Addr) (n c : Nat) (l : List UInt8) (w : World) (hs : Sl w A n (bv l)) (hn : n ≤ 140737488355328) :
    Calls Tryd.prog 55 #[.slice A n c] w fun e w' => e = .returned (.tuple #[.int .u64 (tu l).1, .int .i64 (tu l).2]) ∧ w = w' := by
  have hlen := hs.len
  by_cases h10 : ((10 : Int) < n)
  all_goals
    go_enter Tryd.func55, Tryd.ntmps55
    go_wp2_with fail
    go_loop [4, 9] (fun s4 i => ∃ k : Nat, k ≤ n ∧ k ≤ 10 ∧ i = .int .i64 k ∧ s4 = .int .u64 (val (l.take k)) ∧ (∀ b ∈ l.take k, 128 ≤ b.toNat)) (fun _ i => n - (intOf i).toNat)
    case atStart => exact ⟨0, Nat.zero_le _, Nat.zero_le _, rfl, by simp [val], by simp⟩
    case round =>
      obtain ⟨k, hk, hk10, rfl, rfl, hall⟩ := hrel
      have HA := Lib.hid hall
      clear hall
      by_cases hlt : k < n ∧ k < 10
      · obtain ⟨hlt, hlt10⟩ := hlt
        obtain ⟨bb, off, hl, rfl, hc⟩ := hs.byte hlt
        have hvl := val_lt (l.take k)
        rw [List.length_take, Nat.min_eq_left (by omega)] at hvl
        have hx1 : l[k].toNat < 256 := l[k].toNat_lt
        have hs1 := fun h9 hnz hb => tu_stop hl HA.out hb h9 hnz
        have hs2 := fun hb h0 => tu_zero hl HA.out hb h0
        have hs3 := fun (h9 : k = 9) (hb : 1 < l[k].toNat) => by subst h9; exact tu_nine hl HA.out hb
        have hor := or_val (val (l.take k)) l[k].toNat k hvl hx1
        have hsucc := val_succ hl
        have hall' := all_succ hl HA.out
        rw [hsucc] at hs1
        have H := Lib.hid (And.intro hs1 (And.intro hs2 (And.intro hs3 (And.intro hor (And.intro hsucc hall')))))
        clear hs1 hs2 hs3 hor hsucc hall' HA
        generalize val (l.take k) = v at hvl H ⊢
        generalize hx : l[k].toNat = x at hc H hx1
        clear hx
        by_cases h9 : k = 9
        · subst h9
          go_wp2_with fail
          · go_ret2
            rw [H.out.2.2.1 trivial (by omega)]
            exact ⟨rfl, rfl⟩
          · have hx3 : x = 0 := by assumption
            go_ret2
            rw [H.out.2.1 hx3 (by omega)]
            exact ⟨rfl, rfl⟩
          · have hx3 : ¬ x = 0 := by assumption
            go_ret2
            rw [H.out.1 (.inr ⟨trivial, by omega⟩) (by omega) (by omega)]
            exact ⟨ret_two (H.out.2.2.2.1 (.inr ⟨trivial, by omega⟩)) (by omega), rfl⟩
        · have h9' : ((k : Int) == 9) = false := by simp; omega
          go_wp2_with fail
          · go_round
            case rel =>
              refine ⟨k + 1, by omega, by omega, by go_num, ?_, H.out.2.2.2.2.2 (by omega)⟩
              rw [H.out.2.2.2.2.1, H.out.2.2.2.1 (by omega)]
            case measure => simp [intOf]; omega
          · have hx3 : x = 0 := by assumption
            go_ret2
            rw [H.out.2.1 hx3 (by omega)]
            exact ⟨rfl, rfl⟩
          · have hx3 : x = 0 := by assumption
            subst hx3
            go_ret2
            rw [H.out.1 (by omega) (by omega) (by omega)]
            exact ⟨ret_two (H.out.2.2.2.1 (by omega)) (by omega), rfl⟩
          · have hx3 : ¬ x = 0 := by assumption
            go_ret2
            rw [H.out.1 (by omega) (by omega) (by omega)]
            exact ⟨ret_two (H.out.2.2.2.1 (by omega)) (by omega), rfl⟩
      · have hend : tu l = (0, 0) := by
          by_cases hk2 : k = 10
          · exact tu_ten (by omega) (by rw [← hk2]; exact HA.out)
          · have hkn : k = n := by omega
            refine tu_end fun b hb => HA.out b ?_
            rw [hkn, ← hlen, List.take_length]; exact hb
        have HE := Lib.hid hend
        clear hend
        go_wp2_with fail
        go_ret2
        rw [HE.out]
        exact ⟨rfl, rfl⟩

end Go.Proofs.YtcfmialhlklmgaaDoor
