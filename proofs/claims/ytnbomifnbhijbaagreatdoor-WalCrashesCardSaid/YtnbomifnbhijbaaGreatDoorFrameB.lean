/-
  Contracts of the readers of numbers and texts.
-/
import Derived.Test.YtnbomifnbhijbaaGreatDoorFrameA
namespace Go.Proofs.YtnbomifnbhijbaaGreatDoor
open Go.RowKit Num

theorem ret_two {a b a' b' : Int} (h1 : a = a') (h2 : b = b') : Ending.returned (.tuple #[.int .u64 a, .int .i64 b]) = .returned (.tuple #[.int .u64 a', .int .i64 b']) := by rw [h1, h2]

set_option maxHeartbeats 1600000 in
theorem takeUint_any (A : Option Addr) (n c : Nat) (l : List UInt8) (w : World) (hs : Sl w A n (bv l)) (hn : n ≤ 140737488355328) :
    Calls Tryz.prog 104 #[.slice A n c] w fun e w' => e = .returned (.tuple #[.int .u64 (tu l).1, .int .i64 (tu l).2]) ∧ w = w' := by
  have hlen := hs.len
  by_cases h10 : ((10 : Int) < n)
  all_goals
    go_enter Tryz.func104, Tryz.ntmps104
    go_wp2_with fail
    go_loop [4, 9] (fun s4 i => ∃ k : Nat, k ≤ n ∧ k ≤ 10 ∧ i = .int .i64 k ∧ s4 = .int .u64 (val (l.take k)) ∧ (∀ b ∈ l.take k, 128 ≤ b.toNat)) (fun _ i => n - (intOf i).toNat)
    case atStart => exact ⟨0, Nat.zero_le _, Nat.zero_le _, rfl, by simp [val], by simp⟩
    case round =>
      obtain ⟨k, hk, hk10, rfl, rfl, hall⟩ := hrel
      have HA := Lib.hid hall
      clear hall
      by_cases hlt : k < n ∧ k < 10
      · obtain ⟨hlt, hlt10⟩ := hlt
        obtain ⟨bb, off, hl, rfl, hc⟩ := hs.byte hlt
        have hvl := val_lt (l.take k)
        rw [List.length_take, Nat.min_eq_left (by omega)] at hvl
        have hx1 : l[k].toNat < 256 := l[k].toNat_lt
        have hs1 := fun h9 hnz hb => tu_stop hl HA.out hb h9 hnz
        have hs2 := fun hb h0 => tu_zero hl HA.out hb h0
        have hs3 := fun (h9 : k = 9) (hb : 1 < l[k].toNat) => by subst h9; exact tu_nine hl HA.out hb
        have hor := or_val (val (l.take k)) l[k].toNat k hvl hx1
        have hsucc := val_succ hl
        have hall' := all_succ hl HA.out
        rw [hsucc] at hs1
        have H := Lib.hid (And.intro hs1 (And.intro hs2 (And.intro hs3 (And.intro hor (And.intro hsucc hall')))))
        clear hs1 hs2 hs3 hor hsucc hall' HA
        generalize val (l.take k) = v at hvl H ⊢
        generalize hx : l[k].toNat = x at hc H hx1
        clear hx
        by_cases h9 : k = 9
        · subst h9
          go_wp2_with fail
          · go_ret2
            rw [H.out.2.2.1 trivial (by omega)]
            exact ⟨rfl, rfl⟩
          · have hx3 : x = 0 := by assumption
            go_ret2
            rw [H.out.2.1 hx3 (by omega)]
            exact ⟨rfl, rfl⟩
          · have hx3 : ¬ x = 0 := by assumption
            go_ret2
            rw [H.out.1 (.inr ⟨trivial, by omega⟩) (by omega) (by omega)]
            exact ⟨ret_two (H.out.2.2.2.1 (.inr ⟨trivial, by omega⟩)) (by omega), rfl⟩
        · have h9' : ((k : Int) == 9) = false := by simp; omega
          go_wp2_with fail
          · go_round
            case rel =>
              refine ⟨k + 1, by omega, by omega, by go_num, ?_, H.out.2.2.2.2.2 (by omega)⟩
              rw [H.out.2.2.2.2.1, H.out.2.2.2.1 (by omega)]
            case measure => simp [intOf]; omega
          · have hx3 : x = 0 := by assumption
            go_ret2
            rw [H.out.2.1 hx3 (by omega)]
            exact ⟨rfl, rfl⟩
          · have hx3 : x = 0 := by assumption
            subst hx3
            go_ret2
            rw [H.out.1 (by omega) (by omega) (by omega)]
            exact ⟨ret_two (H.out.2.2.2.1 (by omega)) (by omega), rfl⟩
          · have hx3 : ¬ x = 0 := by assumption
            go_ret2
            rw [H.out.1 (by omega) (by omega) (by omega)]
            exact ⟨ret_two (H.out.2.2.2.1 (by omega)) (by omega), rfl⟩
      · have hend : tu l = (0, 0) := by
          by_cases hk2 : k = 10
          · exact tu_ten (by omega) (by rw [← hk2]; exact HA.out)
          · have hkn : k = n := by omega
            refine tu_end fun b hb => HA.out b ?_
            rw [hkn, ← hlen, List.take_length]; exact hb
        have HE := Lib.hid hend
        clear hend
        go_wp2_with fail
        go_ret2
        rw [HE.out]
        exact ⟨rfl, rfl⟩

set_option maxRecDepth 20000 in
set_option maxHeartbeats 1600000 in
theorem refTakeUint_any (A : Option Addr) (n c : Nat) (l : List UInt8) (w : World) (hs : Sl w A n (bv l)) (hn : n ≤ 140737488355328) (hnc : n ≤ c) :
    Calls Tryz.prog 95 #[.slice A n c] w fun e w' => e = .returned (.tuple #[.int .u64 (tu l).1, .int .i64 (tu l).2]) ∧ Below w.heap.size w w' := by
  have hlen := hs.len
  go_enter Tryz.func95, Tryz.ntmps95
  go_wp2_with fail
  go_loop [4] (fun i => ∃ k : Nat, k ≤ n ∧ k ≤ 10 ∧ i = .int .i64 k ∧ (∀ b ∈ l.take k, 128 ≤ b.toNat)) (fun i => n - (intOf i).toNat)
  case atStart => exact ⟨0, Nat.zero_le _, Nat.zero_le _, rfl, by simp⟩
  case round =>
    obtain ⟨k, hk, hk10, rfl, hall⟩ := hrel
    have HA := Lib.hid hall
    clear hall
    by_cases hlt : k < n ∧ k < 10
    · obtain ⟨hlt, hlt10⟩ := hlt
      obtain ⟨bb, off, hl, rfl, hc⟩ := hs.byte hlt
      have hx1 : l[k].toNat < 256 := l[k].toNat_lt
      have hall' := Lib.hid (all_succ hl HA.out)
      generalize hx : l[k].toNat = x at hc hx1 hall'
      have HX := Lib.hid hx
      clear hx
      by_cases hx2 : (128 : Int) ≤ x
      · go_wp2_with fail
        go_round
        case rel =>
          refine ⟨k + 1, by omega, by omega, by go_num, hall'.out (by omega)⟩
        case measure => simp [intOf]; omega
      · have hne : ((k : Int) == n) = false := by simp; omega
        have hne2 : ((k : Int) == 10) = false := by simp; omega
        have hx3 : x < 128 := by omega
        have ht : k + 1 ≤ l.length := by omega
        have htl : (l.take (k + 1)).length = k + 1 := by rw [List.length_take]; omega
        have href := Lib.hid (tu_ref hl HA.out (by rw [HX.out]; exact hx3))
        go_wp2_with fail
        go_loop [5, 6] (fun s5 i => ∃ j : Nat, j ≤ k + 1 ∧ i = .int .i64 ((j : Int) - 1) ∧ s5 = .int .u64 (m64 (val ((l.take (k + 1)).drop j)) : Int)) (fun _ i => ((intOf i) + 1).toNat)
        case atStart => exact ⟨k + 1, Nat.le_refl _, by go_num, by rw [List.drop_of_length_le (by omega)]; rfl⟩
        case round =>
          obtain ⟨j, hj, hi, rfl⟩ := hrel
          by_cases hj0 : 0 < j
          · obtain ⟨j, rfl⟩ : ∃ j', j = j' + 1 := ⟨j - 1, by omega⟩
            obtain ⟨b2, off2, hl2, he2, hc2⟩ := hs.byte (k := j) (by omega)
            injection he2 with he2; injection he2 with e1 e2
            subst e1 e2
            rw [show ((j + 1 : Nat) : Int) - 1 = (j : Int) from by omega] at hi
            subst hi
            have hvd := val_drop (l := l.take (k + 1)) (j := j) (by omega)
            rw [List.getElem_take] at hvd
            have hy1 : l[j].toNat < 256 := l[j].toNat_lt
            have hm := m64_le (val ((l.take (k + 1)).drop (j + 1)))
            have hst := m64_step (val ((l.take (k + 1)).drop (j + 1))) l[j].toNat
            rw [← hvd] at hst
            generalize val ((l.take (k + 1)).drop (j + 1)) = V at hst hm ⊢
            generalize hy : l[j].toNat = y at hc2 hst hy1
            have HV := Lib.hid hst
            clear hst hy hvd
            go_wp2_with fail
            go_round
            case rel => exact ⟨j, by omega, rfl, congrArg (Value.int .u64) HV.out⟩
            case measure => simp [intOf]
          · have hj1 : j = 0 := by omega
            subst hj1
            subst hi
            have HL := Lib.hid (m64_lt (val (l.take (k + 1))))
            go_wp2_with fail
            generalize m64 (val (l.take (k + 1))) = V at HL href ⊢
            go_cut [54] (fun s54 wx => s54 = .bool (!(vint V == l.take (k + 1))) ∧ Below w.heap.size w wx)
            case first =>
              have hcv2 : ∀ W : World, Below w.heap.size w W → ∀ c', (convert 36 9 (.slice (some ⟨bb, off, none⟩) (k + 1) c')).run Tryz.prog W = .ok (.string ⟨(l.take (k + 1)).toArray⟩) W := fun W hW c' => by
                have h1 := (hs.take (k := k + 1) (by omega)).below hW
                rw [show (bv l).take (k + 1) = bv (l.take (k + 1)) from by simp [bv]] at h1
                exact run_str h1 _ _ _ Tryz.underlying36 Tryz.underlying5 Tryz.underlying9
              have hc0 : ¬ c = 0 := by omega
              have hb0 : Below w.heap.size w w.drew := (Below.refl _ _).drew
              have z4 : (k : Int) + 1 ≤ (c : Int) := by omega
              have z2 : (0 : Int) ≤ (k : Int) + 1 := by omega
              have z3 : ((k : Int) + 1).toNat = k + 1 := by omega
              have z1 : IntKind.i64.wrap ((k : Int) + 1) = (k : Int) + 1 := IntWalk.i64_in _ (by omega)
              go_region_with (go_at_call 83; refine (refUint_any V HL.out _).mono ?_; rintro e w1 ⟨A1, c1, rfl, hown1, hbel1⟩; have hcv1 := run_str (P := Tryz.prog) (c := c1) (own_sl hown1) 36 5 9 Tryz.underlying36 Tryz.underlying5 Tryz.underlying9; have hb1 : Below w.heap.size w w1 := hb0.trans hbel1)
              all_goals (go_wp2_with fail; go_meet; exact ⟨rfl, by assumption⟩)
            case rest =>
              obtain ⟨rfl, hbx⟩ := hcut
              by_cases hv : vint V = l.take (k + 1)
              · have hv' : (vint V == l.take (k + 1)) = true := by simpa using hv
                rw [hv']
                have HR := Lib.hid (href.out.trans (if_pos hv))
                clear hv hv' href
                go_wp2_with fail
                go_ret2
                rw [HR.out]
                exact ⟨ret_two rfl (by omega), hbx⟩
              · have hv' : (vint V == l.take (k + 1)) = false := by simpa using hv
                rw [hv']
                have HR := Lib.hid (href.out.trans (if_neg hv))
                clear hv hv' href
                go_wp2_with fail
                go_ret2
                rw [HR.out]
                exact ⟨rfl, hbx⟩
    · by_cases hkn : k = n
      · have hne : ((k : Int) == n) = true := by simp; omega
        have hend := Lib.hid (show tu l = (0, 0) from tu_end fun b hb => HA.out b (by rw [hkn, ← hlen, List.take_length]; exact hb))
        go_wp2_with fail
        go_ret2
        rw [hend.out]
        exact ⟨rfl, Below.refl _ _⟩
      · have hne : ((k : Int) == n) = false := by simp; omega
        have hk10' : k = 10 := by omega
        have hend := Lib.hid (show tu l = (0, 0) from tu_ten (by omega) (by rw [← hk10']; exact HA.out))
        subst hk10'
        go_wp2_with fail
        go_ret2
        rw [hend.out]
        exact ⟨rfl, Below.refl _ _⟩
end Go.Proofs.YtnbomifnbhijbaaGreatDoor
