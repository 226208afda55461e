/-
  Texts put together: FrameA, FrameB, FrameC, FrameD.
-/
import Derived.Test.YtadkgfhfjagmpaaGreatDoorProg
import Derived.Test.YtadkgfhfjagmpaaGreatDoorBase
import Derived.Test.YtadkgfhfjagmpaaGreatDoorNum
import Derived.Test.YtadkgfhfjagmpaaGreatDoorCrc
import Derived.BigQuiet
import Derived.Deep.QuietTactic
import Derived.Deep.DeepCutAuto
import Derived.Deep.RegionWith
import Derived.Deep.RegionHeld3
import Derived.WalkLawsBesides
import Derived.WalkSpells
namespace Go.Proofs.YtadkgfhfjagmpaaGreatDoor
open Go.RowKit Num

theorem bytesEl : El Tryz.prog 28 5 (.int .u8 0) 1 := ⟨Tryz.underlying28, by kernel_rfl, rfl⟩

/-- A new slice of bytes in memory of the call's own; nothing older is written. -/
def Fresh (w : World) (l : List UInt8) (e : Ending) (w' : World) : Prop :=
  ∃ A c, e = .returned (.slice A l.length c) ∧ w'.ownsRow w.heap.size 5 1 (.slice A l.length c) l.length (bv l) ∧ Below w.heap.size w w'

theorem or128 : ∀ x, x < 256 → x ||| 128 = x % 128 + 128 := by decide +kernel
theorem add_byte (m : Nat) : bv [UInt8.ofNat (m % 128 + 128)] = [Value.int .u8 ((m : Int) % 128 + 128)] := by
  rw [← bv_byte _ (by omega)]
  have e0 : ((m % 128 + 128 : Nat) : Int) = ((m : Int) % 128 + 128) := by omega
  rw [e0]
theorem or_byte (m : Nat) : [Value.int .u8 (bits .or .u8 ((m : Int) % 256) 128)] = bv [UInt8.ofNat (m % 128 + 128)] := by
  rw [← bv_byte _ (by omega)]
  have h := u8_or_nat (m % 256) 128 (by omega) (by omega)
  rw [or128 _ (by omega)] at h
  have e : ((m % 256 : Nat) : Int) = (m : Int) % 256 := by omega
  rw [e] at h
  rw [show (128 : Int) = ((128 : Nat) : Int) from rfl, h, show m % 256 % 128 + 128 = m % 128 + 128 from by omega]

set_option maxHeartbeats 400000 in
theorem uint_any (n : Nat) (hn : n < 18446744073709551616) (w : World) :
    Calls Tryz.prog 112 #[.int .u64 n] w (Fresh w (vint n)) := by
  go_enter Tryz.func112, Tryz.ntmps112
  go_wp2_with fail
  go_loopw [0, 3] (fun s0 s3 wr => ∃ (m : Nat) (p : List UInt8) (A : Option Addr) (c : Nat), s0 = .int .u64 m ∧ s3 = .slice A p.length c ∧ wr.ownsRow w.heap.size 5 1 (.slice A p.length c) p.length (bv p) ∧ Below w.heap.size w wr ∧ p ++ vint m = vint n ∧ m < 18446744073709551616) (fun s0 _ _ => (intOf s0).toNat)
  case atStart => exact ⟨n, [], none, 0, rfl, rfl, World.ownsRow_nil _ _ _ _, Below.refl _ _, rfl, hn⟩
  case round =>
    obtain ⟨m, p, A, c, rfl, rfl, hown, hbel, hp, hm⟩ := hrel
    have hlen : p.length + (vint m).length = (vint n).length := by rw [← hp, List.length_append]
    have h10 := vint_len10 hn
    have hpos := vint_pos m
    have HP := Lib.hid hp
    clear hp
    by_cases hlt : 127 < m
    · have hlt' : (127 : Int) < (m : Int) := by omega
      have hm' : (m : Int) ≤ 18446744073709551615 := by omega
      go_wp2_with (at_builtin; refine wpList_app _ rfl (.tmp 6) (.tmp 10) 28 rfl w.heap.size bytesEl (by decide) (.slice A p.length c) p.length (bv p) rfl (hown.alloc _) (some ⟨wr.heap.size, 0, none⟩) 1 1 [.int .u8 (bits .or .u8 ((m : Int) % 256) 128)] rfl (Sl.new _ _ _) (by rw [or_byte]; exact bv_one _) (by omega) (by have := hbel.size; simp; omega) ?_; intro A1 c1 w1 hown1 hg1 hat1)
      have hbel1 : Below w.heap.size w w1 := (hbel.alloc hbel.size _).grown hg1 (by have := hbel.size; simp; omega) (own_blk hown)
      rw [or_byte, ← bv_app] at hown1
      clear hown hg1 hat1 hbel
      go_wp2
      go_roundw
      case rel =>
        refine ⟨m / 128, p ++ [UInt8.ofNat (m % 128 + 128)], A1, c1, by simp, by simp, by simpa using hown1, hbel1, ?_, by omega⟩
        rw [← HP.out, vint_big (n := m) (by omega)]
        simp
      case measure => simp [intOf]; omega
    · have hlt' : ¬ (127 : Int) < (m : Int) := by omega
      go_wp2_with (at_builtin; refine wpList_app _ rfl (.tmp 14) (.tmp 17) 28 rfl w.heap.size bytesEl (by decide) (.slice A p.length c) p.length (bv p) rfl (hown.alloc _) (some ⟨wr.heap.size, 0, none⟩) 1 1 (bv [UInt8.ofNat m]) rfl (by rw [← bv_byte _ (by omega)]; exact Sl.new _ _ _) (bv_one _) (by omega) (by have := hbel.size; simp; omega) ?_; intro A1 c1 w1 hown1 hg1 hat1)
      have hbel1 : Below w.heap.size w w1 := (hbel.alloc hbel.size _).grown hg1 (by have := hbel.size; simp; omega) (own_blk hown)
      rw [← bv_app] at hown1
      go_wp2
      go_ret
      have e : vint n = p ++ [UInt8.ofNat m] := by rw [← HP.out, vint_small (by omega)]
      refine ⟨A1, c1, by rw [e]; simp, by rw [e]; simpa using hown1, hbel1⟩

set_option maxHeartbeats 400000 in
theorem refUint_any (n : Nat) (hn : n < 18446744073709551616) (w : World) :
    Calls Tryz.prog 83 #[.int .u64 n] w (Fresh w (vint n)) := by
  go_enter Tryz.func83, Tryz.ntmps83
  go_wp2_with fail
  go_loopw [0, 3] (fun s0 s3 wr => ∃ (m : Nat) (p : List UInt8) (A : Option Addr) (c : Nat), s0 = .int .u64 m ∧ s3 = .slice A p.length c ∧ wr.ownsRow w.heap.size 5 1 (.slice A p.length c) p.length (bv p) ∧ Below w.heap.size w wr ∧ p ++ vint m = vint n ∧ m < 18446744073709551616) (fun s0 _ _ => (intOf s0).toNat)
  case atStart => exact ⟨n, [], none, 0, rfl, rfl, World.ownsRow_nil _ _ _ _, Below.refl _ _, rfl, hn⟩
  case round =>
    obtain ⟨m, p, A, c, rfl, rfl, hown, hbel, hp, hm⟩ := hrel
    have hlen : p.length + (vint m).length = (vint n).length := by rw [← hp, List.length_append]
    have h10 := vint_len10 hn
    have hpos := vint_pos m
    have HP := Lib.hid hp
    clear hp
    by_cases hlt : 128 ≤ m
    · have hlt' : (128 : Int) ≤ (m : Int) := by omega
      have hm' : (m : Int) ≤ 18446744073709551615 := by omega
      go_wp2_with (at_builtin; refine wpList_app _ rfl (.tmp 6) (.tmp 11) 28 rfl w.heap.size bytesEl (by decide) (.slice A p.length c) p.length (bv p) rfl (hown.alloc _) (some ⟨wr.heap.size, 0, none⟩) 1 1 (bv [UInt8.ofNat (m % 128 + 128)]) rfl (by rw [add_byte]; exact Sl.new _ _ _) (bv_one _) (by omega) (by have := hbel.size; simp; omega) ?_; intro A1 c1 w1 hown1 hg1 hat1)
      have hbel1 : Below w.heap.size w w1 := (hbel.alloc hbel.size _).grown hg1 (by have := hbel.size; simp; omega) (own_blk hown)
      rw [← bv_app] at hown1
      clear hown hg1 hat1 hbel
      go_wp2
      go_roundw
      case rel =>
        refine ⟨m / 128, p ++ [UInt8.ofNat (m % 128 + 128)], A1, c1, by simp, by simp, by simpa using hown1, hbel1, ?_, by omega⟩
        rw [← HP.out, vint_big (n := m) (by omega)]
        simp
      case measure => simp [intOf]; omega
    · have hlt' : ¬ (128 : Int) ≤ (m : Int) := by omega
      go_wp2_with (at_builtin; refine wpList_app _ rfl (.tmp 15) (.tmp 18) 28 rfl w.heap.size bytesEl (by decide) (.slice A p.length c) p.length (bv p) rfl (hown.alloc _) (some ⟨wr.heap.size, 0, none⟩) 1 1 (bv [UInt8.ofNat m]) rfl (by rw [← bv_byte _ (by omega)]; exact Sl.new _ _ _) (bv_one _) (by omega) (by have := hbel.size; simp; omega) ?_; intro A1 c1 w1 hown1 hg1 hat1)
      have hbel1 : Below w.heap.size w w1 := (hbel.alloc hbel.size _).grown hg1 (by have := hbel.size; simp; omega) (own_blk hown)
      rw [← bv_app] at hown1
      go_wp2
      go_ret
      have e : vint n = p ++ [UInt8.ofNat m] := by rw [← HP.out, vint_small (by omega)]
      refine ⟨A1, c1, by rw [e]; simp, by rw [e]; simpa using hown1, hbel1⟩

set_option maxHeartbeats 400000 in
theorem text_any (s : ByteArray) (hn : s.size ≤ 140737488355000) (w : World) :
    Calls Tryz.prog 82 #[.string s] w (Fresh w (vint s.size ++ s.data.toList)) := by
  have h10 := vint_len10 (n := s.size) (by omega)
  go_enter Tryz.func82, Tryz.ntmps82
  go_wp2_with fail
  refine (uint_any s.size (by omega) _).mono ?_
  rintro e w1 ⟨A, c, rfl, hown, hbel⟩
  go_wp2_with (at_builtin; refine wpList_app_str _ rfl (.tmp 6) (.tmp 7) 28 9 rfl w.heap.size bytesEl (by decide) Tryz.underlying9 _ _ _ rfl hown s rfl (by omega) hbel.size ?_; intro A1 c1 w2 hown1 hg1 hat1)
  go_wp2
  go_ret
  have e : s.data.toList.length = s.size := rfl
  refine ⟨A1, c1, by simp [e], by simpa [bv_app, e] using hown1, hbel.grown hg1 hbel.size (own_blk hown)⟩

set_option maxHeartbeats 400000 in
theorem refText_any (s : ByteArray) (hn : s.size ≤ 140737488355000) (w : World) :
    Calls Tryz.prog 84 #[.string s] w (Fresh w (vint s.size ++ s.data.toList)) := by
  have h10 := vint_len10 (n := s.size) (by omega)
  go_enter Tryz.func84, Tryz.ntmps84
  go_wp2_with fail
  refine (refUint_any s.size (by omega) _).mono ?_
  rintro e w1 ⟨A, c, rfl, hown, hbel⟩
  go_wp2_with (at_builtin; refine wpList_app_str _ rfl (.tmp 6) (.tmp 7) 28 9 rfl w.heap.size bytesEl (by decide) Tryz.underlying9 _ _ _ rfl hown s rfl (by omega) hbel.size ?_; intro A1 c1 w2 hown1 hg1 hat1)
  go_wp2
  go_ret
  have e : s.data.toList.length = s.size := rfl
  refine ⟨A1, c1, by simp [e], by simpa [bv_app, e] using hown1, hbel.grown hg1 hbel.size (own_blk hown)⟩
end Go.Proofs.YtadkgfhfjagmpaaGreatDoor

namespace Go.Proofs.YtadkgfhfjagmpaaGreatDoor
open Go.RowKit Num

theorem ret_two {a b a' b' : Int} (h1 : a = a') (h2 : b = b') : Ending.returned (.tuple #[.int .u64 a, .int .i64 b]) = .returned (.tuple #[.int .u64 a', .int .i64 b']) := by rw [h1, h2]

set_option maxHeartbeats 1600000 in
theorem takeUint_any (A : Option Addr) (n c : Nat) (l : List UInt8) (w : World) (hs : Sl w A n (bv l)) (hn : n ≤ 140737488355328) :
    Calls Tryz.prog 173 #[.slice A n c] w fun e w' => e = .returned (.tuple #[.int .u64 (tu l).1, .int .i64 (tu l).2]) ∧ w = w' := by
  have hlen := hs.len
  by_cases h10 : ((10 : Int) < n)
  all_goals
    go_enter Tryz.func173, Tryz.ntmps173
    go_wp2_with fail
    go_loop [4, 9] (fun s4 i => ∃ k : Nat, k ≤ n ∧ k ≤ 10 ∧ i = .int .i64 k ∧ s4 = .int .u64 (val (l.take k)) ∧ (∀ b ∈ l.take k, 128 ≤ b.toNat)) (fun _ i => n - (intOf i).toNat)
    case atStart => exact ⟨0, Nat.zero_le _, Nat.zero_le _, rfl, by simp [val], by simp⟩
    case round =>
      obtain ⟨k, hk, hk10, rfl, rfl, hall⟩ := hrel
      have HA := Lib.hid hall
      clear hall
      by_cases hlt : k < n ∧ k < 10
      · obtain ⟨hlt, hlt10⟩ := hlt
        obtain ⟨bb, off, hl, rfl, hc⟩ := hs.byte hlt
        have hvl := val_lt (l.take k)
        rw [List.length_take, Nat.min_eq_left (by omega)] at hvl
        have hx1 : l[k].toNat < 256 := l[k].toNat_lt
        have hs1 := fun h9 hnz hb => tu_stop hl HA.out hb h9 hnz
        have hs2 := fun hb h0 => tu_zero hl HA.out hb h0
        have hs3 := fun (h9 : k = 9) (hb : 1 < l[k].toNat) => by subst h9; exact tu_nine hl HA.out hb
        have hor := or_val (val (l.take k)) l[k].toNat k hvl hx1
        have hsucc := val_succ hl
        have hall' := all_succ hl HA.out
        rw [hsucc] at hs1
        have H := Lib.hid (And.intro hs1 (And.intro hs2 (And.intro hs3 (And.intro hor (And.intro hsucc hall')))))
        clear hs1 hs2 hs3 hor hsucc hall' HA
        generalize val (l.take k) = v at hvl H ⊢
        generalize hx : l[k].toNat = x at hc H hx1
        clear hx
        by_cases h9 : k = 9
        · subst h9
          go_wp2_with fail
          · go_ret2
            rw [H.out.2.2.1 trivial (by omega)]
            exact ⟨rfl, rfl⟩
          · have hx3 : x = 0 := by assumption
            go_ret2
            rw [H.out.2.1 hx3 (by omega)]
            exact ⟨rfl, rfl⟩
          · have hx3 : ¬ x = 0 := by assumption
            go_ret2
            rw [H.out.1 (.inr ⟨trivial, by omega⟩) (by omega) (by omega)]
            exact ⟨ret_two (H.out.2.2.2.1 (.inr ⟨trivial, by omega⟩)) (by omega), rfl⟩
        · have h9' : ((k : Int) == 9) = false := by simp; omega
          go_wp2_with fail
          · go_round
            case rel =>
              refine ⟨k + 1, by omega, by omega, by go_num, ?_, H.out.2.2.2.2.2 (by omega)⟩
              rw [H.out.2.2.2.2.1, H.out.2.2.2.1 (by omega)]
            case measure => simp [intOf]; omega
          · have hx3 : x = 0 := by assumption
            go_ret2
            rw [H.out.2.1 hx3 (by omega)]
            exact ⟨rfl, rfl⟩
          · have hx3 : x = 0 := by assumption
            subst hx3
            go_ret2
            rw [H.out.1 (by omega) (by omega) (by omega)]
            exact ⟨ret_two (H.out.2.2.2.1 (by omega)) (by omega), rfl⟩
          · have hx3 : ¬ x = 0 := by assumption
            go_ret2
            rw [H.out.1 (by omega) (by omega) (by omega)]
            exact ⟨ret_two (H.out.2.2.2.1 (by omega)) (by omega), rfl⟩
      · have hend : tu l = (0, 0) := by
          by_cases hk2 : k = 10
          · exact tu_ten (by omega) (by rw [← hk2]; exact HA.out)
          · have hkn : k = n := by omega
            refine tu_end fun b hb => HA.out b ?_
            rw [hkn, ← hlen, List.take_length]; exact hb
        have HE := Lib.hid hend
        clear hend
        go_wp2_with fail
        go_ret2
        rw [HE.out]
        exact ⟨rfl, rfl⟩

set_option maxRecDepth 20000 in
set_option maxHeartbeats 1600000 in
theorem refTakeUint_any (A : Option Addr) (n c : Nat) (l : List UInt8) (w : World) (hs : Sl w A n (bv l)) (hn : n ≤ 140737488355328) (hnc : n ≤ c) :
    Calls Tryz.prog 137 #[.slice A n c] w fun e w' => e = .returned (.tuple #[.int .u64 (tu l).1, .int .i64 (tu l).2]) ∧ Below w.heap.size w w' := by
  have hlen := hs.len
  go_enter Tryz.func137, Tryz.ntmps137
  go_wp2_with fail
  go_loop [4] (fun i => ∃ k : Nat, k ≤ n ∧ k ≤ 10 ∧ i = .int .i64 k ∧ (∀ b ∈ l.take k, 128 ≤ b.toNat)) (fun i => n - (intOf i).toNat)
  case atStart => exact ⟨0, Nat.zero_le _, Nat.zero_le _, rfl, by simp⟩
  case round =>
    obtain ⟨k, hk, hk10, rfl, hall⟩ := hrel
    have HA := Lib.hid hall
    clear hall
    by_cases hlt : k < n ∧ k < 10
    · obtain ⟨hlt, hlt10⟩ := hlt
      obtain ⟨bb, off, hl, rfl, hc⟩ := hs.byte hlt
      have hx1 : l[k].toNat < 256 := l[k].toNat_lt
      have hall' := Lib.hid (all_succ hl HA.out)
      generalize hx : l[k].toNat = x at hc hx1 hall'
      have HX := Lib.hid hx
      clear hx
      by_cases hx2 : (128 : Int) ≤ x
      · go_wp2_with fail
        go_round
        case rel =>
          refine ⟨k + 1, by omega, by omega, by go_num, hall'.out (by omega)⟩
        case measure => simp [intOf]; omega
      · have hne : ((k : Int) == n) = false := by simp; omega
        have hne2 : ((k : Int) == 10) = false := by simp; omega
        have hx3 : x < 128 := by omega
        have ht : k + 1 ≤ l.length := by omega
        have htl : (l.take (k + 1)).length = k + 1 := by rw [List.length_take]; omega
        have href := Lib.hid (tu_ref hl HA.out (by rw [HX.out]; exact hx3))
        go_wp2_with fail
        go_loop [5, 6] (fun s5 i => ∃ j : Nat, j ≤ k + 1 ∧ i = .int .i64 ((j : Int) - 1) ∧ s5 = .int .u64 (m64 (val ((l.take (k + 1)).drop j)) : Int)) (fun _ i => ((intOf i) + 1).toNat)
        case atStart => exact ⟨k + 1, Nat.le_refl _, by go_num, by rw [List.drop_of_length_le (by omega)]; rfl⟩
        case round =>
          obtain ⟨j, hj, hi, rfl⟩ := hrel
          by_cases hj0 : 0 < j
          · obtain ⟨j, rfl⟩ : ∃ j', j = j' + 1 := ⟨j - 1, by omega⟩
            obtain ⟨b2, off2, hl2, he2, hc2⟩ := hs.byte (k := j) (by omega)
            injection he2 with he2; injection he2 with e1 e2
            subst e1 e2
            rw [show ((j + 1 : Nat) : Int) - 1 = (j : Int) from by omega] at hi
            subst hi
            have hvd := val_drop (l := l.take (k + 1)) (j := j) (by omega)
            rw [List.getElem_take] at hvd
            have hy1 : l[j].toNat < 256 := l[j].toNat_lt
            have hm := m64_le (val ((l.take (k + 1)).drop (j + 1)))
            have hst := m64_step (val ((l.take (k + 1)).drop (j + 1))) l[j].toNat
            rw [← hvd] at hst
            generalize val ((l.take (k + 1)).drop (j + 1)) = V at hst hm ⊢
            generalize hy : l[j].toNat = y at hc2 hst hy1
            have HV := Lib.hid hst
            clear hst hy hvd
            go_wp2_with fail
            go_round
            case rel => exact ⟨j, by omega, rfl, congrArg (Value.int .u64) HV.out⟩
            case measure => simp [intOf]
          · have hj1 : j = 0 := by omega
            subst hj1
            subst hi
            have HL := Lib.hid (m64_lt (val (l.take (k + 1))))
            go_wp2_with fail
            generalize m64 (val (l.take (k + 1))) = V at HL href ⊢
            go_cut [54] (fun s54 wx => s54 = .bool (!(vint V == l.take (k + 1))) ∧ Below w.heap.size w wx)
            case first =>
              have hcv2 : ∀ W : World, Below w.heap.size w W → ∀ c', (convert 28 9 (.slice (some ⟨bb, off, none⟩) (k + 1) c')).run Tryz.prog W = .ok (.string ⟨(l.take (k + 1)).toArray⟩) W := fun W hW c' => by
                have h1 := (hs.take (k := k + 1) (by omega)).below hW
                rw [show (bv l).take (k + 1) = bv (l.take (k + 1)) from by simp [bv]] at h1
                exact run_str h1 _ _ _ Tryz.underlying28 Tryz.underlying5 Tryz.underlying9
              have hc0 : ¬ c = 0 := by omega
              have hb0 : Below w.heap.size w w.drew := (Below.refl _ _).drew
              have z4 : (k : Int) + 1 ≤ (c : Int) := by omega
              have z2 : (0 : Int) ≤ (k : Int) + 1 := by omega
              have z3 : ((k : Int) + 1).toNat = k + 1 := by omega
              have z1 : IntKind.i64.wrap ((k : Int) + 1) = (k : Int) + 1 := IntWalk.i64_in _ (by omega)
              go_region_with (go_at_call 83; refine (refUint_any V HL.out _).mono ?_; rintro e w1 ⟨A1, c1, rfl, hown1, hbel1⟩; have hcv1 := run_str (P := Tryz.prog) (c := c1) (own_sl hown1) 28 5 9 Tryz.underlying28 Tryz.underlying5 Tryz.underlying9; have hb1 : Below w.heap.size w w1 := hb0.trans hbel1)
              all_goals (go_wp2_with fail; go_meet; exact ⟨rfl, by assumption⟩)
            case rest =>
              obtain ⟨rfl, hbx⟩ := hcut
              by_cases hv : vint V = l.take (k + 1)
              · have hv' : (vint V == l.take (k + 1)) = true := by simpa using hv
                rw [hv']
                have HR := Lib.hid (href.out.trans (if_pos hv))
                clear hv hv' href
                go_wp2_with fail
                go_ret2
                rw [HR.out]
                exact ⟨ret_two rfl (by omega), hbx⟩
              · have hv' : (vint V == l.take (k + 1)) = false := by simpa using hv
                rw [hv']
                have HR := Lib.hid (href.out.trans (if_neg hv))
                clear hv hv' href
                go_wp2_with fail
                go_ret2
                rw [HR.out]
                exact ⟨rfl, hbx⟩
    · by_cases hkn : k = n
      · have hne : ((k : Int) == n) = true := by simp; omega
        have hend := Lib.hid (show tu l = (0, 0) from tu_end fun b hb => HA.out b (by rw [hkn, ← hlen, List.take_length]; exact hb))
        go_wp2_with fail
        go_ret2
        rw [hend.out]
        exact ⟨rfl, Below.refl _ _⟩
      · have hne : ((k : Int) == n) = false := by simp; omega
        have hk10' : k = 10 := by omega
        have hend := Lib.hid (show tu l = (0, 0) from tu_ten (by omega) (by rw [← hk10']; exact HA.out))
        subst hk10'
        go_wp2_with fail
        go_ret2
        rw [hend.out]
        exact ⟨rfl, Below.refl _ _⟩
end Go.Proofs.YtadkgfhfjagmpaaGreatDoor

namespace Go.Proofs.YtadkgfhfjagmpaaGreatDoor
open Go.RowKit Num

theorem take_bv (l : List UInt8) (k : Nat) : (bv l).take k = bv (l.take k) := by simp [bv]
theorem drop_bv (l : List UInt8) (k : Nat) : (bv l).drop k = bv (l.drop k) := by simp [bv]

/-- A window of a slice of bytes. -/
theorem Sl.win {w : World} {b o n : Nat} {l : List UInt8} (h : Sl w (some ⟨b, o, none⟩) n (bv l)) {i j : Nat} (hij : i ≤ j) (hj : j ≤ n) : Sl w (some ⟨b, o + i, none⟩) (j - i) (bv ((l.drop i).take (j - i))) := by
  have h1 := (h.drop (k := i) (by omega) (some ⟨b, o + i, none⟩) (by rintro _ b' o' e; injection e with e; injection e with e1 e2; subst e1 e2; rfl)).take (k := j - i) (by omega)
  rwa [drop_bv, take_bv] at h1

set_option maxRecDepth 20000 in
set_option maxHeartbeats 1600000 in
theorem takeText_any (A : Option Addr) (n c : Nat) (l : List UInt8) (w : World) (hs : Sl w A n (bv l)) (hn : n ≤ 140737488355328) (hnc : n ≤ c) :
    Calls Tryz.prog 195 #[.slice A n c] w fun e w' => e = .returned (.tuple #[.string ⟨(tt l).1.toArray⟩, .int .i64 (tt l).2]) ∧ w = w' := by
  have hlen := hs.len
  have hcall := takeUint_any A n c l w hs hn
  have hN := tu_lt l
  have hK := tu_le l
  have htt : tt l = if (tu l).2 = 0 ∨ l.length - (tu l).2 < (tu l).1 then ([], 0) else ((l.drop (tu l).2).take (tu l).1, (tu l).2 + (tu l).1) := rfl
  generalize tu l = p at hcall hN hK htt
  obtain ⟨N, K⟩ := p
  simp only at hcall hN hK htt
  have HN := Lib.hid hN
  have HT := Lib.hid htt
  have HC := Lib.hid hcall
  clear hN htt hcall
  by_cases hK0 : K = 0
  · subst hK0
    go_enter Tryz.func195, Tryz.ntmps195
    go_wp2_with (go_at_call 173; refine (HC.out).mono ?_; rintro e w' ⟨rfl, rfl⟩)
    go_ret2
    rw [HT.out, if_pos (.inl trivial)]
    exact ⟨rfl, rfl⟩
  · have hK1 : ((K : Int) == 0) = false := by simp; omega
    by_cases hNK : (n : Int) - K < N
    · go_enter Tryz.func195, Tryz.ntmps195
      go_wp2_with (go_at_call 173; refine (HC.out).mono ?_; rintro e w' ⟨rfl, rfl⟩)
      go_ret2
      rw [HT.out, if_pos (.inr (by omega))]
      exact ⟨rfl, rfl⟩
    · have hpos : 0 < n := by omega
      obtain ⟨b, o, rfl, -⟩ := hs.2 hpos
      have hw := hs.win (i := K) (j := K + N) (by omega) (by omega)
      have hcv := fun c' => run_str (P := Tryz.prog) (c := c') hw 28 5 9 Tryz.underlying28 Tryz.underlying5 Tryz.underlying9
      rw [show K + N - K = N from by omega] at hcv
      have hz : (K : Int) ≤ (K : Int) + N := by omega
      by_cases hcK : c = K
      · have hN0 : N = 0 := by omega
        subst hN0
        subst hcK
        have hc0 := fun c' => run_str (P := Tryz.prog) (c := c') (l := []) (Sl.none_ w (some ⟨b, o, none⟩)) 28 5 9 Tryz.underlying28 Tryz.underlying5 Tryz.underlying9
        go_enter Tryz.func195, Tryz.ntmps195
        go_wp2_with (go_at_call 173; refine (HC.out).mono ?_; rintro e w' ⟨rfl, rfl⟩)
        go_ret2
        rw [HT.out, if_neg (by omega)]
        exact ⟨by simp, rfl⟩
      · go_enter Tryz.func195, Tryz.ntmps195
        go_wp2_with (go_at_call 173; refine (HC.out).mono ?_; rintro e w' ⟨rfl, rfl⟩)
        go_ret2
        rw [HT.out, if_neg (by omega)]
        exact ⟨by simp, rfl⟩

set_option maxRecDepth 20000 in
set_option maxHeartbeats 1600000 in
theorem refTakeText_any (A : Option Addr) (n c : Nat) (l : List UInt8) (w : World) (hs : Sl w A n (bv l)) (hn : n ≤ 140737488355328) (hnc : n ≤ c) :
    Calls Tryz.prog 88 #[.slice A n c] w fun e w' => e = .returned (.tuple #[.string ⟨(tt l).1.toArray⟩, .int .i64 (tt l).2]) ∧ Below w.heap.size w w' := by
  have hlen := hs.len
  have hcall := refTakeUint_any A n c l w hs hn hnc
  have hN := tu_lt l
  have hK := tu_le l
  have htt : tt l = if (tu l).2 = 0 ∨ l.length - (tu l).2 < (tu l).1 then ([], 0) else ((l.drop (tu l).2).take (tu l).1, (tu l).2 + (tu l).1) := rfl
  generalize tu l = p at hcall hN hK htt
  obtain ⟨N, K⟩ := p
  simp only at hcall hN hK htt
  have HN := Lib.hid hN
  have HT := Lib.hid htt
  have HC := Lib.hid hcall
  clear hN htt hcall
  by_cases hK0 : K = 0
  · subst hK0
    go_enter Tryz.func88, Tryz.ntmps88
    go_wp2_with (go_at_call 137; refine (HC.out).mono ?_; rintro e w1 ⟨rfl, hb⟩)
    go_ret2
    rw [HT.out, if_pos (.inl trivial)]
    exact ⟨rfl, hb⟩
  · have hK1 : ((K : Int) == 0) = false := by simp; omega
    by_cases hNn : (n : Int) < N
    · go_enter Tryz.func88, Tryz.ntmps88
      go_wp2_with (go_at_call 137; refine (HC.out).mono ?_; rintro e w1 ⟨rfl, hb⟩)
      go_ret2
      rw [HT.out, if_pos (.inr (by omega))]
      exact ⟨rfl, hb⟩
    by_cases hNK : (n : Int) - K < N
    · go_enter Tryz.func88, Tryz.ntmps88
      go_wp2_with (go_at_call 137; refine (HC.out).mono ?_; rintro e w1 ⟨rfl, hb⟩)
      go_ret2
      rw [HT.out, if_pos (.inr (by omega))]
      exact ⟨rfl, hb⟩
    · have hpos : 0 < n := by omega
      obtain ⟨b, o, rfl, -⟩ := hs.2 hpos
      have hw := hs.win (i := K) (j := K + N) (by omega) (by omega)
      rw [show K + N - K = N from by omega] at hw
      have hcv : ∀ W : World, Below w.heap.size w W → ∀ c', (convert 28 9 (.slice (some ⟨b, o + K, none⟩) N c')).run Tryz.prog W = .ok (.string ⟨((l.drop K).take N).toArray⟩) W := fun W hW c' =>
        run_str (P := Tryz.prog) (hw.below hW) 28 5 9 Tryz.underlying28 Tryz.underlying5 Tryz.underlying9
      have hz : (K : Int) ≤ (K : Int) + N := by omega
      by_cases hcK : c = K
      · have hN0 : N = 0 := by omega
        subst hN0
        subst hcK
        have hc0 := fun (W : World) c' => run_str (P := Tryz.prog) (c := c') (l := []) (Sl.none_ W (some ⟨b, o, none⟩)) 28 5 9 Tryz.underlying28 Tryz.underlying5 Tryz.underlying9
        go_enter Tryz.func88, Tryz.ntmps88
        go_wp2_with (go_at_call 137; refine (HC.out).mono ?_; rintro e w1 ⟨rfl, hb⟩)
        go_ret2
        rw [HT.out, if_neg (by omega)]
        exact ⟨by simp, hb⟩
      · go_enter Tryz.func88, Tryz.ntmps88
        go_wp2_with (go_at_call 137; refine (HC.out).mono ?_; rintro e w1 ⟨rfl, hb⟩)
        go_ret2
        rw [HT.out, if_neg (by omega)]
        exact ⟨by simp, hb⟩
end Go.Proofs.YtadkgfhfjagmpaaGreatDoor

namespace Go.Proofs.YtadkgfhfjagmpaaGreatDoor
open Go.RowKit Num Crc

/-- The table in memory, as the program's text lays it. -/
def Laid (w : World) : Prop := ∀ i, i < 16 → w.cell? ⟨0, i, none⟩ = some (.int .u32 ((stepn 4 i : Nat) : Int))
theorem Laid.keep {w w' : World} (h : Laid w) (hb : Below w.heap.size w w') : Laid w' := fun i hi => by
  have := h i hi
  rw [hb.cell (World.block_lt_of_cell? w _ this)]; exact this
theorem Laid.drew {w : World} (h : Laid w) : Laid w.drew := h

set_option maxRecDepth 20000 in
set_option maxHeartbeats 1600000 in
theorem sum_any (A : Option Addr) (n c : Nat) (l : List UInt8) (w : World) (hL : Laid w) (hs : Sl w A n (bv l)) (hn : n ≤ 140737488355328) :
    Calls Tryz.prog 114 #[.slice A n c] w fun e w' => e = .returned (.int .u32 (Crc.sum l)) ∧ w = w' := by
  have hlen := hs.len
  have HT := Lib.hid hL
  clear hL
  go_enter Tryz.func114, Tryz.ntmps114
  go_wp2_with fail
  go_loop [3, 8] (fun s3 i => ∃ k v : Nat, k ≤ n ∧ i = .int .i64 k ∧ s3 = .int .u32 v ∧ v < 4294967296 ∧ v = crc 4294967295 (l.take k)) (fun _ i => n - (intOf i).toNat)
  case atStart => exact ⟨0, 4294967295, Nat.zero_le _, rfl, rfl, by omega, rfl⟩
  case round =>
    obtain ⟨k, v, hk, rfl, rfl, hv, hvc⟩ := hrel
    have HV := Lib.hid hvc
    clear hvc
    by_cases hlt : k < n
    · obtain ⟨bb, off, hl, rfl, hc⟩ := hs.byte hlt
      have hx1 : l[k].toNat < 256 := l[k].toNat_lt
      have HX := Lib.hid (show crc 4294967295 (l.take (k + 1)) = stepn 8 (v ^^^ l[k].toNat) by rw [take_succ' hl, crc_snoc, ← HV.out]; rfl)
      generalize l[k].toNat = x at hc hx1 HX
      have hx2 := u32_xor_nat v x hv (by omega)
      have hvx : v ^^^ x < 4294967296 := xor_lt hv (by omega)
      go_wp2_with fail
      generalize v ^^^ x = d at HX hvx ⊢
      clear hx2
      go_loop [3, 16] (fun s3 i => ∃ j t : Nat, j ≤ 2 ∧ i = .int .i64 j ∧ s3 = .int .u32 t ∧ t < 4294967296 ∧ t = stepn (4 * j) d) (fun _ i => 2 - (intOf i).toNat)
      case atStart => exact ⟨0, d, by omega, rfl, rfl, hvx, rfl⟩
      case round =>
        obtain ⟨j, t, hj, rfl, rfl, ht, htd⟩ := hrel
        have HD := Lib.hid htd
        clear htd
        by_cases hj2 : j < 2
        · obtain ⟨y, z, t', hy, hand, hcell, hxor, ht', HT'⟩ : ∃ y z t' : Nat, y < 16 ∧ bits .and .u32 (t : Int) 15 = (y : Int) ∧ w.cell? ⟨0, y, none⟩ = some (.int .u32 (z : Int)) ∧ bits .xor .u32 ((t : Int) / 16) (z : Int) = (t' : Int) ∧ t' < 4294967296 ∧ Hid (t' = stepn 4 t) := by
            have hand := u32_and_nat t 15 ht (by omega)
            rw [nat_mask4] at hand
            have hx := u32_xor_nat (t / 16) (stepn 4 (t % 16)) (by omega) (stepn_lt 4 (by omega))
            rw [← nib, show ((t / 16 : Nat) : Int) = (t : Int) / 16 from by omega] at hx
            exact ⟨t % 16, stepn 4 (t % 16), stepn 4 t, by omega, hand, HT.out (t % 16) (by omega), hx, stepn_lt 4 ht, rfl⟩
          go_wp2_with fail
          go_round
          case rel => exact ⟨j + 1, t', by omega, by go_num, rfl, ht', by rw [HT'.out, HD.out, ← stepn_add]; congr 1; omega⟩
          case measure => simp [intOf]; omega
        · have hj' : j = 2 := by omega
          subst hj'
          go_wp2_with fail
          go_round
          case rel => exact ⟨k + 1, t, by omega, by go_num, rfl, ht, by rw [HX.out, HD.out]⟩
          case measure => simp [intOf]; omega
    · have hkn : k = n := by omega
      have hnot : bits .xor .u32 IntKind.u32.max (v : Int) = ((Crc.sum l : Nat) : Int) := by
        have e1 : IntKind.u32.max = ((4294967295 : Nat) : Int) := by decide +kernel
        rw [e1, u32_xor_nat _ _ (by omega) hv, Nat.xor_comm, HV.out, hkn, ← hlen, List.take_length]
        rfl
      have HN := Lib.hid hnot
      clear hnot
      go_wp2_with fail
      go_ret
      exact ⟨congrArg (fun z => Ending.returned (.int .u32 z)) HN.out, rfl⟩

theorem rs_test (x j t : Nat) (hx : x < 256) (ht : t < 4294967296) : (bits .xor .u32 ((x : Int) / 2 ^ j) (t : Int)).tmod 2 = (((x / 2 ^ j ^^^ t) % 2 : Nat) : Int) := by
  have hq : x / 2 ^ j ≤ x := Nat.div_le_self _ _
  have e := u32_xor_nat (x / 2 ^ j) t (by omega) ht
  have e2 : ((x / 2 ^ j : Nat) : Int) = (x : Int) / 2 ^ j := by simp
  rw [← e2, e]
  rfl

set_option maxRecDepth 20000 in
set_option maxHeartbeats 1600000 in
theorem refSum_any (A : Option Addr) (n c : Nat) (l : List UInt8) (w : World) (hs : Sl w A n (bv l)) (hn : n ≤ 140737488355328) :
    Calls Tryz.prog 119 #[.slice A n c] w fun e w' => e = .returned (.int .u32 (Crc.sum l)) ∧ w = w' := by
  have hlen := hs.len
  go_enter Tryz.func119, Tryz.ntmps119
  go_wp2_with fail
  go_loop [3, 4] (fun s3 i => ∃ k v : Nat, k ≤ n ∧ i = .int .i64 k ∧ s3 = .int .u32 v ∧ v < 4294967296 ∧ v = crc 4294967295 (l.take k)) (fun _ i => n - (intOf i).toNat)
  case atStart => exact ⟨0, 4294967295, Nat.zero_le _, rfl, rfl, by omega, rfl⟩
  case round =>
    obtain ⟨k, v, hk, rfl, rfl, hv, hvc⟩ := hrel
    have HV := Lib.hid hvc
    clear hvc
    by_cases hlt : k < n
    · obtain ⟨bb, off, hl, rfl, hc⟩ := hs.byte hlt
      have hx1 : l[k].toNat < 256 := l[k].toNat_lt
      have HX := Lib.hid (show crc 4294967295 (l.take (k + 1)) = stepn 8 (v ^^^ l[k].toNat) by rw [take_succ' hl, crc_snoc, ← HV.out]; rfl)
      generalize l[k].toNat = x at hc hx1 HX
      go_wp2_with fail
      go_loop [3, 5] (fun s3 i => ∃ j t : Nat, j ≤ 8 ∧ i = .int .i64 j ∧ s3 = .int .u32 t ∧ t < 4294967296 ∧ t ^^^ (x / 2 ^ j) = stepn j (v ^^^ x)) (fun _ i => 8 - (intOf i).toNat)
      case atStart => exact ⟨0, v, by omega, rfl, rfl, hv, by simp [stepn]⟩
      case round =>
        obtain ⟨j, t, hj, rfl, rfl, ht, htd⟩ := hrel
        have HD := Lib.hid htd
        clear htd
        by_cases hj2 : j < 8
        · have HE := Lib.hid (rs_test x j t hx1 ht)
          have HS := Lib.hid (ref_step HD.out)
          have HP := Lib.hid (u32_xor_nat (t / 2) 3988292384 (by omega) (by omega))
          go_wp2_with fail
          · have htest : ((bits .xor .u32 ((x : Int) / 2 ^ j) (t : Int)).tmod 2 == 1) = true := by assumption
            rw [HE.out] at htest
            have h1 : (x / 2 ^ j ^^^ t) % 2 = 1 := by have := eq_of_beq htest; omega
            have hs1 := HS.out
            rw [if_pos h1] at hs1
            have hp := HP.out
            rw [show ((t / 2 : Nat) : Int) = (t : Int) / 2 from by omega] at hp
            go_round
            case rel => exact ⟨j + 1, t / 2 ^^^ poly, by omega, by go_num, congrArg (Value.int .u32) hp, xor_lt (by omega) (by decide), hs1⟩
            case measure => simp [intOf]; omega
          · have htest : ((bits .xor .u32 ((x : Int) / 2 ^ j) (t : Int)).tmod 2 == 1) = false := by assumption
            rw [HE.out] at htest
            have h1 : ¬ (x / 2 ^ j ^^^ t) % 2 = 1 := by have := ne_of_beq_false htest; omega
            have hs1 := HS.out
            rw [if_neg h1, Nat.xor_zero] at hs1
            go_round
            case rel => exact ⟨j + 1, t / 2, by omega, by go_num, by rw [show ((t / 2 : Nat) : Int) = (t : Int) / 2 from by omega], by omega, hs1⟩
            case measure => simp [intOf]; omega
        · have hj' : j = 8 := by omega
          subst hj'
          go_wp2_with fail
          go_round
          case rel =>
            refine ⟨k + 1, t, by omega, by go_num, rfl, ht, ?_⟩
            rw [HX.out, ← HD.out, Nat.div_eq_of_lt (by omega), Nat.xor_zero]
          case measure => simp [intOf]; omega
    · have hkn : k = n := by omega
      have hnot : bits .xor .u32 (v : Int) 4294967295 = ((Crc.sum l : Nat) : Int) := by
        have e1 : (4294967295 : Int) = ((4294967295 : Nat) : Int) := rfl
        rw [e1, u32_xor_nat _ _ hv (by omega), HV.out, hkn, ← hlen, List.take_length]
        rfl
      have HN := Lib.hid hnot
      clear hnot
      go_wp2_with fail
      go_ret
      exact ⟨congrArg (fun z => Ending.returned (.int .u32 z)) HN.out, rfl⟩
end Go.Proofs.YtadkgfhfjagmpaaGreatDoor
