/-
  Contracts of the numbers' and texts' functions of package frame, and of the reference's: what each answers, and that nothing older is written.
-/
import Derived.Test.YtnbomifnbhijbaaGreatDoorProg
import Derived.Test.YtnbomifnbhijbaaGreatDoorBase
import Derived.Test.YtnbomifnbhijbaaGreatDoorNum
import Derived.BigQuiet
import Derived.Deep.QuietTactic
import Derived.Deep.DeepCutAuto
import Derived.Deep.RegionWith
import Derived.Deep.RegionHeld3
import Derived.WalkLawsBesides
import Derived.WalkSpells
namespace Go.Proofs.YtnbomifnbhijbaaGreatDoor
open Go.RowKit Num

theorem bytesEl : El Tryz.prog 36 5 (.int .u8 0) 1 := ⟨Tryz.underlying36, by kernel_rfl, rfl⟩

/-- A new slice of bytes in memory of the call's own; nothing older is written. -/
def Fresh (w : World) (l : List UInt8) (e : Ending) (w' : World) : Prop :=
  ∃ A c, e = .returned (.slice A l.length c) ∧ w'.ownsRow w.heap.size 5 1 (.slice A l.length c) l.length (bv l) ∧ Below w.heap.size w w'

theorem or128 : ∀ x, x < 256 → x ||| 128 = x % 128 + 128 := by decide +kernel
theorem add_byte (m : Nat) : bv [UInt8.ofNat (m % 128 + 128)] = [Value.int .u8 ((m : Int) % 128 + 128)] := by
  rw [← bv_byte _ (by omega)]
  have e0 : ((m % 128 + 128 : Nat) : Int) = ((m : Int) % 128 + 128) := by omega
  rw [e0]
theorem or_byte (m : Nat) : [Value.int .u8 (bits .or .u8 ((m : Int) % 256) 128)] = bv [UInt8.ofNat (m % 128 + 128)] := by
  rw [← bv_byte _ (by omega)]
  have h := u8_or_nat (m % 256) 128 (by omega) (by omega)
  rw [or128 _ (by omega)] at h
  have e : ((m % 256 : Nat) : Int) = (m : Int) % 256 := by omega
  rw [e] at h
  rw [show (128 : Int) = ((128 : Nat) : Int) from rfl, h, show m % 256 % 128 + 128 = m % 128 + 128 from by omega]

set_option maxHeartbeats 400000 in
theorem uint_any (n : Nat) (hn : n < 18446744073709551616) (w : World) :
    Calls Tryz.prog 76 #[.int .u64 n] w (Fresh w (vint n)) := by
  go_enter Tryz.func76, Tryz.ntmps76
  go_wp2_with fail
  go_loopw [0, 3] (fun s0 s3 wr => ∃ (m : Nat) (p : List UInt8) (A : Option Addr) (c : Nat), s0 = .int .u64 m ∧ s3 = .slice A p.length c ∧ wr.ownsRow w.heap.size 5 1 (.slice A p.length c) p.length (bv p) ∧ Below w.heap.size w wr ∧ p ++ vint m = vint n ∧ m < 18446744073709551616) (fun s0 _ _ => (intOf s0).toNat)
  case atStart => exact ⟨n, [], none, 0, rfl, rfl, World.ownsRow_nil _ _ _ _, Below.refl _ _, rfl, hn⟩
  case round =>
    obtain ⟨m, p, A, c, rfl, rfl, hown, hbel, hp, hm⟩ := hrel
    have hlen : p.length + (vint m).length = (vint n).length := by rw [← hp, List.length_append]
    have h10 := vint_len10 hn
    have hpos := vint_pos m
    have HP := Lib.hid hp
    clear hp
    by_cases hlt : 127 < m
    · have hlt' : (127 : Int) < (m : Int) := by omega
      have hm' : (m : Int) ≤ 18446744073709551615 := by omega
      go_wp2_with (at_builtin; refine wpList_app _ rfl (.tmp 6) (.tmp 10) 36 rfl w.heap.size bytesEl (by decide) (.slice A p.length c) p.length (bv p) rfl (hown.alloc _) (some ⟨wr.heap.size, 0, none⟩) 1 1 [.int .u8 (bits .or .u8 ((m : Int) % 256) 128)] rfl (Sl.new _ _ _) (by rw [or_byte]; exact bv_one _) (by omega) (by have := hbel.size; simp; omega) ?_; intro A1 c1 w1 hown1 hg1 hat1)
      have hbel1 : Below w.heap.size w w1 := (hbel.alloc hbel.size _).grown hg1 (by have := hbel.size; simp; omega) (own_blk hown)
      rw [or_byte, ← bv_app] at hown1
      clear hown hg1 hat1 hbel
      go_wp2
      go_roundw
      case rel =>
        refine ⟨m / 128, p ++ [UInt8.ofNat (m % 128 + 128)], A1, c1, by simp, by simp, by simpa using hown1, hbel1, ?_, by omega⟩
        rw [← HP.out, vint_big (n := m) (by omega)]
        simp
      case measure => simp [intOf]; omega
    · have hlt' : ¬ (127 : Int) < (m : Int) := by omega
      go_wp2_with (at_builtin; refine wpList_app _ rfl (.tmp 14) (.tmp 17) 36 rfl w.heap.size bytesEl (by decide) (.slice A p.length c) p.length (bv p) rfl (hown.alloc _) (some ⟨wr.heap.size, 0, none⟩) 1 1 (bv [UInt8.ofNat m]) rfl (by rw [← bv_byte _ (by omega)]; exact Sl.new _ _ _) (bv_one _) (by omega) (by have := hbel.size; simp; omega) ?_; intro A1 c1 w1 hown1 hg1 hat1)
      have hbel1 : Below w.heap.size w w1 := (hbel.alloc hbel.size _).grown hg1 (by have := hbel.size; simp; omega) (own_blk hown)
      rw [← bv_app] at hown1
      go_wp2
      go_ret
      have e : vint n = p ++ [UInt8.ofNat m] := by rw [← HP.out, vint_small (by omega)]
      refine ⟨A1, c1, by rw [e]; simp, by rw [e]; simpa using hown1, hbel1⟩

set_option maxHeartbeats 400000 in
theorem refUint_any (n : Nat) (hn : n < 18446744073709551616) (w : World) :
    Calls Tryz.prog 83 #[.int .u64 n] w (Fresh w (vint n)) := by
  go_enter Tryz.func83, Tryz.ntmps83
  go_wp2_with fail
  go_loopw [0, 3] (fun s0 s3 wr => ∃ (m : Nat) (p : List UInt8) (A : Option Addr) (c : Nat), s0 = .int .u64 m ∧ s3 = .slice A p.length c ∧ wr.ownsRow w.heap.size 5 1 (.slice A p.length c) p.length (bv p) ∧ Below w.heap.size w wr ∧ p ++ vint m = vint n ∧ m < 18446744073709551616) (fun s0 _ _ => (intOf s0).toNat)
  case atStart => exact ⟨n, [], none, 0, rfl, rfl, World.ownsRow_nil _ _ _ _, Below.refl _ _, rfl, hn⟩
  case round =>
    obtain ⟨m, p, A, c, rfl, rfl, hown, hbel, hp, hm⟩ := hrel
    have hlen : p.length + (vint m).length = (vint n).length := by rw [← hp, List.length_append]
    have h10 := vint_len10 hn
    have hpos := vint_pos m
    have HP := Lib.hid hp
    clear hp
    by_cases hlt : 128 ≤ m
    · have hlt' : (128 : Int) ≤ (m : Int) := by omega
      have hm' : (m : Int) ≤ 18446744073709551615 := by omega
      go_wp2_with (at_builtin; refine wpList_app _ rfl (.tmp 6) (.tmp 11) 36 rfl w.heap.size bytesEl (by decide) (.slice A p.length c) p.length (bv p) rfl (hown.alloc _) (some ⟨wr.heap.size, 0, none⟩) 1 1 (bv [UInt8.ofNat (m % 128 + 128)]) rfl (by rw [add_byte]; exact Sl.new _ _ _) (bv_one _) (by omega) (by have := hbel.size; simp; omega) ?_; intro A1 c1 w1 hown1 hg1 hat1)
      have hbel1 : Below w.heap.size w w1 := (hbel.alloc hbel.size _).grown hg1 (by have := hbel.size; simp; omega) (own_blk hown)
      rw [← bv_app] at hown1
      clear hown hg1 hat1 hbel
      go_wp2
      go_roundw
      case rel =>
        refine ⟨m / 128, p ++ [UInt8.ofNat (m % 128 + 128)], A1, c1, by simp, by simp, by simpa using hown1, hbel1, ?_, by omega⟩
        rw [← HP.out, vint_big (n := m) (by omega)]
        simp
      case measure => simp [intOf]; omega
    · have hlt' : ¬ (128 : Int) ≤ (m : Int) := by omega
      go_wp2_with (at_builtin; refine wpList_app _ rfl (.tmp 15) (.tmp 18) 36 rfl w.heap.size bytesEl (by decide) (.slice A p.length c) p.length (bv p) rfl (hown.alloc _) (some ⟨wr.heap.size, 0, none⟩) 1 1 (bv [UInt8.ofNat m]) rfl (by rw [← bv_byte _ (by omega)]; exact Sl.new _ _ _) (bv_one _) (by omega) (by have := hbel.size; simp; omega) ?_; intro A1 c1 w1 hown1 hg1 hat1)
      have hbel1 : Below w.heap.size w w1 := (hbel.alloc hbel.size _).grown hg1 (by have := hbel.size; simp; omega) (own_blk hown)
      rw [← bv_app] at hown1
      go_wp2
      go_ret
      have e : vint n = p ++ [UInt8.ofNat m] := by rw [← HP.out, vint_small (by omega)]
      refine ⟨A1, c1, by rw [e]; simp, by rw [e]; simpa using hown1, hbel1⟩

end Go.Proofs.YtnbomifnbhijbaaGreatDoor
