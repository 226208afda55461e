/-
  The hash of a key, by the program and by the reference.
-/
import Derived.Test.YtnbomifnbhijbaaChecked
import Derived.Test.YtnbomifnbhijbaaBase
import Derived.Test.YtnbomifnbhijbaaOrd
import Derived.Test.YtnbomifnbhijbaaBlA
import Derived.OwnWalkIn
import Derived.TacticsInMore
import Derived.LoopNIn
import Derived.LoopIn
import Derived.RangeFuncNested
import Derived.RangeFuncBound
import Derived.RangeFuncCalls
import Derived.RangeFuncLeaves
import Derived.Shelf.Abstract
import Derived.Shelf.RegionOpen
import Derived.Deep.RegionHeldLaw
namespace Go.Proofs.Ytnbomifnbhijbaa
open Go.RowKit
set_option linter.unusedVariables false

theorem at_strB (w : World) {s : List UInt8} {k : Nat} (hk : k < s.length) : (Instr.index 9 (.string (str s)) (.int .i64 (k : Int))).run Try.prog w = .ok (.int .u8 (s[k].toNat : Int)) w := by
  rw [run_index_string _ _ _ _ _ Try.underlying9]
  have hs : (0 : Int) ≤ k ∧ (k : Int) < (str s).size := by rw [str_size]; omega
  rw [dif_pos hs]
  congr 3
theorem i64_xor_natB (a b : Nat) (ha : a < 4294967296) (hb : b < 4294967296) : bits .xor .i64 (a : Int) (b : Int) = ((a ^^^ b : Nat) : Int) := by
  have hx : a ^^^ b < 4294967296 := Nat.xor_lt_two_pow (n := 32) (by omega) (by omega)
  show IntKind.i64.wrap ((BitVec.ofInt 64 (a : Int) ^^^ BitVec.ofInt 64 (b : Int)).toNat : Int) = _
  rw [BitVec.toNat_xor, ofInt_u64 a (by omega), ofInt_u64 b (by omega), IntWalk.i64_in _ (by omega)]
set_option maxRecDepth 20000 in
theorem hash_any (l : List UInt8) (hl : l.length ≤ 4611686018427387904) (w : World) : Calls Try.prog 25 #[.string (str l)] w fun e w' => e = .returned (.int .u32 ((Bl.hash l : Nat) : Int)) ∧ w' = w := by
  have hsz : (str l).size = l.length := str_size l
  go_enter Try.func25, Try.ntmps25
  go_wp2_with fail
  go_loopw [3, 7] (fun h j wr => ∃ k : Nat, k ≤ l.length ∧ h = .int .u32 ((Bl.hash (l.take k) : Nat) : Int) ∧ j = .int .i64 k ∧ wr = w) (fun _ j _ => l.length - (intOf j).toNat)
  case atStart => exact ⟨0, Nat.zero_le _, rfl, rfl, rfl⟩
  case round =>
    obtain ⟨k, hk, rfl, rfl, rfl⟩ := hrel
    by_cases hkn : k < l.length
    · have hcN : (k : Int) < l.length := by omega
      have hix := at_strB wr hkn
      have hst := Bl.hash_take hkn
      have hH0 := Bl.hash_lt (l.take k)
      generalize Bl.hash (l.take k) = H0 at hst hH0
      have hb := l[k].toNat_lt
      have HST := Lib.hid hst
      clear hst
      go_wp2_with fail
      refine ⟨⟨k + 1, by omega, ?_, by go_num, trivial⟩, by simp [intOf]; omega⟩
      rw [HST.out]
      unfold Bl.hstep
      rw [u32_xor_nat _ _ hH0 (by omega)]
      generalize H0 ^^^ l[k].toNat = z
      congr 1
    · have hcN : ¬ (k : Int) < l.length := by omega
      go_wp2_with fail
      go_ret
      refine ⟨?_, rfl⟩
      rw [List.take_of_length_le (by omega)]
      rfl
theorem rhash_any (l : List UInt8) (hl : l.length ≤ 4611686018427387904) (w : World) : Calls Try.prog 26 #[.string (str l)] w fun e w' => e = .returned (.int .i64 ((Bl.hash l : Nat) : Int)) ∧ w' = w := by
  have hsz : (str l).size = l.length := str_size l
  go_enter Try.func26, Try.ntmps26
  go_wp2_with fail
  go_loopw [3, 4] (fun h j wr => ∃ k : Nat, k ≤ l.length ∧ h = .int .i64 ((Bl.hash (l.take k) : Nat) : Int) ∧ j = .int .i64 k ∧ wr = w) (fun _ j _ => l.length - (intOf j).toNat)
  case atStart => exact ⟨0, Nat.zero_le _, rfl, rfl, rfl⟩
  case round =>
    obtain ⟨k, hk, rfl, rfl, rfl⟩ := hrel
    by_cases hkn : k < l.length
    · have hcN : (k : Int) < l.length := by omega
      have hix := at_strB wr hkn
      have hst := Bl.hash_take hkn
      have hH0 := Bl.hash_lt (l.take k)
      generalize Bl.hash (l.take k) = H0 at hst hH0
      have hb := l[k].toNat_lt
      have HST := Lib.hid hst
      clear hst
      go_wp2_with fail
      refine ⟨⟨k + 1, by omega, ?_, by go_num, trivial⟩, by simp [intOf]; omega⟩
      rw [HST.out]
      unfold Bl.hstep
      have hz := Nat.xor_lt_two_pow (n := 32) (x := H0) (y := l[k].toNat) (by omega) (by omega)
      rw [i64_xor_natB _ _ hH0 (by omega)]
      generalize H0 ^^^ l[k].toNat = z at hz
      rw [IntWalk.wrap64_in ((z : Int) * 16777619) (by omega), Int.tmod_eq_emod_of_nonneg (by omega)]
      rfl
    · have hcN : ¬ (k : Int) < l.length := by omega
      go_wp2_with fail
      go_ret
      refine ⟨?_, rfl⟩
      rw [List.take_of_length_le (by omega)]
      rfl
end Go.Proofs.Ytnbomifnbhijbaa
