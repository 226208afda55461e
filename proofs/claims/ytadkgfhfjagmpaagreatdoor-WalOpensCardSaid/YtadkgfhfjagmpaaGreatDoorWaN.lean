/-
  The names of segments: plain lists.
-/
import Derived.Test.YtadkgfhfjagmpaaGreatDoorOrd
import Derived.Lib.ItoaMem
import Derived.Lib.AtoiAll
import Derived.Lib.Strings
namespace Go.Proofs.YtadkgfhfjagmpaaGreatDoor
open Go.RowKit
set_option linter.unusedVariables false

/-- A decimal digit's letter. -/
def dg (k : Nat) : UInt8 := UInt8.ofNat (48 + k % 10)
theorem dg_nat (k : Nat) : (dg k).toNat = 48 + k % 10 := by
  unfold dg
  rw [UInt8.toNat_ofNat']
  omega
def six (n : Nat) : List UInt8 := [dg (n / 100000), dg (n / 10000), dg (n / 1000), dg (n / 100), dg (n / 10), dg n]
def wname (n : Nat) : List UInt8 := [119, 97, 108, 45] ++ six n
theorem six_len (n : Nat) : (six n).length = 6 := rfl
theorem wname_len (n : Nat) : (wname n).length = 10 := rfl
theorem dec_last {u : Nat} (h : 10 ≤ u) : Lib.decDigits u = Lib.decDigits (u / 10) ++ [dg u] := by
  rw [Lib.decDigits, dif_neg (by omega)]
  rfl
/-- A million and a number below it: a one, and six digits. -/
theorem itoa_six {n : Nat} (h : n < 1000000) : Lib.itoa ((1000000 + n : Nat) : Int) = 49 :: six n := by
  rw [Lib.itoa_nonneg, dec_last (by omega), dec_last (by omega), dec_last (by omega), dec_last (by omega), dec_last (by omega), dec_last (by omega), Lib.decDigits, dif_pos (by omega)]
  simp only [Nat.div_div_eq_div_mul, List.cons_append, List.nil_append]
  have h0 : 48 + (1000000 + n) / (10 * 10 * 10 * 10 * 10 * 10) = 49 := by omega
  have e : ∀ {a b : Nat}, a % 10 = b % 10 → dg a = dg b := fun h => by unfold dg; rw [h]
  rw [h0, e (a := (1000000 + n) / (10 * 10 * 10 * 10 * 10)) (b := n / 100000) (by omega), e (a := (1000000 + n) / (10 * 10 * 10 * 10)) (b := n / 10000) (by omega), e (a := (1000000 + n) / (10 * 10 * 10)) (b := n / 1000) (by omega),
    e (a := (1000000 + n) / (10 * 10)) (b := n / 100) (by omega), e (a := (1000000 + n) / 10) (b := n / 10) (by omega), e (a := 1000000 + n) (b := n) (by omega)]
  rfl
theorem parse_dg (acc k : Nat) (r : List UInt8) (h : acc ≤ 1000000) : Lib.parseUint10 acc (dg k :: r) = Lib.parseUint10 (acc * 10 + k % 10) r := by
  rw [Lib.parseUint10, dg_nat, if_pos (by omega), if_neg (by omega), if_neg (by omega)]
  congr 2
  omega
theorem atoi_six {n : Nat} (h : n < 1000000) : Lib.atoiAll (six n) = .ok (n : Int) := by
  have hp : Lib.parseMag (six n) = .ok n := by
    unfold Lib.parseMag
    rw [if_neg (by simp [six])]
    unfold six
    rw [parse_dg _ _ _ (by omega), parse_dg _ _ _ (by omega), parse_dg _ _ _ (by omega), parse_dg _ _ _ (by omega), parse_dg _ _ _ (by omega), parse_dg _ _ _ (by omega), Lib.parseUint10]
    congr 1
    omega
  have hd := dg_nat (n / 100000)
  have hs : six n = dg (n / 100000) :: [dg (n / 10000), dg (n / 1000), dg (n / 100), dg (n / 10), dg n] := rfl
  rw [hs] at hp ⊢
  simp only [Lib.atoiAll]
  rw [if_neg (by omega), hp]
  have h45 : ¬ (dg (n / 100000)).toNat = 45 := by omega
  have hlt : ¬ 9223372036854775808 ≤ n := by omega
  simp [h45, hlt]
theorem trim_wname (n : Nat) : Lib.trimPrefix (wname n) [119, 97, 108, 45] = six n := by
  have h : Lib.hasPrefix (wname n) [119, 97, 108, 45] = true := by
    unfold Lib.hasPrefix wname
    simp
  unfold Lib.trimPrefix
  rw [if_pos h]
  rfl
theorem six_inj {a b : Nat} (ha : a < 1000000) (hb : b < 1000000) (h : six a = six b) : a = b := by
  have h1 := atoi_six ha
  rw [h, atoi_six hb] at h1
  injection h1 with h1
  omega
theorem wname_inj {a b : Nat} (ha : a < 1000000) (hb : b < 1000000) (h : wname a = wname b) : a = b :=
  six_inj ha hb (List.append_cancel_left h)
end Go.Proofs.YtadkgfhfjagmpaaGreatDoor
