/-
  Plain mathematics: a payload in which up to four bytes side by side are turned has another checksum; a frame in which up to four bytes of its sum, or of its payload, are turned is no frame.
-/
import Derived.Test.YtacpbcahmhnhbaaDoorLawSeals
namespace Go.Proofs.YtacpbcahmhnhbaaDoor
open Num Crc

/-- The differences of two lists of bytes, as one number. -/
def dif : List UInt8 → List UInt8 → Nat
  | a :: r, b :: s => (a.toNat ^^^ b.toNat) + 256 * dif r s
  | _, _ => 0
theorem byte_xor_lt (a b : UInt8) : a.toNat ^^^ b.toNat < 256 := Nat.xor_lt_two_pow (n := 8) a.toNat_lt b.toNat_lt
theorem dif_lt (x y : List UInt8) : dif x y < 256 ^ x.length := by
  induction x generalizing y with
  | nil => cases y <;> simp [dif]
  | cons a r ih =>
    cases y with
    | nil => simp only [dif]; exact Nat.pow_pos (by omega)
    | cons b s =>
      have := ih s
      have h2 := byte_xor_lt a b
      simp only [dif, List.length_cons, Nat.pow_succ]
      omega
theorem dif_zero : ∀ (x y : List UInt8), x.length = y.length → dif x y = 0 → x = y := by
  intro x
  induction x with
  | nil => intro y hl _; exact (List.eq_nil_of_length_eq_zero hl.symm).symm
  | cons a r ih =>
    intro y hl h
    cases y with
    | nil => simp at hl
    | cons b s =>
      simp only [dif] at h
      have h1 : a.toNat ^^^ b.toNat = 0 := by omega
      have h2 : dif r s = 0 := by omega
      rw [ih s (by simpa using hl) h2, UInt8.toNat_inj.1 (xor_zero_eq h1)]
theorem xor_add {a b k : Nat} (ha : a < 2 ^ k) : a ^^^ (2 ^ k * b) = a + 2 ^ k * b := by
  have h1 := nat_join k (2 ^ k * b) a (Nat.mul_mod_right _ _) ha
  have h2 : a ^^^ (2 ^ k * b) = (2 ^ k * b) ||| a := by
    apply Nat.eq_of_testBit_eq
    intro i
    rw [Nat.testBit_xor, Nat.testBit_or]
    rcases Nat.lt_or_ge i k with hi | hi
    · have : (2 ^ k * b).testBit i = false := by rw [Nat.testBit_two_pow_mul]; simp; omega
      simp [this]
    · have : a.testBit i = false := Nat.testBit_lt_two_pow (Nat.lt_of_lt_of_le ha (Nat.pow_le_pow_right (by omega) hi))
      simp [this]
  rw [h2, h1, Nat.add_comm]
/-- The difference of the checksums is that of the bytes, moved on. -/
theorem crc_dif : ∀ (x y : List UInt8) (c d : Nat), x.length = y.length → ∀ (k e : Nat), e < 2 ^ k → c ^^^ d = stepn k e →
    crc c x ^^^ crc d y = stepn (k + 8 * x.length) (e + 2 ^ k * dif x y) := by
  intro x
  induction x with
  | nil =>
    intro y c d hl k e _ h
    have : y = [] := List.eq_nil_of_length_eq_zero hl.symm
    subst this
    simpa [crc, dif] using h
  | cons a r ih =>
    intro y c d hl k e he h
    cases y with
    | nil => simp at hl
    | cons b s =>
      have hx := byte_xor_lt a b
      have hstep : crcb c a ^^^ crcb d b = stepn (k + 8) (e + 2 ^ k * (a.toNat ^^^ b.toNat)) := by
        rw [crcb_xor, h, ← xor_add he]
        rw [show k + 8 = 8 + k from by omega, stepn_add, stepn_lin k, stepn_shift]
      have he2 : e + 2 ^ k * (a.toNat ^^^ b.toNat) < 2 ^ (k + 8) := by
        have h3 : 2 ^ k * (a.toNat ^^^ b.toNat) ≤ 2 ^ k * 255 := Nat.mul_le_mul_left _ (by omega)
        rw [Nat.pow_add]
        omega
      have := ih s (crcb c a) (crcb d b) (by simpa using hl) (k + 8) _ he2 hstep
      have e1 : crc c (a :: r) ^^^ crc d (b :: s) = crc (crcb c a) r ^^^ crc (crcb d b) s := rfl
      rw [e1, this]
      have e2 : k + 8 + 8 * r.length = k + 8 * (a :: r).length := by simp; omega
      have e3 : e + 2 ^ k * (a.toNat ^^^ b.toNat) + 2 ^ (k + 8) * dif r s = e + 2 ^ k * dif (a :: r) (b :: s) := by
        simp only [dif, Nat.mul_add, Nat.pow_add]
        rw [Nat.mul_assoc, show (2 : Nat) ^ 8 = 256 from rfl, Nat.add_assoc]
      rw [e2, e3]
/-- No burst of up to four bytes is passed over. -/
theorem burst {u x y v : List UInt8} (hl : x.length = y.length) (h4 : x.length ≤ 4) (hne : x ≠ y) : Crc.sum (u ++ (x ++ v)) ≠ Crc.sum (u ++ (y ++ v)) := by
  intro h
  have h1 : crc 4294967295 (u ++ (x ++ v)) = crc 4294967295 (u ++ (y ++ v)) := by
    unfold Crc.sum at h
    have h2 : (crc 4294967295 (u ++ (x ++ v)) ^^^ 4294967295) ^^^ 4294967295 = (crc 4294967295 (u ++ (y ++ v)) ^^^ 4294967295) ^^^ 4294967295 := by rw [h]
    simpa [Nat.xor_assoc] using h2
  rw [crc_app, crc_app, crc_app, crc_app] at h1
  have hc : crc 4294967295 u < 4294967296 := crc_lt (by omega) u
  generalize crc 4294967295 u = c at h1 hc
  refine crc_keep v (crc c x) (crc c y) (crc_lt hc x) (crc_lt hc y) (fun e => hne ?_) h1
  have h3 := crc_dif x y c c hl 0 0 (by decide) (by rw [Nat.xor_self]; rfl)
  rw [e, Nat.xor_self] at h3
  simp only [Nat.zero_add, Nat.pow_zero, Nat.one_mul] at h3
  refine dif_zero x y hl (stepn_zero _ ?_ h3.symm)
  have hd := dif_lt x y
  have : (256 : Nat) ^ x.length ≤ 256 ^ 4 := Nat.pow_le_pow_right (by omega) h4
  have e4 : (256 : Nat) ^ 4 = 4294967296 := by decide
  omega
theorem sumle_inj {a b : Nat} (ha : a < 4294967296) (hb : b < 4294967296) (h : sumle a = sumle b) : a = b := by
  simp only [sumle, List.cons.injEq, and_true] at h
  obtain ⟨h1, h2, h3, h4⟩ := h
  have g : ∀ x y : Nat, UInt8.ofNat x = UInt8.ofNat y → x % 256 = y % 256 := fun x y e => by
    have := congrArg UInt8.toNat e
    simpa [UInt8.toNat_ofNat'] using this
  have := g _ _ h1; have := g _ _ h2; have := g _ _ h3; have := g _ _ h4
  omega
/-- A frame with another sum is none. -/
theorem tk_sum {p s : List UInt8} (hp : p.length ≤ 4096) (hs : s.length = 4) (hne : s ≠ sumle (Crc.sum p)) : tk (vint p.length ++ (s ++ p)) = ([], 0) := by
  have ht : tu (vint p.length ++ (s ++ p)) = (p.length, (vint p.length).length) := tu_vint (by omega) _
  have hv := vint_pos p.length
  unfold tk
  rw [ht]
  have e4 : (List.drop (vint p.length).length (vint p.length ++ (s ++ p))).take 4 = s := by
    rw [List.drop_left, ← hs, List.take_left]
  have ep : (List.drop ((vint p.length).length + 4) (vint p.length ++ (s ++ p))).take p.length = p := by
    rw [← List.drop_drop, List.drop_left, ← hs, List.drop_left, List.take_length]
  simp only [ep, e4, hne, if_false]
  split <;> rfl
/-- A frame with another payload of the same length, but for a burst, is none. -/
theorem tk_pay {u x y v : List UInt8} (hp : (u ++ (x ++ v)).length ≤ 4096) (hl : x.length = y.length) (h4 : x.length ≤ 4) (hne : x ≠ y) :
    tk (vint (u ++ (x ++ v)).length ++ (sumle (Crc.sum (u ++ (x ++ v))) ++ (u ++ (y ++ v)))) = ([], 0) := by
  have e : (u ++ (x ++ v)).length = (u ++ (y ++ v)).length := by simp [hl]
  rw [e] at hp ⊢
  exact tk_sum hp (sumle_len _) (fun h => burst hl h4 hne (sumle_inj (sum_lt _) (sum_lt _) h))
end Go.Proofs.YtacpbcahmhnhbaaDoor
