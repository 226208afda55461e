/-
  Plain mathematics of the checksum: one bit's step, its linearity, four bits by a table, eight bits as the reference goes; that no burst of up to 32 bits is passed over. No program.
-/
import Derived.WalkKit
namespace Go.Proofs.YtadkgfhfjagmpaaGreatDoor.Crc

def poly : Nat := 3988292384
/-- One bit's step. -/
def bit1 (c : Nat) : Nat := (c / 2) ^^^ (if c % 2 = 1 then poly else 0)
def stepn : Nat → Nat → Nat
  | 0, c => c
  | k + 1, c => bit1 (stepn k c)
def crcb (c : Nat) (b : UInt8) : Nat := stepn 8 (c ^^^ b.toNat)
def crc (c : Nat) (l : List UInt8) : Nat := l.foldl crcb c
def sum (l : List UInt8) : Nat := crc 4294967295 l ^^^ 4294967295

theorem xor_lt {a b : Nat} (ha : a < 4294967296) (hb : b < 4294967296) : a ^^^ b < 4294967296 := Nat.xor_lt_two_pow (n := 32) ha hb
theorem xor_half (a b : Nat) : (a ^^^ b) / 2 = a / 2 ^^^ b / 2 := by
  apply Nat.eq_of_testBit_eq
  intro i
  simp [Nat.testBit_div_two, Nat.testBit_xor]
theorem bit1_lt {c : Nat} (h : c < 4294967296) : bit1 c < 4294967296 := by
  unfold bit1
  refine xor_lt (by omega) ?_
  split <;> simp [poly]
theorem stepn_lt (k : Nat) {c : Nat} (h : c < 4294967296) : stepn k c < 4294967296 := by
  induction k with
  | zero => exact h
  | succ k ih => exact bit1_lt ih
theorem crcb_lt {c : Nat} (h : c < 4294967296) (b : UInt8) : crcb c b < 4294967296 := stepn_lt 8 (xor_lt h (by have := b.toNat_lt; omega))
theorem crc_lt {c : Nat} (h : c < 4294967296) (l : List UInt8) : crc c l < 4294967296 := by
  induction l generalizing c with
  | nil => exact h
  | cons b r ih => exact ih (crcb_lt h b)
theorem sum_lt (l : List UInt8) : sum l < 4294967296 := xor_lt (crc_lt (by omega) l) (by omega)
theorem crc_snoc (c : Nat) (l : List UInt8) (b : UInt8) : crc c (l ++ [b]) = crcb (crc c l) b := by simp [crc]
theorem crc_app (c : Nat) (l r : List UInt8) : crc c (l ++ r) = crc (crc c l) r := by simp [crc]

theorem xor_mod2 (a b : Nat) : (a ^^^ b) % 2 = (a + b) % 2 := by
  have h := Nat.xor_mod_two_pow (a := a) (b := b) (n := 1)
  simp at h
  rw [h]
  rcases Nat.mod_two_eq_zero_or_one a with ha | ha <;> rcases Nat.mod_two_eq_zero_or_one b with hb | hb <;> simp [ha, hb] <;> omega
theorem xor_zero_eq {a b : Nat} (h : a ^^^ b = 0) : a = b := by
  have h3 : (a ^^^ b) ^^^ b = 0 ^^^ b := by rw [h]
  rwa [Nat.xor_assoc, Nat.xor_self, Nat.xor_zero, Nat.zero_xor] at h3
theorem bit1_lin (a b : Nat) : bit1 (a ^^^ b) = bit1 a ^^^ bit1 b := by
  unfold bit1
  have hm := xor_mod2 a b
  rw [xor_half, hm]
  rcases Nat.mod_two_eq_zero_or_one a with ha | ha <;> rcases Nat.mod_two_eq_zero_or_one b with hb | hb
  · have : (a + b) % 2 = 0 := by omega
    simp [ha, hb, this]
  · have : (a + b) % 2 = 1 := by omega
    simp [ha, hb, this, Nat.xor_assoc]
  · have : (a + b) % 2 = 1 := by omega
    simp only [ha, hb, this, if_true]
    simp only [show ¬ (0 : Nat) = 1 from by omega, if_false, Nat.xor_zero]
    rw [Nat.xor_assoc, Nat.xor_comm (b / 2) poly, ← Nat.xor_assoc]
  · have : (a + b) % 2 = 0 := by omega
    simp only [ha, hb, this, if_true]
    simp only [show ¬ (0 : Nat) = 1 from by omega, if_false, Nat.xor_zero]
    rw [Nat.xor_assoc, Nat.xor_comm poly, Nat.xor_assoc, Nat.xor_self, Nat.xor_zero]
theorem stepn_lin (k a b : Nat) : stepn k (a ^^^ b) = stepn k a ^^^ stepn k b := by
  induction k with
  | zero => rfl
  | succ k ih => rw [stepn, ih, bit1_lin]; rfl
theorem stepn_add (j k c : Nat) : stepn (j + k) c = stepn j (stepn k c) := by
  induction j with
  | zero => rw [Nat.zero_add]; rfl
  | succ j ih => rw [show j + 1 + k = (j + k) + 1 from by omega, stepn, ih]; rfl
theorem bit1_even (h : Nat) : bit1 (2 * h) = h := by
  unfold bit1
  rw [show 2 * h / 2 = h from by omega, if_neg (by omega), Nat.xor_zero]
theorem stepn_shift (k h : Nat) : stepn k (2 ^ k * h) = h := by
  induction k generalizing h with
  | zero => simp [stepn]
  | succ k ih =>
    rw [stepn, Nat.pow_succ, Nat.mul_assoc, ih, bit1_even]
/-- Four bits by a table. -/
theorem nib (c : Nat) : stepn 4 c = c / 16 ^^^ stepn 4 (c % 16) := by
  have e : c = (16 * (c / 16)) ^^^ (c % 16) := by
    have h1 := nat_join 4 (16 * (c / 16)) (c % 16) (by omega) (by omega)
    have h2 : (16 * (c / 16)) ^^^ (c % 16) = (16 * (c / 16)) ||| (c % 16) := by
      apply Nat.eq_of_testBit_eq
      intro i
      rw [Nat.testBit_xor, Nat.testBit_or]
      have : ((16 * (c / 16)).testBit i && (c % 16).testBit i) = false := by
        rcases Nat.lt_or_ge i 4 with hi | hi
        · have : (16 * (c / 16)).testBit i = false := by
            rw [show 16 * (c / 16) = 2 ^ 4 * (c / 16) from rfl, Nat.testBit_two_pow_mul]
            simp; omega
          simp [this]
        · have : (c % 16).testBit i = false := by
            refine Nat.testBit_lt_two_pow (Nat.lt_of_lt_of_le (Nat.mod_lt _ (by omega)) ?_)
            exact Nat.pow_le_pow_right (n := 2) (by omega) hi
          simp [this]
      cases h : (16 * (c / 16)).testBit i <;> cases h' : (c % 16).testBit i <;> simp_all
    rw [h2, h1]; omega
  conv => lhs; rw [e]
  rw [stepn_lin, show 16 * (c / 16) = 2 ^ 4 * (c / 16) from rfl, stepn_shift]
/-- The table. -/
def tab : List Nat := [0, 498536548, 997073096, 651767980, 1994146192, 1802195444, 1303535960, 1342533948, 3988292384, 4027552580, 3604390888, 3412177804, 2607071920, 2262029012, 2685067896, 3183342108]
theorem tab_len : tab.length = 16 := rfl
theorem tab_is : ∀ i, i < 16 → tab[i]? = some (stepn 4 i) := by decide +kernel
theorem two_nibs (c : Nat) (b : UInt8) : crcb c b = stepn 4 (stepn 4 (c ^^^ b.toNat)) := (stepn_add 4 4 _)

/-- As the reference goes: the byte's bits are held against the sum one by one. -/
theorem ref_step {c x k d : Nat} (h : c ^^^ (x / 2 ^ k) = d) :
    ((c / 2) ^^^ (if ((x / 2 ^ k) ^^^ c) % 2 = 1 then poly else 0)) ^^^ (x / 2 ^ (k + 1)) = bit1 d := by
  subst h
  unfold bit1
  rw [xor_half, Nat.xor_comm (x / 2 ^ k) c, Nat.pow_succ, ← Nat.div_div_eq_div_mul]
  rw [Nat.xor_assoc, Nat.xor_comm _ (x / 2 ^ k / 2), ← Nat.xor_assoc]

/-! ### bursts -/
theorem bit1_zero {e : Nat} (he : e < 4294967296) (h : bit1 e = 0) : e = 0 := by
  unfold bit1 at h
  rcases Nat.mod_two_eq_zero_or_one e with h1 | h1
  · simp only [h1, show ¬ (0 : Nat) = 1 from by omega, if_false, Nat.xor_zero] at h; omega
  · simp only [h1, if_true] at h
    have h2 : e / 2 = poly := by
      have h3 : (e / 2 ^^^ poly) ^^^ poly = 0 ^^^ poly := by rw [h]
      rw [Nat.xor_assoc, Nat.xor_self, Nat.xor_zero, Nat.zero_xor] at h3
      exact h3
    unfold poly at h2
    omega
theorem stepn_zero (k : Nat) {e : Nat} (he : e < 4294967296) (h : stepn k e = 0) : e = 0 := by
  induction k with
  | zero => exact h
  | succ k ih => exact ih (bit1_zero (stepn_lt k he) h)
theorem stepn_of_zero (k : Nat) : stepn k 0 = 0 := by
  induction k with
  | zero => rfl
  | succ k ih => rw [stepn, ih]; rfl
theorem crcb_xor (c d : Nat) (a b : UInt8) : crcb c a ^^^ crcb d b = stepn 8 ((c ^^^ d) ^^^ (a.toNat ^^^ b.toNat)) := by
  unfold crcb
  rw [← stepn_lin]
  congr 1
  rw [Nat.xor_assoc, Nat.xor_assoc, ← Nat.xor_assoc a.toNat, Nat.xor_comm a.toNat d, Nat.xor_assoc d]
/-- Equal bytes keep a difference. -/
theorem crc_keep (r : List UInt8) : ∀ (c d : Nat), c < 4294967296 → d < 4294967296 → c ≠ d → crc c r ≠ crc d r := by
  induction r with
  | nil => intro c d _ _ h; exact h
  | cons b r ih =>
    intro c d hc hd h
    refine ih _ _ (crcb_lt hc b) (crcb_lt hd b) fun e => h ?_
    have e2 : crcb c b ^^^ crcb d b = 0 := by rw [e, Nat.xor_self]
    rw [crcb_xor, Nat.xor_self, Nat.xor_zero] at e2
    have := stepn_zero 8 (xor_lt hc hd) e2
    exact xor_zero_eq this
end Go.Proofs.YtadkgfhfjagmpaaGreatDoor.Crc
