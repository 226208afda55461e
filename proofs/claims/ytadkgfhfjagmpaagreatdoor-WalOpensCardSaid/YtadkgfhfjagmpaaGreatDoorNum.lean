/-
  Plain mathematics of the numbers' encoding: 'vint n' (seven bits a byte, the lowest first), its decoder 'dec', what a reader answers ('tu'), and that both forms of reading come to it. No program.
-/
import Derived.WalkKit
import Derived.Laws.BitsAllLaws
namespace Go.Proofs.YtadkgfhfjagmpaaGreatDoor.Num
open Go

/-- The encoding of a number. -/
def vint (n : Nat) : List UInt8 := if n < 128 then [UInt8.ofNat n] else UInt8.ofNat (n % 128 + 128) :: vint (n / 128)
termination_by n
decreasing_by omega

theorem vint_small {n : Nat} (h : n < 128) : vint n = [UInt8.ofNat n] := by rw [vint, if_pos h]
theorem vint_big {n : Nat} (h : 128 ≤ n) : vint n = UInt8.ofNat (n % 128 + 128) :: vint (n / 128) := by rw [vint, if_neg (by omega)]
theorem vint_ne (n : Nat) : vint n ≠ [] := by
  rcases Nat.lt_or_ge n 128 with h | h
  · rw [vint_small h]; simp
  · rw [vint_big h]; simp
theorem vint_len (n : Nat) : ∀ k, n < 128 ^ k → 0 < k → (vint n).length ≤ k := by
  intro k
  induction k generalizing n with
  | zero => intro _ h; omega
  | succ k ih =>
    intro h _
    rcases Nat.lt_or_ge n 128 with h1 | h1
    · rw [vint_small h1]; simp
    · rw [vint_big h1]
      rcases Nat.eq_zero_or_pos k with rfl | hk
      · simp at h; omega
      · have := ih (n / 128) (by rw [Nat.pow_succ] at h; exact Nat.div_lt_of_lt_mul (by omega)) hk
        simp; omega
theorem vint_len10 {n : Nat} (h : n < 18446744073709551616) : (vint n).length ≤ 10 := vint_len n 10 (Nat.lt_of_lt_of_le h (by decide)) (by omega)
theorem vint_pos (n : Nat) : 0 < (vint n).length := List.length_pos_iff.2 (vint_ne n)

/-- What stands at the front: the number and its size. -/
def dec : List UInt8 → Option (Nat × Nat)
  | [] => none
  | b :: r => if b.toNat < 128 then some (b.toNat, 1) else
      match dec r with
      | some (m, k) => if m = 0 then none else some (b.toNat - 128 + 128 * m, k + 1)
      | none => none

theorem dec_lo {b : UInt8} {r : List UInt8} (h : b.toNat < 128) : dec (b :: r) = some (b.toNat, 1) := by rw [dec, if_pos h]
theorem dec_hi {b : UInt8} {r : List UInt8} (h : 128 ≤ b.toNat) : dec (b :: r) = match dec r with
      | some (m, k) => if m = 0 then none else some (b.toNat - 128 + 128 * m, k + 1)
      | none => none := by rw [dec, if_neg (by omega)]

theorem toNat_ofNat {x : Nat} (h : x < 256) : (UInt8.ofNat x).toNat = x := by simp [UInt8.toNat_ofNat', Nat.mod_eq_of_lt h]

/-- What was written is read, whatever stands behind it. -/
theorem dec_vint (n : Nat) (r : List UInt8) : dec (vint n ++ r) = some (n, (vint n).length) := by
  induction n using Nat.strongRecOn with
  | _ n ih =>
    rcases Nat.lt_or_ge n 128 with h | h
    · rw [vint_small h]
      have e : (UInt8.ofNat n).toNat = n := toNat_ofNat (by omega)
      simp [dec, e, h]
    · rw [vint_big h]
      have e : (UInt8.ofNat (n % 128 + 128)).toNat = n % 128 + 128 := toNat_ofNat (by omega)
      rw [List.cons_append, dec_hi (by omega), ih (n / 128) (by omega)]
      have h0 : n / 128 ≠ 0 := by omega
      simp only [h0, if_false, e, List.length_cons]
      have : n % 128 + 128 - 128 + 128 * (n / 128) = n := by omega
      rw [this]

/-- Just what was written is read. -/
theorem dec_some {l : List UInt8} {n k : Nat} (h : dec l = some (n, k)) : vint n = l.take k ∧ k ≤ l.length ∧ 0 < k := by
  induction l generalizing n k with
  | nil => simp [dec] at h
  | cons b r ih =>
    rcases Nat.lt_or_ge b.toNat 128 with hb | hb
    · rw [dec_lo hb] at h
      injection h with h; injection h with h1 h2
      subst h1 h2
      rw [vint_small hb]
      simp
    · rw [dec_hi hb] at h
      cases hd : dec r with
      | none => simp [hd] at h
      | some p =>
        obtain ⟨m, j⟩ := p
        simp only [hd] at h
        split at h
        · cases h
        · rename_i hm
          injection h with h; injection h with h1 h2
          obtain ⟨i1, i2, i3⟩ := ih hd
          have hlt := b.toNat_lt
          have hq : n / 128 = m := by omega
          have hr : n % 128 + 128 = b.toNat := by omega
          rw [vint_big (by omega), hq, hr, i1, ← h2]
          simp
          exact i2

/-- What a reader answers: the number and its size; 0, 0 where none stands. -/
def tu (l : List UInt8) : Nat × Nat :=
  match dec l with
  | some (n, k) => if n < 18446744073709551616 then (n, k) else (0, 0)
  | none => (0, 0)
theorem tu_vint {n : Nat} (h : n < 18446744073709551616) (r : List UInt8) : tu (vint n ++ r) = (n, (vint n).length) := by simp [tu, dec_vint, h]
theorem tu_some {l : List UInt8} {n k : Nat} (h : tu l = (n, k)) (hk : 0 < k) : vint n = l.take k ∧ k ≤ l.length ∧ n < 18446744073709551616 := by
  unfold tu at h
  cases hd : dec l with
  | none => simp [hd] at h; omega
  | some p =>
    obtain ⟨m, j⟩ := p
    simp only [hd] at h
    split at h
    · injection h with h1 h2; subst h1 h2
      have := dec_some hd
      exact ⟨this.1, this.2.1, by assumption⟩
    · injection h with h1 h2; omega
theorem tu_lt (l : List UInt8) : (tu l).1 < 18446744073709551616 := by
  unfold tu
  split
  · split <;> simp_all
  · simp
theorem tu_le (l : List UInt8) : (tu l).2 ≤ l.length := by
  unfold tu
  split
  · rename_i n k hd
    split
    · exact (dec_some hd).2.1
    · simp
  · simp
theorem tu_le10 (l : List UInt8) : (tu l).2 ≤ 10 := by
  rcases Nat.eq_zero_or_pos (tu l).2 with h | h
  · omega
  · have hle := tu_le l
    generalize hk : tu l = p at h hle ⊢
    obtain ⟨n, k⟩ := p
    obtain ⟨h1, h2, h3⟩ := tu_some hk h
    have := vint_len10 h3
    rw [h1, List.length_take] at this
    simp only at hle ⊢
    omega

/-- The number that bytes of seven bits hold, the lowest first. -/
def val : List UInt8 → Nat
  | [] => 0
  | b :: r => b.toNat % 128 + 128 * val r
theorem val_lt (p : List UInt8) : val p < 128 ^ p.length := by
  induction p with
  | nil => simp [val]
  | cons b r ih => simp only [val, List.length_cons, Nat.pow_succ]; omega
theorem val_snoc (p : List UInt8) (b : UInt8) : val (p ++ [b]) = val p + b.toNat % 128 * 128 ^ p.length := by
  induction p with
  | nil => simp [val]
  | cons x r ih =>
    simp only [List.cons_append, val, ih, List.length_cons, Nat.pow_succ, Nat.mul_add]
    rw [show 128 * (b.toNat % 128 * 128 ^ r.length) = b.toNat % 128 * (128 ^ r.length * 128) from by rw [Nat.mul_comm, Nat.mul_assoc]]
    omega
/-- Behind bytes of 128 and more. -/
theorem dec_app (p r : List UInt8) (hp : ∀ b ∈ p, 128 ≤ b.toNat) : dec (p ++ r) = match dec r with
    | some (m, k) => if m = 0 ∧ p ≠ [] then none else some (val p + 128 ^ p.length * m, p.length + k)
    | none => none := by
  induction p with
  | nil =>
    rw [List.nil_append]
    cases dec r with
    | none => rfl
    | some q => obtain ⟨m, k⟩ := q; simp [val]
  | cons b p ih =>
    have hb := hp b (by simp)
    rw [List.cons_append, dec_hi hb, ih (fun x hx => hp x (by simp [hx]))]
    cases dec r with
    | none => rfl
    | some q =>
      obtain ⟨m, k⟩ := q
      simp only
      by_cases hm : m = 0
      · subst hm
        by_cases hpn : p = []
        · subst hpn; simp [val]
        · simp [hpn]
      · have hpos : 0 < 128 ^ p.length * m := Nat.mul_pos (Nat.pow_pos (by omega)) (by omega)
        have hlt := b.toNat_lt
        have hne : ¬ (val p + 128 ^ p.length * m = 0) := by omega
        have hbb : b.toNat % 128 = b.toNat - 128 := by omega
        simp only [hm, false_and, if_false, hne, val, List.length_cons, Nat.pow_succ, hbb]
        rw [Nat.mul_add, Nat.mul_comm (128 ^ p.length) 128, Nat.mul_assoc]
        simp
        omega
theorem dec_hi_all (p : List UInt8) (hp : ∀ b ∈ p, 128 ≤ b.toNat) : dec p = none := by
  have := dec_app p [] hp
  simpa [dec] using this

/-! ### the reader that goes byte by byte -/
theorem take_split {l : List UInt8} {k : Nat} (hk : k < l.length) : l = l.take k ++ (l[k] :: l.drop (k + 1)) := by
  have e1 : l.drop k = l[k] :: l.drop (k + 1) := List.drop_eq_getElem_cons hk
  rw [← e1, List.take_append_drop]
theorem take_succ' {l : List UInt8} {k : Nat} (hk : k < l.length) : l.take (k + 1) = l.take k ++ [l[k]] := by
  rw [List.take_succ_eq_append_getElem hk]
theorem val_succ {l : List UInt8} {k : Nat} (hk : k < l.length) : val (l.take (k + 1)) = val (l.take k) + l[k].toNat % 128 * 128 ^ k := by
  rw [take_succ' hk, val_snoc, List.length_take, Nat.min_eq_left (by omega)]
theorem all_succ {l : List UInt8} {k : Nat} (hk : k < l.length) (h : ∀ b ∈ l.take k, 128 ≤ b.toNat) (hb : 128 ≤ l[k].toNat) : ∀ b ∈ l.take (k + 1), 128 ≤ b.toNat := by
  intro b hb'
  rw [take_succ' hk] at hb'
  rcases List.mem_append.1 hb' with h1 | h1
  · exact h b h1
  · simp at h1; subst h1; exact hb
theorem dec_at {l : List UInt8} {k : Nat} (hk : k < l.length) (h : ∀ b ∈ l.take k, 128 ≤ b.toNat) (hb : l[k].toNat < 128) :
    dec l = if l[k].toNat = 0 ∧ 0 < k then none else some (val (l.take (k + 1)), k + 1) := by
  have hl : (l.take k).length = k := by rw [List.length_take]; omega
  have e := dec_app (l.take k) (l[k] :: l.drop (k + 1)) h
  rw [← take_split hk, dec_lo hb] at e
  rw [e, val_succ hk]
  have hne : (l.take k ≠ []) ↔ 0 < k := by
    rw [← List.length_pos_iff, hl]
  simp only [hne, hl]
  split
  · rfl
  · rw [Nat.mod_eq_of_lt hb, Nat.mul_comm]
theorem pow9 : (128 : Nat) ^ 9 = 9223372036854775808 := by decide +kernel
theorem tu_stop {l : List UInt8} {k : Nat} (hk : k < l.length) (h : ∀ b ∈ l.take k, 128 ≤ b.toNat) (hb : l[k].toNat < 128) (h9 : k < 9 ∨ (k = 9 ∧ l[k].toNat ≤ 1)) (hnz : l[k].toNat ≠ 0 ∨ k = 0) :
    tu l = (val (l.take (k + 1)), k + 1) := by
  have hd := dec_at hk h hb
  rw [if_neg (by omega)] at hd
  unfold tu
  rw [hd]
  have hlt : val (l.take (k + 1)) < 18446744073709551616 := by
    rcases h9 with h9 | ⟨h9, h1⟩
    · have := val_lt (l.take (k + 1))
      have hl : (l.take (k + 1)).length ≤ 9 := by rw [List.length_take]; omega
      have := Nat.pow_le_pow_right (show 0 < 128 by omega) hl
      rw [pow9] at this
      omega
    · subst h9
      rw [val_succ hk, pow9]
      have := val_lt (l.take 9)
      have hl : (l.take 9).length = 9 := by rw [List.length_take]; omega
      rw [hl, pow9] at this
      have : l[9].toNat % 128 ≤ 1 := by omega
      have := Nat.mul_le_mul_right 9223372036854775808 this
      omega
  simp [hlt]
theorem tu_zero {l : List UInt8} {k : Nat} (hk : k < l.length) (h : ∀ b ∈ l.take k, 128 ≤ b.toNat) (hb : l[k].toNat = 0) (h0 : 0 < k) : tu l = (0, 0) := by
  have hd := dec_at hk h (by omega)
  rw [if_pos ⟨hb, h0⟩] at hd
  unfold tu
  rw [hd]
theorem tu_nine {l : List UInt8} (hk : 9 < l.length) (h : ∀ b ∈ l.take 9, 128 ≤ b.toNat) (hb : 1 < l[9].toNat) : tu l = (0, 0) := by
  have hl : (l.take 9).length = 9 := by rw [List.length_take]; omega
  have e := dec_app (l.take 9) (l[9] :: l.drop 10) h
  rw [← take_split hk] at e
  unfold tu
  rw [e, hl, pow9]
  have : ∀ m k, dec (l[9] :: l.drop 10) = some (m, k) → 2 ≤ m := by
    intro m k hm
    rcases Nat.lt_or_ge l[9].toNat 128 with h1 | h1
    · rw [dec_lo h1] at hm; injection hm with hm; injection hm with h2 h3; omega
    · rw [dec_hi h1] at hm
      cases hd : dec (l.drop 10) with
      | none => simp [hd] at hm
      | some q =>
        obtain ⟨a, b⟩ := q
        simp only [hd] at hm
        split at hm
        · cases hm
        · injection hm with hm; injection hm with h2 h3; omega
  cases hd : dec (l[9] :: l.drop 10) with
  | none => rfl
  | some q =>
    obtain ⟨m, k⟩ := q
    have h2 := this m k hd
    have hm0 : ¬ (m = 0 ∧ l.take 9 ≠ []) := by omega
    simp only [hm0, if_false]
    rw [if_neg (by omega)]
theorem tu_end {l : List UInt8} (h : ∀ b ∈ l, 128 ≤ b.toNat) : tu l = (0, 0) := by
  unfold tu; rw [dec_hi_all l h]
/-- Ten bytes of 128 and more. -/
theorem tu_ten {l : List UInt8} (hk : 10 ≤ l.length) (h : ∀ b ∈ l.take 10, 128 ≤ b.toNat) : tu l = (0, 0) := by
  refine tu_nine (by omega) (fun b hb => h b ?_) ?_
  · rw [take_succ' (k := 9) (by omega)]; exact List.mem_append.2 (.inl hb)
  · have := h l[9] (by rw [take_succ' (k := 9) (by omega)]; exact List.mem_append.2 (.inr (by simp))); omega

/-! ### bits -/
theorem and127 : ∀ x, x < 256 → x &&& 127 = x % 128 := by decide +kernel
theorem or_val (v x k : Nat) (hv : v < 128 ^ k) (hx : x < 256) (hk : k < 9 ∨ (k = 9 ∧ x % 128 ≤ 1)) :
    bits .or .u64 (v : Int) (IntKind.u64.wrap (IntKind.u64.wrap (bits .and .u8 (x : Int) 127) * 2 ^ (7 * k))) = ((v + x % 128 * 128 ^ k : Nat) : Int) := by
  have h1 := u8_and_nat x 127 hx (by omega)
  rw [and127 _ hx] at h1
  rw [show (127 : Int) = ((127 : Nat) : Int) from rfl, h1]
  have hp : (2 : Nat) ^ (7 * k) = 128 ^ k := by rw [Nat.pow_mul]
  have hp' : (2 : Int) ^ (7 * k) = ((128 ^ k : Nat) : Int) := by rw [← hp, Int.natCast_pow]; rfl
  have hk9 : 128 ^ k ≤ 9223372036854775808 := by
    rw [← pow9]; exact Nat.pow_le_pow_right (by omega) (by omega)
  have hb : v + x % 128 * 128 ^ k < 18446744073709551616 := by
    rcases hk with hk | ⟨hk, h2⟩
    · have h3 : (128 : Nat) ^ (k + 1) ≤ 9223372036854775808 := by rw [← pow9]; exact Nat.pow_le_pow_right (by omega) (by omega)
      have h4 : (128 : Nat) ^ (k + 1) = 128 ^ k * 128 := Nat.pow_succ ..
      have h5 : x % 128 * 128 ^ k ≤ 127 * 128 ^ k := Nat.mul_le_mul_right _ (by omega)
      omega
    · have h5 : x % 128 * 128 ^ k ≤ 1 * 128 ^ k := Nat.mul_le_mul_right _ h2
      omega
  rw [IntWalk.u64_in ((x % 128 : Nat) : Int) (by omega), hp', ← Int.natCast_mul]
  have hc : (((x % 128 * 128 ^ k : Nat) : Nat) : Int) ≤ 18446744073709551615 := by
    have : x % 128 * 128 ^ k ≤ 18446744073709551615 := by omega
    have e := Int.ofNat_le.2 this
    exact e
  rw [IntWalk.u64_in _ ⟨Int.natCast_nonneg _, hc⟩, u64_or_nat _ _ (by omega) (by omega)]
  have hj := nat_join (7 * k) (x % 128 * 128 ^ k) v (by rw [hp]; exact Nat.mul_mod_left _ _) (by rw [hp]; exact hv)
  rw [Nat.or_comm, hj, Nat.add_comm]

/-- What a uint64 keeps. -/
def m64 (n : Nat) : Nat := n % 18446744073709551616
theorem m64_lt (n : Nat) : m64 n < 18446744073709551616 := Nat.mod_lt _ (by omega)
theorem m64_le (n : Nat) : (m64 n : Int) ≤ 18446744073709551615 := by have := m64_lt n; omega
theorem m64_zero : m64 0 = 0 := rfl
theorem m64_step (V y : Nat) : IntKind.u64.wrap (IntKind.u64.wrap ((m64 V : Int) * 128) + (y : Int) % 128) = ((m64 (y % 128 + 128 * V) : Nat) : Int) := by
  rw [IntKind.wrap_u64, IntKind.wrap_u64]
  unfold m64
  omega

/-! ### the reference's reader: the size first, then the number from behind -/
theorem dec_size {l : List UInt8} {k n j : Nat} (hk : k < l.length) (h : ∀ b ∈ l.take k, 128 ≤ b.toNat) (hb : l[k].toNat < 128) (hd : dec l = some (n, j)) : n = val (l.take (k + 1)) ∧ j = k + 1 := by
  rw [dec_at hk h hb] at hd
  split at hd
  · cases hd
  · injection hd with hd; injection hd with h1 h2; exact ⟨h1.symm, h2.symm⟩
/-- The number is read where it is written so. -/
theorem tu_ref {l : List UInt8} {k : Nat} (hk : k < l.length) (h : ∀ b ∈ l.take k, 128 ≤ b.toNat) (hb : l[k].toNat < 128) :
    tu l = if vint (m64 (val (l.take (k + 1)))) = l.take (k + 1) then (m64 (val (l.take (k + 1))), k + 1) else (0, 0) := by
  split
  · rename_i he
    have e := dec_vint (m64 (val (l.take (k + 1)))) (l.drop (k + 1))
    rw [he, List.take_append_drop, List.length_take, Nat.min_eq_left (by omega)] at e
    unfold tu
    rw [e]
    have := m64_lt (val (l.take (k + 1)))
    simp [this]
  · rename_i he
    unfold tu
    cases hd : dec l with
    | none => rfl
    | some q =>
      obtain ⟨n, j⟩ := q
      obtain ⟨rfl, rfl⟩ := dec_size hk h hb hd
      simp only
      split
      · rename_i hlt
        have := (dec_some hd).1
        unfold m64 at he
        rw [Nat.mod_eq_of_lt hlt] at he
        exact absurd this he
      · rfl
theorem val_drop {l : List UInt8} {j : Nat} (hj : j < l.length) : val (l.drop j) = l[j].toNat % 128 + 128 * val (l.drop (j + 1)) := by
  rw [List.drop_eq_getElem_cons hj, val]

/-! ### texts -/
/-- What a reader of texts answers. -/
def tt (l : List UInt8) : List UInt8 × Nat :=
  if (tu l).2 = 0 ∨ l.length - (tu l).2 < (tu l).1 then ([], 0) else ((l.drop (tu l).2).take (tu l).1, (tu l).2 + (tu l).1)
theorem tt_text {s : List UInt8} (hs : s.length < 18446744073709551616) (r : List UInt8) : tt (vint s.length ++ s ++ r) = (s, (vint s.length).length + s.length) := by
  have e := tu_vint hs (s ++ r)
  rw [List.append_assoc]
  unfold tt
  rw [e]
  have h1 := vint_pos s.length
  rw [if_neg (by simp only [List.length_append]; omega)]
  simp
end Go.Proofs.YtadkgfhfjagmpaaGreatDoor.Num
