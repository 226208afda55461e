/-
  The law WalOpens: the names that it makes, without walks.
-/
import Derived.Test.YtadkgfhfjagmpaaGreatDoorGWr
namespace Go.Proofs.YtadkgfhfjagmpaaGreatDoor
open Go.RowKit Go.Maps
set_option linter.unusedVariables false

theorem dgs_dig : ∀ (j k : Nat), k < 10 ^ j → ∀ b ∈ dgs k, 48 ≤ b.toNat ∧ b.toNat ≤ 57
  | 0, k, h, b, hb => by
    have : k = 0 := by simpa using h
    subst this
    rw [dgs_zero] at hb; cases hb
  | j + 1, k, h, b, hb => by
    rcases Nat.eq_zero_or_pos k with h0 | h0
    · subst h0; rw [dgs_zero] at hb; cases hb
    · rw [dgs_pos h0] at hb
      rcases List.mem_append.1 hb with hb | hb
      · exact dgs_dig j (k / 10) (by rw [Nat.pow_succ] at h; omega) b hb
      · rw [List.mem_singleton] at hb
        subst hb
        rw [dg_nat]
        omega
theorem dgt_dig {n : Nat} (h : n ≤ 1000000) : (∀ b ∈ dgt n, 48 ≤ b.toNat ∧ b.toNat ≤ 57) ∧ (dgt n).length ≤ 7 := by
  unfold dgt
  split
  · exact ⟨fun b hb => by rw [List.mem_singleton] at hb; subst hb; decide, by simp⟩
  · exact ⟨dgs_dig 7 n (by omega), dgs_len 7 n (by omega)⟩
theorem rname_len {n : Nat} (h : n ≤ 1000000) : 10 ≤ (rname n).length ∧ (rname n).length ≤ 11 := by
  have := (dgt_dig h).2
  unfold rname
  simp only [List.length_append, List.length_cons, List.length_nil, List.length_replicate]
  omega
theorem rname_mem {n : Nat} (h : n ≤ 1000000) {b : UInt8} (hb : b ∈ rname n) : b = 119 ∨ b = 97 ∨ b = 108 ∨ b = 45 ∨ (48 ≤ b.toNat ∧ b.toNat ≤ 57) := by
  unfold rname at hb
  rcases List.mem_append.1 hb with hb | hb
  · simp only [List.mem_cons, List.not_mem_nil, or_false] at hb
    rcases hb with e | e | e | e
    · exact .inl e
    · exact .inr (.inl e)
    · exact .inr (.inr (.inl e))
    · exact .inr (.inr (.inr (.inl e)))
  · rcases List.mem_append.1 hb with hb | hb
    · have := (List.mem_replicate.1 hb).2
      subst this
      exact .inr (.inr (.inr (.inr (by decide))))
    · exact .inr (.inr (.inr (.inr ((dgt_dig h).1 b hb))))
theorem rname_vname {n : Nat} (h : n ≤ 1000000) : vname (rname n) = true := by
  have hl := rname_len h
  unfold vname
  rw [Bool.and_eq_true]
  refine ⟨by simp only [decide_eq_true_eq]; omega, List.all_eq_true.2 fun b hb => ?_⟩
  unfold vbyte
  simp only [decide_eq_true_eq]
  rcases rname_mem h hb with e | e | e | e | e
  · subst e; decide
  · subst e; decide
  · subst e; decide
  · subst e; decide
  · omega
/-- The two names that the law adds. -/
abbrev n12 : List UInt8 := [119, 97, 108, 45, 49, 50]
abbrev n0x : List UInt8 := [119, 97, 108, 45, 48, 48, 48, 48, 48, 120]
theorem rname_12 {n : Nat} (h : n ≤ 1000000) : rname n ≠ n12 := fun e => by
  have := rname_len h
  rw [e] at this
  simp at this
theorem rname_0x {n : Nat} (h : n ≤ 1000000) : rname n ≠ n0x := fun e => by
  have h1 : (120 : UInt8) ∈ rname n := by rw [e]; simp
  rcases rname_mem h h1 with e | e | e | e | e <;> revert e <;> decide
/-- All names together. -/
theorem names_ok {ns : List (List UInt8)} (h : ∀ s ∈ ns, ∃ n, n ≤ 1000000 ∧ s = rname n) (hd : ns.Nodup) : (ns ++ [n12, n0x]).all vname = true ∧ (ns ++ [n12, n0x]).Nodup := by
  constructor
  · rw [List.all_append, Bool.and_eq_true]
    refine ⟨List.all_eq_true.2 fun s hs => ?_, by decide⟩
    obtain ⟨n, hn, rfl⟩ := h s hs
    exact rname_vname hn
  · refine List.nodup_append.2 ⟨hd, by decide, fun s hs t ht e => ?_⟩
    obtain ⟨n, hn, rfl⟩ := h s hs
    subst e
    simp only [List.mem_cons, List.not_mem_nil, or_false] at ht
    rcases ht with e | e
    · exact rname_12 hn e
    · exact rname_0x hn e
end Go.Proofs.YtadkgfhfjagmpaaGreatDoor
