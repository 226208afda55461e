/-
  The reference's Before, Error and Get.
-/
import Derived.Test.YtjlebmpgjliacaaMeQ
namespace Go.Proofs.Ytjlebmpgjliacaa
open Go.RowKit
set_option linter.unusedVariables false

set_option maxHeartbeats 2000000 in
theorem rbefore_any (a b : En) (w : World) : Calls Try.prog 24 #[.agg #[.string (str a.key), .int .i64 a.seq, .bool a.del, .string (str a.val)], .agg #[.string (str b.key), .int .i64 b.seq, .bool b.del, .string (str b.val)]] w fun r w' => r = .returned (.bool (a.ahead b.key b.seq)) ∧ Below w.heap.size w w' := by
  have hal : ∀ o o', Below w.heap.size w ((w.alloc o).alloc o') := fun o o' => ((Below.refl _ w).alloc (Nat.le_refl _) _).alloc (by simp) _
  unfold En.ahead
  rw [← bless_eq]
  obtain ⟨k, s, d1, v1⟩ := a
  obtain ⟨key, seq, d2, v2⟩ := b
  simp only
  go_enter Try.func24, Try.ntmps24
  have htl : ∀ l : List UInt8, (str l).toList = l := fun l => ByteArray.toList_mk l
  cases h1 : Op.bytesLess k key with
  | true =>
    have g1 : Op.bytesLess (str k).toList (str key).toList = true := by rw [htl, htl]; exact h1
    clear htl
    go_wp2_with fail
    go_ret
    exact ⟨rfl, hal _ _⟩
  | false =>
    have g1 : Op.bytesLess (str k).toList (str key).toList = false := by rw [htl, htl]; exact h1
    cases h2 : (k == key) with
    | true =>
      obtain rfl : k = key := by simpa using h2
      clear htl h2
      go_wp2_with fail
      go_ret
      exact ⟨by simp, hal _ _⟩
    | false =>
      have g2 : ((str k).toList == (str key).toList) = false := by rw [htl, htl]; exact h2
      have g3 : ¬ (str k).toList = (str key).toList := by rw [htl, htl]; simpa using h2
      clear htl h2
      go_wp2_with fail
      go_ret
      exact ⟨by simp, hal _ _⟩
set_option maxHeartbeats 2000000 in
theorem rerror_any (e : En) (w : World) : Calls Try.prog 23 #[.agg #[.string (str e.key), .int .i64 e.seq, .bool e.del, .string (str e.val)]] w fun r w' => r = .returned (.int .i64 (chk e)) ∧ Below w.heap.size w w' := by
  obtain ⟨key, seq, del, val⟩ := e
  have hk := str_size key
  have hv := str_size val
  have hal : ∀ o, Below w.heap.size w (w.alloc o) := fun o => (Below.refl _ w).alloc (Nat.le_refl _) _
  unfold chk
  simp only
  go_enter Try.func23, Try.ntmps23
  by_cases h1 : 64 < key.length
  · rw [if_pos (.inl h1)]
    have g1 : (64 : Int) < key.length := by omega
    go_wp2_with fail
    go_ret
    exact ⟨rfl, hal _⟩
  · have g1 : ¬ (64 : Int) < key.length := by omega
    by_cases h2 : 1024 < val.length
    · rw [if_pos (.inr h2)]
      have g2 : (1024 : Int) < val.length := by omega
      go_wp2_with fail
      go_ret
      exact ⟨rfl, hal _⟩
    · rw [if_neg (by omega)]
      have g2 : ¬ (1024 : Int) < val.length := by omega
      by_cases h3 : seq < 1
      · rw [if_pos (.inl h3)]
        go_wp2_with fail
        go_ret
        exact ⟨rfl, hal _⟩
      · by_cases h4 : 4611686018427387904 < seq
        · rw [if_pos (.inr (.inl h4))]
          go_wp2_with fail
          go_ret
          exact ⟨rfl, hal _⟩
        · cases del with
          | false =>
            rw [if_neg (by simp; omega)]
            go_wp2_with fail
            go_ret
            exact ⟨rfl, hal _⟩
          | true =>
            by_cases h5 : val = []
            · subst h5
              rw [if_neg (by simp; omega)]
              have g5 : (str []).size = 0 := hv
              go_wp2_with fail
              go_ret
              exact ⟨rfl, hal _⟩
            · rw [if_pos (by simp [h5])]
              have g5 : (0 : Int) < val.length := by have := List.length_pos_iff.2 h5; omega
              go_wp2_with fail
              go_ret
              exact ⟨rfl, hal _⟩
end Go.Proofs.Ytjlebmpgjliacaa
