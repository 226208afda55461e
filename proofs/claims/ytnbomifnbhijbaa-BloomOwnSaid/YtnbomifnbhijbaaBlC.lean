/-
  The places of a key, by the reference.
-/
import Derived.Test.YtnbomifnbhijbaaBlB
namespace Go.Proofs.Ytnbomifnbhijbaa
open Go.RowKit
set_option linter.unusedVariables false

theorem bytesElB : El Try.prog 50 5 (.int .u8 0) 1 := ⟨Try.underlying50, by kernel_rfl, rfl⟩
theorem intElB : El Try.prog 77 3 (.int .i64 0) 8 := ⟨Try.underlying77, by kernel_rfl, rfl⟩
def iv (l : List Nat) : List Value := l.map fun p => Value.int .i64 ((p : Nat) : Int)
theorem iv_len (l : List Nat) : (iv l).length = l.length := by simp [iv]
theorem iv_app (a b : List Nat) : iv (a ++ b) = iv a ++ iv b := by simp [iv]
set_option maxRecDepth 20000 in
set_option maxHeartbeats 1000000 in
theorem rplaces_any (l : List UInt8) (hl : l.length ≤ 4611686018427387904) (n k : Nat) (hn : 1 ≤ n) (hn2 : n ≤ 4294967295) (hk : k ≤ 1000) (w : World) : Calls Try.prog 38 #[.string (str l), .int .i64 n, .int .i64 k] w fun e w' =>
    ∃ A c, e = .returned (.slice A k c) ∧ w'.ownsRow w.heap.size 3 1 (.slice A k c) k (iv (Bl.places l n k)) ∧ Below w.heap.size w w' := by
  have hh := Bl.hash_lt l
  have hr := Bl.rot_lt hh
  have hrh := rhash_any l hl w
  have hrd : Bl.rot (Bl.hash l) = Bl.hash l / 131072 + Bl.hash l % 131072 * 32768 := rfl
  have ht := Bl.turned_lt hh
  have h0 : Bl.turned (Bl.hash l) 0 = Bl.hash l := rfl
  have hs : ∀ i, Bl.turned (Bl.hash l) (i + 1) = (Bl.turned (Bl.hash l) i + Bl.rot (Bl.hash l)) % 4294967296 := fun i => rfl
  have hp : ∀ i, Bl.plc l n i = Bl.turned (Bl.hash l) i % n := fun i => rfl
  generalize Bl.hash l = h at *
  obtain ⟨R, hR⟩ : ∃ R, R = Bl.rot h := ⟨_, rfl⟩
  obtain ⟨T, hT⟩ : ∃ T : Nat → Nat, T = Bl.turned h := ⟨_, rfl⟩
  rw [← hR] at hr hrd
  simp only [← hR, ← hT] at ht h0 hs hp
  have HS := Lib.hid hs
  have HP := Lib.hid hp
  have HT := Lib.hid ht
  clear hR hT hs hp ht
  go_enter Try.func38, Try.ntmps38
  go_wp2_with (go_at_call 26; refine hrh.mono ?_; rintro e w' ⟨rfl, rfl⟩)
  go_loopw [7, 9, 10] (fun s7 s9 s10 wr => ∃ (i : Nat) (A : Option Addr) (c : Nat), i ≤ k ∧ s7 = .int .i64 ((T i : Nat) : Int) ∧ s9 = .slice A i c ∧ s10 = .int .i64 i ∧ wr.ownsRow w'.heap.size 3 1 (.slice A i c) i (iv (Bl.places l n i)) ∧ Below w'.heap.size w' wr) (fun _ _ j _ => k - (intOf j).toNat)
  case atStart => exact ⟨0, none, 0, Nat.zero_le _, by rw [h0], rfl, rfl, World.ownsRow_nil _ _ _ _, Below.refl _ _⟩
  case round =>
    obtain ⟨i, A, c, hi, rfl, rfl, rfl, hrow, hbe⟩ := hrel
    have hTi := HT.out i
    have hT1 := HS.out i
    have hpi := HP.out i
    have hps := Bl.places_succ l n i
    have HROW := Lib.hid (And.intro hrow hbe)
    have hsz := hbe.size
    by_cases hin : i < k
    · have hcN : (i : Int) < k := by omega
      have hn0 : ((n : Nat) : Int) ≠ 0 := by omega
      generalize T i = H0 at hTi hT1 hpi ⊢
      have HH := Lib.hid (And.intro hT1 (And.intro hpi hps))
      clear hT1 hpi hps hrow hbe
      go_wp2_with (at_builtin; refine wpList_app _ rfl (.tmp 24) (.tmp 28) 77 rfl w'.heap.size intElB (by decide) _ i _ rfl (HROW.out.1.alloc _) (some ⟨wr.heap.size, 0, none⟩) 1 1 [.int .i64 ((H0 % n : Nat) : Int)] rfl (Sl.new _ _ _) (by intro u hu; simp at hu; subst hu; rfl) (by omega) (by simp; omega) ?_
                   intro A5 c5 w5 hown5 hg5 hat5
                   have H5 := Lib.hid (And.intro hown5 (((HROW.out.2.alloc hsz _).grown hg5 (by simp; omega) (own_blk HROW.out.1))))
                   clear hown5 hg5 hat5)
      refine ⟨⟨i + 1, A5, c5, by omega, ?_, rfl, by go_num, ?_, H5.out.2⟩, by simp [intOf]; omega⟩
      · rw [HH.out.1, hrd]
        congr 1
      · rw [HH.out.2.2, HH.out.2.1, iv_app]
        exact H5.out.1
    · have hcN : ¬ (i : Int) < k := by omega
      obtain rfl : i = k := by omega
      clear hT1 hpi hps hrow hbe
      go_wp2_with fail
      go_ret
      exact ⟨_, _, rfl, HROW.out.1, HROW.out.2⟩
end Go.Proofs.Ytnbomifnbhijbaa
