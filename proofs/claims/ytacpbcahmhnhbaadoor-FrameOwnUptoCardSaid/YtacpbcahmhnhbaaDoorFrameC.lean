/-
  Contracts of the readers of texts.
-/
import Derived.Test.YtacpbcahmhnhbaaDoorFrameB
namespace Go.Proofs.YtacpbcahmhnhbaaDoor
open Go.RowKit Num

theorem take_bv (l : List UInt8) (k : Nat) : (bv l).take k = bv (l.take k) := by simp [bv]
theorem drop_bv (l : List UInt8) (k : Nat) : (bv l).drop k = bv (l.drop k) := by simp [bv]

/-- A window of a slice of bytes. -/
theorem Sl.win {w : World} {b o n : Nat} {l : List UInt8} (h : Sl w (some ⟨b, o, none⟩) n (bv l)) {i j : Nat} (hij : i ≤ j) (hj : j ≤ n) : Sl w (some ⟨b, o + i, none⟩) (j - i) (bv ((l.drop i).take (j - i))) := by
  have h1 := (h.drop (k := i) (by omega) (some ⟨b, o + i, none⟩) (by rintro _ b' o' e; injection e with e; injection e with e1 e2; subst e1 e2; rfl)).take (k := j - i) (by omega)
  rwa [drop_bv, take_bv] at h1

set_option maxRecDepth 20000 in
set_option maxHeartbeats 1600000 in
theorem takeText_any (A : Option Addr) (n c : Nat) (l : List UInt8) (w : World) (hs : Sl w A n (bv l)) (hn : n ≤ 140737488355328) (hnc : n ≤ c) :
    Calls Tryd.prog 18 #[.slice A n c] w fun e w' => e = .returned (.tuple #[.string ⟨(tt l).1.toArray⟩, .int .i64 (tt l).2]) ∧ w = w' := by
  have hlen := hs.len
  have hcall := takeUint_any A n c l w hs hn
  have hN := tu_lt l
  have hK := tu_le l
  have htt : tt l = if (tu l).2 = 0 ∨ l.length - (tu l).2 < (tu l).1 then ([], 0) else ((l.drop (tu l).2).take (tu l).1, (tu l).2 + (tu l).1) := rfl
  generalize tu l = p at hcall hN hK htt
  obtain ⟨N, K⟩ := p
  simp only at hcall hN hK htt
  have HN := Lib.hid hN
  have HT := Lib.hid htt
  have HC := Lib.hid hcall
  clear hN htt hcall
  by_cases hK0 : K = 0
  · subst hK0
    go_enter Tryd.func18, Tryd.ntmps18
    go_wp2_with (go_at_call 13; refine (HC.out).mono ?_; rintro e w' ⟨rfl, rfl⟩)
    go_ret2
    rw [HT.out, if_pos (.inl trivial)]
    exact ⟨rfl, rfl⟩
  · have hK1 : ((K : Int) == 0) = false := by simp; omega
    by_cases hNK : (n : Int) - K < N
    · go_enter Tryd.func18, Tryd.ntmps18
      go_wp2_with (go_at_call 13; refine (HC.out).mono ?_; rintro e w' ⟨rfl, rfl⟩)
      go_ret2
      rw [HT.out, if_pos (.inr (by omega))]
      exact ⟨rfl, rfl⟩
    · have hpos : 0 < n := by omega
      obtain ⟨b, o, rfl, -⟩ := hs.2 hpos
      have hw := hs.win (i := K) (j := K + N) (by omega) (by omega)
      have hcv := fun c' => run_str (P := Tryd.prog) (c := c') hw 23 5 9 Tryd.underlying23 Tryd.underlying5 Tryd.underlying9
      rw [show K + N - K = N from by omega] at hcv
      have hz : (K : Int) ≤ (K : Int) + N := by omega
      by_cases hcK : c = K
      · have hN0 : N = 0 := by omega
        subst hN0
        subst hcK
        have hc0 := fun c' => run_str (P := Tryd.prog) (c := c') (l := []) (Sl.none_ w (some ⟨b, o, none⟩)) 23 5 9 Tryd.underlying23 Tryd.underlying5 Tryd.underlying9
        go_enter Tryd.func18, Tryd.ntmps18
        go_wp2_with (go_at_call 13; refine (HC.out).mono ?_; rintro e w' ⟨rfl, rfl⟩)
        go_ret2
        rw [HT.out, if_neg (by omega)]
        exact ⟨by simp, rfl⟩
      · go_enter Tryd.func18, Tryd.ntmps18
        go_wp2_with (go_at_call 13; refine (HC.out).mono ?_; rintro e w' ⟨rfl, rfl⟩)
        go_ret2
        rw [HT.out, if_neg (by omega)]
        exact ⟨by simp, rfl⟩

set_option maxRecDepth 20000 in
set_option maxHeartbeats 1600000 in
theorem refTakeText_any (A : Option Addr) (n c : Nat) (l : List UInt8) (w : World) (hs : Sl w A n (bv l)) (hn : n ≤ 140737488355328) (hnc : n ≤ c) :
    Calls Tryd.prog 20 #[.slice A n c] w fun e w' => e = .returned (.tuple #[.string ⟨(tt l).1.toArray⟩, .int .i64 (tt l).2]) ∧ Below w.heap.size w w' := by
  have hlen := hs.len
  have hcall := refTakeUint_any A n c l w hs hn hnc
  have hN := tu_lt l
  have hK := tu_le l
  have htt : tt l = if (tu l).2 = 0 ∨ l.length - (tu l).2 < (tu l).1 then ([], 0) else ((l.drop (tu l).2).take (tu l).1, (tu l).2 + (tu l).1) := rfl
  generalize tu l = p at hcall hN hK htt
  obtain ⟨N, K⟩ := p
  simp only at hcall hN hK htt
  have HN := Lib.hid hN
  have HT := Lib.hid htt
  have HC := Lib.hid hcall
  clear hN htt hcall
  by_cases hK0 : K = 0
  · subst hK0
    go_enter Tryd.func20, Tryd.ntmps20
    go_wp2_with (go_at_call 16; refine (HC.out).mono ?_; rintro e w1 ⟨rfl, hb⟩)
    go_ret2
    rw [HT.out, if_pos (.inl trivial)]
    exact ⟨rfl, hb⟩
  · have hK1 : ((K : Int) == 0) = false := by simp; omega
    by_cases hNn : (n : Int) < N
    · go_enter Tryd.func20, Tryd.ntmps20
      go_wp2_with (go_at_call 16; refine (HC.out).mono ?_; rintro e w1 ⟨rfl, hb⟩)
      go_ret2
      rw [HT.out, if_pos (.inr (by omega))]
      exact ⟨rfl, hb⟩
    by_cases hNK : (n : Int) - K < N
    · go_enter Tryd.func20, Tryd.ntmps20
      go_wp2_with (go_at_call 16; refine (HC.out).mono ?_; rintro e w1 ⟨rfl, hb⟩)
      go_ret2
      rw [HT.out, if_pos (.inr (by omega))]
      exact ⟨rfl, hb⟩
    · have hpos : 0 < n := by omega
      obtain ⟨b, o, rfl, -⟩ := hs.2 hpos
      have hw := hs.win (i := K) (j := K + N) (by omega) (by omega)
      rw [show K + N - K = N from by omega] at hw
      have hcv : ∀ W : World, Below w.heap.size w W → ∀ c', (convert 23 9 (.slice (some ⟨b, o + K, none⟩) N c')).run Tryd.prog W = .ok (.string ⟨((l.drop K).take N).toArray⟩) W := fun W hW c' =>
        run_str (P := Tryd.prog) (hw.below hW) 23 5 9 Tryd.underlying23 Tryd.underlying5 Tryd.underlying9
      have hz : (K : Int) ≤ (K : Int) + N := by omega
      by_cases hcK : c = K
      · have hN0 : N = 0 := by omega
        subst hN0
        subst hcK
        have hc0 := fun (W : World) c' => run_str (P := Tryd.prog) (c := c') (l := []) (Sl.none_ W (some ⟨b, o, none⟩)) 23 5 9 Tryd.underlying23 Tryd.underlying5 Tryd.underlying9
        go_enter Tryd.func20, Tryd.ntmps20
        go_wp2_with (go_at_call 16; refine (HC.out).mono ?_; rintro e w1 ⟨rfl, hb⟩)
        go_ret2
        rw [HT.out, if_neg (by omega)]
        exact ⟨by simp, hb⟩
      · go_enter Tryd.func20, Tryd.ntmps20
        go_wp2_with (go_at_call 16; refine (HC.out).mono ?_; rintro e w1 ⟨rfl, hb⟩)
        go_ret2
        rw [HT.out, if_neg (by omega)]
        exact ⟨by simp, hb⟩
end Go.Proofs.YtacpbcahmhnhbaaDoor
