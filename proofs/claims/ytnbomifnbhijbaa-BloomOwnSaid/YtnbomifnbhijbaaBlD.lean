/-
  The places of a key, by the program's own iterator.
-/
import Derived.Test.YtnbomifnbhijbaaBlC
namespace Go.Proofs.Ytnbomifnbhijbaa
open Go.RowKit Go.Shelf
attribute [local go_sem] Oper.semAt_some
set_option linter.unusedVariables false

set_option maxHeartbeats 1000000 in
theorem rotl_any (h : Nat) (hh : h < 4294967296) (w : World) : Calls Try.prog 44 #[.int .u32 (h : Int), .int .i64 (-17)] w fun e w' => e = .returned (.int .u32 ((Bl.rot h : Nat) : Int)) ∧ w' = w := by
  go_enter Try.func44, Try.ntmps44
  have e15 : bits .and .u64 (IntKind.u64.wrap (-17)) 31 = 15 := by decide
  have hv : bits .or .u32 ((h : Int) * 32768 % 4294967296) ((h : Int) / 131072) = ((Bl.rot h : Nat) : Int) := by
    have e := u32_or_nat (h * 32768 % 4294967296) (h / 131072) (by omega) (by omega)
    have hj := nat_join 15 (h * 32768 % 4294967296) (h / 131072) (by omega) (by omega)
    rw [hj] at e
    refine Eq.trans ?_ (e.trans ?_)
    · congr 1
    · unfold Bl.rot; omega
  have HV := Lib.hid hv
  clear hv
  go_wp2_with fail
  go_ret
  exact ⟨congrArg (fun z => Ending.returned (.int .u32 z)) HV.out, rfl⟩
/-- What a round keeps: the three boxes. -/
def Kp3 (B : Nat) (W W' : World) : Prop := ∀ k, B ≤ k → k < B + 3 → W'.heap[k]? = W.heap[k]?
structure PBox (w : World) (B : Nat) (l : List UInt8) (n k : Nat) : Prop where
  c0 : w.cell? ⟨B, 0, none⟩ = some (.string (str l))
  c1 : w.cell? ⟨B + 1, 0, none⟩ = some (.int .i64 k)
  c2 : w.cell? ⟨B + 2, 0, none⟩ = some (.int .i64 n)
  lt : B + 3 ≤ w.heap.size
theorem PBox.keep {w w' : World} {B n k : Nat} {l : List UInt8} (h : PBox w B l n k) (hk : Kp3 B w w') : PBox w' B l n k :=
  ⟨(World.cell?_of_block (w := w) (a := ⟨B, 0, none⟩) (hk B (Nat.le_refl _) (by omega))).trans h.c0, (World.cell?_of_block (w := w) (a := ⟨B + 1, 0, none⟩) (hk (B + 1) (by omega) (by omega))).trans h.c1, (World.cell?_of_block (w := w) (a := ⟨B + 2, 0, none⟩) (hk (B + 2) (by omega) (by omega))).trans h.c2, by
    have h1 := hk (B + 2) (by omega) (by omega)
    rw [Array.getElem?_eq_getElem (show B + 2 < w.heap.size from by have := h.lt; omega)] at h1
    have := (Array.getElem?_eq_some_iff.1 h1).1
    omega⟩
set_option maxRecDepth 100000 in
set_option maxHeartbeats 2000000 in
theorem places_stops (m : Nat) (l : List UInt8) (hl : l.length ≤ 4611686018427387904) (n k B : Nat) (hn : 1 ≤ n) (hn2 : n ≤ 4294967295) (hk : k ≤ 1000) (w : World) (hB : PBox w B l n k) :
    SeqStopsK Fence.wide (m + 1) Try.prog 43 #[.pointer (some ⟨B, 0, none⟩), .pointer (some ⟨B + 1, 0, none⟩), .pointer (some ⟨B + 2, 0, none⟩)] (fun x : Fin n => #[.int .i64 ((x.val : Nat) : Int)]) (Kp3 B)
      (fun xs => xs.map Fin.val = Bl.places l n k) (fun pre => pre.map Fin.val <+: Bl.places l n k) k w := by
  intro l0 J Jx W hW hJ hJx hY h0
  have hB1 : PBox W B l n k := hB.keep fun j h1 h2 => hW.block j (by have := hB.lt; omega)
  have HY := Lib.hid hY
  have H0 := Lib.hid h0
  have hh := Bl.hash_lt l
  have hp : ∀ i, Bl.plc l n i = Bl.turned (Bl.hash l) i % n := fun i => rfl
  have hs : ∀ i, Bl.turned (Bl.hash l) (i + 1) = (Bl.turned (Bl.hash l) i + Bl.rot (Bl.hash l)) % 4294967296 := fun i => rfl
  have ht := Bl.turned_lt hh
  have hpl := Bl.plc_lt l (n := n) hn
  have z0 : Bl.turned (Bl.hash l) 0 = Bl.hash l := rfl
  have hrh := callsIn_wide (n := m).2 (hash_any l hl W)
  have hrt := callsIn_wide (n := m).2 (rotl_any (Bl.hash l) hh W)
  generalize Bl.hash l = h at *
  obtain ⟨R, hR⟩ : ∃ R, R = Bl.rot h := ⟨_, rfl⟩
  obtain ⟨T, hT⟩ : ∃ T : Nat → Nat, T = Bl.turned h := ⟨_, rfl⟩
  simp only [← hR, ← hT] at ht z0 hs hp hrt
  have HS := Lib.hid hs
  have HP := Lib.hid (And.intro hp hpl)
  have HT := Lib.hid ht
  have HB := Lib.hid hB1
  have k0 := hB1.c0
  have k1 := hB1.c1
  have k2 := hB1.c2
  clear hR hT hs hp ht hpl hY h0 hW hB hB1 hJ hJx
  refine callsIn_of_wp Try.func43 rfl trivial ?_ rfl
  simp only [Try.ntmps43, List.size_toArray, List.length_cons, List.length_nil, Nat.reduceAdd, Nat.reduceSub, Array.replicate_succ, Array.replicate_zero, List.push_toArray, List.append_toArray, List.nil_append, List.cons_append]
  gi_wp2_with (first
    | (refine ⟨trivial, ?_⟩; gi_at_call 25; refine hrh.mono ?_; rintro e w' ⟨rfl, rfl⟩)
    | (refine ⟨trivial, ?_⟩; gi_at_call 44; refine hrt.mono ?_; rintro e w' ⟨rfl, rfl⟩))
  gi_loopw [5, 12] (fun s5 s12 wr => ∃ (i : Nat) (pre : List (Fin n)), i ≤ k ∧ pre.map Fin.val = Bl.places l n i ∧ s5 = .int .u32 ((T i : Nat) : Int) ∧ s12 = .int .i64 i ∧ J pre wr ∧ PBox wr B l n k) (fun _ j _ => k - (intOf j).toNat)
  case atStart => exact ⟨0, [], Nat.zero_le _, rfl, by rw [z0], rfl, H0.out, HB.out⟩
  case round =>
    obtain ⟨i, pre, hi, hpre, rfl, rfl, hJ, hBx⟩ := hrel
    have hlen : pre.length = i := by have := congrArg List.length hpre; simpa [Bl.places_len] using this
    have k3 := hBx.c2
    by_cases hin : i < k
    · have hcN : (i : Int) < k := by omega
      have hTi := HT.out i
      obtain ⟨x, hx⟩ : ∃ x : Fin n, x.val = Bl.plc l n i := ⟨⟨_, HP.out.2 i⟩, rfl⟩
      obtain ⟨fn, tmps, assign, body, hy, hR⟩ := HY.out pre x wr hJ (by omega)
      have hxv : ((x.val : Nat) : Int) = wrap64 (((T i : Nat) : Int) % (n : Int)) := by
        have h1 : ((T i : Nat) : Int) % (n : Int) = ((T i % n : Nat) : Int) := rfl
        have h2 : T i % n < n := Nat.mod_lt _ hn
        rw [hx, HP.out.1 i, h1, IntWalk.wrap64_in _ (by omega)]
      have hn0 : ((n : Nat) : Int) ≠ 0 := by omega
      rw [hxv] at hy
      have hT1 := HS.out i
      have hps := Bl.places_succ l n i
      have HPR := Lib.hid (And.intro hpre (And.intro hx (And.intro hT1 (And.intro hps hBx))))
      generalize T i = H0 at hy hTi HPR ⊢
      clear hJ hBx hpre hx hxv hT1 hps
      gi_wp2
      refine hR.mono ?_
      rintro e W3 (⟨rfl, hJ3, hk3⟩ | ⟨rfl, hJx3⟩)
      · have HB3 := Lib.hid (And.intro hJ3 hk3)
        clear hR hy hJ3 hk3
        gi_wp2
        refine ⟨⟨i + 1, pre ++ [x], by omega, ?_, ?_, by go_num, HB3.out.1, HPR.out.2.2.2.2.keep HB3.out.2⟩, by simp [intOf]; omega⟩
        · rw [List.map_append, HPR.out.1, HPR.out.2.2.2.1, ← HPR.out.2.1]; rfl
        · rw [HPR.out.2.2.1]; rfl
      · gi_wp2
        refine bodyPost_ret (results_none rfl _ _ _) rfl ?_
        refine ⟨⟨_, rfl⟩, .inr ⟨pre ++ [x], ?_, hJx3⟩⟩
        rw [List.map_append, HPR.out.1]
        refine ⟨(Bl.places l n k).drop (i + 1), ?_⟩
        have h1 : Bl.places l n i ++ List.map Fin.val [x] = (Bl.places l n k).take (i + 1) := by
          rw [Bl.places_take l n k (i + 1) (by omega), HPR.out.2.2.2.1, ← HPR.out.2.1]; rfl
        rw [h1, List.take_append_drop]
    · have hcN : ¬ (i : Int) < k := by omega
      obtain rfl : i = k := by omega
      have HJ := Lib.hid hJ
      clear hJ hBx
      gi_wp2
      go_end0
      exact ⟨⟨_, rfl⟩, .inl ⟨pre, hpre, HJ.out⟩⟩
end Go.Proofs.Ytnbomifnbhijbaa
