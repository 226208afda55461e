/-
  The law BloomKeeps as a walk.
-/
import Derived.Test.YtnbomifnbhijbaaBlL
namespace Go.Proofs.Ytnbomifnbhijbaa
open Go.RowKit
set_option linter.unusedVariables false

set_option maxRecDepth 20000 in
set_option maxHeartbeats 2000000 in
theorem keeps_law {w : World} {A0 : Option Addr} {n0 c0 : Nat} {ks : List (List UInt8)} (hs : Sl w A0 n0 (ks.map svB)) (hn : n0 ≤ 140737488355328) (hc : n0 ≤ c0) (hm : ∀ s ∈ ks, s.length ≤ 140737488355328) (per : Int) (hp : -9223372036854775808 ≤ per ∧ per ≤ 9223372036854775807) :
    Calls Try.prog 8 #[.slice A0 n0 c0, .int .i64 per] w fun e w' => e = .returned (.bool true) ∧ Below w.heap.size w w' := by
  have HS := Lib.hid hs
  clear hs
  obtain ⟨T, hT⟩ : ∃ T, T = ks.take 200 := ⟨_, rfl⟩
  have hTm : ∀ s ∈ T, s.length ≤ 4611686018427387904 := fun s h => by
    rw [hT] at h
    have := hm s (List.mem_of_mem_take h)
    omega
  have hT2 : T.length ≤ 200 := by rw [hT, List.length_take]; omega
  have hcut := fun (V : World) (hV : Below w.heap.size w V) => cut5_any A0 n0 c0 ks V (HS.out.below hV) hn hc
  rw [← hT] at hcut
  clear hT
  obtain ⟨k, hk⟩ : ∃ k, T.length = k := ⟨_, rfl⟩
  rw [hk] at hcut hT2
  have HC := Lib.hid hcut
  have HK := Lib.hid hk
  clear hcut hk
  go_enter Try.func8, Try.ntmps8
  go_wp2_with fail
  refine (awake5_any _).mono ?_
  rintro e w1 ⟨rfl, hb1⟩
  have hcu := HC.out w1 hb1
  go_wp2_with fail
  refine hcu.mono ?_
  rintro e w2 ⟨A2, c2, rfl, ho2, hb2⟩
  have hbw2 := hb1.trans (hb2.mono hb1.size)
  have hbu := build_c k c2 A2 T per hp w2 (own_sl ho2) (by omega) (own_le ho2) hTm
  obtain ⟨S, hS⟩ : ∃ S, S = Bl.sizeF k per := ⟨_, rfl⟩
  have hS8 := Bl.size_ge k per
  have hS9 := Bl.size_le k per (by omega)
  rw [← hS] at hbu hS8 hS9
  have H2 := Lib.hid (And.intro (own_sl ho2) hbw2)
  have HSS := Lib.hid hS
  clear hcu ho2 hb2 hb1 hbw2 hS
  go_wp2_with fail
  refine hbu.mono ?_
  rintro e w3 ⟨A3, c3, rfl, ho3, hb3⟩
  have hle3 := own_le ho3
  have H3 := Lib.hid (And.intro (own_sl ho3) hb3)
  clear hbu ho3 hb3
  go_wp2_with fail
  go_loopw [17] (fun s17 wr => ∃ i : Nat, i ≤ k ∧ s17 = .int .i64 i ∧ Below w3.heap.size w3 wr) (fun j _ => k - (intOf j).toNat)
  case atStart => exact ⟨0, Nat.zero_le _, rfl, Below.refl _ _⟩
  case round =>
    obtain ⟨i, hi, rfl, hbr⟩ := hrel
    have hb23 := H3.out.2.trans (hbr.mono H3.out.2.size)
    have hbw := H2.out.2.trans (hb23.mono H2.out.2.size)
    by_cases hin : i < k
    · have hcN : (i : Int) < k := by omega
      have hs2 := H2.out.1.below hb23
      obtain ⟨b, o, u, rfl, hu, x0⟩ := hs2.at_ hin
      obtain ⟨key, hkey, rfl⟩ : ∃ key, T[i]? = some key ∧ u = svB key := by
        rw [List.getElem?_map] at hu
        cases h : T[i]? with
        | none => rw [h] at hu; cases hu
        | some key => rw [h] at hu; exact ⟨key, rfl, (Option.some.inj hu).symm⟩
      unfold svB at x0
      have hmy := may_c (S + 1) c3 A3 (Bl.build T per) key (hTm key (List.mem_of_getElem? hkey)) wr (H3.out.1.below hbr) (by omega) hle3
      rw [Bl.may_keeps T per (by rw [HK.out]; omega) key (List.mem_of_getElem? hkey)] at hmy
      have HB := Lib.hid hbr
      clear hb23 hbw hs2 hu hkey hbr
      go_wp2_with (go_at_call 27; refine hmy.mono ?_; rintro e w4 ⟨rfl, hb4⟩)
      exact ⟨⟨i + 1, by omega, by go_num, HB.out.trans (hb4.mono HB.out.size)⟩, by simp only [intOf]; omega⟩
    · have hcN : ¬ (i : Int) < k := by omega
      have h9 : (9 : Int) ≤ (S : Int) + 1 := by omega
      have HB := Lib.hid hbw
      clear hb23 hbw hbr
      go_wp2_with fail
      go_ret
      refine ⟨?_, HB.out⟩
      first | rfl | (simp; omega)
end Go.Proofs.Ytnbomifnbhijbaa
