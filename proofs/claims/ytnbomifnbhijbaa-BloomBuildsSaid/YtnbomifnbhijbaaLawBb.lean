/-
  The law BloomBuilds as a walk.
-/
import Derived.Test.YtnbomifnbhijbaaBlL
import Derived.Deep.RegionHeldLaw
namespace Go.Proofs.Ytnbomifnbhijbaa
open Go.RowKit
set_option linter.unusedVariables false

set_option maxRecDepth 20000 in
set_option maxHeartbeats 4000000 in
theorem builds_law {w : World} {A0 : Option Addr} {n0 c0 : Nat} {ks : List (List UInt8)} (hs : Sl w A0 n0 (ks.map svB)) (hn : n0 ≤ 140737488355328) (hc : n0 ≤ c0) (hm : ∀ s ∈ ks, s.length ≤ 140737488355328) (per : Int) (hp : -9223372036854775808 ≤ per ∧ per ≤ 9223372036854775807)
    (s : ByteArray) (hl : s.data.toList.length ≤ 140737488355328) :
    Calls Try.prog 6 #[.slice A0 n0 c0, .int .i64 per, .string s] w fun e w' => e = .returned (.bool true) ∧ Below w.heap.size w w' := by
  rw [str_of s]
  generalize s.data.toList = l at hl ⊢
  have HS := Lib.hid hs
  clear hs
  obtain ⟨T, hT⟩ : ∃ T, T = ks.take 200 := ⟨_, rfl⟩
  have hTm : ∀ s ∈ T, s.length ≤ 4611686018427387904 := fun s h => by
    rw [hT] at h
    have := hm s (List.mem_of_mem_take h)
    omega
  have hT2 : T.length ≤ 200 := by rw [hT, List.length_take]; omega
  have hcut := fun (V : World) (hV : Below w.heap.size w V) => cut5_any A0 n0 c0 ks V (HS.out.below hV) hn hc
  rw [← hT] at hcut
  obtain ⟨k, hk⟩ : ∃ k, T.length = k := ⟨_, rfl⟩
  have hTT : T.take 200 = T := List.take_of_length_le hT2
  clear hT
  rw [hk] at hcut hT2
  have HC := Lib.hid hcut
  have HK := Lib.hid (And.intro hk hTT)
  clear hcut hk hTT
  go_enter Try.func6, Try.ntmps6
  go_wp2_with fail
  refine (awake5_any _).mono ?_
  rintro e w1 ⟨rfl, hb1⟩
  have hcu := HC.out w1 hb1
  go_wp2_with fail
  refine hcu.mono ?_
  rintro e w2 ⟨A2, c2, rfl, ho2, hb2⟩
  have hbw2 := hb1.trans (hb2.mono hb1.size)
  have hcu2 := cut5_any A2 k c2 T w2 (own_sl ho2) (by omega) (own_le ho2)
  rw [HK.out.2, HK.out.1] at hcu2
  have hle2 := own_le ho2
  have H2 := Lib.hid (And.intro (own_sl ho2) hbw2)
  clear hcu ho2 hb2 hb1 hbw2
  go_wp2_with fail
  refine hcu2.mono ?_
  rintro e w3 ⟨A3, c3, rfl, ho3, hb3⟩
  have hbu := build_c k c3 A3 T per hp w3 (own_sl ho3) (by omega) (own_le ho3) hTm
  obtain ⟨S, hS⟩ : ∃ S, S = Bl.sizeF k per := ⟨_, rfl⟩
  have hS8 := Bl.size_ge k per
  have hS9 := Bl.size_le k per (by omega)
  rw [← hS] at hbu hS8 hS9
  have H3 := Lib.hid hb3
  have HSS := Lib.hid hS
  clear hcu2 ho3 hb3 hS
  go_wp2_with fail
  refine hbu.mono ?_
  rintro e w4 ⟨A4, c4, rfl, ho4, hb4⟩
  have hle4 := own_le ho4
  have hs4 := own_sl ho4
  have hb24 : Below w2.heap.size w2 w4 := H3.out.trans (hb4.mono H3.out.size)
  have hs2 := H2.out.1.below hb24
  have hbw4 := H2.out.2.trans (hb24.mono H2.out.2.size)
  have hFl : (Bl.build T per).length = S + 1 := by rw [Bl.build_len, HK.out.1, HSS.out]
  generalize hF : Bl.build T per = F at hs4 hFl
  have hcF : ∀ V : World, Below w4.heap.size w4 V → (convert 50 9 (.slice A4 (S + 1) c4)).run Try.prog V = .ok (.string (str F)) V := fun V hV =>
    run_str (P := Try.prog) (c := c4) (hs4.below hV) 50 5 9 Try.underlying50 Try.underlying5 Try.underlying9
  have HRB : Hid (∀ V : World, Below w4.heap.size w4 V → Calls Try.prog 24 #[.slice A2 k c2, .int .i64 per] V fun e w' => ∃ A' c', e = .returned (.slice A' (S + 1) c') ∧ w'.ownsRow V.heap.size 5 1 (.slice A' (S + 1) c') (S + 1) (bv F) ∧ Below V.heap.size V w') := fun V hV => by
    have := rbuild_any k c2 A2 T per hp V (hs2.below hV) (by omega) hle2 hTm
    rwa [← HSS.out, hF] at this
  have HH1 : Hid (∀ V : World, Calls Try.prog 25 #[.string (str l)] V fun e w' => e = .returned (.int .u32 ((Bl.hash l : Nat) : Int)) ∧ Below V.heap.size V w') := fun V => (hash_any l (by omega) V).mono fun e w' h => ⟨h.1, by rw [h.2]; exact Below.refl _ _⟩
  have HH2 : Hid (∀ V : World, Calls Try.prog 26 #[.string (str l)] V fun e w' => e = .returned (.int .i64 ((Bl.hash l : Nat) : Int)) ∧ Below V.heap.size V w') := fun V => (rhash_any l (by omega) V).mono fun e w' h => ⟨h.1, by rw [h.2]; exact Below.refl _ _⟩
  have HM1 : Hid (∀ V : World, Below w4.heap.size w4 V → Calls Try.prog 27 #[.slice A4 (S + 1) c4, .string (str l)] V fun e w' => e = .returned (.bool (Bl.may F l)) ∧ Below V.heap.size V w') := fun V hV => may_c (S + 1) c4 A4 F l (by omega) V (hs4.below hV) (by omega) hle4
  have HM2 : Hid (∀ V : World, Below w4.heap.size w4 V → Calls Try.prog 28 #[.slice A4 (S + 1) c4, .string (str l)] V fun e w' => e = .returned (.bool (Bl.may F l)) ∧ Below V.heap.size V w') := fun V hV => rmay_any (S + 1) c4 A4 F l (by omega) V (hs4.below hV) (by omega) hle4
  have hhl := Bl.hash_lt l
  have HB4 := Lib.hid hbw4
  generalize Bl.hash l = H at HH1 HH2 hhl
  have hwr : IntKind.i64.wrap ((H : Nat) : Int) = ((H : Nat) : Int) := IntWalk.i64_in _ (by omega)
  generalize Bl.may F l = Mx at HM1 HM2
  clear hbu ho4 hb4 hs4 hb24 hs2 hbw4 hF
  go_wp2_with fail
  have hb0 : Below w4.heap.size w4 w4.drew := (Below.refl _ _).drew
  go_region_held (fun V => Below w4.heap.size w4 V) (first | assumption) (first
    | (go_at_call 24; refine (HRB.out _ (by assumption)).mono ?_; rintro e w5 ⟨A5, c5, rfl, hown5, hb5'⟩; have hcv5 : (convert 50 9 (.slice A5 (S + 1) c5)).run Try.prog w5 = .ok (.string (str F)) w5 := run_str (P := Try.prog) (c := c5) (own_sl hown5) 50 5 9 Try.underlying50 Try.underlying5 Try.underlying9; have hb5 : Below w4.heap.size w4 w5 := hb0.trans (hb5'.mono hb0.size); clear hown5 hb5')
    | (go_at_call 25; refine (HH1.out _).mono ?_; rintro e w6 ⟨rfl, hb6'⟩; have hb6 : Below w4.heap.size w4 w6 := hb5.trans (hb6'.mono hb5.size); clear hb6')
    | (go_at_call 26; refine (HH2.out _).mono ?_; rintro e w7 ⟨rfl, hb7'⟩; have hb7 : Below w4.heap.size w4 w7 := hb6.trans (hb7'.mono hb6.size); clear hb7')
    | (go_at_call 27; refine (HM1.out _ hb7).mono ?_; rintro e w8 ⟨rfl, hb8'⟩; have hb8 : Below w4.heap.size w4 w8 := hb7.trans (hb8'.mono hb7.size); clear hb8')
    | (go_at_call 28; refine (HM2.out _ hb8).mono ?_; rintro e w9 ⟨rfl, hb9'⟩; have hb9 : Below w4.heap.size w4 w9 := hb8.trans (hb9'.mono hb8.size); clear hb9'))
  go_wp2_with fail
  go_ret
  refine ⟨?_, HB4.out.trans (hb9.mono HB4.out.size)⟩
  simp
end Go.Proofs.Ytnbomifnbhijbaa
