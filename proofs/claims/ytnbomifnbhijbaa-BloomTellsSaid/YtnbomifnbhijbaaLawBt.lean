/-
  The law BloomTells as a walk.
-/
import Derived.Test.YtnbomifnbhijbaaBlL
namespace Go.Proofs.Ytnbomifnbhijbaa
open Go.RowKit
set_option linter.unusedVariables false

theorem size8 {n : Nat} {per : Int} (hn : n ≤ 6) (hp : per ≤ 10) : Bl.sizeF n per = 8 := by
  have h1 : Bl.perC per ≤ 10 := by unfold Bl.perC; omega
  have h2 : n * Bl.perC per ≤ 6 * 10 := Nat.mul_le_mul hn h1
  unfold Bl.sizeF; omega
set_option maxRecDepth 20000 in
set_option maxHeartbeats 4000000 in
theorem tells_law {w : World} {A0 : Option Addr} {n0 c0 : Nat} {ks : List (List UInt8)} (hs : Sl w A0 n0 (ks.map svB)) (hn : n0 ≤ 140737488355328) (hc : n0 ≤ c0) (hm : ∀ s ∈ ks, s.length ≤ 140737488355328) (per : Int) (hp : -9223372036854775808 ≤ per ∧ per ≤ 9223372036854775807)
    (s : ByteArray) (hl : s.data.toList.length ≤ 140737488355328) :
    Calls Try.prog 9 #[.slice A0 n0 c0, .int .i64 per, .string s] w fun e w' => e = .returned (.bool true) ∧ Below w.heap.size w w' := by
  rw [str_of s]
  generalize s.data.toList = l at hl ⊢
  have hkl : ks.length = n0 := by have := hs.1; simpa using this
  have HS := Lib.hid (And.intro hs hkl)
  clear hs hkl
  have hu0 : 0 ≤ IntKind.u64.wrap per := by rw [IntKind.wrap_u64]; exact Int.emod_nonneg _ (by decide)
  obtain ⟨p, hp1⟩ : ∃ p : Nat, (IntKind.u64.wrap per).tmod 10 = (p : Int) := ⟨((IntKind.u64.wrap per).tmod 10).toNat, by rw [Int.tmod_eq_emod_of_nonneg hu0]; have : 0 ≤ IntKind.u64.wrap per % 10 := Int.emod_nonneg _ (by decide); omega⟩
  have hp9 : p < 10 := by rw [Int.tmod_eq_emod_of_nonneg hu0] at hp1; have : IntKind.u64.wrap per % 10 < 10 := Int.emod_lt_of_pos _ (by decide); omega
  clear hu0
  have hpw : IntKind.i64.wrap (p : Int) = (p : Int) := IntWalk.i64_in _ (by omega)
  go_enter Try.func9, Try.ntmps9
  go_wp2_with fail
  refine (awake5_any _).mono ?_
  rintro e w1 ⟨rfl, hb1⟩
  by_cases h6 : (6 : Int) < n0
  · have hn6 : 6 ≤ n0 := by omega
    have hc6 : (6 : Int) ≤ c0 := by omega
    obtain ⟨T, hT⟩ : ∃ T, T = ks.take 6 := ⟨_, rfl⟩
    have hTl : T.length = 6 := by rw [hT, List.length_take, HS.out.2]; omega
    have hTm : ∀ s ∈ T, s.length ≤ 4611686018427387904 := fun s h => by
      rw [hT] at h
      have := hm s (List.mem_of_mem_take h)
      omega
    have hsT : Sl w1 A0 6 (T.map svB) := by
      have h1 := (HS.out.1.below hb1).take (k := 6) (by omega)
      rwa [← List.map_take, ← hT] at h1
    have hsF : Sl w1 A0 (3) ((T.take (3)).map svB) := by
      have h1 := hsT.take (k := 3) (by omega)
      rwa [← List.map_take] at h1
    have hFl : (T.take (3)).length = 3 := by rw [List.length_take, hTl]; omega
    have hFm : ∀ s ∈ T.take (3), s.length ≤ 4611686018427387904 := fun s h => hTm s (List.mem_of_mem_take h)
    have z1 : Bl.sizeF (3) ((p : Int) + 1) = 8 := size8 (by omega) (by omega)
    have z2 : Bl.sizeF 6 ((p : Int) + 1) = 8 := size8 (by omega) (by omega)
    have z3 : Bl.sizeF 0 ((p : Int) + 1) = 8 := size8 (by omega) (by omega)
    have hfew : Bl.may (Bl.build (T.take (3)) ((p : Int) + 1)) l = true → Bl.may (Bl.build T ((p : Int) + 1)) l = true := fun h => by
      have := Bl.may_fewer (T.take (3)) (T.drop (3)) ((p : Int) + 1) (by rw [List.take_append_drop, hTl]; omega) (by rw [List.take_append_drop, hFl, hTl, z1, z2]) l h
      rwa [List.take_append_drop] at this
    have HT := Lib.hid (And.intro hTm (And.intro hsT (And.intro hsF (And.intro hFm (And.intro z1 (And.intro z2 (And.intro z3 hfew)))))))
    clear hT hTm hsT hsF hFm z1 z2 z3 hfew hFl hTl
    go_wp2_with (at_builtin; refine wpList_app _ rfl (.tmp 21) (.tmp 26) 48 rfl w1.heap.size strElB (by decide) _ 0 [] rfl (World.ownsRow_made w1 #[] 0 (Nat.le_refl _) (Nat.zero_le _) rfl) A0 (3) c0 ((T.take (3)).map svB) rfl (HT.out.2.2.1.alloc _) (svB_one _) (by omega) (by simp) ?_; intro A2 c2 w2 hown2 hg2 hat2)
    rw [Nat.zero_add, List.nil_append] at hown2
    have hb2 : Below w1.heap.size w1 w2 := ((Below.refl _ w1).alloc (Nat.le_refl _) _).grown hg2 (by simp) (by intro k e; cases e; exact Nat.le_refl _)
    have hbu1 := build_c (3) c2 A2 (T.take (3)) ((p : Int) + 1) (by omega) w2 (own_sl hown2) (by omega) (own_le hown2) HT.out.2.2.2.1
    rw [HT.out.2.2.2.2.1] at hbu1
    refine hbu1.mono ?_
    rintro e w3 ⟨A3, c3, rfl, ho3, hb3⟩
    have hb13 : Below w1.heap.size w1 w3 := hb2.trans (hb3.mono hb2.size)
    have hsT3 := HT.out.2.1.below hb13
    have hle3 := own_le ho3
    have H3 := Lib.hid (And.intro (own_sl ho3) (And.intro hb13 hsT3))
    have hsz3 := hb13.size
    clear hbu1 hown2 hg2 hat2 hb2 ho3 hb3 hb13 hsT3
    go_wp2_with (at_builtin; refine wpList_app _ rfl (.tmp 30) (.tmp 31) 48 rfl w3.heap.size strElB (by decide) _ 0 [] rfl (World.ownsRow_made w3 #[] 0 (Nat.le_refl _) (Nat.zero_le _) rfl) A0 (6) c0 (T.map svB) rfl (H3.out.2.2.alloc _) (svB_one _) (by omega) (by simp) ?_; intro A4 c4 w4 hown4 hg4 hat4)
    rw [Nat.zero_add, List.nil_append] at hown4
    have hb4 : Below w3.heap.size w3 w4 := ((Below.refl _ w3).alloc (Nat.le_refl _) _).grown hg4 (by simp) (by intro k e; cases e; exact Nat.le_refl _)
    have hbu2 := build_c (6) c4 A4 T ((p : Int) + 1) (by omega) w4 (own_sl hown4) (by omega) (own_le hown4) HT.out.1
    rw [HT.out.2.2.2.2.2.1] at hbu2
    refine hbu2.mono ?_
    rintro e w5 ⟨A5, c5, rfl, ho5, hb5⟩
    have hb35 : Below w3.heap.size w3 w5 := hb4.trans (hb5.mono hb4.size)
    have hb15 : Below w1.heap.size w1 w5 := H3.out.2.1.trans (hb35.mono H3.out.2.1.size)
    have hle5 := own_le ho5
    have hbu3 := build_c 0 0 none [] ((p : Int) + 1) (by omega) w5 (Sl.none_ w5 none) (by omega) (by omega) (fun s h => by cases h)
    rw [HT.out.2.2.2.2.2.2.1] at hbu3
    have H5 := Lib.hid (And.intro (own_sl ho5) (And.intro (H3.out.1.below hb35) hb15))
    clear hbu2 hown4 hg4 hat4 hb4 ho5 hb5 hb35 hb15
    go_wp2_with fail
    refine hbu3.mono ?_
    rintro e w6 ⟨A6, c6, rfl, ho6, hb6⟩
    have hmn := may_c 9 c6 A6 (Bl.build [] ((p : Int) + 1)) l (by omega) w6 (own_sl ho6) (by omega) (own_le ho6)
    rw [Bl.may_none] at hmn
    have H6 := Lib.hid hb6
    clear hbu3 ho6 hb6
    go_wp2_with fail
    refine hmn.mono ?_
    rintro e w7 ⟨rfl, hb7⟩
    have hb57 : Below w5.heap.size w5 w7 := H6.out.trans (hb7.mono H6.out.size)
    have hma := may_c 9 c5 A5 (Bl.build T ((p : Int) + 1)) l (by omega) w7 (H5.out.1.below hb57) (by omega) hle5
    have hmf := fun (V : World) (hV : Below w7.heap.size w7 V) => may_c 9 c3 A3 (Bl.build (T.take (3)) ((p : Int) + 1)) l (by omega) V ((H5.out.2.1.below hb57).below hV) (by omega) hle3
    have hff := HT.out.2.2.2.2.2.2.2
    generalize Bl.may (Bl.build T ((p : Int) + 1)) l = ma at hma hff
    generalize Bl.may (Bl.build (T.take (3)) ((p : Int) + 1)) l = mf at hmf hff
    have hbw7 := H5.out.2.2.trans (hb57.mono H5.out.2.2.size)
    have HMF := Lib.hid hmf
    have HBW := Lib.hid (hb1.trans (hbw7.mono hb1.size))
    clear hmn hb7 hmf hb57 hbw7
    cases ma with
    | true =>
      clear hff
      go_wp2_with (go_at_call 27; refine hma.mono ?_; rintro e w8 ⟨rfl, hb8⟩)
      go_ret
      exact ⟨rfl, HBW.out.trans (hb8.mono HBW.out.size)⟩
    | false =>
      obtain rfl : mf = false := by cases mf with
        | false => rfl
        | true => exact absurd (hff rfl) (by decide)
      clear hff
      go_wp2_with fail
      refine hma.mono ?_
      rintro e w8 ⟨rfl, hb8⟩
      have hmf8 := HMF.out w8 hb8
      have hb9 := HBW.out.trans (hb8.mono HBW.out.size)
      have HB9 := Lib.hid hb9
      clear hma hb8 hb9
      go_wp2_with (go_at_call 27; refine hmf8.mono ?_; rintro e w9 ⟨rfl, hb10⟩)
      go_ret
      exact ⟨rfl, HB9.out.trans (hb10.mono HB9.out.size)⟩
  · have hn6 : n0 ≤ 6 := by omega
    have hc6 : (n0 : Int) ≤ c0 := by omega
    obtain ⟨T, hT⟩ : ∃ T, T = ks.take n0 := ⟨_, rfl⟩
    have hTl : T.length = n0 := by rw [hT, List.length_take, HS.out.2]; omega
    have hTm : ∀ s ∈ T, s.length ≤ 4611686018427387904 := fun s h => by
      rw [hT] at h
      have := hm s (List.mem_of_mem_take h)
      omega
    have hsT : Sl w1 A0 n0 (T.map svB) := by
      have h1 := (HS.out.1.below hb1).take (k := n0) (by omega)
      rwa [← List.map_take, ← hT] at h1
    have hsF : Sl w1 A0 (n0 / 2) ((T.take (n0 / 2)).map svB) := by
      have h1 := hsT.take (k := n0 / 2) (by omega)
      rwa [← List.map_take] at h1
    have hFl : (T.take (n0 / 2)).length = n0 / 2 := by rw [List.length_take, hTl]; omega
    have hFm : ∀ s ∈ T.take (n0 / 2), s.length ≤ 4611686018427387904 := fun s h => hTm s (List.mem_of_mem_take h)
    have z1 : Bl.sizeF (n0 / 2) ((p : Int) + 1) = 8 := size8 (by omega) (by omega)
    have z2 : Bl.sizeF n0 ((p : Int) + 1) = 8 := size8 (by omega) (by omega)
    have z3 : Bl.sizeF 0 ((p : Int) + 1) = 8 := size8 (by omega) (by omega)
    have hfew : Bl.may (Bl.build (T.take (n0 / 2)) ((p : Int) + 1)) l = true → Bl.may (Bl.build T ((p : Int) + 1)) l = true := fun h => by
      have := Bl.may_fewer (T.take (n0 / 2)) (T.drop (n0 / 2)) ((p : Int) + 1) (by rw [List.take_append_drop, hTl]; omega) (by rw [List.take_append_drop, hFl, hTl, z1, z2]) l h
      rwa [List.take_append_drop] at this
    have HT := Lib.hid (And.intro hTm (And.intro hsT (And.intro hsF (And.intro hFm (And.intro z1 (And.intro z2 (And.intro z3 hfew)))))))
    clear hT hTm hsT hsF hFm z1 z2 z3 hfew hFl hTl
    go_wp2_with (at_builtin; refine wpList_app _ rfl (.tmp 21) (.tmp 26) 48 rfl w1.heap.size strElB (by decide) _ 0 [] rfl (World.ownsRow_made w1 #[] 0 (Nat.le_refl _) (Nat.zero_le _) rfl) A0 (n0 / 2) c0 ((T.take (n0 / 2)).map svB) rfl (HT.out.2.2.1.alloc _) (svB_one _) (by omega) (by simp) ?_; intro A2 c2 w2 hown2 hg2 hat2)
    rw [Nat.zero_add, List.nil_append] at hown2
    have hb2 : Below w1.heap.size w1 w2 := ((Below.refl _ w1).alloc (Nat.le_refl _) _).grown hg2 (by simp) (by intro k e; cases e; exact Nat.le_refl _)
    have hbu1 := build_c (n0 / 2) c2 A2 (T.take (n0 / 2)) ((p : Int) + 1) (by omega) w2 (own_sl hown2) (by omega) (own_le hown2) HT.out.2.2.2.1
    rw [HT.out.2.2.2.2.1] at hbu1
    refine hbu1.mono ?_
    rintro e w3 ⟨A3, c3, rfl, ho3, hb3⟩
    have hb13 : Below w1.heap.size w1 w3 := hb2.trans (hb3.mono hb2.size)
    have hsT3 := HT.out.2.1.below hb13
    have hle3 := own_le ho3
    have H3 := Lib.hid (And.intro (own_sl ho3) (And.intro hb13 hsT3))
    have hsz3 := hb13.size
    clear hbu1 hown2 hg2 hat2 hb2 ho3 hb3 hb13 hsT3
    go_wp2_with (at_builtin; refine wpList_app _ rfl (.tmp 30) (.tmp 31) 48 rfl w3.heap.size strElB (by decide) _ 0 [] rfl (World.ownsRow_made w3 #[] 0 (Nat.le_refl _) (Nat.zero_le _) rfl) A0 (n0) c0 (T.map svB) rfl (H3.out.2.2.alloc _) (svB_one _) (by omega) (by simp) ?_; intro A4 c4 w4 hown4 hg4 hat4)
    rw [Nat.zero_add, List.nil_append] at hown4
    have hb4 : Below w3.heap.size w3 w4 := ((Below.refl _ w3).alloc (Nat.le_refl _) _).grown hg4 (by simp) (by intro k e; cases e; exact Nat.le_refl _)
    have hbu2 := build_c (n0) c4 A4 T ((p : Int) + 1) (by omega) w4 (own_sl hown4) (by omega) (own_le hown4) HT.out.1
    rw [HT.out.2.2.2.2.2.1] at hbu2
    refine hbu2.mono ?_
    rintro e w5 ⟨A5, c5, rfl, ho5, hb5⟩
    have hb35 : Below w3.heap.size w3 w5 := hb4.trans (hb5.mono hb4.size)
    have hb15 : Below w1.heap.size w1 w5 := H3.out.2.1.trans (hb35.mono H3.out.2.1.size)
    have hle5 := own_le ho5
    have hbu3 := build_c 0 0 none [] ((p : Int) + 1) (by omega) w5 (Sl.none_ w5 none) (by omega) (by omega) (fun s h => by cases h)
    rw [HT.out.2.2.2.2.2.2.1] at hbu3
    have H5 := Lib.hid (And.intro (own_sl ho5) (And.intro (H3.out.1.below hb35) hb15))
    clear hbu2 hown4 hg4 hat4 hb4 ho5 hb5 hb35 hb15
    go_wp2_with fail
    refine hbu3.mono ?_
    rintro e w6 ⟨A6, c6, rfl, ho6, hb6⟩
    have hmn := may_c 9 c6 A6 (Bl.build [] ((p : Int) + 1)) l (by omega) w6 (own_sl ho6) (by omega) (own_le ho6)
    rw [Bl.may_none] at hmn
    have H6 := Lib.hid hb6
    clear hbu3 ho6 hb6
    go_wp2_with fail
    refine hmn.mono ?_
    rintro e w7 ⟨rfl, hb7⟩
    have hb57 : Below w5.heap.size w5 w7 := H6.out.trans (hb7.mono H6.out.size)
    have hma := may_c 9 c5 A5 (Bl.build T ((p : Int) + 1)) l (by omega) w7 (H5.out.1.below hb57) (by omega) hle5
    have hmf := fun (V : World) (hV : Below w7.heap.size w7 V) => may_c 9 c3 A3 (Bl.build (T.take (n0 / 2)) ((p : Int) + 1)) l (by omega) V ((H5.out.2.1.below hb57).below hV) (by omega) hle3
    have hff := HT.out.2.2.2.2.2.2.2
    generalize Bl.may (Bl.build T ((p : Int) + 1)) l = ma at hma hff
    generalize Bl.may (Bl.build (T.take (n0 / 2)) ((p : Int) + 1)) l = mf at hmf hff
    have hbw7 := H5.out.2.2.trans (hb57.mono H5.out.2.2.size)
    have HMF := Lib.hid hmf
    have HBW := Lib.hid (hb1.trans (hbw7.mono hb1.size))
    clear hmn hb7 hmf hb57 hbw7
    cases ma with
    | true =>
      clear hff
      go_wp2_with (go_at_call 27; refine hma.mono ?_; rintro e w8 ⟨rfl, hb8⟩)
      go_ret
      exact ⟨rfl, HBW.out.trans (hb8.mono HBW.out.size)⟩
    | false =>
      obtain rfl : mf = false := by cases mf with
        | false => rfl
        | true => exact absurd (hff rfl) (by decide)
      clear hff
      go_wp2_with fail
      refine hma.mono ?_
      rintro e w8 ⟨rfl, hb8⟩
      have hmf8 := HMF.out w8 hb8
      have hb9 := HBW.out.trans (hb8.mono HBW.out.size)
      have HB9 := Lib.hid hb9
      clear hma hb8 hb9
      go_wp2_with (go_at_call 27; refine hmf8.mono ?_; rintro e w9 ⟨rfl, hb10⟩)
      go_ret
      exact ⟨rfl, HB9.out.trans (hb10.mono HB9.out.size)⟩
end Go.Proofs.Ytnbomifnbhijbaa
