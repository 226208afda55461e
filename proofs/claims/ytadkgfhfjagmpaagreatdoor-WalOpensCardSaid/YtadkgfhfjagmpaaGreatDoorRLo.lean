/-
  The reference's Load: does a name come twice.
-/
import Derived.Test.YtadkgfhfjagmpaaGreatDoorLoB
import Derived.Test.YtadkgfhfjagmpaaGreatDoorGRh
namespace Go.Proofs.YtadkgfhfjagmpaaGreatDoor
open Go.RowKit Go.Maps
set_option linter.unusedVariables false

theorem nodup_snoc {ns : List (List UInt8)} {k : Nat} {s : List UInt8} (hs : ns[k]? = some s) : (ns.take (k + 1)).Nodup ↔ (ns.take k).Nodup ∧ ∀ j t, j < k → ns[j]? = some t → t ≠ s := by
  rw [List.take_add_one, hs]
  simp only [Option.toList_some, List.nodup_append, List.nodup_cons, List.not_mem_nil, not_false_eq_true, List.nodup_nil, and_true, true_and, List.mem_singleton, forall_eq]
  constructor
  · rintro ⟨h1, h2⟩
    refine ⟨h1, fun j t hj ht => h2 t ?_⟩
    rw [List.mem_take_iff_getElem]
    have hjl := (List.getElem?_eq_some_iff.1 ht)
    exact ⟨j, by have := hjl.1; omega, hjl.2⟩
  · rintro ⟨h1, h2⟩
    refine ⟨h1, fun t ht => ?_⟩
    rw [List.mem_take_iff_getElem] at ht
    obtain ⟨j, hj, e⟩ := ht
    exact h2 j t (by omega) (by rw [List.getElem?_eq_getElem (by omega), e])

set_option maxHeartbeats 4000000 in
theorem rtwice_any (A : Option Addr) (n c : Nat) (ns : List (List UInt8)) (w : World) (hs : Sl w A n (ns.map sv)) (hn9 : n ≤ 1000000) :
    Calls Tryz.prog 55 #[.slice A n c] w fun e w' => e = .returned (.bool (decide (¬ ns.Nodup))) ∧ Below w.heap.size w w' := by
  have hl : ns.length = n := by have := hs.1; simpa using this
  have htl : ∀ l, (str l).toList = l := fun l => ByteArray.toList_mk l
  have HS := Lib.hid (And.intro hs hl)
  clear hs hl
  go_enter Tryz.func55, Tryz.ntmps55
  go_wp2_with fail
  go_loopw [3] (fun j wr => ∃ k : Nat, k ≤ n ∧ j = .int .i64 k ∧ (ns.take k).Nodup ∧ Below w.heap.size w wr) (fun j _ => n - (intOf j).toNat)
  case atStart => exact ⟨0, Nat.zero_le _, rfl, by simp, Below.refl _ _⟩
  case round =>
    obtain ⟨k, hk, rfl, hnd, hbel⟩ := hrel
    by_cases hin : k < n
    · have hcN : (k : Int) < n := by omega
      have hk0 : (0 : Int) ≤ k := by omega
      obtain ⟨s, hs⟩ : ∃ s, ns[k]? = some s := ⟨_, List.getElem?_eq_getElem (by have := HS.out.2; omega)⟩
      have hkey := nodup_snoc hs
      have HX := Lib.hid (And.intro hnd (And.intro hkey hs))
      have HB := Lib.hid hbel
      clear hnd hkey hs hbel
      obtain ⟨wo, rfl⟩ : ∃ wo : World, wo = wr := ⟨_, rfl⟩
      go_wp2_with fail
      go_loopw [4] (fun j wr => ∃ q : Nat, q ≤ k ∧ j = .int .i64 q ∧ (∀ j t, j < q → ns[j]? = some t → t ≠ s) ∧ Below w.heap.size w wr) (fun j _ => k - (intOf j).toNat)
      case atStart => exact ⟨0, Nat.zero_le _, rfl, fun j t hj => by omega, HB.out⟩
      case round =>
        obtain ⟨q, hq, rfl, hno, hbq⟩ := hrel
        have HN := Lib.hid hno
        clear hno
        by_cases hqk : q < k
        · have hcq : (q : Int) < k := by omega
          have hq0 : (0 : Int) ≤ q := by omega
          have hqn : (q : Int) < n := by omega
          obtain ⟨b, o, u, e1, hu, x0⟩ := (HS.out.1.below hbq).at_ hin
          subst e1
          rw [List.getElem?_map, HX.out.2.2] at hu
          have hu := (Option.some.inj hu).symm
          subst hu
          obtain ⟨_, _, u2, e2, hu2, y0⟩ := (HS.out.1.below hbq).at_ (k := q) (by omega)
          cases e2
          obtain ⟨t, ht⟩ : ∃ t, ns[q]? = some t := ⟨_, List.getElem?_eq_getElem (by have := HS.out.2; omega)⟩
          rw [List.getElem?_map, ht] at hu2
          have hu2 := (Option.some.inj hu2).symm
          subst hu2
          have HQ := Lib.hid (And.intro ht hbq)
          unfold sv at x0 y0
          clear ht hbq
          by_cases he : s = t
          · subst he
            clear hu hu2
            go_wp2_with fail
            go_quiet (fail)
            go_wp2_with fail
            go_ret
            refine ⟨?_, HQ.out.2.trans ⟨rfl, rfl, rfl, Nat.le_refl _, fun _ _ => rfl⟩⟩
            have : ¬ ns.Nodup := fun h => by
              have h1 := HX.out.2.1.1 (h.sublist (List.take_sublist _ _))
              exact h1.2 q s hqk HQ.out.1 rfl
            rw [decide_eq_true this]
            rfl
          · have heq : (s == t) = false := by simpa using he
            have HE := Lib.hid he
            clear he hu hu2
            go_wp2_with fail
            go_quiet (fail)
            go_wp2_with fail
            refine ⟨⟨q + 1, by omega, by go_num, fun j t' hj ht' => ?_, HQ.out.2.trans ⟨rfl, rfl, rfl, Nat.le_refl _, fun _ _ => rfl⟩⟩, by simp [intOf]; omega⟩
            by_cases hjq : j = q
            · subst hjq
              rw [HQ.out.1] at ht'
              intro e
              exact HE.out (by rw [← e]; exact (Option.some.inj ht').symm)
            · exact HN.out j t' (by omega) ht'
        · have hcq : ¬ (q : Int) < k := by omega
          obtain rfl : q = k := by omega
          go_wp2_with fail
          exact ⟨⟨q + 1, by omega, by go_num, HX.out.2.1.2 ⟨HX.out.1, HN.out⟩, hbq⟩, by simp [intOf]; omega⟩
    · have hcN : ¬ (k : Int) < n := by omega
      rw [List.take_of_length_le (by have := HS.out.2; omega)] at hnd
      have HA := Lib.hid hnd
      clear hnd
      go_wp2_with fail
      go_ret
      exact ⟨by rw [decide_eq_true HA.out]; rfl, hbel⟩
end Go.Proofs.YtadkgfhfjagmpaaGreatDoor
