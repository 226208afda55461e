/-
  The names of a drive's files in order, and what a loss of power leaves.
-/
import Derived.Test.YtnbomifnbhijbaaGreatDoorDrG
namespace Go.Proofs.YtnbomifnbhijbaaGreatDoor
open Go.RowKit Go.Maps Go.Sort
set_option linter.unusedVariables false

theorem bytes_lt : ∀ {a b : List UInt8}, bytesBefore a b = true → a < b
  | [], [], h => by simp [bytesBefore] at h
  | [], b :: s, _ => List.nil_lt_cons b s
  | a :: r, [], h => by simp [bytesBefore] at h
  | a :: r, b :: s, h => by
    simp only [bytesBefore, Bool.or_eq_true, decide_eq_true_eq, Bool.and_eq_true, beq_iff_eq] at h
    rw [List.cons_lt_cons_iff]
    rcases h with h | ⟨h1, h2⟩
    · exact .inl h
    · exact .inr ⟨h1, bytes_lt h2⟩
theorem names_sorted {gs : List Gm} (h : Rises Gm.name gs) {ss : List (List UInt8)} (hp : ss.Perm (gs.map Gm.name)) : ss.mergeSort (fun x y => decide (x ≤ y)) = gs.map Gm.name := by
  rw [show ss.mergeSort (fun x y => decide (x ≤ y)) = (gs.map Gm.name).mergeSort (fun x y => decide (x ≤ y)) from mergeSort_of_perm hp]
  apply List.mergeSort_of_pairwise
  refine List.pairwise_map.2 (List.Pairwise.imp ?_ h)
  intro a b hab
  have := bytes_lt hab
  simp only [decide_eq_true_eq]
  exact List.le_of_lt this

def sv (s : List UInt8) : Value := .string (str s)

set_option maxHeartbeats 4000000 in
theorem names_any {w : World} {pb mb : Nat} {gs : List Gm} {st lf : Int} {ar : Bool} (h : Dr w pb mb gs st ar lf) :
    Calls Tryz.prog 45 #[.pointer (some ⟨pb, 0, none⟩)] w fun e w' => ∃ A c, e = .returned (.slice A gs.length c) ∧ w'.ownsRow w.heap.size 9 1 (.slice A gs.length c) gs.length (gs.map fun g => sv g.name) ∧ Below w.heap.size w w' := by
  have c0 := h.c0
  have hfew := h.few
  have hct := (callsIn_wide (n := 5)).1 (Tryz.slices_Sorted_keys_73_74 mb gs.length (.map (ents Gm.name dat gs)) R w h.map (by rw [ents_size]; simp only [maxLen]; omega) (by rw [ents_size]; omega))
  have hns := fun (ss : List (List UInt8)) (hp : ss.Perm (strKeys (DataW.map (ents Gm.name dat gs)))) => names_sorted h.rises (ss := ss) (by rwa [ents_keys] at hp)
  have HS := Lib.hid hns
  clear h hns
  go_enter Tryz.func45, Tryz.ntmps45
  go_wp2_with (first
    | (go_at_call 74; refine ((callsIn_wide (n := 5)).1 (Tryz.maps_Keys_74 _ _)).mono ?_; rintro e w' ⟨rfl, rfl⟩)
    | (go_at_call 73; refine hct.mono ?_; rintro e w2 ⟨v, ss, rfl, hS, hrow, hnil, hb⟩))
  go_ret
  have hss := HS.out ss hS
  have hlen : ss.length = gs.length := by rw [hS.length_eq, ents_keys, List.length_map]
  rw [hss, hlen, List.map_map] at hrow
  have hbb : Below w.heap.size w w2 := ((Below.refl _ w).alloc (Nat.le_refl _) _).trans (hb.mono (by simp))
  have hrow' : w2.ownsRow w.heap.size 9 1 v gs.length (gs.map fun g => sv g.name) := own_base hrow (by simp)
  obtain ⟨A, c, rfl⟩ := own_form hrow'
  exact ⟨A, c, rfl, hrow', hbb⟩
end Go.Proofs.YtnbomifnbhijbaaGreatDoor
