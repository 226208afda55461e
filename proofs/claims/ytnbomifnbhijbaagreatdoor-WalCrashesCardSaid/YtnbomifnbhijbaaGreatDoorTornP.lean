/-
  Plain mathematics: frames one behind the other, cut anywhere (for a log).
-/
import Derived.Test.YtnbomifnbhijbaaGreatDoorWaK
namespace Go.Proofs.YtnbomifnbhijbaaGreatDoor
open Go.RowKit Num Crc
set_option linter.unusedVariables false

/-- What was sealed is taken back, whatever stands behind it. -/
theorem tk_seal {p : List UInt8} (hp : p.length ≤ 4096) (r : List UInt8) : tk (seal_ p ++ r) = (p, (seal_ p).length) := by
  have ht : tu (seal_ p ++ r) = (p.length, (vint p.length).length) := by
    unfold seal_
    rw [List.append_assoc, tu_vint (by omega)]
  have hv := vint_pos p.length
  unfold tk
  rw [ht]
  have hl := seal_len p
  have e4 : (List.drop (vint p.length).length (seal_ p ++ r)).take 4 = sumle (Crc.sum p) := by
    unfold seal_
    rw [List.append_assoc, List.drop_left, List.append_assoc, List.take_append_of_le_length (by rw [sumle_len]; omega)]
    exact List.take_of_length_le (by rw [sumle_len]; omega)
  have ep : (List.drop ((vint p.length).length + 4) (seal_ p ++ r)).take p.length = p := by
    rw [← List.drop_drop]
    unfold seal_
    rw [List.append_assoc, List.drop_left, List.append_assoc, show 4 = (sumle (Crc.sum p)).length from rfl, List.drop_left, List.take_left]
  simp only [ep, e4, if_true]
  rw [if_neg (by rw [List.length_append, hl]; omega), hl]

def flat (gs : List (List UInt8)) : List UInt8 := (gs.map seal_).flatten
theorem flat_nil : flat [] = [] := rfl
theorem flat_cons (g : List UInt8) (gs : List (List UInt8)) : flat (g :: gs) = seal_ g ++ flat gs := by simp [flat]
theorem flat_app (a b : List (List UInt8)) : flat (a ++ b) = flat a ++ flat b := by simp [flat]
theorem flat_one (g : List UInt8) : flat [g] = seal_ g := by simp [flat]
theorem scan_seal {p : List UInt8} (hp : p.length ≤ 4096) (r : List UInt8) : scan (seal_ p ++ r) = (p :: (scan r).1, (seal_ p).length + (scan r).2) := by
  have h := tk_seal hp r
  have hs : 0 < (seal_ p).length := by rw [seal_len]; omega
  have h0 : ¬ (tk (seal_ p ++ r)).2 = 0 := by rw [h]; simp only; omega
  rw [scan_step h0, h]
  simp
theorem scan_flat : ∀ (gs : List (List UInt8)), (∀ g ∈ gs, g.length ≤ 4096) → ∀ r, scan (flat gs ++ r) = (gs ++ (scan r).1, (flat gs).length + (scan r).2)
  | [], _, r => by simp [flat]
  | g :: gs, h, r => by
    rw [flat_cons, List.append_assoc, scan_seal (h g (by simp)), scan_flat gs (fun x hx => h x (by simp [hx]))]
    simp; omega
theorem scan_nil : scan [] = ([], 0) := scan_stop (by decide +kernel)
theorem scan_whole {gs : List (List UInt8)} (h : ∀ g ∈ gs, g.length ≤ 4096) : scan (flat gs) = (gs, (flat gs).length) := by
  have := scan_flat gs h []
  rw [List.append_nil, scan_nil] at this
  simpa using this

/-- A number that is cut is none. -/
theorem dec_cut : ∀ (n j : Nat), j < (vint n).length → dec ((vint n).take j) = none := by
  intro n
  induction n using Nat.strongRecOn with
  | _ n ih =>
    intro j hj
    rcases Nat.lt_or_ge n 128 with h | h
    · rw [vint_small h] at hj
      have : j = 0 := by simp at hj; omega
      subst this; simp [dec]
    · rw [vint_big h] at hj ⊢
      cases j with
      | zero => simp [dec]
      | succ j =>
        have e : (UInt8.ofNat (n % 128 + 128)).toNat = n % 128 + 128 := toNat_ofNat (by omega)
        rw [List.take_succ_cons, dec_hi (by omega), ih (n / 128) (by omega) j (by simpa using hj)]
theorem tk_cut {p : List UInt8} (hp : p.length ≤ 4096) {j : Nat} (hj : j < (seal_ p).length) : (tk ((seal_ p).take j)).2 = 0 := by
  have hl := seal_len p
  have hv := vint_pos p.length
  rcases Nat.lt_or_ge j (vint p.length).length with h | h
  · have e : (seal_ p).take j = (vint p.length).take j := by
      unfold seal_; rw [List.take_append_of_le_length (by omega)]
    have ht : tu ((seal_ p).take j) = (0, 0) := by
      unfold tu; rw [e, dec_cut _ _ h]
    unfold tk; rw [ht, if_pos (.inl rfl)]
  · have e : (seal_ p).take j = vint p.length ++ (sumle (Crc.sum p) ++ p).take (j - (vint p.length).length) := by
      unfold seal_; rw [List.take_append, List.take_of_length_le h]
    have ht : tu ((seal_ p).take j) = (p.length, (vint p.length).length) := by rw [e]; exact tu_vint (by omega) _
    unfold tk
    rw [ht, if_pos (.inr (.inr (by rw [List.length_take]; simp only; omega)))]
theorem scan_cut {gs : List (List UInt8)} (h : ∀ g ∈ gs, g.length ≤ 4096) {k cut : Nat} (hk : k ≤ gs.length) (h1 : (flat (gs.take k)).length ≤ cut) (h2 : cut ≤ (flat gs).length)
    (h3 : k = gs.length ∨ cut < (flat (gs.take (k + 1))).length) : scan ((flat gs).take cut) = (gs.take k, (flat (gs.take k)).length) := by
  have hall : ∀ g ∈ gs.take k, g.length ≤ 4096 := fun g hg => h g (List.mem_of_mem_take hg)
  rcases Nat.lt_or_ge k gs.length with hlt | hge
  · have e0 : gs = gs.take k ++ (gs[k] :: gs.drop (k + 1)) := by
      rw [← List.drop_eq_getElem_cons hlt, List.take_append_drop]
    have e1 : flat gs = flat (gs.take k) ++ (seal_ gs[k] ++ flat (gs.drop (k + 1))) := by
      conv => lhs; rw [e0]
      rw [flat_app, flat_cons]
    have e2 : gs.take (k + 1) = gs.take k ++ [gs[k]] := List.take_succ_eq_append_getElem hlt
    have hc : cut < (flat (gs.take k)).length + (seal_ gs[k]).length := by
      rcases h3 with h3 | h3
      · omega
      · rw [e2, flat_app, flat_one, List.length_append] at h3; exact h3
    have e3 : (flat gs).take cut = flat (gs.take k) ++ (seal_ gs[k]).take (cut - (flat (gs.take k)).length) := by
      rw [e1, List.take_append, List.take_of_length_le h1, List.take_append_of_le_length (by omega)]
    rw [e3, scan_flat _ hall, scan_stop (tk_cut (h _ (List.getElem_mem hlt)) (by omega))]
    simp
  · have e : k = gs.length := by omega
    subst e
    rw [List.take_length] at h1 ⊢
    rw [List.take_of_length_le (by omega)]
    exact scan_whole h
end Go.Proofs.YtnbomifnbhijbaaGreatDoor
