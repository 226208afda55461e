/-
  Plain mathematics: the segments of a log as a list of numbers and bytes; what its calls make of them.
-/
import Derived.Test.YtnbomifnbhijbaaGreatDoorTornP
namespace Go.Proofs.YtnbomifnbhijbaaGreatDoor
open Go.RowKit Go.Maps Num Crc
set_option linter.unusedVariables false

/-! ### the order of names -/
theorem dg_lt {a b : Nat} (h : a % 10 < b % 10) : dg a < dg b := by
  rw [UInt8.lt_iff_toNat_lt, dg_nat, dg_nat]; omega
theorem dg_eq {a b : Nat} (h : a % 10 = b % 10) : dg a = dg b := by unfold dg; rw [h]
theorem bb_cons {a b : Nat} {r s : List UInt8} (h : a % 10 < b % 10 ∨ (a % 10 = b % 10 ∧ bytesBefore r s = true)) : bytesBefore (dg a :: r) (dg b :: s) = true := by
  simp only [bytesBefore, Bool.or_eq_true, Bool.and_eq_true, decide_eq_true_eq, beq_iff_eq]
  rcases h with h | ⟨h, k⟩
  · exact .inl (dg_lt h)
  · exact .inr ⟨dg_eq h, k⟩
theorem bb_same (p : List UInt8) {r s : List UInt8} (h : bytesBefore r s = true) : bytesBefore (p ++ r) (p ++ s) = true := by
  induction p with
  | nil => exact h
  | cons a p ih => simp [bytesBefore, ih]
theorem six_lt {a b : Nat} (h : a < b) (hb : b < 1000000) : bytesBefore (six a) (six b) = true := by
  have q1 : a / 100000 ≤ b / 100000 := by omega
  have q2 : a / 10000 ≤ b / 10000 := by omega
  have q3 : a / 1000 ≤ b / 1000 := by omega
  have q4 : a / 100 ≤ b / 100 := by omega
  have q5 : a / 10 ≤ b / 10 := by omega
  unfold six
  rcases Nat.lt_or_ge (a / 100000 % 10) (b / 100000 % 10) with h1 | h1
  · exact bb_cons (a := a / 100000) (b := b / 100000) (.inl h1)
  have e1 : a / 100000 = b / 100000 := by omega
  refine bb_cons (a := a / 100000) (b := b / 100000) (.inr ⟨by rw [e1], ?_⟩)
  rcases Nat.lt_or_ge (a / 10000 % 10) (b / 10000 % 10) with h2 | h2
  · exact bb_cons (a := a / 10000) (b := b / 10000) (.inl h2)
  have e2 : a / 10000 = b / 10000 := by omega
  refine bb_cons (a := a / 10000) (b := b / 10000) (.inr ⟨by rw [e2], ?_⟩)
  rcases Nat.lt_or_ge (a / 1000 % 10) (b / 1000 % 10) with h3 | h3
  · exact bb_cons (a := a / 1000) (b := b / 1000) (.inl h3)
  have e3 : a / 1000 = b / 1000 := by omega
  refine bb_cons (a := a / 1000) (b := b / 1000) (.inr ⟨by rw [e3], ?_⟩)
  rcases Nat.lt_or_ge (a / 100 % 10) (b / 100 % 10) with h4 | h4
  · exact bb_cons (a := a / 100) (b := b / 100) (.inl h4)
  have e4 : a / 100 = b / 100 := by omega
  refine bb_cons (a := a / 100) (b := b / 100) (.inr ⟨by rw [e4], ?_⟩)
  rcases Nat.lt_or_ge (a / 10 % 10) (b / 10 % 10) with h5 | h5
  · exact bb_cons (a := a / 10) (b := b / 10) (.inl h5)
  have e5 : a / 10 = b / 10 := by omega
  refine bb_cons (a := a / 10) (b := b / 10) (.inr ⟨by rw [e5], ?_⟩)
  exact bb_cons (a := a) (b := b) (.inl (by omega))
theorem wname_lt {a b : Nat} (h : a < b) (hb : b < 1000000) : lt (wname a) (wname b) = true :=
  bb_same [119, 97, 108, 45] (six_lt h hb)

/-! ### segments -/
structure Sg where
  k : Nat
  data : List UInt8
  syn : Nat
def Sg.f (r : Sg) : Fm := ⟨wname r.k, r.data, r.syn⟩
theorem f_name (r : Sg) : r.f.name = wname r.k := rfl
/-- Segments that may stand: rising, numbered from 1 to below b. -/
structure Segs (b : Nat) (rs : List Sg) : Prop where
  rise : rs.Pairwise fun x y => x.k < y.k
  lo : ∀ r ∈ rs, 1 ≤ r.k ∧ r.k < b
section
variable {b : Nat} {rs : List Sg}
theorem Segs.mono {b' : Nat} (h : Segs b rs) (hb : b ≤ b') : Segs b' rs := ⟨h.rise, fun r hr => ⟨(h.lo r hr).1, Nat.lt_of_lt_of_le (h.lo r hr).2 hb⟩⟩
theorem Segs.snoc (h : Segs b rs) (hb : 1 ≤ b) (d : List UInt8) (s : Nat) : Segs (b + 1) (rs ++ [⟨b, d, s⟩]) := by
  refine ⟨List.pairwise_append.2 ⟨h.rise, by simp, fun x hx y hy => ?_⟩, fun r hr => ?_⟩
  · rw [List.mem_singleton] at hy; subst hy; exact (h.lo x hx).2
  · rcases List.mem_append.1 hr with hr | hr
    · have := h.lo r hr; omega
    · rw [List.mem_singleton] at hr; subst hr; simp only; omega
theorem Segs.cons {r : Sg} (h : Segs b (r :: rs)) : Segs b rs := ⟨(List.pairwise_cons.1 h.rise).2, fun x hx => h.lo x (by simp [hx])⟩
theorem Segs.filter (h : Segs b rs) (p : Sg → Bool) : Segs b (rs.filter p) := ⟨h.rise.filter _, fun r hr => h.lo r (List.mem_filter.1 hr).1⟩
theorem find_last (h : Segs b rs) (hb : b ≤ 999999) : findK Fm.name (wname b) (rs.map Sg.f) = none := by
  unfold findK
  rw [List.find?_eq_none]
  intro x hx
  obtain ⟨r, hr, rfl⟩ := List.mem_map.1 hx
  have hl := h.lo r hr
  intro e
  have := wname_inj (by omega) (by omega) (beq_iff_eq.1 e)
  omega
theorem find_own (h : Segs b rs) (hb : b ≤ 999999) (d : List UInt8) (s : Nat) : findK Fm.name (wname b) ((rs ++ [(⟨b, d, s⟩ : Sg)]).map Sg.f) = some ⟨wname b, d, s⟩ := by
  have h0 := find_last h hb
  unfold findK at h0 ⊢
  rw [List.map_append, List.find?_append, h0]
  simp [Sg.f]
theorem all_lt (h : Segs b rs) (hb : b ≤ 999999) (d : List UInt8) (s : Nat) : ∀ y ∈ rs.map Sg.f, lt (Fm.name y) (Fm.name ⟨wname b, d, s⟩) = true := fun y hy => by
  obtain ⟨r, hr, rfl⟩ := List.mem_map.1 hy
  exact wname_lt (h.lo r hr).2 (by omega)
theorem with_new (h : Segs b rs) (hb : b ≤ 999999) (d : List UInt8) (s : Nat) : withK Fm.name ⟨wname b, d, s⟩ (rs.map Sg.f) = (rs ++ [(⟨b, d, s⟩ : Sg)]).map Sg.f := by
  rw [with_last (all_lt h hb d s)]
  simp [Sg.f]
theorem rises_segs (h : Segs b rs) (hb : b ≤ 1000000) : Rises Fm.name (rs.map Sg.f) := by
  unfold Rises
  rw [List.pairwise_map]
  refine h.rise.imp_of_mem fun {x y} hx hy hxy => ?_
  exact wname_lt hxy (by have := (h.lo y hy).2; omega)
theorem with_old (h : Segs b rs) (hb : b ≤ 999999) (d d' : List UInt8) (s s' : Nat) : withK Fm.name ⟨wname b, d', s'⟩ ((rs ++ [(⟨b, d, s⟩ : Sg)]).map Sg.f) = (rs ++ [(⟨b, d', s'⟩ : Sg)]).map Sg.f := by
  rw [← with_new h hb d s, with_twice (key := Fm.name) (g := ⟨wname b, d, s⟩) (g' := ⟨wname b, d', s'⟩) rfl (rises_segs h (by omega)), with_new h hb]
theorem segs_of (h : Segs b rs) (hb : b ≤ 1000000) : segs ((rs.map Sg.f).map Fm.name) = rs.map fun r => (r.k : Int) := by
  unfold segs
  rw [List.map_map, List.map_map]
  have e : rs.map ((numI ∘ Fm.name) ∘ Sg.f) = rs.map fun r => (r.k : Int) := List.map_congr_left fun r hr => by
    have := h.lo r hr
    exact numI_name this.1 (by omega)
  rw [e, List.filter_eq_self]
  intro x hx
  obtain ⟨r, hr, rfl⟩ := List.mem_map.1 hx
  have := h.lo r hr
  have h1 := this.1
  simp only [decide_eq_true_eq]
  omega
theorem find_seg (h : Segs b rs) (hb : b ≤ 1000000) {r : Sg} (hr : r ∈ rs) : findK Fm.name (wname r.k) (rs.map Sg.f) = some r.f :=
  find_mem' (rises_segs h hb) (List.mem_map.2 ⟨r, hr, rfl⟩)
end
/-- The payloads of segments, each with its number. -/
def tcon (rs : List Sg) : List (Nat × List UInt8) := rs.flatMap fun r => (scan r.data).1.map fun p => (r.k, p)
theorem tcon_app (a b : List Sg) : tcon (a ++ b) = tcon a ++ tcon b := by simp [tcon]
theorem tcon_fst (rs : List Sg) : ∀ t ∈ tcon rs, ∃ r ∈ rs, t.1 = r.k := fun t ht => by
  obtain ⟨r, hr, h⟩ := List.mem_flatMap.1 ht
  obtain ⟨p, _, rfl⟩ := List.mem_map.1 h
  exact ⟨r, hr, rfl⟩
theorem tcon_filter (p : Nat → Bool) (rs : List Sg) : tcon (rs.filter fun r => p r.k) = (tcon rs).filter fun t => p t.1 := by
  induction rs with
  | nil => rfl
  | cons r rs ih =>
    rw [show r :: rs = [r] ++ rs from rfl, tcon_app, List.filter_append, List.filter_append, tcon_app, ih]
    congr 1
    by_cases h : p r.k = true
    · rw [List.filter_cons, if_pos h]
      simp only [tcon, List.filter_nil, List.flatMap_cons, List.flatMap_nil, List.append_nil]
      rw [List.filter_eq_self.2]
      intro t ht
      obtain ⟨_, _, rfl⟩ := List.mem_map.1 ht
      exact h
    · rw [List.filter_cons, if_neg h]
      simp only [tcon, List.filter_nil, List.flatMap_cons, List.flatMap_nil, List.append_nil]
      rw [List.filter_eq_nil_iff.2]
      intro t ht
      obtain ⟨_, _, rfl⟩ := List.mem_map.1 ht
      exact h
theorem flat_congr {α β : Type} {l : List α} {f g : α → List β} (h : ∀ x ∈ l, f x = g x) : l.flatMap f = l.flatMap g := by
  rw [List.flatMap_def, List.flatMap_def, List.map_congr_left h]
/-- What is opened. -/
theorem pays_seg {b : Nat} {rs : List Sg} (h : Segs b rs) (hb : b ≤ 1000000) {gs : List Gm} (hg : gs.map Gm.f = rs.map Sg.f) {r : Sg} (hr : r ∈ rs) : paysOf (r.k : Int) gs = (scan r.data).1 := by
  have hl := h.lo r hr
  unfold paysOf dataL
  rw [show fname (r.k : Int) = wname r.k from by unfold fname; rw [if_pos (by omega)]; rfl]
  rw [show oldF (wname r.k) gs = r.f from by
    rw [← oldL_gs hg]
    unfold oldL
    rw [find_seg h hb hr]]
  rfl
theorem pso_of {b : Nat} {rs : List Sg} (h : Segs b rs) (hb : b ≤ 1000000) {gs : List Gm} (hg : gs.map Gm.f = rs.map Sg.f) : psO 1 gs (segs (gs.map Gm.name)) = (tcon rs).map Prod.snd := by
  rw [show gs.map Gm.name = (rs.map Sg.f).map Fm.name from by rw [← hg, List.map_map]; rfl, segs_of h hb]
  unfold psO tcon
  rw [List.flatMap_map, List.map_flatMap]
  refine flat_congr fun r hr => ?_
  have hl := h.lo r hr
  rw [if_pos (by omega), pays_seg h hb hg hr, List.map_map]
  exact (List.map_id _).symm
theorem sego_of {b : Nat} {rs : List Sg} (h : Segs b rs) (hb : b ≤ 1000000) (hb1 : 1 ≤ b) {gs : List Gm} (hg : gs.map Gm.f = rs.map Sg.f) : ∃ s : Nat, segO 1 (segs (gs.map Gm.name)) = (s : Int) ∧ 1 ≤ s ∧ s ≤ b ∧ Segs s rs := by
  rw [show gs.map Gm.name = (rs.map Sg.f).map Fm.name from by rw [← hg, List.map_map]; rfl, segs_of h hb]
  have key : ∀ (l : List Sg), (∀ r ∈ l, r.k < b) → ∀ a : Nat, 1 ≤ a → a ≤ b → ∃ s : Nat, segO (a : Int) (l.map fun r => (r.k : Int)) = (s : Int) ∧ a ≤ s ∧ s ≤ b ∧ ∀ r ∈ l, r.k < s := by
    intro l
    induction l with
    | nil => intro _ a h1 h2; exact ⟨a, rfl, Nat.le_refl _, h2, by simp⟩
    | cons r l ih =>
      intro hl a h1 h2
      have hr := hl r (by simp)
      obtain ⟨s, e, h3, h4, h5⟩ := ih (fun x hx => hl x (by simp [hx])) (max a (r.k + 1)) (by omega) (by omega)
      refine ⟨s, ?_, by omega, h4, fun x hx => ?_⟩
      · rw [← e]
        unfold segO
        rw [List.map_cons, List.foldl_cons]
        congr 1
        omega
      · rcases List.mem_cons.1 hx with rfl | hx
        · omega
        · exact h5 x hx
  obtain ⟨s, e, h1, h2, h3⟩ := key rs (fun r hr => (h.lo r hr).2) 1 (by omega) hb1
  exact ⟨s, by simpa using e, h1, h2, h.rise, fun r hr => ⟨(h.lo r hr).1, h3 r hr⟩⟩
end Go.Proofs.YtnbomifnbhijbaaGreatDoor
