/-
  Texts put together: TornP, WaP, WaQ, WaR, WaS, WaT, WcA.
-/
import Derived.Test.YtadkgfhfjagmpaaGreatDoorGWb
import Derived.Test.YtadkgfhfjagmpaaGreatDoorGDr
import Derived.Test.YtadkgfhfjagmpaaGreatDoorGDa
namespace Go.Proofs.YtadkgfhfjagmpaaGreatDoor
open Go.RowKit Num Crc
set_option linter.unusedVariables false

/-- What was sealed is taken back, whatever stands behind it. -/
theorem tk_seal {p : List UInt8} (hp : p.length ≤ 4096) (r : List UInt8) : tk (seal_ p ++ r) = (p, (seal_ p).length) := by
  have ht : tu (seal_ p ++ r) = (p.length, (vint p.length).length) := by
    unfold seal_
    rw [List.append_assoc, tu_vint (by omega)]
  have hv := vint_pos p.length
  unfold tk
  rw [ht]
  have hl := seal_len p
  have e4 : (List.drop (vint p.length).length (seal_ p ++ r)).take 4 = sumle (Crc.sum p) := by
    unfold seal_
    rw [List.append_assoc, List.drop_left, List.append_assoc, List.take_append_of_le_length (by rw [sumle_len]; omega)]
    exact List.take_of_length_le (by rw [sumle_len]; omega)
  have ep : (List.drop ((vint p.length).length + 4) (seal_ p ++ r)).take p.length = p := by
    rw [← List.drop_drop]
    unfold seal_
    rw [List.append_assoc, List.drop_left, List.append_assoc, show 4 = (sumle (Crc.sum p)).length from rfl, List.drop_left, List.take_left]
  simp only [ep, e4, if_true]
  rw [if_neg (by rw [List.length_append, hl]; omega), hl]

def flat (gs : List (List UInt8)) : List UInt8 := (gs.map seal_).flatten
theorem flat_nil : flat [] = [] := rfl
theorem flat_cons (g : List UInt8) (gs : List (List UInt8)) : flat (g :: gs) = seal_ g ++ flat gs := by simp [flat]
theorem flat_app (a b : List (List UInt8)) : flat (a ++ b) = flat a ++ flat b := by simp [flat]
theorem flat_one (g : List UInt8) : flat [g] = seal_ g := by simp [flat]
theorem scan_seal {p : List UInt8} (hp : p.length ≤ 4096) (r : List UInt8) : scan (seal_ p ++ r) = (p :: (scan r).1, (seal_ p).length + (scan r).2) := by
  have h := tk_seal hp r
  have hs : 0 < (seal_ p).length := by rw [seal_len]; omega
  have h0 : ¬ (tk (seal_ p ++ r)).2 = 0 := by rw [h]; simp only; omega
  rw [scan_step h0, h]
  simp
theorem scan_flat : ∀ (gs : List (List UInt8)), (∀ g ∈ gs, g.length ≤ 4096) → ∀ r, scan (flat gs ++ r) = (gs ++ (scan r).1, (flat gs).length + (scan r).2)
  | [], _, r => by simp [flat]
  | g :: gs, h, r => by
    rw [flat_cons, List.append_assoc, scan_seal (h g (by simp)), scan_flat gs (fun x hx => h x (by simp [hx]))]
    simp; omega
theorem scan_nil : scan [] = ([], 0) := scan_stop (by decide +kernel)
theorem scan_whole {gs : List (List UInt8)} (h : ∀ g ∈ gs, g.length ≤ 4096) : scan (flat gs) = (gs, (flat gs).length) := by
  have := scan_flat gs h []
  rw [List.append_nil, scan_nil] at this
  simpa using this

/-- A number that is cut is none. -/
theorem dec_cut : ∀ (n j : Nat), j < (vint n).length → dec ((vint n).take j) = none := by
  intro n
  induction n using Nat.strongRecOn with
  | _ n ih =>
    intro j hj
    rcases Nat.lt_or_ge n 128 with h | h
    · rw [vint_small h] at hj
      have : j = 0 := by simp at hj; omega
      subst this; simp [dec]
    · rw [vint_big h] at hj ⊢
      cases j with
      | zero => simp [dec]
      | succ j =>
        have e : (UInt8.ofNat (n % 128 + 128)).toNat = n % 128 + 128 := toNat_ofNat (by omega)
        rw [List.take_succ_cons, dec_hi (by omega), ih (n / 128) (by omega) j (by simpa using hj)]
theorem tk_cut {p : List UInt8} (hp : p.length ≤ 4096) {j : Nat} (hj : j < (seal_ p).length) : (tk ((seal_ p).take j)).2 = 0 := by
  have hl := seal_len p
  have hv := vint_pos p.length
  rcases Nat.lt_or_ge j (vint p.length).length with h | h
  · have e : (seal_ p).take j = (vint p.length).take j := by
      unfold seal_; rw [List.take_append_of_le_length (by omega)]
    have ht : tu ((seal_ p).take j) = (0, 0) := by
      unfold tu; rw [e, dec_cut _ _ h]
    unfold tk; rw [ht, if_pos (.inl rfl)]
  · have e : (seal_ p).take j = vint p.length ++ (sumle (Crc.sum p) ++ p).take (j - (vint p.length).length) := by
      unfold seal_; rw [List.take_append, List.take_of_length_le h]
    have ht : tu ((seal_ p).take j) = (p.length, (vint p.length).length) := by rw [e]; exact tu_vint (by omega) _
    unfold tk
    rw [ht, if_pos (.inr (.inr (by rw [List.length_take]; simp only; omega)))]
theorem scan_cut {gs : List (List UInt8)} (h : ∀ g ∈ gs, g.length ≤ 4096) {k cut : Nat} (hk : k ≤ gs.length) (h1 : (flat (gs.take k)).length ≤ cut) (h2 : cut ≤ (flat gs).length)
    (h3 : k = gs.length ∨ cut < (flat (gs.take (k + 1))).length) : scan ((flat gs).take cut) = (gs.take k, (flat (gs.take k)).length) := by
  have hall : ∀ g ∈ gs.take k, g.length ≤ 4096 := fun g hg => h g (List.mem_of_mem_take hg)
  rcases Nat.lt_or_ge k gs.length with hlt | hge
  · have e0 : gs = gs.take k ++ (gs[k] :: gs.drop (k + 1)) := by
      rw [← List.drop_eq_getElem_cons hlt, List.take_append_drop]
    have e1 : flat gs = flat (gs.take k) ++ (seal_ gs[k] ++ flat (gs.drop (k + 1))) := by
      conv => lhs; rw [e0]
      rw [flat_app, flat_cons]
    have e2 : gs.take (k + 1) = gs.take k ++ [gs[k]] := List.take_succ_eq_append_getElem hlt
    have hc : cut < (flat (gs.take k)).length + (seal_ gs[k]).length := by
      rcases h3 with h3 | h3
      · omega
      · rw [e2, flat_app, flat_one, List.length_append] at h3; exact h3
    have e3 : (flat gs).take cut = flat (gs.take k) ++ (seal_ gs[k]).take (cut - (flat (gs.take k)).length) := by
      rw [e1, List.take_append, List.take_of_length_le h1, List.take_append_of_le_length (by omega)]
    rw [e3, scan_flat _ hall, scan_stop (tk_cut (h _ (List.getElem_mem hlt)) (by omega))]
    simp
  · have e : k = gs.length := by omega
    subst e
    rw [List.take_length] at h1 ⊢
    rw [List.take_of_length_le (by omega)]
    exact scan_whole h
end Go.Proofs.YtadkgfhfjagmpaaGreatDoor

namespace Go.Proofs.YtadkgfhfjagmpaaGreatDoor
open Go.RowKit Go.Maps Num Crc
set_option linter.unusedVariables false

/-! ### the order of names -/
theorem dg_lt {a b : Nat} (h : a % 10 < b % 10) : dg a < dg b := by
  rw [UInt8.lt_iff_toNat_lt, dg_nat, dg_nat]; omega
theorem dg_eq {a b : Nat} (h : a % 10 = b % 10) : dg a = dg b := by unfold dg; rw [h]
theorem bb_cons {a b : Nat} {r s : List UInt8} (h : a % 10 < b % 10 ∨ (a % 10 = b % 10 ∧ bytesBefore r s = true)) : bytesBefore (dg a :: r) (dg b :: s) = true := by
  simp only [bytesBefore, Bool.or_eq_true, Bool.and_eq_true, decide_eq_true_eq, beq_iff_eq]
  rcases h with h | ⟨h, k⟩
  · exact .inl (dg_lt h)
  · exact .inr ⟨dg_eq h, k⟩
theorem bb_same (p : List UInt8) {r s : List UInt8} (h : bytesBefore r s = true) : bytesBefore (p ++ r) (p ++ s) = true := by
  induction p with
  | nil => exact h
  | cons a p ih => simp [bytesBefore, ih]
theorem six_lt {a b : Nat} (h : a < b) (hb : b < 1000000) : bytesBefore (six a) (six b) = true := by
  have q1 : a / 100000 ≤ b / 100000 := by omega
  have q2 : a / 10000 ≤ b / 10000 := by omega
  have q3 : a / 1000 ≤ b / 1000 := by omega
  have q4 : a / 100 ≤ b / 100 := by omega
  have q5 : a / 10 ≤ b / 10 := by omega
  unfold six
  rcases Nat.lt_or_ge (a / 100000 % 10) (b / 100000 % 10) with h1 | h1
  · exact bb_cons (a := a / 100000) (b := b / 100000) (.inl h1)
  have e1 : a / 100000 = b / 100000 := by omega
  refine bb_cons (a := a / 100000) (b := b / 100000) (.inr ⟨by rw [e1], ?_⟩)
  rcases Nat.lt_or_ge (a / 10000 % 10) (b / 10000 % 10) with h2 | h2
  · exact bb_cons (a := a / 10000) (b := b / 10000) (.inl h2)
  have e2 : a / 10000 = b / 10000 := by omega
  refine bb_cons (a := a / 10000) (b := b / 10000) (.inr ⟨by rw [e2], ?_⟩)
  rcases Nat.lt_or_ge (a / 1000 % 10) (b / 1000 % 10) with h3 | h3
  · exact bb_cons (a := a / 1000) (b := b / 1000) (.inl h3)
  have e3 : a / 1000 = b / 1000 := by omega
  refine bb_cons (a := a / 1000) (b := b / 1000) (.inr ⟨by rw [e3], ?_⟩)
  rcases Nat.lt_or_ge (a / 100 % 10) (b / 100 % 10) with h4 | h4
  · exact bb_cons (a := a / 100) (b := b / 100) (.inl h4)
  have e4 : a / 100 = b / 100 := by omega
  refine bb_cons (a := a / 100) (b := b / 100) (.inr ⟨by rw [e4], ?_⟩)
  rcases Nat.lt_or_ge (a / 10 % 10) (b / 10 % 10) with h5 | h5
  · exact bb_cons (a := a / 10) (b := b / 10) (.inl h5)
  have e5 : a / 10 = b / 10 := by omega
  refine bb_cons (a := a / 10) (b := b / 10) (.inr ⟨by rw [e5], ?_⟩)
  exact bb_cons (a := a) (b := b) (.inl (by omega))
theorem wname_lt {a b : Nat} (h : a < b) (hb : b < 1000000) : lt (wname a) (wname b) = true :=
  bb_same [119, 97, 108, 45] (six_lt h hb)

/-! ### segments -/
structure Sg where
  k : Nat
  data : List UInt8
  syn : Nat
def Sg.f (r : Sg) : Fm := ⟨wname r.k, r.data, r.syn⟩
theorem f_name (r : Sg) : r.f.name = wname r.k := rfl
/-- Segments that may stand: rising, numbered from 1 to below b. -/
structure Segs (b : Nat) (rs : List Sg) : Prop where
  rise : rs.Pairwise fun x y => x.k < y.k
  lo : ∀ r ∈ rs, 1 ≤ r.k ∧ r.k < b
section
variable {b : Nat} {rs : List Sg}
theorem Segs.mono {b' : Nat} (h : Segs b rs) (hb : b ≤ b') : Segs b' rs := ⟨h.rise, fun r hr => ⟨(h.lo r hr).1, Nat.lt_of_lt_of_le (h.lo r hr).2 hb⟩⟩
theorem Segs.snoc (h : Segs b rs) (hb : 1 ≤ b) (d : List UInt8) (s : Nat) : Segs (b + 1) (rs ++ [⟨b, d, s⟩]) := by
  refine ⟨List.pairwise_append.2 ⟨h.rise, by simp, fun x hx y hy => ?_⟩, fun r hr => ?_⟩
  · rw [List.mem_singleton] at hy; subst hy; exact (h.lo x hx).2
  · rcases List.mem_append.1 hr with hr | hr
    · have := h.lo r hr; omega
    · rw [List.mem_singleton] at hr; subst hr; simp only; omega
theorem Segs.cons {r : Sg} (h : Segs b (r :: rs)) : Segs b rs := ⟨(List.pairwise_cons.1 h.rise).2, fun x hx => h.lo x (by simp [hx])⟩
theorem Segs.filter (h : Segs b rs) (p : Sg → Bool) : Segs b (rs.filter p) := ⟨h.rise.filter _, fun r hr => h.lo r (List.mem_filter.1 hr).1⟩
theorem find_last (h : Segs b rs) (hb : b ≤ 999999) : findK Fm.name (wname b) (rs.map Sg.f) = none := by
  unfold findK
  rw [List.find?_eq_none]
  intro x hx
  obtain ⟨r, hr, rfl⟩ := List.mem_map.1 hx
  have hl := h.lo r hr
  intro e
  have := wname_inj (by omega) (by omega) (beq_iff_eq.1 e)
  omega
theorem find_own (h : Segs b rs) (hb : b ≤ 999999) (d : List UInt8) (s : Nat) : findK Fm.name (wname b) ((rs ++ [(⟨b, d, s⟩ : Sg)]).map Sg.f) = some ⟨wname b, d, s⟩ := by
  have h0 := find_last h hb
  unfold findK at h0 ⊢
  rw [List.map_append, List.find?_append, h0]
  simp [Sg.f]
theorem all_lt (h : Segs b rs) (hb : b ≤ 999999) (d : List UInt8) (s : Nat) : ∀ y ∈ rs.map Sg.f, lt (Fm.name y) (Fm.name ⟨wname b, d, s⟩) = true := fun y hy => by
  obtain ⟨r, hr, rfl⟩ := List.mem_map.1 hy
  exact wname_lt (h.lo r hr).2 (by omega)
theorem with_new (h : Segs b rs) (hb : b ≤ 999999) (d : List UInt8) (s : Nat) : withK Fm.name ⟨wname b, d, s⟩ (rs.map Sg.f) = (rs ++ [(⟨b, d, s⟩ : Sg)]).map Sg.f := by
  rw [with_last (all_lt h hb d s)]
  simp [Sg.f]
theorem rises_segs (h : Segs b rs) (hb : b ≤ 1000000) : Rises Fm.name (rs.map Sg.f) := by
  unfold Rises
  rw [List.pairwise_map]
  refine h.rise.imp_of_mem fun {x y} hx hy hxy => ?_
  exact wname_lt hxy (by have := (h.lo y hy).2; omega)
theorem with_old (h : Segs b rs) (hb : b ≤ 999999) (d d' : List UInt8) (s s' : Nat) : withK Fm.name ⟨wname b, d', s'⟩ ((rs ++ [(⟨b, d, s⟩ : Sg)]).map Sg.f) = (rs ++ [(⟨b, d', s'⟩ : Sg)]).map Sg.f := by
  rw [← with_new h hb d s, with_twice (key := Fm.name) (g := ⟨wname b, d, s⟩) (g' := ⟨wname b, d', s'⟩) rfl (rises_segs h (by omega)), with_new h hb]
theorem segs_of (h : Segs b rs) (hb : b ≤ 1000000) : segs ((rs.map Sg.f).map Fm.name) = rs.map fun r => (r.k : Int) := by
  unfold segs
  rw [List.map_map, List.map_map]
  have e : rs.map ((numI ∘ Fm.name) ∘ Sg.f) = rs.map fun r => (r.k : Int) := List.map_congr_left fun r hr => by
    have := h.lo r hr
    exact numI_name this.1 (by omega)
  rw [e, List.filter_eq_self]
  intro x hx
  obtain ⟨r, hr, rfl⟩ := List.mem_map.1 hx
  have := h.lo r hr
  have h1 := this.1
  simp only [decide_eq_true_eq]
  omega
theorem find_seg (h : Segs b rs) (hb : b ≤ 1000000) {r : Sg} (hr : r ∈ rs) : findK Fm.name (wname r.k) (rs.map Sg.f) = some r.f :=
  find_mem' (rises_segs h hb) (List.mem_map.2 ⟨r, hr, rfl⟩)
end
/-- The payloads of segments, each with its number. -/
def tcon (rs : List Sg) : List (Nat × List UInt8) := rs.flatMap fun r => (scan r.data).1.map fun p => (r.k, p)
theorem tcon_app (a b : List Sg) : tcon (a ++ b) = tcon a ++ tcon b := by simp [tcon]
theorem tcon_fst (rs : List Sg) : ∀ t ∈ tcon rs, ∃ r ∈ rs, t.1 = r.k := fun t ht => by
  obtain ⟨r, hr, h⟩ := List.mem_flatMap.1 ht
  obtain ⟨p, _, rfl⟩ := List.mem_map.1 h
  exact ⟨r, hr, rfl⟩
theorem tcon_filter (p : Nat → Bool) (rs : List Sg) : tcon (rs.filter fun r => p r.k) = (tcon rs).filter fun t => p t.1 := by
  induction rs with
  | nil => rfl
  | cons r rs ih =>
    rw [show r :: rs = [r] ++ rs from rfl, tcon_app, List.filter_append, List.filter_append, tcon_app, ih]
    congr 1
    by_cases h : p r.k = true
    · rw [List.filter_cons, if_pos h]
      simp only [tcon, List.filter_nil, List.flatMap_cons, List.flatMap_nil, List.append_nil]
      rw [List.filter_eq_self.2]
      intro t ht
      obtain ⟨_, _, rfl⟩ := List.mem_map.1 ht
      exact h
    · rw [List.filter_cons, if_neg h]
      simp only [tcon, List.filter_nil, List.flatMap_cons, List.flatMap_nil, List.append_nil]
      rw [List.filter_eq_nil_iff.2]
      intro t ht
      obtain ⟨_, _, rfl⟩ := List.mem_map.1 ht
      exact h
theorem flat_congr {α β : Type} {l : List α} {f g : α → List β} (h : ∀ x ∈ l, f x = g x) : l.flatMap f = l.flatMap g := by
  rw [List.flatMap_def, List.flatMap_def, List.map_congr_left h]
/-- What is opened. -/
theorem pays_seg {b : Nat} {rs : List Sg} (h : Segs b rs) (hb : b ≤ 1000000) {gs : List Gm} (hg : gs.map Gm.f = rs.map Sg.f) {r : Sg} (hr : r ∈ rs) : paysOf (r.k : Int) gs = (scan r.data).1 := by
  have hl := h.lo r hr
  unfold paysOf dataL
  rw [show fname (r.k : Int) = wname r.k from by unfold fname; rw [if_pos (by omega)]; rfl]
  rw [show oldF (wname r.k) gs = r.f from by
    rw [← oldL_gs hg]
    unfold oldL
    rw [find_seg h hb hr]]
  rfl
theorem pso_of {b : Nat} {rs : List Sg} (h : Segs b rs) (hb : b ≤ 1000000) {gs : List Gm} (hg : gs.map Gm.f = rs.map Sg.f) : psO 1 gs (segs (gs.map Gm.name)) = (tcon rs).map Prod.snd := by
  rw [show gs.map Gm.name = (rs.map Sg.f).map Fm.name from by rw [← hg, List.map_map]; rfl, segs_of h hb]
  unfold psO tcon
  rw [List.flatMap_map, List.map_flatMap]
  refine flat_congr fun r hr => ?_
  have hl := h.lo r hr
  rw [if_pos (by omega), pays_seg h hb hg hr, List.map_map]
  exact (List.map_id _).symm
theorem sego_of {b : Nat} {rs : List Sg} (h : Segs b rs) (hb : b ≤ 1000000) (hb1 : 1 ≤ b) {gs : List Gm} (hg : gs.map Gm.f = rs.map Sg.f) : ∃ s : Nat, segO 1 (segs (gs.map Gm.name)) = (s : Int) ∧ 1 ≤ s ∧ s ≤ b ∧ Segs s rs := by
  rw [show gs.map Gm.name = (rs.map Sg.f).map Fm.name from by rw [← hg, List.map_map]; rfl, segs_of h hb]
  have key : ∀ (l : List Sg), (∀ r ∈ l, r.k < b) → ∀ a : Nat, 1 ≤ a → a ≤ b → ∃ s : Nat, segO (a : Int) (l.map fun r => (r.k : Int)) = (s : Int) ∧ a ≤ s ∧ s ≤ b ∧ ∀ r ∈ l, r.k < s := by
    intro l
    induction l with
    | nil => intro _ a h1 h2; exact ⟨a, rfl, Nat.le_refl _, h2, by simp⟩
    | cons r l ih =>
      intro hl a h1 h2
      have hr := hl r (by simp)
      obtain ⟨s, e, h3, h4, h5⟩ := ih (fun x hx => hl x (by simp [hx])) (max a (r.k + 1)) (by omega) (by omega)
      refine ⟨s, ?_, by omega, h4, fun x hx => ?_⟩
      · rw [← e]
        unfold segO
        rw [List.map_cons, List.foldl_cons]
        congr 1
        omega
      · rcases List.mem_cons.1 hx with rfl | hx
        · omega
        · exact h5 x hx
  obtain ⟨s, e, h1, h2, h3⟩ := key rs (fun r hr => (h.lo r hr).2) 1 (by omega) hb1
  exact ⟨s, by simpa using e, h1, h2, h.rise, fun r hr => ⟨(h.lo r hr).1, h3 r hr⟩⟩
end Go.Proofs.YtadkgfhfjagmpaaGreatDoor

namespace Go.Proofs.YtadkgfhfjagmpaaGreatDoor
open Go.RowKit Go.Maps Num Crc
set_option linter.unusedVariables false

/-- A log: the segments ahead of its own, its own number, the payloads in its own segment, how many of them are synced. -/
structure Gh where
  rs : List Sg
  seg : Nat
  ps : List (List UInt8)
  sq : Nat
def Gh.y (g : Gh) : Nat := (flat (g.ps.take g.sq)).length
def Gh.own (g : Gh) : List Sg := if g.ps = [] then [] else [⟨g.seg, flat g.ps, g.y⟩]
def Gh.all (g : Gh) : List Sg := g.rs ++ g.own
def Gh.con (g : Gh) : List (Nat × List UInt8) := tcon g.rs ++ g.ps.map fun p => (g.seg, p)
def Gh.safe (g : Gh) : Nat := (tcon g.rs).length + g.sq
structure Gh.Ok (g : Gh) (N : Nat) : Prop where
  segs : Segs g.seg g.rs
  syn : ∀ r ∈ g.rs, r.syn = r.data.length
  s1 : 1 ≤ g.seg
  sN : g.seg ≤ N
  few : ∀ p ∈ g.ps, p.length ≤ 700
  sq : g.sq ≤ g.ps.length
  len : (flat g.ps).length ≤ 1024
structure Is (x : Ws) (g : Gh) : Prop where
  fs : x.fs = g.all.map Sg.f
  seg : x.seg = g.seg
theorem Gh.Ok.mono {g : Gh} {N M : Nat} (h : g.Ok N) (hm : N ≤ M) : g.Ok M := ⟨h.segs, h.syn, h.s1, Nat.le_trans h.sN hm, h.few, h.sq, h.len⟩
theorem seal_pos (p : List UInt8) : 0 < (seal_ p).length := by rw [seal_len]; omega
theorem seal_700 {p : List UInt8} (h : p.length ≤ 700) : (seal_ p).length ≤ 714 := by
  have := vint_len10 (n := p.length) (by omega)
  rw [seal_len]; omega
theorem flat_take_le (ps : List (List UInt8)) (k : Nat) : (flat (ps.take k)).length ≤ (flat ps).length := by
  conv => rhs; rw [← List.take_append_drop k ps, flat_app, List.length_append]
  omega
theorem flat_pos {ps : List (List UInt8)} (h : ps ≠ []) : 0 < (flat ps).length := by
  cases ps with
  | nil => exact absurd rfl h
  | cons p r => rw [flat_cons, List.length_append]; have := seal_pos p; omega
theorem segs_len_le {b : Nat} {rs : List Sg} (h : Segs b rs) (hb : 1 ≤ b) : rs.length + 1 ≤ b := by
  induction hn : rs.length generalizing b rs with
  | zero => omega
  | succ n ih =>
    have hne : rs ≠ [] := by intro e; subst e; cases hn
    obtain ⟨l, r, rfl⟩ : ∃ l r, rs = l ++ [r] := ⟨_, _, (List.dropLast_concat_getLast hne).symm⟩
    have hr := h.lo r (by simp)
    have h1 := (List.pairwise_append.1 h.rise)
    have : Segs r.k l := ⟨h1.1, fun x hx => ⟨(h.lo x (by simp [hx])).1, h1.2.2 x hx r (by simp)⟩⟩
    have := ih this hr.1 (by simpa using hn)
    omega
section
variable {x : Ws} {g : Gh} {N : Nat}
theorem Is.fname_ (h : Is x g) (ok : g.Ok N) (hN : N ≤ 250) : fname x.seg = wname g.seg := by
  rw [h.seg]
  have := ok.s1
  have := ok.sN
  unfold fname; rw [if_pos (by omega)]; rfl
theorem Is.find0 (h : Is x g) (ok : g.Ok N) (hN : N ≤ 250) (he : g.ps = []) : findK Fm.name (wname g.seg) x.fs = none := by
  have := ok.sN
  rw [h.fs, Gh.all, Gh.own, if_pos he, List.append_nil]
  exact find_last ok.segs (by omega)
theorem Is.find1 (h : Is x g) (ok : g.Ok N) (hN : N ≤ 250) (he : g.ps ≠ []) : findK Fm.name (wname g.seg) x.fs = some ⟨wname g.seg, flat g.ps, g.y⟩ := by
  have := ok.sN
  rw [h.fs, Gh.all, Gh.own, if_neg he]
  exact find_own ok.segs (by omega) _ _
theorem Is.old (h : Is x g) (ok : g.Ok N) (hN : N ≤ 250) : (oldL (wname g.seg) x.fs).data = flat g.ps ∧ (oldL (wname g.seg) x.fs).syn = g.y := by
  unfold oldL
  by_cases he : g.ps = []
  · rw [h.find0 ok hN he]
    rw [Gh.y, he]
    simp [flat, emptyF]
  · rw [h.find1 ok hN he]
    exact ⟨rfl, rfl⟩
def Gh.synced (g : Gh) : Gh := { g with sq := g.ps.length }
theorem Gh.Ok.synced (h : g.Ok N) : g.synced.Ok N := ⟨h.segs, h.syn, h.s1, h.sN, h.few, Nat.le_refl _, h.len⟩
theorem sync_is (h : Is x g) (ok : g.Ok N) (hN : N ≤ 250) (hd : x.dd = false) :
    ((syncX x).2 = 0 ∧ (syncX x).1.dd = false ∧ (syncX x).1.ar = x.ar ∧ Is (syncX x).1 g.synced) ∨ ((syncX x).2 = 6 ∧ dead x.ar x.lf = true ∧ (syncX x).1 = { x with dd := true }) := by
  have hf := h.fname_ ok hN
  by_cases he : g.ps = []
  · have e : syncX x = (x, 0) := by simp [syncX, hd, hf, h.find0 ok hN he]
    rw [e]
    refine .inl ⟨rfl, hd, rfl, ?_, h.seg⟩
    rw [h.fs]
    simp [Gh.all, Gh.own, Gh.synced, he]
  · have h1 := h.find1 ok hN he
    by_cases h0 : (flat g.ps).length - g.y = 0
    · have e : syncX x = (x, 0) := by simp [syncX, hd, hf, h1, h0]
      rw [e]
      refine .inl ⟨rfl, hd, rfl, ?_, h.seg⟩
      rw [h.fs]
      have hy : g.y = g.synced.y := by
        have h2 : g.synced.y = (flat g.ps).length := by simp [Gh.y, Gh.synced]
        have h3 := flat_take_le g.ps g.sq
        rw [h2]
        unfold Gh.y at h0 ⊢
        omega
      simp only [Gh.all, Gh.own, if_neg he, hy]
      rw [if_neg (show ¬ g.synced.ps = [] from he)]
      rfl
    · cases hdd : dead x.ar x.lf with
      | true =>
        have e : syncX x = ({ x with dd := true }, 6) := by simp [syncX, hd, hf, h1, h0, hdd]
        rw [e]
        exact .inr ⟨rfl, rfl, rfl⟩
      | false =>
        have e : syncX x = ({ stepX x with fs := withK Fm.name ⟨wname g.seg, flat g.ps, (flat g.ps).length⟩ x.fs }, 0) := by simp [syncX, hd, hf, h1, h0, hdd]
        rw [e]
        refine .inl ⟨rfl, hd, rfl, ?_, h.seg⟩
        have hs := ok.sN
        simp only [h.fs, Gh.all, Gh.own, if_neg he]
        rw [with_old ok.segs (by omega)]
        rw [if_neg (show ¬ g.synced.ps = [] from he)]
        simp [Gh.synced, Gh.y]
def Gh.rolled (g : Gh) : Gh := ⟨g.synced.all, g.seg + 1, [], 0⟩
theorem Gh.Ok.rolled (h : g.Ok N) : g.rolled.Ok (N + 1) := by
  refine ⟨?_, ?_, Nat.le_add_left _ _, Nat.add_le_add_right h.sN 1, by simp [Gh.rolled], Nat.le_refl _, by simp [Gh.rolled, flat]⟩
  · show Segs (g.seg + 1) (g.rs ++ g.synced.own)
    unfold Gh.own
    split
    · rw [List.append_nil]; exact h.segs.mono (Nat.le_succ _)
    · exact h.segs.snoc h.s1 _ _
  · intro r hr
    rcases List.mem_append.1 (show r ∈ g.rs ++ g.synced.own from hr) with hr | hr
    · exact h.syn r hr
    · unfold Gh.own at hr
      split at hr
      · cases hr
      · rw [List.mem_singleton] at hr
        subst hr
        simp [Gh.y, Gh.synced]
theorem tcon_own (h : g.Ok N) : tcon g.own = g.ps.map fun p => (g.seg, p) := by
  unfold Gh.own
  split
  · rename_i he; rw [he]; rfl
  · simp only [tcon, List.flatMap_cons, List.flatMap_nil, List.append_nil]
    rw [scan_whole fun p hp => by have := h.few p hp; omega]
theorem con_all (h : g.Ok N) : tcon g.all = g.con := by rw [Gh.all, tcon_app, tcon_own h]; rfl
theorem con_rolled (h : g.Ok N) : g.rolled.con = g.con := by
  have e : g.rolled.con = tcon g.synced.all := by simp [Gh.con, Gh.rolled]
  rw [e, con_all h.synced]
  rfl
theorem safe_rolled (h : g.Ok N) : g.rolled.safe = g.con.length := by
  have e : g.rolled.safe = (tcon g.synced.all).length := by simp [Gh.safe, Gh.rolled]
  rw [e, con_all h.synced]
  rfl
theorem safe_le (h : g.Ok N) : g.safe ≤ g.con.length := by
  unfold Gh.safe Gh.con
  rw [List.length_append, List.length_map]
  have := h.sq
  omega
theorem roll_is (h : Is x g) (ok : g.Ok N) (hN : N ≤ 250) (hd : x.dd = false) :
    ((rollX x).2.2 = 0 ∧ (rollX x).1.dd = false ∧ (rollX x).1.ar = x.ar ∧ Is (rollX x).1 g.rolled) ∨ ((rollX x).2.2 = 6 ∧ dead x.ar x.lf = true ∧ (rollX x).1 = { x with dd := true }) := by
  have hs := ok.sN
  rcases sync_is h ok hN hd with ⟨h1, h2, h3, h4⟩ | ⟨h1, h2, h3⟩
  · unfold rollX
    rw [if_pos h1]
    refine .inl ⟨rfl, h2, h3, ?_, ?_⟩
    · simp only [h4.fs, Gh.rolled, Gh.all, Gh.own]
      simp
    · simp only [h4.seg, Gh.rolled]
      show min (g.seg : Int) 999999 + 1 = ((g.seg + 1 : Nat) : Int)
      omega
  · unfold rollX
    rw [if_neg (by rw [h1]; decide)]
    exact .inr ⟨h1, h2, h3⟩
/-- A payload more in the log's own segment. -/
def Gh.more (g : Gh) (p : List UInt8) : Gh := { g with ps := g.ps ++ [p] }
theorem con_more (p : List UInt8) : (g.more p).con = g.con ++ [((g.more p).seg, p)] := by simp [Gh.con, Gh.more]
theorem tail_is (h : Is x g) (ok : g.Ok N) (hN : N ≤ 250) (hd : x.dd = false) {p : List UInt8} (hp : p.length ≤ 700) (hl : (flat g.ps).length + (seal_ p).length ≤ 1024) :
    ((tailX x (seal_ p)).2 = 0 ∧ (tailX x (seal_ p)).1.dd = false ∧ (tailX x (seal_ p)).1.ar = x.ar ∧ Is (tailX x (seal_ p)).1 (g.more p) ∧ (g.more p).Ok N) ∨ ((tailX x (seal_ p)).2 = 6 ∧ dead x.ar x.lf = true ∧ (tailX x (seal_ p)).1 = { x with dd := true }) := by
  have hf := h.fname_ ok hN
  have hs1 := ok.s1
  have hs := ok.sN
  have ho := h.old ok hN
  have hlen := segs_len_le ok.segs ok.s1
  have hall : g.all.length ≤ g.seg := by
    unfold Gh.all Gh.own
    rw [List.length_append]
    split <;> simp <;> omega
  have hfl : x.fs.length ≤ 250 := by rw [h.fs, List.length_map]; omega
  have hc : ¬ ((findK Fm.name (fname x.seg) x.fs = none ∧ 256 ≤ x.fs.length) ∨ 262144 < (oldL (fname x.seg) x.fs).data.length + (seal_ p).length) := by
    rw [hf, ho.1]
    omega
  unfold tailX
  rw [if_neg (by rw [h.seg]; omega)]
  cases hdd : dead x.ar x.lf with
  | true =>
    have e : dappX x (seal_ p) = (x, 6) := by unfold dappX; rw [if_neg hc, hdd]; rfl
    rw [e]
    refine .inr ⟨rfl, rfl, ?_⟩
    simp [doneX]
  | false =>
    have e : dappX x (seal_ p) = ({ stepX x with fs := withK Fm.name ⟨fname x.seg, (oldL (fname x.seg) x.fs).data ++ seal_ p, (oldL (fname x.seg) x.fs).syn⟩ x.fs }, 0) := by
      unfold dappX; rw [if_neg hc, hdd]; rfl
    rw [e]
    have hmo : (g.more p).y = g.y := by
      unfold Gh.y Gh.more
      have := ok.sq
      simp only
      rw [List.take_append_of_le_length this]
    refine .inl ⟨rfl, by simp [doneX, stepX, hd], rfl, ⟨?_, h.seg⟩, ⟨ok.segs, ok.syn, ok.s1, ok.sN, ?_, ?_, ?_⟩⟩
    · simp only [doneX, stepX]
      rw [hf, ho.1, ho.2, h.fs]
      have hne : (g.more p).ps ≠ [] := by simp [Gh.more]
      have e2 : (g.more p).all = g.rs ++ [⟨g.seg, flat g.ps ++ seal_ p, g.y⟩] := by
        unfold Gh.all Gh.own
        rw [if_neg hne, hmo]
        simp [Gh.more, flat_app, flat_one]
      rw [e2]
      unfold Gh.all Gh.own
      split
      · rename_i he
        rw [List.append_nil]
        exact with_new ok.segs (by omega) _ _
      · exact with_old ok.segs (by omega) _ _ _ _
    · intro q hq
      rcases List.mem_append.1 (show q ∈ g.ps ++ [p] from hq) with hq | hq
      · exact ok.few q hq
      · rw [List.mem_singleton] at hq; subst hq; exact hp
    · have := ok.sq
      show g.sq ≤ (g.ps ++ [p]).length
      rw [List.length_append]; omega
    · show (flat (g.ps ++ [p])).length ≤ 1024
      rw [flat_app, flat_one, List.length_append]; exact hl
/-- What Append does. -/
theorem app_is (h : Is x g) (ok : g.Ok N) (hN : N ≤ 249) (hd : x.dd = false) {p : List UInt8} (hp : p.length ≤ 700) :
    (appX x p).1.ar = x.ar ∧ ∃ g' : Gh, Is (appX x p).1 g' ∧ g'.Ok (N + 1) ∧ g.safe ≤ g'.safe ∧
      (((appX x p).2 = 0 ∧ (appX x p).1.dd = false ∧ g'.con = g.con ++ [(g'.seg, p)]) ∨ ((appX x p).2 = 6 ∧ (appX x p).1.dd = true ∧ x.ar = true ∧ g'.con = g.con)) := by
  have hf := h.fname_ ok (by omega)
  have ho := h.old ok (by omega)
  have hsl := seal_700 hp
  have har : ∀ {a : Bool} {l : Int}, dead a l = true → a = true := fun {a l} e => by
    unfold dead at e
    cases a
    · simp at e
    · rfl
  have hself : ∀ (z : Ws), Is z g → Is { z with dd := true } g := fun z hz => ⟨hz.fs, hz.seg⟩
  unfold appX
  rw [if_neg (by omega), hd, if_neg (by decide), hf, ho.1]
  by_cases hr : 0 < (flat g.ps).length ∧ 1024 < (flat g.ps).length + (seal_ p).length
  · rw [if_pos hr]
    rcases roll_is h ok (by omega) hd with ⟨h1, h2, h3, h4⟩ | ⟨h1, h2, h3⟩
    · rw [if_pos h1]
      have ok2 := ok.rolled
      have hs2 : g.safe ≤ g.rolled.safe := by rw [safe_rolled ok]; exact safe_le ok
      rcases tail_is h4 ok2 (by omega) h2 hp (by simp [Gh.rolled, flat]; omega) with ⟨k1, k2, k3, k4, k5⟩ | ⟨k1, k2, k3⟩
      · refine ⟨k3.trans h3, _, k4, k5, Nat.le_trans hs2 (Nat.le_refl _), .inl ⟨k1, k2, ?_⟩⟩
        rw [con_more, con_rolled ok]
      · rw [k1, k3]
        exact ⟨h3, g.rolled, ⟨h4.fs, h4.seg⟩, ok2, hs2, .inr ⟨rfl, rfl, h3 ▸ har k2, con_rolled ok⟩⟩
    · rw [if_neg (by rw [h1]; decide), h1, h3]
      exact ⟨rfl, g, hself x h, ok.mono (by omega), Nat.le_refl _, .inr ⟨rfl, rfl, har h2, rfl⟩⟩
  · rw [if_neg hr]
    have hlen : (flat g.ps).length + (seal_ p).length ≤ 1024 := by omega
    rcases tail_is h ok (by omega) hd hp hlen with ⟨k1, k2, k3, k4, k5⟩ | ⟨k1, k2, k3⟩
    · exact ⟨k3, _, k4, k5.mono (by omega), Nat.le_refl _, .inl ⟨k1, k2, con_more p⟩⟩
    · rw [k1, k3]
      exact ⟨rfl, g, hself x h, ok.mono (by omega), Nat.le_refl _, .inr ⟨rfl, rfl, har k2, rfl⟩⟩
end
end Go.Proofs.YtadkgfhfjagmpaaGreatDoor

namespace Go.Proofs.YtadkgfhfjagmpaaGreatDoor
open Go.RowKit Go.Maps Num Crc
set_option linter.unusedVariables false

theorem out_seg {b : Nat} {A l : List Sg} {r : Sg} (h : Segs b (A ++ r :: l)) (hb : b ≤ 1000000) : outK Fm.name (wname r.k) ((A ++ r :: l).map Sg.f) = (A ++ l).map Sg.f := by
  have hp := List.pairwise_append.1 h.rise
  have hr := List.pairwise_cons.1 hp.2.1
  have hrk := h.lo r (by simp)
  have keep : ∀ m : List Sg, (∀ y ∈ m, y.k ≠ r.k ∧ y.k < b) → outK Fm.name (wname r.k) (m.map Sg.f) = m.map Sg.f := by
    intro m hm
    refine out_eq fun y hy => ?_
    obtain ⟨z, hz, rfl⟩ := List.mem_map.1 hy
    intro e
    exact (hm z hz).1 (wname_inj (by have := (hm z hz).2; omega) (by omega) e)
  have h1 := keep A fun y hy => ⟨by have := hp.2.2 y hy r (by simp); omega, (h.lo y (by simp [hy])).2⟩
  have h2 := keep l fun y hy => ⟨by have := hr.1 y hy; omega, (h.lo y (by simp [hy])).2⟩
  unfold outK at h1 h2 ⊢
  rw [List.map_append, List.filter_append, h1, List.map_cons, List.filter_cons, if_neg (by simp [Sg.f]), h2, List.map_append]
theorem dropL_is {b : Nat} {before : Int} : ∀ (l A : List Sg) (x : Ws), x.fs = (A ++ l).map Sg.f → Segs b (A ++ l) → b ≤ 1000000 → x.dd = false → x.ar = false →
    ∃ y, dropL before (l.map fun r => (r.k : Int)) x = (y, 0) ∧ y.dd = false ∧ y.ar = false ∧ y.seg = x.seg ∧ y.fs = (A ++ l.filter fun r => decide (before ≤ (r.k : Int) ∨ (r.k : Int) = x.seg)).map Sg.f := by
  intro l
  induction l with
  | nil => intro A x hf _ _ hd ha; exact ⟨x, rfl, hd, ha, rfl, by rw [hf]; simp⟩
  | cons r l ih =>
    intro A x hf hs hb hd ha
    have hrk := hs.lo r (by simp)
    rw [List.map_cons, dropL]
    by_cases hk : before ≤ (r.k : Int) ∨ (r.k : Int) = x.seg
    · rw [if_pos hk]
      obtain ⟨y, e, h1, h2, h3, h4⟩ := ih (A ++ [r]) x (by rw [hf]; simp) (by simpa using hs) hb hd ha
      refine ⟨y, e, h1, h2, h3, ?_⟩
      rw [h4, List.filter_cons, if_pos (by simpa using hk)]
      simp
    · rw [if_neg hk]
      have hfn : fname (r.k : Int) = wname r.k := by unfold fname; rw [if_pos (by omega)]; rfl
      have hfd : findK Fm.name (wname r.k) x.fs = some r.f := by
        rw [hf]; exact find_seg hs hb (by simp)
      have hdx : delX x r.k = ({ stepX x with fs := outK Fm.name (wname r.k) x.fs }, 0) := by
        have hnd : dead x.ar x.lf = false := by rw [ha]; rfl
        unfold delX ddelX
        rw [hfn, vname_wname, if_neg (by decide), hfd, if_neg (by simp), hnd, if_neg (by decide)]
        simp [doneX, stepX]
      rw [hdx, if_pos rfl]
      have hs2 : Segs b (A ++ l) := by
        refine ⟨?_, fun y hy => hs.lo y (by rcases List.mem_append.1 hy with h | h <;> simp [h])⟩
        have hp := List.pairwise_append.1 hs.rise
        exact List.pairwise_append.2 ⟨hp.1, (List.pairwise_cons.1 hp.2.1).2, fun a ha c hc => hp.2.2 a ha c (by simp [hc])⟩
      obtain ⟨y, e, h1, h2, h3, h4⟩ := ih A { stepX x with fs := outK Fm.name (wname r.k) x.fs } (by show outK Fm.name (wname r.k) x.fs = _; rw [hf, out_seg hs hb]) hs2 hb hd ha
      refine ⟨y, e, h1, h2, h3, ?_⟩
      rw [h4, List.filter_cons, if_neg (by simpa using hk)]
      rfl
section
variable {x : Ws} {g : Gh} {N : Nat}
theorem Gh.Ok.all_segs (ok : g.Ok N) : Segs (g.seg + 1) g.all := by
  unfold Gh.all Gh.own
  split
  · rw [List.append_nil]; exact ok.segs.mono (Nat.le_succ _)
  · exact ok.segs.snoc ok.s1 _ _
/-- What Drop does to a log that isn't armed. -/
theorem drop_is (h : Is x g) (ok : g.Ok N) (hN : N ≤ 250) (hd : x.dd = false) (ha : x.ar = false) (before : Int) :
    (dropX x before).2 = 0 ∧ (dropX x before).1.dd = false ∧ (dropX x before).1.ar = false ∧ Is (dropX x before).1 { g with rs := g.rs.filter fun r => decide (before ≤ (r.k : Int)) } := by
  have hs := ok.sN
  obtain ⟨y, e, h1, h2, h3, h4⟩ := dropL_is (b := g.seg + 1) (before := before) g.all [] x (by rw [h.fs]; rfl) (by simpa using ok.all_segs) (by omega) hd ha
  have he : dropX x before = (y, 0) := by
    unfold dropX
    rw [hd, if_neg (by decide), h.fs, segs_of ok.all_segs (by omega), e]
  rw [he]
  refine ⟨rfl, h1, h2, ?_, h3.trans h.seg⟩
  rw [h4, List.nil_append, h.seg]
  unfold Gh.all
  rw [List.filter_append]
  congr 2
  · refine List.filter_congr fun r hr => ?_
    have := (ok.segs.lo r hr).2
    have : ¬ (r.k : Int) = g.seg := by omega
    simp [this]
  · unfold Gh.own
    split
    · rfl
    · simp
      rfl
theorem Gh.Ok.dropped (ok : g.Ok N) (p : Sg → Bool) : ({ g with rs := g.rs.filter p } : Gh).Ok N :=
  ⟨ok.segs.filter p, fun r hr => ok.syn r (List.mem_filter.1 hr).1, ok.s1, ok.sN, ok.few, ok.sq, ok.len⟩
theorem con_dropped (ok : g.Ok N) (before : Int) : ({ g with rs := g.rs.filter fun r => decide (before ≤ (r.k : Int)) } : Gh).con = g.con.filter fun t => decide (before ≤ (t.1 : Int) ∨ t.1 = g.seg) := by
  unfold Gh.con
  rw [List.filter_append]
  congr 1
  · rw [tcon_filter (fun k => decide (before ≤ (k : Int)))]
    refine List.filter_congr fun t ht => ?_
    obtain ⟨r, hr, e⟩ := tcon_fst _ t ht
    have := (ok.segs.lo r hr).2
    have : ¬ t.1 = g.seg := by omega
    simp [this]
  · symm
    rw [List.filter_eq_self]
    intro t ht
    obtain ⟨p, _, rfl⟩ := List.mem_map.1 ht
    simp
end

/-! ### a loss of power -/
/-- Segments that are all synced. -/
def AllSyn (rs : List Sg) : Prop := ∀ r ∈ rs, r.syn = r.data.length
theorem cr1_syn {r : Sg} (h : r.syn = r.data.length) (ks : List Int) : cr1 r.f ks = (r.f, ks) := by
  unfold cr1
  rw [if_neg (by simp only [Sg.f]; omega)]
  unfold cutF
  simp only [Sg.f, Nat.add_zero]
  rw [List.take_of_length_le (by omega)]
theorem crash_syn {rs : List Sg} (h : AllSyn rs) (ks : List Int) : crash (rs.map Sg.f) ks = (rs.map Sg.f, ks) := by
  have key : ∀ (rs : List Sg) (acc : List Fm), AllSyn rs → (rs.map Sg.f).foldl (fun a f => (a.1 ++ [(cr1 f a.2).1], (cr1 f a.2).2)) (acc, ks) = (acc ++ rs.map Sg.f, ks) := by
    intro rs
    induction rs with
    | nil => intro acc _; simp
    | cons r rs ih =>
      intro acc h
      rw [List.map_cons, List.foldl_cons]
      simp only [cr1_syn (h r (by simp))]
      rw [ih _ fun x hx => h x (by simp [hx])]
      simp
  have := key rs [] h
  simpa [crash] using this
theorem crash_own {rs : List Sg} (h : AllSyn rs) (r : Sg) (ks : List Int) : (crash ((rs ++ [r]).map Sg.f) ks).1 = rs.map Sg.f ++ [(cr1 r.f ks).1] := by
  rw [List.map_append, List.map_singleton, crash_snoc, crash_syn h]
theorem cr1_cut (f : Fm) (hf : f.syn ≤ f.data.length) (ks : List Int) : ∃ n, f.syn ≤ n ∧ n ≤ f.data.length ∧ (cr1 f ks).1 = ⟨f.name, f.data.take n, n⟩ := by
  unfold cr1
  split
  · rename_i hlt
    split
    · rename_i k r
      refine ⟨f.syn + (max 0 (min k ((f.data.length - f.syn : Nat) : Int))).toNat, by omega, by omega, rfl⟩
    · exact ⟨f.syn + 0, by omega, by omega, rfl⟩
  · exact ⟨f.syn + 0, by omega, by omega, rfl⟩
/-- Of frames cut anywhere, how many are left. -/
theorem cut_count {gs : List (List UInt8)} (h : ∀ g ∈ gs, g.length ≤ 4096) {j cut : Nat} (hj : j ≤ gs.length) (h1 : (flat (gs.take j)).length ≤ cut) (h2 : cut ≤ (flat gs).length) :
    ∃ k, j ≤ k ∧ k ≤ gs.length ∧ (scan ((flat gs).take cut)).1 = gs.take k := by
  have key : ∀ (d j : Nat), gs.length - j = d → j ≤ gs.length → (flat (gs.take j)).length ≤ cut → ∃ k, j ≤ k ∧ k ≤ gs.length ∧ (scan ((flat gs).take cut)).1 = gs.take k := by
    intro d
    induction d with
    | zero =>
      intro j hd hj h1
      refine ⟨j, Nat.le_refl _, hj, ?_⟩
      rw [scan_cut h hj h1 h2 (.inl (by omega))]
    | succ d ih =>
      intro j hd hj h1
      by_cases hc : cut < (flat (gs.take (j + 1))).length
      · refine ⟨j, Nat.le_refl _, hj, ?_⟩
        rw [scan_cut h hj h1 h2 (.inr hc)]
      · obtain ⟨k, k1, k2, k3⟩ := ih (j + 1) (by omega) (by omega) (by omega)
        exact ⟨k, by omega, k2, k3⟩
  exact key _ j rfl hj h1
theorem crash_is {x : Ws} {g : Gh} {N : Nat} (h : Is x g) (ok : g.Ok N) (ks : List Int) :
    ∃ rs, (crash x.fs ks).1 = rs.map Sg.f ∧ Segs (g.seg + 1) rs ∧ AllSyn rs ∧ ∃ m, g.safe ≤ m ∧ m ≤ g.con.length ∧ (tcon rs).map Prod.snd = (g.con.map Prod.snd).take m := by
  by_cases he : g.ps = []
  · refine ⟨g.rs, ?_, ok.segs.mono (Nat.le_succ _), ok.syn, g.con.length, safe_le ok, Nat.le_refl _, ?_⟩
    · rw [h.fs]
      simp only [Gh.all, Gh.own, if_pos he, List.append_nil]
      rw [crash_syn ok.syn]
    · rw [List.take_of_length_le (by rw [List.length_map]; exact Nat.le_refl _)]
      simp [Gh.con, he]
  · have hy : g.y ≤ (flat g.ps).length := flat_take_le _ _
    obtain ⟨n, n1, n2, n3⟩ := cr1_cut (⟨g.seg, flat g.ps, g.y⟩ : Sg).f hy ks
    simp only [Sg.f] at n1 n2 n3
    have hf : ∀ q ∈ g.ps, q.length ≤ 4096 := fun q hq => by have := ok.few q hq; omega
    obtain ⟨k, k1, k2, k3⟩ := cut_count hf ok.sq n1 n2
    refine ⟨g.rs ++ [⟨g.seg, (flat g.ps).take n, n⟩], ?_, ok.segs.snoc ok.s1 _ _, ?_, (tcon g.rs).length + k, by unfold Gh.safe; omega, ?_, ?_⟩
    · rw [h.fs]
      simp only [Gh.all, Gh.own, if_neg he]
      rw [crash_own ok.syn]
      simp only [Sg.f] at n3 ⊢
      rw [n3]
      simp [Sg.f]
    · intro r hr
      rcases List.mem_append.1 hr with hr | hr
      · exact ok.syn r hr
      · rw [List.mem_singleton] at hr
        subst hr
        simp only [List.length_take]
        omega
    · unfold Gh.con
      rw [List.length_append, List.length_map]
      omega
    · have e1 : tcon [(⟨g.seg, (flat g.ps).take n, n⟩ : Sg)] = (g.ps.take k).map fun p => (g.seg, p) := by simp [tcon, k3]
      rw [tcon_app, e1]
      unfold Gh.con
      generalize tcon g.rs = T
      have e2 : (T.map Prod.snd).take (T.length + k) = T.map Prod.snd := List.take_of_length_le (by rw [List.length_map]; omega)
      rw [List.map_append, List.map_append, List.take_append, e2, List.length_map, show T.length + k - T.length = k from by omega]
      simp
end Go.Proofs.YtadkgfhfjagmpaaGreatDoor

namespace Go.Proofs.YtadkgfhfjagmpaaGreatDoor
open Go.RowKit Go.Maps Num Crc
set_option linter.unusedVariables false

theorem vn_segs {gs : List Gm} {rs : List Sg} (hf : gs.map Gm.f = rs.map Sg.f) : ∀ g ∈ gs, vname g.name = true := fun g hg => by
  have h1 : g.f ∈ rs.map Sg.f := hf ▸ List.mem_map.2 ⟨g, hg, rfl⟩
  obtain ⟨r, _, e⟩ := List.mem_map.1 h1
  rw [Gm.name, ← e]
  exact vname_wname _
theorem foot_same {pb mb : Nat} {gs : List Gm} {k : Nat} (h : foot pb mb gs k) : foot pb mb gs k := h
/-- What Open leaves: a log, and the payloads. -/
def Opened (w0 w : World) (pb mb : Nat) (gs : List Gm) (st : Int) (ar : Bool) (lf : Int) (rs : List Sg) (b : Nat) (e : Ending) (w' : World) : Prop :=
  ∃ (pl s : Nat) (A : Option Addr) (c : Nat) (vs : List Value), e = .returned (.tuple #[.pointer (some ⟨pl, 0, none⟩), .slice A ((tcon rs).map Prod.snd).length c, .int .i64 0]) ∧
    Wl w0 w' pl pb mb gs ⟨rs.map Sg.f, st, ar, lf, (s : Int), false⟩ ∧ 1 ≤ s ∧ s ≤ b ∧ Segs s rs ∧
    w'.ownsRow w.heap.size 28 1 (.slice A ((tcon rs).map Prod.snd).length c) ((tcon rs).map Prod.snd).length vs ∧ Each w' w.heap.size vs ((tcon rs).map Prod.snd) ∧ Below w.heap.size w w' ∧ w.heap.size ≤ pl
theorem open_log {w0 w : World} {pb mb : Nat} {gs : List Gm} {st lf : Int} {ar : Bool} {rs : List Sg} {b : Nat} (lay : WL w0) (bel : Below w0.heap.size w0 w) (hD : Dr w pb mb gs st ar lf) (lo : ∀ k, foot pb mb gs k → w0.heap.size ≤ k)
    (hf : gs.map Gm.f = rs.map Sg.f) (hs : Segs b rs) (hb1 : 1 ≤ b) (hb : b ≤ 1000000) :
    Calls Tryz.prog 13 #[.pointer (some ⟨pb, 0, none⟩), .int .i64 1] w (Opened w0 w pb mb gs st ar lf rs b) := by
  have hR : Rd w pb mb gs st ar lf := ⟨hD, lay.keep bel, vn_segs hf⟩
  refine (open_any hR 1 (by omega) (by omega)).mono ?_
  rintro e w' ⟨pl, A, c, vs, rfl, hL, hpl, ho, he, hbw⟩
  obtain ⟨s, hse, h1, h2, h3⟩ := sego_of hs hb hb1 hf
  rw [pso_of hs hb hf] at ho he ⊢
  rw [hse] at hL
  refine ⟨pl, s, A, c, vs, rfl, ⟨lay, bel.trans (hbw.mono bel.size), hD.below hbw (Nat.le_refl _), hL, hf, by simp only; omega, by simp only; omega, vn_segs hf, ?_⟩, h1, h2, h3, own_mono ho (Nat.le_succ _), he.mono (Nat.le_succ _), hbw, hpl⟩
  rintro k (rfl | hk)
  · exact Nat.le_trans bel.size hpl
  · exact lo k hk
/-- A log just opened, as plain lists. -/
theorem is_opened {rs : List Sg} {st lf : Int} {ar : Bool} {s N : Nat} (hs : Segs s rs) (h1 : 1 ≤ s) (hN : s ≤ N) (hy : AllSyn rs) : Is ⟨rs.map Sg.f, st, ar, lf, (s : Int), false⟩ ⟨rs, s, [], 0⟩ ∧ (⟨rs, s, [], 0⟩ : Gh).Ok N :=
  ⟨⟨by simp [Gh.all, Gh.own], rfl⟩, ⟨hs, hy, h1, hN, by simp, Nat.le_refl _, by simp [flat]⟩⟩
theorem app_first {x : Ws} {g : Gh} {N : Nat} (h : Is x g) (ok : g.Ok N) (hN : N ≤ 250) (hd : x.dd = false) (ha : x.ar = false) (he : g.ps = []) {p : List UInt8} (hp : p.length ≤ 700) :
    (appX x p).2 = 0 ∧ (appX x p).1.dd = false ∧ (appX x p).1.ar = false ∧ Is (appX x p).1 (g.more p) ∧ (g.more p).Ok N := by
  have ho := h.old ok hN
  have hsl := seal_700 hp
  have e : appX x p = tailX x (seal_ p) := by
    unfold appX
    rw [if_neg (by omega), hd, if_neg (by decide), h.fname_ ok hN, ho.1, he, if_neg (by simp [flat])]
  rw [e]
  rcases tail_is h ok hN hd hp (by rw [he]; simp [flat]; omega) with ⟨h1, h2, h3, h4, h5⟩ | ⟨_, h2, _⟩
  · exact ⟨h1, h2, h3.trans ha, h4, h5⟩
  · rw [ha] at h2; simp [dead] at h2
theorem lseg_any {w0 w : World} {pl pb mb : Nat} {gs : List Gm} {x : Ws} (h : Wl w0 w pl pb mb gs x) :
    Calls Tryz.prog 19 #[.pointer (some ⟨pl, 0, none⟩)] w fun e w' => e = .returned (.int .i64 x.seg) ∧ w' = w := by
  have k1 := h.c1
  go_enter Tryz.func19, Tryz.ntmps19
  go_wp2_with fail
  go_ret
  exact ⟨rfl, rfl⟩
theorem Wl.alloc {w0 w : World} {pl pb mb : Nat} {gs : List Gm} {x : Ws} (h : Wl w0 w pl pb mb gs x) (o : Obj) : Wl w0 (w.alloc o) pl pb mb gs x := h.below ((Below.refl _ w).alloc (Nat.le_refl _) o)
theorem Each.first {w : World} {B : Nat} {vs : List Value} {l : List UInt8} (h : Each w B vs [l]) : ∃ A c, vs = [.slice A l.length c] ∧ Sl w A l.length (bv l) := by
  match vs, h with
  | [v], h =>
    obtain ⟨⟨A, c, rfl, ho⟩, _⟩ := h
    exact ⟨A, c, rfl, own_sl ho⟩
set_option maxHeartbeats 4000000 in
set_option maxRecDepth 20000 in
theorem awake3_any (w : World) (hW : WL w) : Calls Tryz.prog 9 #[] w fun e w' => e = .returned (.bool true) ∧ Below w.heap.size w w' := by
  have hnm : (⟨#[119, 97, 108, 45, 48, 48, 48, 48, 48, 49]⟩ : ByteArray) = str (wname 1) := by decide
  have HW := Lib.hid hW
  clear hW
  go_enter Tryz.func9, Tryz.ntmps9
  go_wp2_with fail
  refine (new_any _).mono ?_
  rintro e w1 ⟨rfl, hD1, hb1⟩
  have hf1 : ∀ k, foot (w.heap.size + 1) w.heap.size [] k → w.heap.size ≤ k := fun k hk => by rcases hk with e | e | ⟨g, hg, _⟩; omega; omega; cases hg
  have hop := open_log (rs := []) (b := 1) HW.out hb1 hD1 hf1 rfl ⟨List.Pairwise.nil, by simp⟩ (Nat.le_refl _) (by decide)
  clear hD1
  go_wp2_with fail
  refine hop.mono ?_
  rintro e w2 ⟨pl, s, A, c, vs, rfl, hW2, hs1, hs2, hs3, -, -, hb2, -⟩
  obtain rfl : s = 1 := by omega
  have hb2' : Below w.heap.size w w2 := hb1.trans (hb2.mono hb1.size)
  obtain ⟨hi2, ok2⟩ := is_opened (N := 1) (st := 0) (lf := 0) (ar := false) hs3 (Nat.le_refl _) (Nat.le_refl _) (fun r hr => by cases hr)
  have H2 := Lib.hid hW2
  have HI2 := Lib.hid hi2
  have HO2 := Lib.hid ok2
  clear hW2 hs3 hi2 ok2 hop hs1 hs2
  go_wp2_with (first
    | (go_at_call 19; refine (lseg_any H2.out).mono ?_; rintro e w3 ⟨rfl, rfl⟩)
    | fail)
  have hap := lappend_any (H2.out.alloc (.cells #[.int .u8 1, .int .u8 2, .int .u8 3] 5)) (some ⟨w3.heap.size, 0, none⟩) 3 3 [1, 2, 3] (Sl.lit w3 5 (bv [1, 2, 3]))
  obtain ⟨c1, c2, c3, c4, c5⟩ := app_first HI2.out HO2.out (by decide) rfl rfl rfl (p := [1, 2, 3]) (by decide)
  rw [c1] at hap
  generalize hy : (appX ⟨List.map Sg.f [], 0, false, 0, ((1 : Nat) : Int), false⟩ [1, 2, 3]).1 = y at hap c2 c3 c4
  clear hy c1
  have HC4 := Lib.hid (And.intro c4 c5)
  clear c4 c5
  refine hap.mono ?_
  rintro e w4 ⟨rfl, gs4, hW4, hS4⟩
  have hfs : gs4.map Gm.f = (Gh.more ⟨[], 1, [], 0⟩ [1, 2, 3]).all.map Sg.f := hW4.fs.trans HC4.out.1.fs
  have hop := open_log HW.out hW4.bel hW4.dr (fun k hk => hW4.lo k (.inr hk)) hfs HC4.out.2.all_segs (by decide) (by decide)
  have hcon : (tcon (Gh.more ⟨[], 1, [], 0⟩ [1, 2, 3]).all).map Prod.snd = [[1, 2, 3]] := by rw [con_all HC4.out.2]; rfl
  unfold Opened at hop
  rw [hcon] at hop
  have HW4 := Lib.hid hW4
  have HF4 := Lib.hid hfs
  clear hap hS4 hfs hW4 hcon c2 c3
  go_wp2_with fail
  refine hop.mono ?_
  rintro e w5 ⟨pl2, s2, A5, c5, vs5, rfl, hW5, hs1, hs2, hs3, hr5, he5, hb5, hpl2⟩
  obtain ⟨A6, c6, rfl, hsl6⟩ := he5.first
  have hlo5 : looseG (wname 1) gs4 = (seal_ [1, 2, 3]).length := by
    have h1 := find_fs HF4.out (wname 1)
    have h2 : findK Fm.name (wname 1) ((Gh.more ⟨[], 1, [], 0⟩ [1, 2, 3]).all.map Sg.f) = some ⟨wname 1, flat [[1, 2, 3]], 0⟩ := by
      have := HC4.out.1.find1 HC4.out.2 (by decide) (by decide)
      rw [HC4.out.1.fs] at this
      exact this
    rw [h2] at h1
    cases hg : findK Gm.name (wname 1) gs4 with
    | none => rw [hg] at h1; cases h1
    | some g =>
      rw [hg] at h1
      have h3 : g.f = ⟨wname 1, flat [[1, 2, 3]], 0⟩ := (Option.some.inj h1).symm
      unfold looseG
      rw [hg]
      simp [h3, flat]
  have hlz := loose_any hW5.dr (wname 1) (by decide)
  rw [hlo5, ← hnm] at hlz
  have hcell := (own_sl hr5).at_ (k := 0) (by decide)
  obtain ⟨b, o, u, rfl, hu, hce⟩ := hcell
  obtain rfl := Option.some.inj hu
  rw [Nat.add_zero] at hce
  have hce : w5.cell? ⟨b, o, none⟩ = some (.slice A6 3 c6) := hce
  have hcs : (convert 28 9 (.slice A6 3 c6)).run Tryz.prog w5 = .ok (.string ⟨#[1, 2, 3]⟩) w5 := run_str (P := Tryz.prog) (c := c6) hsl6 28 5 9 Tryz.underlying28 Tryz.underlying5 Tryz.underlying9
  have hp5 : ((seal_ [1, 2, 3]).length : Int) > 0 := by have := seal_pos [1, 2, 3]; omega
  generalize (seal_ [1, 2, 3]).length = sz at hlz hp5
  have hbe := HW4.out.bel.trans (hb5.mono HW4.out.bel.size)
  clear hW5 hr5 he5 hop hu
  go_wp2_with fail
  refine hlz.mono ?_
  rintro e w6 ⟨rfl, q, rfl⟩
  go_wp2_with fail
  go_ret
  refine ⟨?_, hbe.trans ((below_drewN w5 q).mono hbe.size)⟩
  have hp0 : 0 < sz := by omega
  show Ending.returned (.bool (decide (0 < sz))) = _
  rw [decide_eq_true hp0]
end Go.Proofs.YtadkgfhfjagmpaaGreatDoor

namespace Go.Proofs.YtadkgfhfjagmpaaGreatDoor
open Go.RowKit Go.Maps Num Crc
set_option linter.unusedVariables false

section
variable {w0 w w' : World} {pl pb mb : Nat} {gs gs' : List Gm} {x : Ws}
theorem Wl.foot_lt (h : Wl w0 w pl pb mb gs x) {k : Nat} (hk : wfoot pl pb mb gs k) : k < w.heap.size := by
  rcases hk with rfl | hk
  · exact h.lg.lt
  · exact h.dr.foot_lt hk
/-- What kind of block a log's blocks are. -/
theorem Wl.kind (h : Wl w0 w pl pb mb gs x) {k : Nat} (hk : wfoot pl pb mb gs k) : (∃ es c, w.heap[k]? = some (.map es c)) ∨ ∃ cs t, Blk w k cs t ∧ (t = 111 ∨ t = 150 ∨ t = 158 ∨ t = 5) := by
  rcases hk with rfl | hk
  · exact .inr ⟨_, _, h.lg, .inl rfl⟩
  · rcases h.dr.kind hk with e | ⟨cs, t, h1, h2⟩
    · exact .inl e
    · exact .inr ⟨cs, t, h1, .inr h2⟩
def plainT (e : Nat) : Prop := e ≠ 111 ∧ e ≠ 150 ∧ e ≠ 158 ∧ e ≠ 5
theorem Wl.apart (h : Wl w0 w pl pb mb gs x) {k : Nat} {cs : Array Value} {e : TypeId} (hb : Blk w k cs e) (he : plainT e) : ¬ wfoot pl pb mb gs k := fun hk => by
  unfold Blk at hb
  rcases h.kind hk with ⟨es, c, hm⟩ | ⟨cs', t, hb', ht⟩
  · rw [hb] at hm; cases hm
  · unfold Blk at hb'
    rw [hb] at hb'; injection hb' with hb'; injection hb' with _ h5
    rcases ht with ht | ht | ht | ht <;> rw [ht] at h5
    · exact he.1 h5
    · exact he.2.1 h5
    · exact he.2.2.1 h5
    · exact he.2.2.2 h5
/-- A row of another type than a log's blocks stays. -/
theorem Wl.row {B e n : Nat} {v : Value} {xs : List Value} (h : Wl w0 w pl pb mb gs x) (ho : w.ownsRow B e 1 v n xs) (he : plainT e) (hS : Stp w w' (wfoot pl pb mb gs) (wfoot pl pb mb gs')) : w'.ownsRow B e 1 v n xs :=
  own_at ho fun k hk => by
    obtain ⟨cur, hb⟩ := own_blk_type ho hk
    exact hS.oth.block k hb.lt (h.apart hb he)
/-- A log stays where its blocks do. -/
theorem Wl.stay (h : Wl w0 w pl pb mb gs x) (hk : ∀ k, wfoot pl pb mb gs k → w'.heap[k]? = w.heap[k]?) (hb : Below w0.heap.size w0 w') : Wl w0 w' pl pb mb gs x :=
  ⟨h.lay, hb, h.dr.keep fun k e => hk k (.inr e), h.lg.keep (hk _ (.inl rfl)), h.fs, h.seg1, h.seg2, h.vn, h.lo⟩
/-- An append onto a row that isn't the log's. -/
theorem Wl.grown {B e n : Nat} {v : Value} {xs : List Value} (h : Wl w0 w pl pb mb gs x) (ho : w.ownsRow B e 1 v n xs) (he : plainT e) (hB : w0.heap.size ≤ B) (hg : w.grownBy w' v.ownBlock) : Wl w0 w' pl pb mb gs x := by
  refine h.stay (fun k hk => hg.block k (h.foot_lt hk) fun e => ?_) (h.bel.grown hg h.bel.size fun k e => Nat.le_trans hB (own_blk ho k e))
  obtain ⟨cur, hb⟩ := own_blk_type ho e.symm
  exact h.apart hb he hk
end
theorem plain_int : plainT 3 := by unfold plainT; decide
theorem plain_rows : plainT 28 := by unfold plainT; decide
end Go.Proofs.YtadkgfhfjagmpaaGreatDoor

namespace Go.Proofs.YtadkgfhfjagmpaaGreatDoor
open Go.RowKit Go.Maps Num Crc
set_option linter.unusedVariables false

theorem EachS.takes {w : World} : ∀ {vs : List Value} {ls : List (List UInt8)} (k : Nat), EachS w vs ls → EachS w (vs.take k) (ls.take k)
  | [], [], k, _ => by cases k <;> exact trivial
  | _ :: vs, _ :: ls, 0, _ => trivial
  | _ :: vs, _ :: ls, k + 1, h => ⟨h.1, EachS.takes k h.2⟩
  | [], _ :: _, _, h => h.elim
  | _ :: _, [], _, h => h.elim
theorem EachS.drops {w : World} : ∀ {vs : List Value} {ls : List (List UInt8)} (k : Nat), EachS w vs ls → EachS w (vs.drop k) (ls.drop k)
  | [], [], k, _ => by cases k <;> exact trivial
  | _ :: vs, _ :: ls, 0, h => h
  | _ :: vs, _ :: ls, k + 1, h => EachS.drops k h.2
  | [], _ :: _, _, h => h.elim
  | _ :: _, [], _, h => h.elim
end Go.Proofs.YtadkgfhfjagmpaaGreatDoor
