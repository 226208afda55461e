/-
  Drive and reference side by side: what each answers is the same, and what each leaves; without walks.
-/
import Derived.Test.YtfhlhdpgahbeiaaReG
import Derived.Test.YtfhlhdpgahbeiaaTells
namespace Go.Proofs.Ytfhlhdpgahbeiaa
open Go.RowKit Go.Maps
set_option linter.unusedVariables false

theorem find_both (s : List UInt8) (gs : List Gm) : findK Fm.name s (gs.map Gm.f) = (findK Gm.name s gs).map Gm.f := (find_map (key := Gm.name) (key' := Fm.name) Gm.f (fun _ => rfl) s gs).symm
theorem with_both (g : Gm) (gs : List Gm) : (withK Gm.name g gs).map Gm.f = withK Fm.name g.f (gs.map Gm.f) := with_map (key := Gm.name) (key' := Fm.name) Gm.f (fun _ => rfl) g gs
theorem out_both (s : List UInt8) (gs : List Gm) : (outK Gm.name s gs).map Gm.f = outK Fm.name s (gs.map Gm.f) := out_map (key := Gm.name) (key' := Fm.name) Gm.f (fun _ => rfl) s gs
theorem rises_both {gs : List Gm} (h : Rises Gm.name gs) : Rises Fm.name (gs.map Gm.f) := List.pairwise_map.2 h
theorem old_both (s : List UInt8) (gs : List Gm) : oldFm s (gs.map Gm.f) = oldF s gs := by
  unfold oldFm oldF
  rw [find_both]
  cases findK Gm.name s gs <;> rfl
theorem look_both (s : List UInt8) (gs : List Gm) (ar : Bool) (lf : Int) : lookF s (gs.map Gm.f) ar lf = lookE s gs ar lf := by
  unfold lookF lookE
  rw [find_both]
  cases findK Gm.name s gs <;> rfl
theorem ren_both (s tn : List UInt8) (gs : List Gm) (ar : Bool) (lf : Int) : renF s tn (gs.map Gm.f) ar lf = renE s tn gs ar lf := by
  unfold renF renE
  rw [look_both]
theorem app_both (s : List UInt8) (n : Nat) (gs : List Gm) (ar : Bool) (lf : Int) : appF s n (gs.map Gm.f) ar lf = appE s n gs ar lf := by
  unfold appF appE
  rw [find_both, old_both, List.length_map]
  have e : (oldF s gs).data.length = sizeG s gs := by
    unfold oldF sizeG
    cases findK Gm.name s gs <;> rfl
  rw [e]
  simp only [Option.map_eq_none_iff]

/-- Drive and reference agree: the drive's blocks and the reference's row lie at lo or beyond. -/
structure Rel (w : World) (lo pb mb : Nat) (gs : List Gm) (st : Int) (ar : Bool) (lf : Int) (A : Option Addr) (c : Nat) : Prop where
  dr : Dr w pb mb gs st ar lf
  own : w.ownsRow lo 70 3 (.slice A gs.length c) gs.length (fcs (gs.map Gm.f))
  vn : ∀ g ∈ gs, vname g.name = true
  flo : ∀ k, foot pb mb gs k → lo ≤ k
  le : lo ≤ w.heap.size
section
variable {w w' : World} {lo pb mb : Nat} {gs : List Gm} {st lf : Int} {ar : Bool} {A : Option Addr} {c : Nat}
theorem Rel.fl (h : Rel w lo pb mb gs st ar lf A c) : Fl w A gs.length (gs.map Gm.f) := own_fl h.own
theorem Rel.below (h : Rel w lo pb mb gs st ar lf A c) (hb : Below w.heap.size w w') : Rel w' lo pb mb gs st ar lf A c :=
  ⟨h.dr.below hb (Nat.le_refl _), own3_below h.own hb, h.vn, h.flo, Nat.le_trans h.le hb.size⟩
/-- The reference's row is none of the drive's blocks. -/
theorem row_foot {n : Nat} {xs : List Value} (h : Dr w pb mb gs st ar lf) (ho : w.ownsRow lo 70 3 (.slice A n c) n xs) : ∀ k, (Value.slice A n c).ownBlock = some k → ¬ foot pb mb gs k := by
  intro k hk hf
  rcases ho.2 with ⟨e1, _⟩ | ⟨g, cap, cur, e1, _, h4, _⟩
  · rw [e1] at hk; cases hk
  · rw [e1] at hk
    cases hk
    rcases h.kind hf with ⟨es, cl, hm⟩ | ⟨cs, t, hb, ht⟩
    · rw [h4] at hm; cases hm
    · unfold Blk at hb
      rw [h4] at hb; injection hb with hb; injection hb with _ h5
      rcases ht with ht | ht | ht <;> rw [ht] at h5 <;> exact absurd h5 (by decide)
/-- .. so it is kept while the drive's call writes. -/
theorem row_stp {n : Nat} {xs : List Value} {S' : Nat → Prop} (h : Dr w pb mb gs st ar lf) (ho : w.ownsRow lo 70 3 (.slice A n c) n xs) (hS : Stp w w' (foot pb mb gs) S') : w'.ownsRow lo 70 3 (.slice A n c) n xs :=
  own3_keep ho fun k hk => hS.oth.block k (own3_lt ho k hk) (row_foot h ho k hk)
end
theorem vn_with {gs : List Gm} {g : Gm} (h : ∀ y ∈ gs, vname y.name = true) (hg : vname g.name = true) : ∀ y ∈ withK Gm.name g gs, vname y.name = true := fun y hy => by
  rcases mem_with hy with rfl | hy
  · exact hg
  · exact h y hy
theorem vn_out {gs : List Gm} {s : List UInt8} (h : ∀ y ∈ gs, vname y.name = true) : ∀ y ∈ outK Gm.name s gs, vname y.name = true := fun y hy => h y (List.mem_filter.1 hy).1
theorem appE_vn {s : List UInt8} {n : Nat} {gs : List Gm} {ar : Bool} {lf : Int} (h : appE s n gs ar lf = 0) : vname s = true := by
  unfold appE at h
  cases hv : vname s
  · rw [hv] at h; simp at h
  · rfl
theorem lookE_vn {s : List UInt8} {gs : List Gm} {ar : Bool} {lf : Int} (h : lookE s gs ar lf = 0) : vname s = true := by
  unfold lookE at h
  cases hv : vname s
  · rw [hv] at h; simp at h
  · rfl
theorem renE_vn {s tn : List UInt8} {gs : List Gm} {ar : Bool} {lf : Int} (h : renE s tn gs ar lf = 0) : vname tn = true ∧ lookE s gs ar lf = 0 := by
  unfold renE at h
  cases hv : vname tn
  · rw [hv] at h; simp at h
  · rw [hv] at h; simpa using h
end Go.Proofs.Ytfhlhdpgahbeiaa
