/-
  Losses of power that change no byte; without walks.
-/
import Derived.Test.YtfhlhdpgahbeiaaSame
import Derived.Test.YtfhlhdpgahbeiaaBri
namespace Go.Proofs.Ytfhlhdpgahbeiaa
open Go.RowKit Go.Maps
set_option linter.unusedVariables false

def ndF (f : Fm) : List UInt8 × List UInt8 := (f.name, f.data)
theorem nd_map (gs : List Gm) : gs.map nd = (gs.map Gm.f).map ndF := by rw [List.map_map]; rfl
theorem cr1_synced {f : Fm} (h : f.syn = f.data.length) (ks : List Int) : ndF (cr1 f ks).1 = ndF f := by
  unfold cr1
  rw [if_neg (by omega)]
  simp [ndF, cutF, h]
theorem crash_synced {fs : List Fm} (h : ∀ f ∈ fs, f.syn = f.data.length) (ks : List Int) : (crash fs ks).1.map ndF = fs.map ndF := by
  have key : ∀ (fs : List Fm) (acc : List Fm × List Int), (∀ f ∈ fs, f.syn = f.data.length) → (fs.foldl (fun a f => (a.1 ++ [(cr1 f a.2).1], (cr1 f a.2).2)) acc).1.map ndF = acc.1.map ndF ++ fs.map ndF := by
    intro fs
    induction fs with
    | nil => intro acc _; simp
    | cons f r ih =>
      intro acc h
      rw [List.foldl_cons, ih _ (fun g hg => h g (by simp [hg]))]
      simp [cr1_synced (h f (by simp))]
  simpa [crash] using key fs ([], ks) h
theorem cr1_all {f : Fm} (h : f.syn ≤ f.data.length ∧ f.data.length ≤ 262144) {K : Int} (hK : 262144 ≤ K) (m : Nat) : ndF (cr1 f (List.replicate (m + 1) K)).1 = ndF f ∧ ∃ m', m ≤ m' ∧ (cr1 f (List.replicate (m + 1) K)).2 = List.replicate m' K := by
  unfold cr1
  by_cases hl : f.syn < f.data.length
  · rw [if_pos hl, List.replicate_succ]
    refine ⟨?_, m, Nat.le_refl _, rfl⟩
    have : (max 0 (min K ((f.data.length - f.syn : Nat) : Int))).toNat = f.data.length - f.syn := by omega
    simp only [cutF, ndF, this]
    rw [List.take_of_length_le (by omega)]
  · rw [if_neg hl]
    refine ⟨?_, m + 1, by omega, rfl⟩
    simp only [cutF, ndF]
    rw [List.take_of_length_le (by omega)]
theorem crash_all {fs : List Fm} (h : ∀ f ∈ fs, f.syn ≤ f.data.length ∧ f.data.length ≤ 262144) {K : Int} (hK : 262144 ≤ K) {m : Nat} (hm : fs.length ≤ m) : (crash fs (List.replicate m K)).1.map ndF = fs.map ndF := by
  have key : ∀ (fs : List Fm) (acc : List Fm) (m : Nat), (∀ f ∈ fs, f.syn ≤ f.data.length ∧ f.data.length ≤ 262144) → fs.length ≤ m → (fs.foldl (fun a f => (a.1 ++ [(cr1 f a.2).1], (cr1 f a.2).2)) (acc, List.replicate m K)).1.map ndF = acc.map ndF ++ fs.map ndF := by
    intro fs
    induction fs with
    | nil => intro acc m _ _; simp
    | cons f r ih =>
      intro acc m h hm
      obtain ⟨m, rfl⟩ : ∃ n, m = n + 1 := ⟨m - 1, by simp at hm; omega⟩
      obtain ⟨h1, m', hm', h2⟩ := cr1_all (h f (by simp)) hK m
      rw [List.foldl_cons]
      simp only
      rw [h2, ih _ m' (fun g hg => h g (by simp [hg])) (by simp at hm; omega)]
      simp [h1]
  simpa [crash] using key fs [] m h hm
/-- The names behind a loss of power are good ones. -/
theorem vn_crash {gs hs : List Gm} {ks : List Int} (h : ∀ g ∈ gs, vname g.name = true) (he : hs.map Gm.f = (crash (gs.map Gm.f) ks).1) : ∀ y ∈ hs, vname y.name = true := fun y hy => by
  have h1 := crash_names ks (gs.map Gm.f)
  rw [← he, List.map_map, List.map_map] at h1
  have h2 : y.name ∈ gs.map (Fm.name ∘ Gm.f) := h1 ▸ List.mem_map.2 ⟨y, hy, rfl⟩
  obtain ⟨g, hg, hgy⟩ := List.mem_map.1 h2
  exact hgy ▸ h g hg
theorem file_len {w : World} {pb mb : Nat} {gs : List Gm} {st lf : Int} {ar : Bool} (h : Dr w pb mb gs st ar lf) : ∀ f ∈ gs.map Gm.f, f.syn ≤ f.data.length ∧ f.data.length ≤ 262144 := fun f hf => by
  obtain ⟨g, hg, rfl⟩ := List.mem_map.1 hf
  exact ⟨(h.file g hg).2.2.1, (h.file g hg).2.2.2.1⟩

/-- Synced so far: each file that isn't is named at i or behind. -/
def Syd (N : List (List UInt8)) (i : Nat) (gs : List Gm) : Prop := ∀ g ∈ gs, g.f.syn = g.f.data.length ∨ ∃ j, i ≤ j ∧ N[j]? = some g.name
theorem Syd.start (gs : List Gm) : Syd (gs.map Gm.name) 0 gs := fun g hg => by
  obtain ⟨j, hj, e⟩ := List.getElem_of_mem hg
  exact .inr ⟨j, Nat.zero_le _, by rw [List.getElem?_map, List.getElem?_eq_getElem hj, e]; rfl⟩
theorem Syd.next {N : List (List UInt8)} {i : Nat} {gs : List Gm} {s : List UInt8} {g : Gm} (h : Syd N i gs) (hr : Rises Gm.name gs) (hs : N[i]? = some s) (hn : g.name = s) (hg : g.f.syn = g.f.data.length) : Syd N (i + 1) (withK Gm.name g gs) := fun y hy => by
  rcases mem_with_ne hr hy with rfl | ⟨hy, hne⟩
  · exact .inl hg
  · rcases h y hy with e | ⟨j, hj, e⟩
    · exact .inl e
    · refine .inr ⟨j, ?_, e⟩
      have : j ≠ i := by
        rintro rfl
        rw [hs] at e
        exact hne (by rw [hn]; exact (Option.some.inj e).symm)
      omega
theorem Syd.done {N : List (List UInt8)} {gs : List Gm} (h : Syd N N.length gs) : ∀ f ∈ gs.map Gm.f, f.syn = f.data.length := fun f hf => by
  obtain ⟨g, hg, rfl⟩ := List.mem_map.1 hf
  rcases h g hg with e | ⟨j, hj, e⟩
  · exact e
  · have := (List.getElem?_eq_some_iff.1 e).1
    omega
/-- A row of strings is none of a drive's blocks. -/
theorem str_foot {w : World} {pb mb : Nat} {gs : List Gm} {st lf : Int} {ar : Bool} (h : Dr w pb mb gs st ar lf) {B n : Nat} {v : Value} {xs : List Value} (ho : w.ownsRow B 9 1 v n xs) : ∀ k, v.ownBlock = some k → ¬ foot pb mb gs k := fun k hk hf => by
  obtain ⟨cur, hb⟩ := own_blk_type ho hk
  unfold Blk at hb
  rcases h.kind hf with ⟨es, cl, hm⟩ | ⟨cs', t, hb', ht⟩
  · rw [hb] at hm; cases hm
  · unfold Blk at hb'
    rw [hb] at hb'; injection hb' with hb'; injection hb' with _ h5
    rcases ht with ht | ht | ht <;> rw [ht] at h5 <;> exact absurd h5 (by decide)
end Go.Proofs.Ytfhlhdpgahbeiaa
