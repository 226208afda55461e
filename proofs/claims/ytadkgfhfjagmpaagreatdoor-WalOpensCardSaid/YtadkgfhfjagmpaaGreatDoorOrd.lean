/-
  Lists in rising order of their names, without walks: a name's entry put in, taken out, found; the same at a map's entries. Program-independent.
-/
import Derived.Test.YtadkgfhfjagmpaaGreatDoorBase
import Derived.Maps.OwnSet
import Derived.Maps.Ext
import Derived.Sort.KeysCollected
namespace Go.Proofs.YtadkgfhfjagmpaaGreatDoor
open Go.RowKit Go.Maps

/-- A text's value. -/
def str (l : List UInt8) : ByteArray := ⟨l.toArray⟩
theorem str_data (l : List UInt8) : (str l).data.toList = l := by simp [str]
theorem str_of (s : ByteArray) : s = str s.data.toList := by simp [str]
theorem str_size (l : List UInt8) : (str l).size = l.length := by simp [str, ByteArray.size]
theorem str_inj {a b : List UInt8} (h : str a = str b) : a = b := by
  have := congrArg (fun s => s.data.toList) h
  simpa [str] using this

/-- The order of names. -/
abbrev lt (a b : List UInt8) : Bool := bytesBefore a b
def le (a b : List UInt8) : Bool := bytesBefore a b || a == b
theorem lt_irrefl (a : List UInt8) : lt a a = false := WideAt.bytes_irrefl a
theorem lt_trans {a b c : List UInt8} (h : lt a b = true) (k : lt b c = true) : lt a c = true := WideShapes.bytes_trans a b c h k
theorem lt_total {a b : List UInt8} (h : a ≠ b) : lt a b = true ∨ lt b a = true := WideAt.bytes_total a b h
theorem lt_ne {a b : List UInt8} (h : lt a b = true) : a ≠ b := by rintro rfl; rw [lt_irrefl] at h; cases h
theorem not_le {a b : List UInt8} (h : ¬ le a b = true) : lt b a = true := by
  simp [le] at h
  rcases lt_total (fun e => h.2 e) with e | e
  · have h1 := h.1; rw [show bytesBefore a b = true from e] at h1; cases h1
  · exact e
theorem le_ne {a b : List UInt8} (h : le a b = true) (hn : a ≠ b) : lt a b = true := by
  simp [le] at h
  rcases h with h | h
  · exact h
  · exact absurd h hn

section
variable {α : Type} (key : α → List UInt8)
def Rises (l : List α) : Prop := l.Pairwise fun a b => lt (key a) (key b) = true
def withK (x : α) : List α → List α
  | [] => [x]
  | y :: r => if le (key x) (key y) then x :: (y :: r).filter (fun z => key z != key x) else y :: withK x r
def outK (k : List UInt8) (l : List α) : List α := l.filter fun z => key z != k
def findK (k : List UInt8) (l : List α) : Option α := l.find? fun z => key z == k
def atK (k : List UInt8) (l : List α) : Int := match l.findIdx? (fun z => key z == k) with
  | some i => (i : Int)
  | none => -1

variable {key}
theorem mem_with {x y : α} : ∀ {l : List α}, y ∈ withK key x l → y = x ∨ y ∈ l
  | [], h => by simpa [withK] using h
  | z :: r, h => by
    unfold withK at h
    split at h
    · rcases List.mem_cons.1 h with h | h
      · exact .inl h
      · exact .inr (List.mem_filter.1 h).1
    · rcases List.mem_cons.1 h with h | h
      · exact .inr (by simp [h])
      · rcases mem_with h with h | h
        · exact .inl h
        · exact .inr (by simp [h])
theorem mem_with_ne {x y : α} : ∀ {l : List α}, Rises key l → y ∈ withK key x l → y = x ∨ (y ∈ l ∧ key y ≠ key x)
  | [], _, h => by simp [withK] at h; exact .inl h
  | z :: r, hr, h => by
    unfold withK at h
    split at h
    · rcases List.mem_cons.1 h with h | h
      · exact .inl h
      · have := List.mem_filter.1 h
        exact .inr ⟨this.1, by simpa using this.2⟩
    · rename_i hle
      rcases List.mem_cons.1 h with h | h
      · subst h
        exact .inr ⟨by simp, (lt_ne (not_le hle))⟩
      · rcases mem_with_ne (List.pairwise_cons.1 hr).2 h with h | h
        · exact .inl h
        · exact .inr ⟨by simp [h.1], h.2⟩
theorem self_with (x : α) : ∀ l : List α, x ∈ withK key x l
  | [] => by simp [withK]
  | y :: r => by
    unfold withK
    split
    · simp
    · simp [self_with x r]
theorem rises_with (x : α) : ∀ {l : List α}, Rises key l → Rises key (withK key x l)
  | [], _ => by simp [withK, Rises]
  | y :: r, h => by
    obtain ⟨h1, h2⟩ := List.pairwise_cons.1 h
    unfold withK
    split
    · rename_i hle
      refine List.pairwise_cons.2 ⟨fun z hz => ?_, h.filter _⟩
      have hz' := List.mem_filter.1 hz
      have hne : key z ≠ key x := by simpa using hz'.2
      rcases List.mem_cons.1 hz'.1 with rfl | hz2
      · exact le_ne hle (Ne.symm hne)
      · rcases Classical.em (key x = key y) with e | e
        · rw [e]; exact h1 z hz2
        · exact lt_trans (le_ne hle e) (h1 z hz2)
    · rename_i hle
      refine List.pairwise_cons.2 ⟨fun z hz => ?_, rises_with x h2⟩
      rcases mem_with hz with rfl | hz
      · exact not_le hle
      · exact h1 z hz
theorem rises_out (k : List UInt8) {l : List α} (h : Rises key l) : Rises key (outK key k l) := h.filter _
theorem length_with (x : α) : ∀ l : List α, (withK key x l).length ≤ l.length + 1
  | [] => by simp [withK]
  | y :: r => by
    unfold withK
    split
    · have := List.length_filter_le (fun z => key z != key x) (y :: r)
      simp only [List.length_cons] at this ⊢; omega
    · have := length_with x r
      simp only [List.length_cons]; omega
theorem length_with_old (x : α) : ∀ l : List α, (∃ y ∈ l, key y = key x) → (withK key x l).length ≤ l.length
  | [], h => by obtain ⟨_, h, _⟩ := h; cases h
  | y :: r, h => by
    unfold withK
    split
    · have h2 : ((y :: r).filter (fun z => key z != key x)).length < (y :: r).length := by
        obtain ⟨z, hz, e⟩ := h
        refine List.length_filter_lt_length_iff_exists.2 ⟨z, hz, by simp [e]⟩
      simp only [List.length_cons] at h2 ⊢; omega
    · rename_i hle
      have := length_with_old x r (by
        obtain ⟨z, hz, e⟩ := h
        rcases List.mem_cons.1 hz with rfl | hz
        · exact absurd (by simp [le, e]) hle
        · exact ⟨z, hz, e⟩)
      simp only [List.length_cons]; omega
theorem out_length (k : List UInt8) (l : List α) : (outK key k l).length ≤ l.length := List.length_filter_le _ _
theorem out_eq {k : List UInt8} {l : List α} (h : ∀ y ∈ l, key y ≠ k) : outK key k l = l := List.filter_eq_self.2 (by simpa using h)

theorem find_mem' {l : List α} (hr : Rises key l) {y : α} (hy : y ∈ l) : findK key (key y) l = some y := by
  induction l with
  | nil => cases hy
  | cons z r ih =>
    obtain ⟨h1, h2⟩ := List.pairwise_cons.1 hr
    rcases List.mem_cons.1 hy with rfl | hy
    · simp [findK]
    · have hne : key z ≠ key y := lt_ne (h1 y hy)
      have := ih h2 hy
      simp only [findK, List.find?_cons] at this ⊢
      rw [show (key z == key y) = false from by simpa using hne]
      exact this
theorem rises_ne {l : List α} (h : Rises key l) {a b : α} (ha : a ∈ l) (hb : b ∈ l) (e : key a = key b) : a = b := by
  have h1 := find_mem' h ha
  have h2 := find_mem' h hb
  rw [e, h2] at h1
  exact (Option.some.inj h1).symm
theorem with_same {γ : Type} (f : α → γ) {g g' : α} (hk : key g' = key g) (hf : f g' = f g) : ∀ {l : List α}, Rises key l → g ∈ l → (withK key g' l).map f = l.map f
  | [], _, h => by cases h
  | y :: r, hr, h => by
    obtain ⟨h1, h2⟩ := List.pairwise_cons.1 hr
    unfold withK
    split
    · rename_i hle
      have hy : y = g := by
        rcases List.mem_cons.1 h with h | h
        · exact h.symm
        · exfalso
          rw [hk] at hle
          have := h1 g h
          rcases Classical.em (key g = key y) with e | e
          · exact lt_ne this e.symm
          · have := lt_trans this (le_ne hle e); rw [lt_irrefl] at this; cases this
      subst hy
      have hfl : (y :: r).filter (fun z => key z != key g') = r := by
        rw [List.filter_cons, hk, if_neg (by simp)]
        exact List.filter_eq_self.2 fun z hz => by simpa using (lt_ne (h1 z hz)).symm
      rw [hfl]
      simp [hf]
    · rename_i hle
      have hg : g ∈ r := by
        rcases List.mem_cons.1 h with h | h
        · exact absurd (by simp [le, hk, h]) hle
        · exact h
      simp [with_same f hk hf h2 hg]

theorem with_big {x : α} {l : List α} (h : ∀ y ∈ l, lt (key x) (key y) = true) : withK key x l = x :: l := by
  cases l with
  | nil => rfl
  | cons y r =>
    unfold withK
    rw [if_pos (by simp [le]; exact .inl (h y (by simp)))]
    rw [List.filter_eq_self.2 fun z hz => by simpa using (lt_ne (h z hz)).symm]
theorem with_last {x : α} : ∀ {l : List α}, (∀ y ∈ l, lt (key y) (key x) = true) → withK key x l = l ++ [x]
  | [], _ => rfl
  | y :: r, h => by
    have hy := h y (by simp)
    unfold withK
    rw [if_neg, with_last fun z hz => h z (by simp [hz])]
    · rfl
    · intro hle
      simp only [le, Bool.or_eq_true, beq_iff_eq] at hle
      rcases hle with e | e
      · have := lt_trans hy e; rw [lt_irrefl] at this; cases this
      · exact lt_ne hy e.symm
theorem with_twice {g g' : α} (hk : key g' = key g) : ∀ {l : List α}, Rises key l → withK key g' (withK key g l) = withK key g' l
  | [], _ => by simp [withK, hk, le]
  | y :: r, hr => by
    obtain ⟨h1, h2⟩ := List.pairwise_cons.1 hr
    by_cases hle : le (key g) (key y) = true
    · have e1 : withK key g (y :: r) = g :: (y :: r).filter (fun z => key z != key g) := by rw [withK, if_pos hle]
      have e2 : withK key g' (y :: r) = g' :: (y :: r).filter (fun z => key z != key g) := by rw [withK, hk, if_pos hle]
      rw [e1, e2, withK, hk, if_pos (by simp [le])]
      congr 1
      rw [List.filter_cons, if_neg (by simp), List.filter_filter]
      simp
    · have e1 : withK key g (y :: r) = y :: withK key g r := by rw [withK, if_neg hle]
      have e2 : withK key g' (y :: r) = y :: withK key g' r := by rw [withK, hk, if_neg hle]
      rw [e1, e2, withK, hk, if_neg hle, with_twice hk h2]

variable {β : Type} {key' : β → List UInt8} (f : α → β)
theorem with_map (hf : ∀ a, key' (f a) = key a) (x : α) : ∀ l : List α, (withK key x l).map f = withK key' (f x) (l.map f)
  | [] => rfl
  | y :: r => by
    simp only [withK, List.map_cons, hf]
    split
    · simp only [List.map_cons, List.filter_cons, hf]
      congr 1
      rw [List.filter_map]
      have : ((fun z => key' z != key x) ∘ f) = fun z => key z != key x := by funext z; simp [hf]
      rw [this]
      split <;> simp
    · simp [with_map hf x r]
theorem out_map (hf : ∀ a, key' (f a) = key a) (k : List UInt8) (l : List α) : (outK key k l).map f = outK key' k (l.map f) := by
  simp only [outK, List.filter_map]
  congr 2
  funext z; simp [hf]
theorem find_map (hf : ∀ a, key' (f a) = key a) (k : List UInt8) (l : List α) : (findK key k l).map f = findK key' k (l.map f) := by
  simp only [findK, List.find?_map]
  congr 2
  funext z; simp [hf]

theorem find_some {k : List UInt8} {l : List α} {y : α} (h : findK key k l = some y) : y ∈ l ∧ key y = k := ⟨List.mem_of_find?_eq_some h, by simpa using List.find?_some h⟩
theorem find_none {k : List UInt8} {l : List α} (h : findK key k l = none) : ∀ y ∈ l, key y ≠ k := by simpa [findK] using h
theorem find_mem {l : List α} (hr : Rises key l) {y : α} (hy : y ∈ l) : findK key (key y) l = some y := by
  induction l with
  | nil => cases hy
  | cons z r ih =>
    obtain ⟨h1, h2⟩ := List.pairwise_cons.1 hr
    rcases List.mem_cons.1 hy with rfl | hy
    · simp [findK]
    · have hne : key z ≠ key y := lt_ne (h1 y hy)
      have := ih h2 hy
      simp only [findK, List.find?_cons] at this ⊢
      rw [show (key z == key y) = false from by simpa using hne]
      exact this
theorem atK_none {k : List UInt8} {l : List α} (h : findK key k l = none) : atK key k l = -1 := by
  have : l.findIdx? (fun z => key z == k) = none := by
    rw [List.findIdx?_eq_none_iff]; intro x hx; simpa using find_none h x hx
  simp [atK, this]
theorem atK_some {k : List UInt8} {l : List α} {y : α} (h : findK key k l = some y) : ∃ i : Nat, atK key k l = (i : Int) ∧ l[i]? = some y ∧ i < l.length := by
  induction l with
  | nil => cases h
  | cons z r ih =>
    by_cases hz : key z = k
    · refine ⟨0, by simp [atK, List.findIdx?_cons, hz], ?_, by simp⟩
      simp [findK, hz] at h
      simp [h]
    · have h' : findK key k r = some y := by
        simp only [findK, List.find?_cons] at h
        rwa [show (key z == k) = false from by simpa using hz] at h
      obtain ⟨i, h1, h2, h3⟩ := ih h'
      refine ⟨i + 1, ?_, by simpa using h2, by simpa using h3⟩
      simp only [atK, List.findIdx?_cons] at h1 ⊢
      rw [show (key z == k) = false from by simpa using hz]
      cases hq : r.findIdx? (fun z => key z == k) with
      | none => rw [hq] at h1; simp at h1 <;> omega
      | some j => rw [hq] at h1; simp at h1 ⊢ <;> omega
end

/-! ### the entries of a map -/
section
variable {H : Type} {α : Type} {key : α → List UInt8} {dat : α → DataW H}
def ents (key : α → List UInt8) (dat : α → DataW H) (l : List α) : List (Lit × DataW H) := l.map fun a => (.string (key a), dat a)
theorem ents_put (x : α) : ∀ {l : List α}, Rises key l → (DataW.map (ents key dat l)).put (.string (key x)) (dat x) = .map (ents key dat (withK key x l)) := by
  intro l hl
  rw [DataW.put_eq]
  congr 1
  unfold ChangeMaps.putKey
  induction l with
  | nil => rfl
  | cons y r ih =>
    obtain ⟨h1, h2⟩ := List.pairwise_cons.1 hl
    have hf : ∀ m : List α, (ents key dat m).filter (ChangeMaps.notKey (.string (key x))) = ents key dat (m.filter fun z => key z != key x) := by
      intro m
      unfold ents
      rw [List.filter_map]
      congr 2
    have hbig : ∀ m : List α, (∀ z ∈ m, lt (key x) (key z) = true) → DataW.insert (.string (key x), dat x) (ents key dat m) = (.string (key x), dat x) :: ents key dat m := by
      intro m hm
      cases m with
      | nil => rfl
      | cons z m =>
        have := hm z (by simp)
        simp only [ents, List.map_cons, DataW.insert, Lit.before]
        exact if_pos this
    rw [hf]
    unfold withK
    split
    · rename_i hle
      rw [hbig]
      · rfl
      · intro z hz
        have hz' := List.mem_filter.1 hz
        have hne : key z ≠ key x := by simpa using hz'.2
        rcases List.mem_cons.1 hz'.1 with rfl | hz2
        · exact le_ne hle (Ne.symm hne)
        · rcases Classical.em (key x = key y) with e | e
          · rw [e]; exact h1 z hz2
          · exact lt_trans (le_ne hle e) (h1 z hz2)
    · rename_i hle
      have hne : (key y != key x) = true := by simpa using lt_ne (not_le hle)
      have hlt : lt (key x) (key y) = false := by
        have := not_le hle
        cases hq : lt (key x) (key y)
        · rfl
        · have := lt_trans this hq; rw [lt_irrefl] at this; cases this
      rw [List.filter_cons, if_pos hne]
      simp only [ents, List.map_cons, DataW.insert, Lit.before]
      refine (if_neg (by rw [show bytesBefore (key x) (key y) = false from hlt]; simp)).trans ?_
      have := ih h2
      rw [hf] at this
      exact congrArg _ this
theorem ents_del (k : List UInt8) (l : List α) : (DataW.map (ents key dat l)).del (.string k) = .map (ents key dat (outK key k l)) := by
  simp only [DataW.del, ents, outK, List.filter_map]
  congr 3
theorem ents_at (k : List UInt8) (l : List α) (z : DataW H) : (DataW.map (ents key dat l)).atKey (.string k) z = match findK key k l with | some a => dat a | none => z := by
  simp only [DataW.atKey, ents, List.find?_map, findK]
  have : ((fun p : Lit × DataW H => p.1.sameKey (.string k)) ∘ fun a => (Lit.string (key a), dat a)) = fun a => key a == k := by funext a; rfl
  rw [this]
  cases l.find? (fun a => key a == k) <;> rfl
theorem ents_keys (l : List α) : strKeys (DataW.map (ents key dat l)) = l.map key := by
  simp [strKeys, ents, strOf, Function.comp_def]
theorem ents_size (l : List α) : Maps.size (DataW.map (ents key dat l)) = l.length := by simp [Maps.size, ents]
end
end Go.Proofs.YtadkgfhfjagmpaaGreatDoor
