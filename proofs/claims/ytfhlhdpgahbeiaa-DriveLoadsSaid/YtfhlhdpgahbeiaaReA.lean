/-
  The reference's drive in memory; its simplest functions: Name, At, Dead, step.
-/
import Derived.Test.YtfhlhdpgahbeiaaDrI
namespace Go.Proofs.Ytfhlhdpgahbeiaa
open Go.RowKit Go.Maps
set_option linter.unusedVariables false

def fcells (f : Fm) : List Value := [.string (str f.name), .string (str f.data), .int .i64 f.syn]
def fcs (fs : List Fm) : List Value := fs.flatMap fcells
def fagg (f : Fm) : Value := .agg #[.string (str f.name), .string (str f.data), .int .i64 f.syn]
theorem fcs_len (fs : List Fm) : (fcs fs).length = fs.length * 3 := by
  induction fs with
  | nil => rfl
  | cons f r ih => simp only [fcs, List.flatMap_cons, List.length_append, List.length_cons] at ih ⊢; rw [ih]; simp [fcells]; omega
theorem fcs_app (a b : List Fm) : fcs (a ++ b) = fcs a ++ fcs b := by simp [fcs]
theorem fcs_get : ∀ {fs : List Fm} {i : Nat} {f : Fm}, fs[i]? = some f → (fcs fs)[3 * i]? = some (.string (str f.name)) ∧ (fcs fs)[3 * i + 1]? = some (.string (str f.data)) ∧ (fcs fs)[3 * i + 2]? = some (.int .i64 f.syn)
  | [], i, f, h => by simp at h
  | g :: r, 0, f, h => by
    simp at h; subst h
    simp [fcs, fcells]
  | g :: r, i + 1, f, h => by
    have ih := fcs_get (fs := r) (i := i) (f := f) (by simpa using h)
    have e : fcs (g :: r) = fcells g ++ fcs r := by simp [fcs]
    have e3 : (fcells g).length = 3 := rfl
    rw [e]
    refine ⟨?_, ?_, ?_⟩
    · rw [List.getElem?_append_right (by rw [e3]; omega), e3, show 3 * (i + 1) - 3 = 3 * i from by omega]; exact ih.1
    · rw [List.getElem?_append_right (by rw [e3]; omega), e3, show 3 * (i + 1) + 1 - 3 = 3 * i + 1 from by omega]; exact ih.2.1
    · rw [List.getElem?_append_right (by rw [e3]; omega), e3, show 3 * (i + 1) + 2 - 3 = 3 * i + 2 from by omega]; exact ih.2.2

/-- A slice that reads as a list of files. -/
def Fl (w : World) (A : Option Addr) (n : Nat) (fs : List Fm) : Prop :=
  fs.length = n ∧ (0 < n → ∃ b o : Nat, A = some ⟨b, o, none⟩ ∧ ∀ j u, (fcs fs)[j]? = some u → w.cell? ⟨b, o + j, none⟩ = some u)
section
variable {w w' : World} {n : Nat} {A : Option Addr} {fs : List Fm}
theorem Fl.keep (h : Fl w A n fs) (hk : ∀ k, k < w.heap.size → w'.heap[k]? = w.heap[k]?) : Fl w' A n fs :=
  ⟨h.1, fun hn => by
    obtain ⟨b, o, e, hc⟩ := h.2 hn
    refine ⟨b, o, e, fun j u hu => ?_⟩
    have hcj := hc j u hu
    exact (World.cell?_of_block (w := w) (hk _ (World.block_lt_of_cell? w _ hcj))).trans hcj⟩
theorem Fl.below (h : Fl w A n fs) (hb : Below w.heap.size w w') : Fl w' A n fs := h.keep hb.block
theorem Fl.alloc (h : Fl w A n fs) (o : Obj) : Fl (w.alloc o) A n fs := h.keep fun k hk => Below.heap_alloc w o k hk
theorem Fl.drewN (h : Fl w A n fs) (k : Nat) : Fl (w.drewN k) A n fs := h
theorem Fl.at_ {i : Nat} (h : Fl w A n fs) (hi : i < n) : ∃ (b o : Nat) (f : Fm), A = some ⟨b, o, none⟩ ∧ fs[i]? = some f ∧ w.cell? ⟨b, o + i * 3, none⟩ = some (.string (str f.name)) ∧ w.cell? ⟨b, o + i * 3 + 1, none⟩ = some (.string (str f.data)) ∧ w.cell? ⟨b, o + i * 3 + 2, none⟩ = some (.int .i64 f.syn) := by
  obtain ⟨b, o, e, hc⟩ := h.2 (by omega)
  have hl : i < fs.length := by have := h.1; omega
  have hg : fs[i]? = some fs[i] := List.getElem?_eq_getElem hl
  obtain ⟨h1, h2, h3⟩ := fcs_get hg
  rw [Nat.mul_comm] at h1 h2 h3
  refine ⟨b, o, fs[i], e, hg, hc _ _ h1, ?_, ?_⟩
  · rw [Nat.add_assoc]; exact hc _ _ h2
  · rw [Nat.add_assoc]; exact hc _ _ h3
end
theorem own_fl {w : World} {base : Nat} {e : TypeId} {A : Option Addr} {n c : Nat} {fs : List Fm} (h : w.ownsRow base e 3 (.slice A n c) n (fcs fs)) : Fl w A n fs := by
  refine ⟨by have := h.1; rw [fcs_len] at this; omega, fun hn => ?_⟩
  rcases h.2 with ⟨_, h0⟩ | ⟨g, cap, cur, hv, _⟩
  · omega
  · injection hv with hA hn' hc'
    subst hA
    refine ⟨g, 0, rfl, fun j u hu => ?_⟩
    have := h.cells (g := g) rfl j u hu
    rwa [add_plain] at this
def dv (A : Option Addr) (n c : Nat) (st : Int) (ar : Bool) (lf : Int) : Value := .agg #[.slice A n c, .int .i64 st, .bool ar, .int .i64 lf]

set_option maxHeartbeats 4000000 in
theorem rdead_any (A : Option Addr) (n c : Nat) (st : Int) (ar : Bool) (lf : Int) (w : World) :
    Calls Try.prog 36 #[.agg #[.slice A n c, .int .i64 st, .bool ar, .int .i64 lf]] w fun e w' => e = .returned (.bool (dead ar lf)) ∧ Below w.heap.size w w' := by
  cases ar
  · go_enter Try.func36, Try.ntmps36
    go_wp2_with fail
    go_ret
    exact ⟨rfl, (Below.refl _ w).alloc (Nat.le_refl _) _⟩
  · go_enter Try.func36, Try.ntmps36
    go_wp2_with fail
    go_ret
    exact ⟨rfl, (Below.refl _ w).alloc (Nat.le_refl _) _⟩

def NoAt (fs : List Fm) (s : List UInt8) (k : Nat) : Prop := ∀ j f, j < k → fs[j]? = some f → f.name ≠ s
theorem NoAt.none_ {fs : List Fm} {s : List UInt8} {k : Nat} (h : NoAt fs s k) (hk : fs.length ≤ k) : atK Fm.name s fs = -1 := by
  apply atK_none
  simp only [findK, List.find?_eq_none]
  intro x hx
  obtain ⟨j, hj, e⟩ := List.getElem_of_mem hx
  have := h j x (by omega) (by rw [List.getElem?_eq_getElem hj, e])
  simpa using this
theorem NoAt.some_ {fs : List Fm} {s : List UInt8} {k : Nat} {f : Fm} (h : NoAt fs s k) (hk : fs[k]? = some f) (hf : f.name = s) : atK Fm.name s fs = (k : Int) := by
  have : fs.findIdx? (fun z => z.name == s) = some k := by
    rw [List.findIdx?_eq_some_iff_getElem]
    obtain ⟨hl, he⟩ := List.getElem?_eq_some_iff.1 hk
    refine ⟨hl, by rw [he]; simpa using hf, fun j hj => ?_⟩
    have := h j fs[j] hj (List.getElem?_eq_getElem (by omega))
    simpa using this
  simp [atK, this]
theorem NoAt.step {fs : List Fm} {s : List UInt8} {k : Nat} {f : Fm} (h : NoAt fs s k) (hk : fs[k]? = some f) (hf : f.name ≠ s) : NoAt fs s (k + 1) := by
  intro j g hj hg
  rcases Nat.lt_or_ge j k with hlt | hge
  · exact h j g hlt hg
  · have : j = k := by omega
    subst this
    rw [hk] at hg
    rwa [← Option.some.inj hg]

set_option maxHeartbeats 4000000 in
theorem at_any (A : Option Addr) (n c : Nat) (fs : List Fm) (st : Int) (ar : Bool) (lf : Int) (s : List UInt8) (w : World) (h : Fl w A n fs) (hn : n ≤ 140737488355328) :
    Calls Try.prog 33 #[.agg #[.slice A n c, .int .i64 st, .bool ar, .int .i64 lf], .string (str s)] w fun e w' => e = .returned (.int .i64 (atK Fm.name s fs)) ∧ Below w.heap.size w w' := by
  have hnl := h.1
  subst hnl
  have htl : ∀ l, (str l).toList = l := fun l => ByteArray.toList_mk l
  go_enter Try.func33, Try.ntmps33
  go_wp2_with fail
  have hb1 : Below w.heap.size w (w.alloc (.cells #[.slice A fs.length c, .int .i64 st, .bool ar, .int .i64 lf] 26)) := (Below.refl _ w).alloc (Nat.le_refl _) _
  have h1 := h.alloc (.cells #[.slice A fs.length c, .int .i64 st, .bool ar, .int .i64 lf] 26)
  have HB := Lib.hid hb1
  clear hb1
  go_loopw [5] (fun j wr => ∃ k : Nat, k ≤ fs.length ∧ j = .int .i64 k ∧ NoAt fs s k ∧ wr = w.alloc (.cells #[.slice A fs.length c, .int .i64 st, .bool ar, .int .i64 lf] 26)) (fun j _ => fs.length - (intOf j).toNat)
  case atStart => exact ⟨0, Nat.zero_le _, rfl, fun j f hj => by omega, rfl⟩
  case round =>
    obtain ⟨k, hk, rfl, hno, rfl⟩ := hrel
    have HN := Lib.hid hno
    clear hno
    by_cases hkn : k < fs.length
    · have hcN : (k : Int) < fs.length := by omega
      obtain ⟨b, o, f, rfl, hf, c1, c2, c3⟩ := h1.at_ hkn
      have HF := Lib.hid hf
      clear hf
      have hlt := World.block_lt_of_cell? _ _ c1
      by_cases he : f.name = s
      · subst he
        go_wp2_with fail
        go_ret
        exact ⟨by rw [HN.out.some_ HF.out rfl]; rfl, HB.out⟩
      · have HE := Lib.hid he
        have heq : (f.name == s) = false := by simpa using he
        clear he
        go_wp2_with fail
        exact ⟨⟨k + 1, by omega, by simp, HN.out.step HF.out HE.out, trivial⟩, by simp [intOf]; omega⟩
    · have hcN : ¬ (k : Int) < fs.length := by omega
      go_wp2_with fail
      go_ret
      exact ⟨by rw [HN.out.none_ (by omega)]; rfl, HB.out⟩
end Go.Proofs.Ytfhlhdpgahbeiaa
