/-
  What a drive is in memory: its struct, the map of its files, each file's struct and bytes; and what of it is kept while other memory turns.
-/
import Derived.Test.YtjlebmpgjliacaaOrd
import Derived.Test.YtjlebmpgjliacaaProg
import Derived.Deep.QuietTactic
import Derived.BigQuiet
namespace Go.Proofs.Ytjlebmpgjliacaa
open Go.RowKit Go.Maps

structure Fm where
  name : List UInt8
  data : List UInt8
  syn : Nat
structure Gm where
  f : Fm
  blk : Nat
  v : Value
abbrev Gm.name (g : Gm) : List UInt8 := g.f.name

def R (v : Value) : Option (DataW Unit × List MemPlace) :=
  match v with
  | .pointer none => some (.lit (.bool false), [])
  | .pointer (some a) => if a.off = 0 ∧ a.spot = none then some (.lit (.int .i64 a.block), []) else none
  | _ => none
def dat (g : Gm) : DataW Unit := .lit (.int .i64 g.blk)
theorem R_ptr (b : Nat) : R (.pointer (some ⟨b, 0, none⟩)) = some (.lit (.int .i64 b), []) := by simp [R]
theorem R_ptr_inv {v : Value} {b : Nat} {ps : List MemPlace} (h : R v = some (.lit (.int .i64 b), ps)) : v = .pointer (some ⟨b, 0, none⟩) := by
  unfold R at h
  split at h
  · cases h
  · rename_i a
    split at h
    · rename_i hc
      obtain ⟨B, o, s⟩ := a
      obtain ⟨h1, h2⟩ := hc
      simp only at h1 h2
      subst h1 h2
      simp only [Option.some.injEq, Prod.mk.injEq, DataW.lit.injEq, Lit.int.injEq, true_and] at h
      rw [Int.ofNat_inj.1 h.1]
    · cases h
  · cases h
theorem R_nil_inv {v : Value} {ps : List MemPlace} (h : R v = some (.lit (.bool false), ps)) : v = .pointer none := by
  unfold R at h
  split at h
  · rfl
  · split at h <;> cases h
  · cases h

/-! ### blocks -/
def Blk (w : World) (b : Nat) (cs : Array Value) (t : TypeId) : Prop := w.heap[b]? = some (.cells cs t (0, 0))
section
variable {w w' : World} {b k : Nat} {cs : Array Value} {t : TypeId} {u : Value}
theorem Blk.cell (h : Blk w b cs t) (hk : cs[k]? = some u) : w.cell? ⟨b, k, none⟩ = some u := by
  unfold Blk at h
  simp [World.cell?, h, hk]
theorem Blk.frozen (h : Blk w b cs t) (k : Nat) : w.frozen? ⟨b, k, none⟩ = false := by
  unfold Blk at h
  simp [World.frozen?, h]
theorem Blk.lt (h : Blk w b cs t) : b < w.heap.size := (Array.getElem?_eq_some_iff.1 h).1
theorem Blk.set (h : Blk w b cs t) (k : Nat) (v : Value) : Blk (w.setCell ⟨b, k, none⟩ v) b (cs.setIfInBounds k v) t := by
  have hl := h.lt
  unfold Blk at h ⊢
  have hb : w.heap[b] = .cells cs t (0, 0) := by rw [Array.getElem?_eq_some_iff] at h; exact h.2
  rw [Array.getElem?_eq_some_iff]
  refine ⟨by simpa [World.setCell] using hl, ?_⟩
  simp [World.setCell, Array.getElem_modify, hb]
theorem setCell_other (w : World) (a : Addr) (v : Value) {k : Nat} (hk : k ≠ a.block) : (w.setCell a v).heap[k]? = w.heap[k]? := by
  simp only [World.setCell, Array.getElem?_modify]
  rw [if_neg (fun e => hk e.symm)]
theorem setCell_size (w : World) (a : Addr) (v : Value) : (w.setCell a v).heap.size = w.heap.size := by simp [World.setCell]
theorem Blk.keep (h : Blk w b cs t) (hk : w'.heap[b]? = w.heap[b]?) : Blk w' b cs t := hk.trans h
theorem Blk.new (w : World) (cs : Array Value) (t : TypeId) : Blk (w.alloc (.cells cs t)) w.heap.size cs t := heap_alloc_new w _
end

/-! ### the drive -/
def Gapart (a b : Gm) : Prop := a.blk ≠ b.blk ∧ ∀ k, a.v.ownBlock = some k → b.v.ownBlock ≠ some k
theorem Gapart.symm {a b : Gm} (h : Gapart a b) : Gapart b a := ⟨h.1.symm, fun k hk e => h.2 k e hk⟩
def foot (pb mb : Nat) (gs : List Gm) (k : Nat) : Prop := k = pb ∨ k = mb ∨ ∃ g ∈ gs, k = g.blk ∨ g.v.ownBlock = some k

theorem own_at {w w' : World} {B e n : Nat} {v : Value} {xs : List Value} (h : w.ownsRow B e 1 v n xs) (hk : ∀ k, v.ownBlock = some k → w'.heap[k]? = w.heap[k]?) : w'.ownsRow B e 1 v n xs := by
  refine ⟨h.1, ?_⟩
  rcases h.2 with h2 | ⟨g, cap, cur, rfl, h3, h4, h5⟩
  · exact .inl h2
  · exact .inr ⟨g, cap, cur, rfl, h3, (hk g rfl).trans h4, h5⟩
theorem own_blk_type {w : World} {B e n : Nat} {v : Value} {xs : List Value} (h : w.ownsRow B e 1 v n xs) {k : Nat} (hk : v.ownBlock = some k) : ∃ cur, Blk w k cur e := by
  rcases h.2 with ⟨rfl, _⟩ | ⟨g, cap, cur, rfl, h3, h4, h5⟩
  · cases hk
  · cases hk; exact ⟨cur, h4⟩
theorem map_at {w w' : World} {b n : Nat} {D : DataW Unit} {P : Program} {K : TypeId} {R : Value → Option (DataW Unit × List MemPlace)} (h : w.ownsMap P K R b n D) (hk : w'.heap[b]? = w.heap[b]?) : w'.ownsMap P K R b n D := by
  obtain ⟨es, clock, hb, F, hs, hD⟩ := h
  exact ⟨es, clock, hk.trans hb, F, hs, hD⟩
theorem map_tight {w : World} {b n : Nat} {D : DataW Unit} {P : Program} {K : TypeId} {R : Value → Option (DataW Unit × List MemPlace)} (h : w.ownsMap P K R b n D) : w.ownsMap P K R b (Maps.size D) D := by
  obtain ⟨es, clock, hb, F, hs, rfl⟩ := h
  exact ⟨es, clock, hb, F, by rw [Maps.size_eq, length_sorted]; simp, rfl⟩
theorem map_is {w : World} {b n : Nat} {D : DataW Unit} {P : Program} {K : TypeId} {R : Value → Option (DataW Unit × List MemPlace)} (h : w.ownsMap P K R b n D) : ∃ es c, w.heap[b]? = some (.map es c) := by
  obtain ⟨es, clock, hb, _⟩ := h
  exact ⟨es, clock, hb⟩

section
variable {w w' : World} {pb mb : Nat} {gs : List Gm} {st lf : Int} {ar : Bool}
end

/-! ### what a call on a drive leaves -/
/-- But for the blocks of S the world is as it was. -/
structure Oth (S : Nat → Prop) (w w' : World) : Prop where
  os : w'.os = w.os
  tape : w'.tape = w.tape
  output : w'.output = w.output
  size : w.heap.size ≤ w'.heap.size
  block : ∀ k, k < w.heap.size → ¬ S k → w'.heap[k]? = w.heap[k]?
/-- .. and the drive's new blocks are its old ones, or new. -/
structure Stp (w w' : World) (S S' : Nat → Prop) : Prop where
  oth : Oth S w w'
  sub : ∀ k, S' k → S k ∨ w.heap.size ≤ k
theorem Stp.refl (S : Nat → Prop) (w : World) : Stp w w S S := ⟨⟨rfl, rfl, rfl, Nat.le_refl _, fun _ _ _ => rfl⟩, fun _ h => .inl h⟩
theorem Stp.trans {a b c : World} {S S' S'' : Nat → Prop} (h : Stp a b S S') (k : Stp b c S' S'') : Stp a c S S'' :=
  ⟨⟨k.oth.os.trans h.oth.os, k.oth.tape.trans h.oth.tape, k.oth.output.trans h.oth.output, Nat.le_trans h.oth.size k.oth.size, fun i hi hn =>
    (k.oth.block i (Nat.lt_of_lt_of_le hi h.oth.size) (fun e => by rcases h.sub i e with e | e; exact hn e; omega)).trans (h.oth.block i hi hn)⟩,
   fun i hi => by
    rcases k.sub i hi with e | e
    · exact h.sub i e
    · exact .inr (Nat.le_trans h.oth.size e)⟩
theorem Below.stp {w w' : World} {S : Nat → Prop} (h : Below w.heap.size w w') : Stp w w' S S := ⟨⟨h.os, h.tape, h.output, h.size, fun k hk _ => h.block k hk⟩, fun _ h => .inl h⟩
theorem Oth.below {S : Nat → Prop} {w w' : World} {B : Nat} (h : Oth S w w') (hS : ∀ k, S k → B ≤ k) (hB : B ≤ w.heap.size) : Below B w w' :=
  ⟨h.os, h.tape, h.output, h.size, fun k hk => h.block k (by omega) (fun e => by have := hS k e; omega)⟩

/-! ### the look-up -/
theorem law9 : Keyed Try.prog 9 := string_keyed Try.underlying9
def ptr : Option Gm → Value
  | some g => .pointer (some ⟨g.blk, 0, none⟩)
  | none => .pointer none
theorem key_str {s : List UInt8} (hs : s.length ≤ maxLen) : keyOf Try.prog 9 (.string (str s)) = some (.string s) := by
  have := WideMaps.keyOf_string_mk (P := Try.prog) (k := 9) Try.underlying9 (s := str s) (by rw [str_size]; exact hs)
  rwa [str_data] at this
section
variable {w : World} {pb mb : Nat} {gs : List Gm} {st lf : Int} {ar : Bool}
end
end Go.Proofs.Ytjlebmpgjliacaa
