/-
  Texts put together: DrA, DrB, Br.
-/
import Derived.Test.YtadkgfhfjagmpaaGreatDoorOrd
import Derived.Test.YtadkgfhfjagmpaaGreatDoorProg
import Derived.Deep.QuietTactic
import Derived.BigQuiet
namespace Go.Proofs.YtadkgfhfjagmpaaGreatDoor
open Go.RowKit Go.Maps

structure Fm where
  name : List UInt8
  data : List UInt8
  syn : Nat
structure Gm where
  f : Fm
  blk : Nat
  v : Value
abbrev Gm.name (g : Gm) : List UInt8 := g.f.name

def R (v : Value) : Option (DataW Unit × List MemPlace) :=
  match v with
  | .pointer none => some (.lit (.bool false), [])
  | .pointer (some a) => if a.off = 0 ∧ a.spot = none then some (.lit (.int .i64 a.block), []) else none
  | _ => none
def dat (g : Gm) : DataW Unit := .lit (.int .i64 g.blk)
theorem R_ptr (b : Nat) : R (.pointer (some ⟨b, 0, none⟩)) = some (.lit (.int .i64 b), []) := by simp [R]
theorem R_ptr_inv {v : Value} {b : Nat} {ps : List MemPlace} (h : R v = some (.lit (.int .i64 b), ps)) : v = .pointer (some ⟨b, 0, none⟩) := by
  unfold R at h
  split at h
  · cases h
  · rename_i a
    split at h
    · rename_i hc
      obtain ⟨B, o, s⟩ := a
      obtain ⟨h1, h2⟩ := hc
      simp only at h1 h2
      subst h1 h2
      simp only [Option.some.injEq, Prod.mk.injEq, DataW.lit.injEq, Lit.int.injEq, true_and] at h
      rw [Int.ofNat_inj.1 h.1]
    · cases h
  · cases h
theorem R_nil_inv {v : Value} {ps : List MemPlace} (h : R v = some (.lit (.bool false), ps)) : v = .pointer none := by
  unfold R at h
  split at h
  · rfl
  · split at h <;> cases h
  · cases h

/-! ### blocks -/
def Blk (w : World) (b : Nat) (cs : Array Value) (t : TypeId) : Prop := w.heap[b]? = some (.cells cs t (0, 0))
section
variable {w w' : World} {b k : Nat} {cs : Array Value} {t : TypeId} {u : Value}
theorem Blk.cell (h : Blk w b cs t) (hk : cs[k]? = some u) : w.cell? ⟨b, k, none⟩ = some u := by
  unfold Blk at h
  simp [World.cell?, h, hk]
theorem Blk.frozen (h : Blk w b cs t) (k : Nat) : w.frozen? ⟨b, k, none⟩ = false := by
  unfold Blk at h
  simp [World.frozen?, h]
theorem Blk.lt (h : Blk w b cs t) : b < w.heap.size := (Array.getElem?_eq_some_iff.1 h).1
theorem Blk.set (h : Blk w b cs t) (k : Nat) (v : Value) : Blk (w.setCell ⟨b, k, none⟩ v) b (cs.setIfInBounds k v) t := by
  have hl := h.lt
  unfold Blk at h ⊢
  have hb : w.heap[b] = .cells cs t (0, 0) := by rw [Array.getElem?_eq_some_iff] at h; exact h.2
  rw [Array.getElem?_eq_some_iff]
  refine ⟨by simpa [World.setCell] using hl, ?_⟩
  simp [World.setCell, Array.getElem_modify, hb]
theorem setCell_other (w : World) (a : Addr) (v : Value) {k : Nat} (hk : k ≠ a.block) : (w.setCell a v).heap[k]? = w.heap[k]? := by
  simp only [World.setCell, Array.getElem?_modify]
  rw [if_neg (fun e => hk e.symm)]
theorem setCell_size (w : World) (a : Addr) (v : Value) : (w.setCell a v).heap.size = w.heap.size := by simp [World.setCell]
theorem Blk.keep (h : Blk w b cs t) (hk : w'.heap[b]? = w.heap[b]?) : Blk w' b cs t := hk.trans h
theorem Blk.new (w : World) (cs : Array Value) (t : TypeId) : Blk (w.alloc (.cells cs t)) w.heap.size cs t := heap_alloc_new w _
end

/-! ### the drive -/
def Gapart (a b : Gm) : Prop := a.blk ≠ b.blk ∧ ∀ k, a.v.ownBlock = some k → b.v.ownBlock ≠ some k
theorem Gapart.symm {a b : Gm} (h : Gapart a b) : Gapart b a := ⟨h.1.symm, fun k hk e => h.2 k e hk⟩
structure Dr (w : World) (pb mb : Nat) (gs : List Gm) (st : Int) (ar : Bool) (lf : Int) : Prop where
  blk : Blk w pb #[.map (some mb), .int .i64 st, .bool ar, .int .i64 lf] 150
  map : w.ownsMap Tryz.prog 9 R mb gs.length (.map (ents Gm.name dat gs))
  rises : Rises Gm.name gs
  file : ∀ g ∈ gs, Blk w g.blk #[g.v, .int .i64 g.f.syn] 158 ∧ w.ownsRow 0 5 1 g.v g.f.data.length (bv g.f.data) ∧ g.f.syn ≤ g.f.data.length ∧ g.f.data.length ≤ 262144 ∧ g.name.length ≤ 32
  apart : ∀ a ∈ gs, ∀ b ∈ gs, a.name ≠ b.name → Gapart a b
  few : gs.length ≤ 256
def foot (pb mb : Nat) (gs : List Gm) (k : Nat) : Prop := k = pb ∨ k = mb ∨ ∃ g ∈ gs, k = g.blk ∨ g.v.ownBlock = some k

theorem own_at {w w' : World} {B e n : Nat} {v : Value} {xs : List Value} (h : w.ownsRow B e 1 v n xs) (hk : ∀ k, v.ownBlock = some k → w'.heap[k]? = w.heap[k]?) : w'.ownsRow B e 1 v n xs := by
  refine ⟨h.1, ?_⟩
  rcases h.2 with h2 | ⟨g, cap, cur, rfl, h3, h4, h5⟩
  · exact .inl h2
  · exact .inr ⟨g, cap, cur, rfl, h3, (hk g rfl).trans h4, h5⟩
theorem own_blk_type {w : World} {B e n : Nat} {v : Value} {xs : List Value} (h : w.ownsRow B e 1 v n xs) {k : Nat} (hk : v.ownBlock = some k) : ∃ cur, Blk w k cur e := by
  rcases h.2 with ⟨rfl, _⟩ | ⟨g, cap, cur, rfl, h3, h4, h5⟩
  · cases hk
  · cases hk; exact ⟨cur, h4⟩
theorem map_at {w w' : World} {b n : Nat} {D : DataW Unit} {P : Program} {K : TypeId} {R : Value → Option (DataW Unit × List MemPlace)} (h : w.ownsMap P K R b n D) (hk : w'.heap[b]? = w.heap[b]?) : w'.ownsMap P K R b n D := by
  obtain ⟨es, clock, hb, F, hs, hD⟩ := h
  exact ⟨es, clock, hk.trans hb, F, hs, hD⟩
theorem map_tight {w : World} {b n : Nat} {D : DataW Unit} {P : Program} {K : TypeId} {R : Value → Option (DataW Unit × List MemPlace)} (h : w.ownsMap P K R b n D) : w.ownsMap P K R b (Maps.size D) D := by
  obtain ⟨es, clock, hb, F, hs, rfl⟩ := h
  exact ⟨es, clock, hb, F, by rw [Maps.size_eq, length_sorted]; simp, rfl⟩
theorem map_is {w : World} {b n : Nat} {D : DataW Unit} {P : Program} {K : TypeId} {R : Value → Option (DataW Unit × List MemPlace)} (h : w.ownsMap P K R b n D) : ∃ es c, w.heap[b]? = some (.map es c) := by
  obtain ⟨es, clock, hb, _⟩ := h
  exact ⟨es, clock, hb⟩

section
variable {w w' : World} {pb mb : Nat} {gs : List Gm} {st lf : Int} {ar : Bool}
/-- A drive is kept where its blocks are. -/
theorem Dr.keep (h : Dr w pb mb gs st ar lf) (hk : ∀ k, foot pb mb gs k → w'.heap[k]? = w.heap[k]?) : Dr w' pb mb gs st ar lf where
  blk := h.blk.keep (hk _ (.inl rfl))
  map := map_at h.map (hk _ (.inr (.inl rfl)))
  rises := h.rises
  file g hg := by
    obtain ⟨h1, h2, h3⟩ := h.file g hg
    exact ⟨h1.keep (hk _ (.inr (.inr ⟨g, hg, .inl rfl⟩))), own_at h2 fun k e => hk _ (.inr (.inr ⟨g, hg, .inr e⟩)), h3⟩
  apart := h.apart
  few := h.few
theorem Dr.foot_lt (h : Dr w pb mb gs st ar lf) {k : Nat} (hk : foot pb mb gs k) : k < w.heap.size := by
  rcases hk with rfl | rfl | ⟨g, hg, rfl | e⟩
  · exact h.blk.lt
  · exact h.map.lt
  · exact (h.file g hg).1.lt
  · obtain ⟨cur, hb⟩ := own_blk_type (h.file g hg).2.1 e
    exact hb.lt
theorem Dr.below {B : Nat} (h : Dr w pb mb gs st ar lf) (hb : Below B w w') (hB : w.heap.size ≤ B) : Dr w' pb mb gs st ar lf :=
  h.keep fun k hk => hb.block k (Nat.lt_of_lt_of_le (h.foot_lt hk) hB)
theorem Dr.drew (h : Dr w pb mb gs st ar lf) (q : Nat) : Dr (w.drewN q) pb mb gs st ar lf := h.keep fun _ _ => rfl
theorem Dr.alloc (h : Dr w pb mb gs st ar lf) (o : Obj) : Dr (w.alloc o) pb mb gs st ar lf := h.keep fun _ hk => Below.heap_alloc w o _ (h.foot_lt hk)
/-- What kind of block a drive's blocks are. -/
theorem Dr.kind (h : Dr w pb mb gs st ar lf) {k : Nat} (hk : foot pb mb gs k) : (∃ es c, w.heap[k]? = some (.map es c)) ∨ ∃ cs t, Blk w k cs t ∧ (t = 150 ∨ t = 158 ∨ t = 5) := by
  rcases hk with rfl | rfl | ⟨g, hg, rfl | e⟩
  · exact .inr ⟨_, _, h.blk, .inl rfl⟩
  · exact .inl (map_is h.map)
  · exact .inr ⟨_, _, (h.file g hg).1, .inr (.inl rfl)⟩
  · obtain ⟨cur, hb⟩ := own_blk_type (h.file g hg).2.1 e
    exact .inr ⟨_, _, hb, .inr (.inr rfl)⟩
end

/-! ### what a call on a drive leaves -/
/-- But for the blocks of S the world is as it was. -/
structure Oth (S : Nat → Prop) (w w' : World) : Prop where
  os : w'.os = w.os
  tape : w'.tape = w.tape
  output : w'.output = w.output
  size : w.heap.size ≤ w'.heap.size
  block : ∀ k, k < w.heap.size → ¬ S k → w'.heap[k]? = w.heap[k]?
/-- .. and the drive's new blocks are its old ones, or new. -/
structure Stp (w w' : World) (S S' : Nat → Prop) : Prop where
  oth : Oth S w w'
  sub : ∀ k, S' k → S k ∨ w.heap.size ≤ k
theorem Stp.refl (S : Nat → Prop) (w : World) : Stp w w S S := ⟨⟨rfl, rfl, rfl, Nat.le_refl _, fun _ _ _ => rfl⟩, fun _ h => .inl h⟩
theorem Stp.trans {a b c : World} {S S' S'' : Nat → Prop} (h : Stp a b S S') (k : Stp b c S' S'') : Stp a c S S'' :=
  ⟨⟨k.oth.os.trans h.oth.os, k.oth.tape.trans h.oth.tape, k.oth.output.trans h.oth.output, Nat.le_trans h.oth.size k.oth.size, fun i hi hn =>
    (k.oth.block i (Nat.lt_of_lt_of_le hi h.oth.size) (fun e => by rcases h.sub i e with e | e; exact hn e; omega)).trans (h.oth.block i hi hn)⟩,
   fun i hi => by
    rcases k.sub i hi with e | e
    · exact h.sub i e
    · exact .inr (Nat.le_trans h.oth.size e)⟩
theorem Below.stp {w w' : World} {S : Nat → Prop} (h : Below w.heap.size w w') : Stp w w' S S := ⟨⟨h.os, h.tape, h.output, h.size, fun k hk _ => h.block k hk⟩, fun _ h => .inl h⟩
theorem Oth.below {S : Nat → Prop} {w w' : World} {B : Nat} (h : Oth S w w') (hS : ∀ k, S k → B ≤ k) (hB : B ≤ w.heap.size) : Below B w w' :=
  ⟨h.os, h.tape, h.output, h.size, fun k hk => h.block k (by omega) (fun e => by have := hS k e; omega)⟩

/-! ### the look-up -/
theorem law9 : Keyed Tryz.prog 9 := string_keyed Tryz.underlying9
def ptr : Option Gm → Value
  | some g => .pointer (some ⟨g.blk, 0, none⟩)
  | none => .pointer none
theorem zero_file (w : World) : (zeroValue 156).run Tryz.prog w = .ok (.pointer none) w := by kernel_rfl
theorem key_str {s : List UInt8} (hs : s.length ≤ maxLen) : keyOf Tryz.prog 9 (.string (str s)) = some (.string s) := by
  have := WideMaps.keyOf_string_mk (P := Tryz.prog) (k := 9) Tryz.underlying9 (s := str s) (by rw [str_size]; exact hs)
  rwa [str_data] at this
section
variable {w : World} {pb mb : Nat} {gs : List Gm} {st lf : Int} {ar : Bool}
theorem map_look {n : Nat} (h : w.ownsMap Tryz.prog 9 R mb n (.map (ents Gm.name dat gs))) {s : List UInt8} (hs : s.length ≤ maxLen) :
    (Instr.lookup 148 (.map (some mb)) (.string (str s)) false).run Tryz.prog w = .ok (ptr (findK Gm.name s gs)) w := by
  obtain ⟨v, ps, hrun, hv⟩ := h.lookup law9 Tryz.underlying148 (zero_file w) (zd := .lit (.bool false)) (zp := []) rfl (key_str hs)
  rw [ents_at] at hv
  rw [hrun]
  cases hf : findK Gm.name s gs with
  | none => rw [hf] at hv; rw [R_nil_inv hv]; rfl
  | some g => rw [hf] at hv; rw [R_ptr_inv hv]; rfl
end
end Go.Proofs.YtadkgfhfjagmpaaGreatDoor

namespace Go.Proofs.YtadkgfhfjagmpaaGreatDoor
open Go.RowKit Go.Maps
set_option linter.unusedVariables false

section
variable {w : World} {pb mb : Nat} {gs : List Gm} {st lf : Int} {ar : Bool}
theorem Dr.c0 (h : Dr w pb mb gs st ar lf) : w.cell? ⟨pb, 0, none⟩ = some (.map (some mb)) := h.blk.cell rfl
theorem Dr.c1 (h : Dr w pb mb gs st ar lf) : w.cell? ⟨pb, 1, none⟩ = some (.int .i64 st) := h.blk.cell rfl
theorem Dr.c2 (h : Dr w pb mb gs st ar lf) : w.cell? ⟨pb, 2, none⟩ = some (.bool ar) := h.blk.cell rfl
theorem Dr.c3 (h : Dr w pb mb gs st ar lf) : w.cell? ⟨pb, 3, none⟩ = some (.int .i64 lf) := h.blk.cell rfl
theorem Dr.f0 (h : Dr w pb mb gs st ar lf) {g : Gm} (hg : g ∈ gs) : w.cell? ⟨g.blk, 0, none⟩ = some g.v := (h.file g hg).1.cell rfl
theorem Dr.f1 (h : Dr w pb mb gs st ar lf) {g : Gm} (hg : g ∈ gs) : w.cell? ⟨g.blk, 1, none⟩ = some (.int .i64 g.f.syn) := (h.file g hg).1.cell rfl
end

def dead (ar : Bool) (lf : Int) : Bool := ar && (lf == 0)

set_option maxHeartbeats 1000000 in
theorem dead_any {w : World} {pb mb : Nat} {gs : List Gm} {st lf : Int} {ar : Bool} (h : Dr w pb mb gs st ar lf) :
    Calls Tryz.prog 61 #[.pointer (some ⟨pb, 0, none⟩)] w fun e w' => e = .returned (.bool (dead ar lf)) ∧ w' = w := by
  have c2 := h.c2
  have c3 := h.c3
  have H := Lib.hid h
  clear h
  cases ar
  · go_enter Tryz.func61, Tryz.ntmps61
    go_wp2_with fail
    go_ret
    exact ⟨rfl, rfl⟩
  · go_enter Tryz.func61, Tryz.ntmps61
    go_wp2_with fail
    go_ret
    exact ⟨rfl, rfl⟩

set_option maxHeartbeats 1000000 in
theorem steps_any {w : World} {pb mb : Nat} {gs : List Gm} {st lf : Int} {ar : Bool} (h : Dr w pb mb gs st ar lf) :
    Calls Tryz.prog 46 #[.pointer (some ⟨pb, 0, none⟩)] w fun e w' => e = .returned (.int .i64 st) ∧ w' = w := by
  have c1 := h.c1
  have H := Lib.hid h
  clear h
  go_enter Tryz.func46, Tryz.ntmps46
  go_wp2_with fail
  go_ret
  exact ⟨rfl, rfl⟩

/-- How many bytes a file has; none: 0. -/
def sizeG (s : List UInt8) (gs : List Gm) : Nat := match findK Gm.name s gs with | some g => g.f.data.length | none => 0
def looseG (s : List UInt8) (gs : List Gm) : Nat := match findK Gm.name s gs with | some g => g.f.data.length - g.f.syn | none => 0

set_option maxHeartbeats 1000000 in
theorem size_any {w : World} {pb mb : Nat} {gs : List Gm} {st lf : Int} {ar : Bool} (h : Dr w pb mb gs st ar lf) (s : List UInt8) (hs : s.length ≤ maxLen) :
    Calls Tryz.prog 64 #[.pointer (some ⟨pb, 0, none⟩), .string (str s)] w fun e w' => e = .returned (.int .i64 (sizeG s gs)) ∧ w' = w := by
  have c0 := h.c0
  have hlk := map_look h.map hs
  cases hf : findK Gm.name s gs with
  | none =>
    rw [hf] at hlk
    simp only [ptr] at hlk
    have H := Lib.hid h
    have HF := Lib.hid hf
    clear h hf
    go_enter Tryz.func64, Tryz.ntmps64
    go_wp2_with fail
    go_ret
    exact ⟨by simp [sizeG, HF.out], rfl⟩
  | some g =>
    rw [hf] at hlk
    simp only [ptr] at hlk
    have hg := find_some hf
    have f0 := h.f0 hg.1
    obtain ⟨A, c, hv⟩ := own_form (h.file g hg.1).2.1
    rw [hv] at f0
    have H := Lib.hid h
    have HF := Lib.hid hf
    have HG := Lib.hid hg
    have HV := Lib.hid hv
    clear h hf hg hv
    go_enter Tryz.func64, Tryz.ntmps64
    go_wp2_with fail
    go_ret
    exact ⟨by simp [sizeG, HF.out], rfl⟩

set_option maxHeartbeats 1000000 in
theorem lo_any {w : World} {pb mb : Nat} {gs : List Gm} {st lf : Int} {ar : Bool} (h : Dr w pb mb gs st ar lf) {g : Gm} (hg : g ∈ gs) :
    Calls Tryz.prog 94 #[.pointer (some ⟨g.blk, 0, none⟩)] w fun e w' => e = .returned (.int .i64 ((g.f.data.length - g.f.syn : Nat) : Int)) ∧ ∃ q, w' = w.drewN q := by
  have f0 := h.f0 hg
  have f1 := h.f1 hg
  obtain ⟨h1, h2, h3, h4, h5⟩ := h.file g hg
  obtain ⟨A, c, hv⟩ := own_form h2
  rw [hv] at f0
  have hw : IntKind.i64.wrap ((g.f.data.length : Int) - g.f.syn) = ((g.f.data.length - g.f.syn : Nat) : Int) := by
    rw [IntWalk.i64_in _ (by omega)]; omega
  have H := Lib.hid h
  have HG := Lib.hid hg
  have HV := Lib.hid hv
  clear h hg hv h1 h2
  go_enter Tryz.func94, Tryz.ntmps94
  go_wp2_with fail
  go_quiet (fail)
  go_wp2_with fail
  go_ret
  exact ⟨rfl, nq, rfl⟩

/-! ### names -/
def vbyte (c : UInt8) : Bool := decide (97 ≤ (c.toNat : Int) ∧ (c.toNat : Int) ≤ 122 ∨ 48 ≤ (c.toNat : Int) ∧ (c.toNat : Int) ≤ 57 ∨ (c.toNat : Int) = 45 ∨ (c.toNat : Int) = 46)
def vname (s : List UInt8) : Bool := decide (1 ≤ s.length ∧ s.length ≤ 32) && s.all vbyte

set_option maxHeartbeats 4000000 in
theorem vb_any (c : UInt8) (w : World) : Calls Tryz.prog 163 #[.int .u8 (c.toNat : Int)] w fun e w' => e = .returned (.bool (vbyte c)) ∧ w' = w := by
  obtain ⟨n, hn⟩ : ∃ n : Int, n = (c.toNat : Int) := ⟨_, rfl⟩
  have hv : vbyte c = decide (97 ≤ n ∧ n ≤ 122 ∨ 48 ≤ n ∧ n ≤ 57 ∨ n = 45 ∨ n = 46) := by rw [hn]; rfl
  rw [hv, ← hn]
  clear hv
  obtain ⟨r, hr⟩ : ∃ r, r = decide (97 ≤ n ∧ n ≤ 122 ∨ 48 ≤ n ∧ n ≤ 57 ∨ n = 45 ∨ n = 46) := ⟨_, rfl⟩
  rw [← hr]
  have HR := Lib.hid hr
  clear hr
  have HN := Lib.hid hn
  clear hn
  by_cases h1 : 97 ≤ n <;> by_cases h2 : n ≤ 122 <;> by_cases h3 : 48 ≤ n <;> by_cases h4 : n ≤ 57 <;> by_cases h5 : n = 45 <;> by_cases h6 : n = 46 <;> (first | (exfalso; omega) | skip)
  all_goals
    go_enter Tryz.func163, Tryz.ntmps163
    go_wp2_with fail
    go_ret
    refine ⟨?_, rfl⟩
    first
      | (rw [show r = true from HR.out.trans (decide_eq_true (by omega))]; rfl)
      | (rw [show r = false from HR.out.trans (decide_eq_false (by omega))]
         have e5 : (n == 45) = false := by simp; omega
         have e6 : (n == 46) = false := by simp; omega
         show Ending.returned (.bool (n == 45 || n == 46)) = _
         rw [e5, e6]; rfl)

def PreV (s : List UInt8) (k : Nat) : Prop := (s.take k).all vbyte = true
theorem PreV.step {s : List UInt8} {k : Nat} (h : PreV s k) (hk : k < s.length) (hv : vbyte s[k] = true) : PreV s (k + 1) := by
  unfold PreV at h ⊢
  rw [List.take_succ_eq_append_getElem hk, List.all_append, h]
  simp [hv]

theorem at_str (w : World) {s : List UInt8} {k : Nat} (hk : k < s.length) : (Instr.index 9 (.string (str s)) (.int .i64 (k : Int))).run Tryz.prog w = .ok (.int .u8 (s[k].toNat : Int)) w := by
  rw [run_index_string _ _ _ _ _ Tryz.underlying9]
  have hs : (0 : Int) ≤ k ∧ (k : Int) < (str s).size := by rw [str_size]; omega
  rw [dif_pos hs]
  congr 3

set_option maxHeartbeats 4000000 in
theorem vname_any (s : List UInt8) (w : World) : Calls Tryz.prog 117 #[.string (str s)] w fun e w' => e = .returned (.bool (vname s)) ∧ w' = w := by
  have hsz : (str s).size = s.length := str_size s
  by_cases h1 : (s.length : Int) < 1
  · go_enter Tryz.func117, Tryz.ntmps117
    go_wp2_with fail
    go_ret
    refine ⟨?_, rfl⟩
    have : vname s = false := by simp [vname]; omega
    rw [this]; rfl
  · by_cases h2 : (32 : Int) < s.length
    · go_enter Tryz.func117, Tryz.ntmps117
      go_wp2_with fail
      go_ret
      refine ⟨?_, rfl⟩
      have : vname s = false := by simp [vname]; omega
      rw [this]; rfl
    · go_enter Tryz.func117, Tryz.ntmps117
      go_wp2_with fail
      go_loopw [14] (fun j wr => ∃ k : Nat, k ≤ s.length ∧ j = .int .i64 k ∧ PreV s k ∧ wr = w) (fun j _ => s.length - (intOf j).toNat)
      case atStart => exact ⟨0, Nat.zero_le _, rfl, rfl, rfl⟩
      case round =>
        obtain ⟨k, hk, rfl, hall, rfl⟩ := hrel
        have HA := Lib.hid hall
        clear hall
        by_cases hkn : k < s.length
        · have hcN : (k : Int) < s.length := by omega
          have hix := at_str wr hkn
          go_wp2_with (go_at_call 163; refine (vb_any _ _).mono ?_; rintro e w' ⟨rfl, rfl⟩; cases hvb : vbyte s[k])
          · go_ret
            refine ⟨?_, rfl⟩
            have : vname s = false := by
              have : ¬ s.all vbyte = true := by
                intro h
                rw [List.all_eq_true] at h
                have := h _ (List.getElem_mem hkn)
                rw [hvb] at this; cases this
              simp only [Bool.not_eq_true] at this
              simp [vname, this]
            rw [this]; rfl
          · have hw : IntKind.i64.wrap ((k : Int) + 1) = ((k + 1 : Nat) : Int) := by rw [IntWalk.i64_in _ (by omega)]; omega
            exact ⟨⟨k + 1, by omega, by simp, HA.out.step hkn hvb, trivial⟩, by simp [intOf]; omega⟩
        · have hcN : ¬ (k : Int) < s.length := by omega
          go_wp2_with fail
          go_ret
          refine ⟨?_, rfl⟩
          have : s.all vbyte = true := by have := HA.out; unfold PreV at this; rwa [List.take_of_length_le (by omega)] at this
          have : vname s = true := by simp only [vname, this, Bool.and_true, decide_eq_true_eq]; omega
          rw [this]; rfl

/-! ### a file looked for -/
def findE (s : List UInt8) (gs : List Gm) : Value := match vname s, findK Gm.name s gs with
  | false, _ => .tuple #[.pointer none, .int .i64 20]
  | true, none => .tuple #[.pointer none, .int .i64 4]
  | true, some g => .tuple #[.pointer (some ⟨g.blk, 0, none⟩), .int .i64 0]
theorem vname_le {s : List UInt8} (h : vname s = true) : 1 ≤ s.length ∧ s.length ≤ 32 := by simp [vname] at h; exact h.1

set_option maxHeartbeats 1000000 in
theorem find_any {w : World} {pb mb : Nat} {gs : List Gm} {st lf : Int} {ar : Bool} (h : Dr w pb mb gs st ar lf) (s : List UInt8) :
    Calls Tryz.prog 111 #[.pointer (some ⟨pb, 0, none⟩), .string (str s)] w fun e w' => e = .returned (findE s gs) ∧ w' = w := by
  have c0 := h.c0
  cases hv : vname s with
  | false =>
    go_enter Tryz.func111, Tryz.ntmps111
    have hct := vname_any s w
    rw [hv] at hct
    go_wp2_with (go_at_call 117; refine hct.mono ?_; rintro e w' ⟨rfl, rfl⟩)
    go_ret2
    exact ⟨by simp [findE, hv], rfl⟩
  | true =>
    have hlk := map_look h.map (s := s) (by have := (vname_le hv).2; simp only [maxLen]; omega)
    have hct := vname_any s w
    rw [hv] at hct
    cases hf : findK Gm.name s gs with
    | none =>
      rw [hf] at hlk
      simp only [ptr] at hlk
      have HF := Lib.hid hf
      have HV := Lib.hid hv
      clear hf hv
      go_enter Tryz.func111, Tryz.ntmps111
      go_wp2_with (go_at_call 117; refine hct.mono ?_; rintro e w' ⟨rfl, rfl⟩)
      go_ret2
      exact ⟨by simp [findE, HV.out, HF.out], rfl⟩
    | some g =>
      rw [hf] at hlk
      simp only [ptr] at hlk
      have HF := Lib.hid hf
      have HV := Lib.hid hv
      clear hf hv
      go_enter Tryz.func111, Tryz.ntmps111
      go_wp2_with (go_at_call 117; refine hct.mono ?_; rintro e w' ⟨rfl, rfl⟩)
      go_ret2
      exact ⟨by simp [findE, HV.out, HF.out], rfl⟩
end Go.Proofs.YtadkgfhfjagmpaaGreatDoor

namespace Go.Proofs.YtadkgfhfjagmpaaGreatDoor
open Go.RowKit Go.Maps
set_option linter.unusedVariables false

/-- A slice of slices of bytes as it lies in memory. -/
def Br (w : World) (A : Option Addr) (n : Nat) (bs : List (List UInt8)) : Prop :=
  bs.length = n ∧ (0 < n → ∃ b o : Nat, A = some ⟨b, o, none⟩ ∧ ∀ i l, bs[i]? = some l → ∃ K c, w.cell? ⟨b, o + i, none⟩ = some (.slice K l.length c) ∧ Sl w K l.length (bv l) ∧ l.length ≤ c)
theorem Br.none_ (w : World) : Br w none 0 [] := ⟨rfl, fun h => by omega⟩
theorem Br.below {w w' : World} {A : Option Addr} {n : Nat} {ks : List (List UInt8)} (h : Br w A n ks) (hb : Below w.heap.size w w') : Br w' A n ks :=
  ⟨h.1, fun hn => by
    obtain ⟨b, o, e, hc⟩ := h.2 hn
    refine ⟨b, o, e, fun i l hl => ?_⟩
    obtain ⟨K, c, h1, h2, h3⟩ := hc i l hl
    exact ⟨K, c, (World.cell?_of_block (w := w) (hb.block _ (World.block_lt_of_cell? w _ h1))).trans h1, h2.below hb, h3⟩⟩
theorem Br.at_ {w : World} {A : Option Addr} {n : Nat} {ks : List (List UInt8)} {i : Nat} (h : Br w A n ks) (hi : i < n) : ∃ (b o : Nat) (K : Option Addr) (l : List UInt8) (c : Nat), A = some ⟨b, o, none⟩ ∧ ks[i]? = some l ∧ w.cell? ⟨b, o + i, none⟩ = some (.slice K l.length c) ∧ Sl w K l.length (bv l) ∧ l.length ≤ c := by
  obtain ⟨b, o, e, hc⟩ := h.2 (by omega)
  have hl : i < ks.length := by have := h.1; omega
  obtain ⟨K, c, h1, h2, h3⟩ := hc i _ (List.getElem?_eq_getElem hl)
  exact ⟨b, o, K, _, c, e, List.getElem?_eq_getElem hl, h1, h2, h3⟩

end Go.Proofs.YtadkgfhfjagmpaaGreatDoor
