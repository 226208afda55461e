/-
  A drive's other calls: Rename, Arm; a file read, its loose bytes counted; the names in order.
-/
import Derived.Test.YtnbomifnbhijbaaGreatDoorDrF
namespace Go.Proofs.YtnbomifnbhijbaaGreatDoor
open Go.RowKit Go.Maps
set_option linter.unusedVariables false

theorem Oth.trans_oth {S S' : Nat → Prop} {a b c : World} (h : Oth S a b) (k : Oth S' b c) (hs : ∀ i, S' i → S i) : Oth S a c :=
  ⟨k.os.trans h.os, k.tape.trans h.tape, k.output.trans h.output, Nat.le_trans h.size k.size, fun i hi hn => (k.block i (Nat.lt_of_lt_of_le hi h.size) fun e => hn (hs i e)).trans (h.block i hi hn)⟩

def renE (s tn : List UInt8) (gs : List Gm) (ar : Bool) (lf : Int) : Int := if vname tn = false then 20 else lookE s gs ar lf

/-- What Arm answers. -/
def armE (n : Int) (ar : Bool) (lf : Int) : Int := if n < 0 then 1 else if dead ar lf = true then 6 else 0

set_option maxHeartbeats 4000000 in
theorem arm_any {w : World} {pb mb : Nat} {gs : List Gm} {st lf : Int} {ar : Bool} (h : Dr w pb mb gs st ar lf) (n : Int) :
    Calls Tryz.prog 19 #[.pointer (some ⟨pb, 0, none⟩), .int .i64 n] w fun e w' => e = .returned (.int .i64 (armE n ar lf)) ∧
      (if armE n ar lf = 0 then Dr w' pb mb gs st true n else Dr w' pb mb gs st ar lf) ∧ Stp w w' (foot pb mb gs) (foot pb mb gs) := by
  have hdd := dead_any h
  by_cases hn : n < 0
  · have he : armE n ar lf = 1 := by simp [armE, hn]
    rw [he]
    simp only [show ¬ ((1 : Int) = 0) from by decide, if_false]
    have H := Lib.hid h
    clear he h
    go_enter Tryz.func19, Tryz.ntmps19
    go_wp2_with fail
    go_ret
    exact ⟨rfl, H.out, Stp.refl _ _⟩
  · cases hd : dead ar lf with
    | true =>
      rw [hd] at hdd
      have he : armE n ar lf = 6 := by simp [armE, hn, hd]
      rw [he]
      simp only [show ¬ ((6 : Int) = 0) from by decide, if_false]
      have H := Lib.hid h
      clear he h hd
      go_enter Tryz.func19, Tryz.ntmps19
      go_wp2_with (go_at_call 47; refine hdd.mono ?_; rintro e w' ⟨rfl, rfl⟩)
      go_ret
      exact ⟨rfl, H.out, Stp.refl _ _⟩
    | false =>
      rw [hd] at hdd
      have he : armE n ar lf = 0 := by simp [armE, hn, hd]
      rw [he]
      simp only [if_true]
      have f2 := h.fz 2
      have f3 := h.fz 3
      have c2 := h.c2
      have c3 := h.c3
      have hA := (h.set2 true).set3 n
      have HA := Lib.hid hA
      clear he h hd hA
      go_enter Tryz.func19, Tryz.ntmps19
      go_wp2_with (go_at_call 47; refine hdd.mono ?_; rintro e w' ⟨rfl, rfl⟩)
      go_ret
      exact ⟨rfl, HA.out, (stp_set (.inl rfl)).trans (stp_set (.inl rfl))⟩

def readE (s : List UInt8) (gs : List Gm) : Int := if vname s = false then 20 else match findK Gm.name s gs with
  | none => 4
  | some _ => 0

set_option maxHeartbeats 4000000 in
theorem read_any {w : World} {pb mb : Nat} {gs : List Gm} {st lf : Int} {ar : Bool} (h : Dr w pb mb gs st ar lf) (s : List UInt8) :
    Calls Tryz.prog 49 #[.pointer (some ⟨pb, 0, none⟩), .string (str s)] w fun e w' => ∃ A c, e = .returned (.tuple #[.slice A (if readE s gs = 0 then (oldF s gs).data.length else 0) c, .int .i64 (readE s gs)]) ∧
      w'.ownsRow w.heap.size 5 1 (.slice A (if readE s gs = 0 then (oldF s gs).data.length else 0) c) (if readE s gs = 0 then (oldF s gs).data.length else 0) (bv (if readE s gs = 0 then (oldF s gs).data else [])) ∧ Below w.heap.size w w' := by
  have hct := find_any h s
  cases hv : vname s with
  | false =>
    have he : readE s gs = 20 := by simp [readE, hv]
    simp only [findE, hv] at hct
    rw [he]
    simp only [show ¬ ((20 : Int) = 0) from by decide, if_false]
    clear hv he
    go_enter Tryz.func49, Tryz.ntmps49
    go_wp2_with (go_at_call 75; refine hct.mono ?_; rintro e w' ⟨rfl, rfl⟩)
    go_ret2
    exact ⟨none, 0, rfl, World.ownsRow_nil _ _ _ _, Below.refl _ _⟩
  | true =>
    cases hf : findK Gm.name s gs with
    | none =>
      have he : readE s gs = 4 := by simp [readE, hv, hf]
      simp only [findE, hv, hf] at hct
      rw [he]
      simp only [show ¬ ((4 : Int) = 0) from by decide, if_false]
      clear hv he hf
      go_enter Tryz.func49, Tryz.ntmps49
      go_wp2_with (go_at_call 75; refine hct.mono ?_; rintro e w' ⟨rfl, rfl⟩)
      go_ret2
      exact ⟨none, 0, rfl, World.ownsRow_nil _ _ _ _, Below.refl _ _⟩
    | some g =>
      have he : readE s gs = 0 := by simp [readE, hv, hf]
      have hof : oldF s gs = g.f := by simp [oldF, hf]
      have hg := find_some hf
      obtain ⟨g1, g2, g3⟩ := h.file g hg.1
      obtain ⟨Ag, cg, hgv⟩ := own_form g2
      have cf := h.f0 hg.1
      rw [hgv] at cf g2
      have hgl := g3.2.1
      have hcl := bclone_any Ag _ cg g.f.data w (own_sl g2) (by omega)
      simp only [findE, hv, hf] at hct
      rw [he, hof]
      simp only [if_true]
      clear hv he hf hof hg g1 g2 g3 hgv h
      go_enter Tryz.func49, Tryz.ntmps49
      go_wp2_with (first
        | (go_at_call 75; refine hct.mono ?_; rintro e w' ⟨rfl, rfl⟩)
        | (go_at_call 71; refine hcl.mono ?_; rintro e w2 ⟨A2, c2, rfl, hown2, hb2⟩))
      go_ret2
      exact ⟨A2, c2, rfl, hown2, hb2⟩

set_option maxHeartbeats 4000000 in
theorem loose_any {w : World} {pb mb : Nat} {gs : List Gm} {st lf : Int} {ar : Bool} (h : Dr w pb mb gs st ar lf) (s : List UInt8) (hs : s.length ≤ maxLen) :
    Calls Tryz.prog 23 #[.pointer (some ⟨pb, 0, none⟩), .string (str s)] w fun e w' => e = .returned (.int .i64 (looseG s gs)) ∧ ∃ q, w' = w.drewN q := by
  have c0 := h.c0
  have hlk := map_look h.map hs
  cases hf : findK Gm.name s gs with
  | none =>
    rw [hf] at hlk
    simp only [ptr] at hlk
    have hE : looseG s gs = 0 := by simp [looseG, hf]
    rw [hE]
    clear hf h hE
    go_enter Tryz.func23, Tryz.ntmps23
    go_wp2_with fail
    go_ret
    exact ⟨rfl, 0, rfl⟩
  | some g =>
    rw [hf] at hlk
    simp only [ptr] at hlk
    have hg := find_some hf
    have hct := lo_any h hg.1
    have hE : looseG s gs = g.f.data.length - g.f.syn := by simp [looseG, hf]
    rw [hE]
    clear hf h hg hE
    go_enter Tryz.func23, Tryz.ntmps23
    go_wp2_with (go_at_call 59; refine hct.mono ?_; rintro e w' ⟨rfl, q, rfl⟩)
    go_ret
    exact ⟨rfl, q, rfl⟩
end Go.Proofs.YtnbomifnbhijbaaGreatDoor
