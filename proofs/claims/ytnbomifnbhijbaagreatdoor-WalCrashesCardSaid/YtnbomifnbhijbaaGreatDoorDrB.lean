/-
  What a drive answers without a step: Dead, Steps, Size, Loose; a file looked for; a name held against the rule.
-/
import Derived.Test.YtnbomifnbhijbaaGreatDoorDrA
namespace Go.Proofs.YtnbomifnbhijbaaGreatDoor
open Go.RowKit Go.Maps
set_option linter.unusedVariables false

section
variable {w : World} {pb mb : Nat} {gs : List Gm} {st lf : Int} {ar : Bool}
theorem Dr.c0 (h : Dr w pb mb gs st ar lf) : w.cell? ⟨pb, 0, none⟩ = some (.map (some mb)) := h.blk.cell rfl
theorem Dr.c1 (h : Dr w pb mb gs st ar lf) : w.cell? ⟨pb, 1, none⟩ = some (.int .i64 st) := h.blk.cell rfl
theorem Dr.c2 (h : Dr w pb mb gs st ar lf) : w.cell? ⟨pb, 2, none⟩ = some (.bool ar) := h.blk.cell rfl
theorem Dr.c3 (h : Dr w pb mb gs st ar lf) : w.cell? ⟨pb, 3, none⟩ = some (.int .i64 lf) := h.blk.cell rfl
theorem Dr.f0 (h : Dr w pb mb gs st ar lf) {g : Gm} (hg : g ∈ gs) : w.cell? ⟨g.blk, 0, none⟩ = some g.v := (h.file g hg).1.cell rfl
theorem Dr.f1 (h : Dr w pb mb gs st ar lf) {g : Gm} (hg : g ∈ gs) : w.cell? ⟨g.blk, 1, none⟩ = some (.int .i64 g.f.syn) := (h.file g hg).1.cell rfl
end

def dead (ar : Bool) (lf : Int) : Bool := ar && (lf == 0)

set_option maxHeartbeats 1000000 in
theorem dead_any {w : World} {pb mb : Nat} {gs : List Gm} {st lf : Int} {ar : Bool} (h : Dr w pb mb gs st ar lf) :
    Calls Tryz.prog 47 #[.pointer (some ⟨pb, 0, none⟩)] w fun e w' => e = .returned (.bool (dead ar lf)) ∧ w' = w := by
  have c2 := h.c2
  have c3 := h.c3
  have H := Lib.hid h
  clear h
  cases ar
  · go_enter Tryz.func47, Tryz.ntmps47
    go_wp2_with fail
    go_ret
    exact ⟨rfl, rfl⟩
  · go_enter Tryz.func47, Tryz.ntmps47
    go_wp2_with fail
    go_ret
    exact ⟨rfl, rfl⟩

set_option maxHeartbeats 1000000 in
theorem steps_any {w : World} {pb mb : Nat} {gs : List Gm} {st lf : Int} {ar : Bool} (h : Dr w pb mb gs st ar lf) :
    Calls Tryz.prog 46 #[.pointer (some ⟨pb, 0, none⟩)] w fun e w' => e = .returned (.int .i64 st) ∧ w' = w := by
  have c1 := h.c1
  have H := Lib.hid h
  clear h
  go_enter Tryz.func46, Tryz.ntmps46
  go_wp2_with fail
  go_ret
  exact ⟨rfl, rfl⟩

/-- How many bytes a file has; none: 0. -/
def sizeG (s : List UInt8) (gs : List Gm) : Nat := match findK Gm.name s gs with | some g => g.f.data.length | none => 0
def looseG (s : List UInt8) (gs : List Gm) : Nat := match findK Gm.name s gs with | some g => g.f.data.length - g.f.syn | none => 0

set_option maxHeartbeats 1000000 in
theorem size_any {w : World} {pb mb : Nat} {gs : List Gm} {st lf : Int} {ar : Bool} (h : Dr w pb mb gs st ar lf) (s : List UInt8) (hs : s.length ≤ maxLen) :
    Calls Tryz.prog 50 #[.pointer (some ⟨pb, 0, none⟩), .string (str s)] w fun e w' => e = .returned (.int .i64 (sizeG s gs)) ∧ w' = w := by
  have c0 := h.c0
  have hlk := map_look h.map hs
  cases hf : findK Gm.name s gs with
  | none =>
    rw [hf] at hlk
    simp only [ptr] at hlk
    have H := Lib.hid h
    have HF := Lib.hid hf
    clear h hf
    go_enter Tryz.func50, Tryz.ntmps50
    go_wp2_with fail
    go_ret
    exact ⟨by simp [sizeG, HF.out], rfl⟩
  | some g =>
    rw [hf] at hlk
    simp only [ptr] at hlk
    have hg := find_some hf
    have f0 := h.f0 hg.1
    obtain ⟨A, c, hv⟩ := own_form (h.file g hg.1).2.1
    rw [hv] at f0
    have H := Lib.hid h
    have HF := Lib.hid hf
    have HG := Lib.hid hg
    have HV := Lib.hid hv
    clear h hf hg hv
    go_enter Tryz.func50, Tryz.ntmps50
    go_wp2_with fail
    go_ret
    exact ⟨by simp [sizeG, HF.out], rfl⟩

set_option maxHeartbeats 1000000 in
theorem lo_any {w : World} {pb mb : Nat} {gs : List Gm} {st lf : Int} {ar : Bool} (h : Dr w pb mb gs st ar lf) {g : Gm} (hg : g ∈ gs) :
    Calls Tryz.prog 59 #[.pointer (some ⟨g.blk, 0, none⟩)] w fun e w' => e = .returned (.int .i64 ((g.f.data.length - g.f.syn : Nat) : Int)) ∧ ∃ q, w' = w.drewN q := by
  have f0 := h.f0 hg
  have f1 := h.f1 hg
  obtain ⟨h1, h2, h3, h4, h5⟩ := h.file g hg
  obtain ⟨A, c, hv⟩ := own_form h2
  rw [hv] at f0
  have hw : IntKind.i64.wrap ((g.f.data.length : Int) - g.f.syn) = ((g.f.data.length - g.f.syn : Nat) : Int) := by
    rw [IntWalk.i64_in _ (by omega)]; omega
  have H := Lib.hid h
  have HG := Lib.hid hg
  have HV := Lib.hid hv
  clear h hg hv h1 h2
  go_enter Tryz.func59, Tryz.ntmps59
  go_wp2_with fail
  go_quiet (fail)
  go_wp2_with fail
  go_ret
  exact ⟨rfl, nq, rfl⟩

/-! ### names -/
def vbyte (c : UInt8) : Bool := decide (97 ≤ (c.toNat : Int) ∧ (c.toNat : Int) ≤ 122 ∨ 48 ≤ (c.toNat : Int) ∧ (c.toNat : Int) ≤ 57 ∨ (c.toNat : Int) = 45 ∨ (c.toNat : Int) = 46)
def vname (s : List UInt8) : Bool := decide (1 ≤ s.length ∧ s.length ≤ 32) && s.all vbyte

set_option maxHeartbeats 4000000 in
theorem vb_any (c : UInt8) (w : World) : Calls Tryz.prog 100 #[.int .u8 (c.toNat : Int)] w fun e w' => e = .returned (.bool (vbyte c)) ∧ w' = w := by
  obtain ⟨n, hn⟩ : ∃ n : Int, n = (c.toNat : Int) := ⟨_, rfl⟩
  have hv : vbyte c = decide (97 ≤ n ∧ n ≤ 122 ∨ 48 ≤ n ∧ n ≤ 57 ∨ n = 45 ∨ n = 46) := by rw [hn]; rfl
  rw [hv, ← hn]
  clear hv
  obtain ⟨r, hr⟩ : ∃ r, r = decide (97 ≤ n ∧ n ≤ 122 ∨ 48 ≤ n ∧ n ≤ 57 ∨ n = 45 ∨ n = 46) := ⟨_, rfl⟩
  rw [← hr]
  have HR := Lib.hid hr
  clear hr
  have HN := Lib.hid hn
  clear hn
  by_cases h1 : 97 ≤ n <;> by_cases h2 : n ≤ 122 <;> by_cases h3 : 48 ≤ n <;> by_cases h4 : n ≤ 57 <;> by_cases h5 : n = 45 <;> by_cases h6 : n = 46 <;> (first | (exfalso; omega) | skip)
  all_goals
    go_enter Tryz.func100, Tryz.ntmps100
    go_wp2_with fail
    go_ret
    refine ⟨?_, rfl⟩
    first
      | (rw [show r = true from HR.out.trans (decide_eq_true (by omega))]; rfl)
      | (rw [show r = false from HR.out.trans (decide_eq_false (by omega))]
         have e5 : (n == 45) = false := by simp; omega
         have e6 : (n == 46) = false := by simp; omega
         show Ending.returned (.bool (n == 45 || n == 46)) = _
         rw [e5, e6]; rfl)

def PreV (s : List UInt8) (k : Nat) : Prop := (s.take k).all vbyte = true
theorem PreV.step {s : List UInt8} {k : Nat} (h : PreV s k) (hk : k < s.length) (hv : vbyte s[k] = true) : PreV s (k + 1) := by
  unfold PreV at h ⊢
  rw [List.take_succ_eq_append_getElem hk, List.all_append, h]
  simp [hv]

theorem at_str (w : World) {s : List UInt8} {k : Nat} (hk : k < s.length) : (Instr.index 9 (.string (str s)) (.int .i64 (k : Int))).run Tryz.prog w = .ok (.int .u8 (s[k].toNat : Int)) w := by
  rw [run_index_string _ _ _ _ _ Tryz.underlying9]
  have hs : (0 : Int) ≤ k ∧ (k : Int) < (str s).size := by rw [str_size]; omega
  rw [dif_pos hs]
  congr 3

set_option maxHeartbeats 4000000 in
theorem vname_any (s : List UInt8) (w : World) : Calls Tryz.prog 80 #[.string (str s)] w fun e w' => e = .returned (.bool (vname s)) ∧ w' = w := by
  have hsz : (str s).size = s.length := str_size s
  by_cases h1 : (s.length : Int) < 1
  · go_enter Tryz.func80, Tryz.ntmps80
    go_wp2_with fail
    go_ret
    refine ⟨?_, rfl⟩
    have : vname s = false := by simp [vname]; omega
    rw [this]; rfl
  · by_cases h2 : (32 : Int) < s.length
    · go_enter Tryz.func80, Tryz.ntmps80
      go_wp2_with fail
      go_ret
      refine ⟨?_, rfl⟩
      have : vname s = false := by simp [vname]; omega
      rw [this]; rfl
    · go_enter Tryz.func80, Tryz.ntmps80
      go_wp2_with fail
      go_loopw [14] (fun j wr => ∃ k : Nat, k ≤ s.length ∧ j = .int .i64 k ∧ PreV s k ∧ wr = w) (fun j _ => s.length - (intOf j).toNat)
      case atStart => exact ⟨0, Nat.zero_le _, rfl, rfl, rfl⟩
      case round =>
        obtain ⟨k, hk, rfl, hall, rfl⟩ := hrel
        have HA := Lib.hid hall
        clear hall
        by_cases hkn : k < s.length
        · have hcN : (k : Int) < s.length := by omega
          have hix := at_str wr hkn
          go_wp2_with (go_at_call 100; refine (vb_any _ _).mono ?_; rintro e w' ⟨rfl, rfl⟩; cases hvb : vbyte s[k])
          · go_ret
            refine ⟨?_, rfl⟩
            have : vname s = false := by
              have : ¬ s.all vbyte = true := by
                intro h
                rw [List.all_eq_true] at h
                have := h _ (List.getElem_mem hkn)
                rw [hvb] at this; cases this
              simp only [Bool.not_eq_true] at this
              simp [vname, this]
            rw [this]; rfl
          · have hw : IntKind.i64.wrap ((k : Int) + 1) = ((k + 1 : Nat) : Int) := by rw [IntWalk.i64_in _ (by omega)]; omega
            exact ⟨⟨k + 1, by omega, by simp, HA.out.step hkn hvb, trivial⟩, by simp [intOf]; omega⟩
        · have hcN : ¬ (k : Int) < s.length := by omega
          go_wp2_with fail
          go_ret
          refine ⟨?_, rfl⟩
          have : s.all vbyte = true := by have := HA.out; unfold PreV at this; rwa [List.take_of_length_le (by omega)] at this
          have : vname s = true := by simp only [vname, this, Bool.and_true, decide_eq_true_eq]; omega
          rw [this]; rfl

/-! ### a file looked for -/
def findE (s : List UInt8) (gs : List Gm) : Value := match vname s, findK Gm.name s gs with
  | false, _ => .tuple #[.pointer none, .int .i64 20]
  | true, none => .tuple #[.pointer none, .int .i64 4]
  | true, some g => .tuple #[.pointer (some ⟨g.blk, 0, none⟩), .int .i64 0]
theorem vname_le {s : List UInt8} (h : vname s = true) : 1 ≤ s.length ∧ s.length ≤ 32 := by simp [vname] at h; exact h.1

set_option maxHeartbeats 1000000 in
theorem find_any {w : World} {pb mb : Nat} {gs : List Gm} {st lf : Int} {ar : Bool} (h : Dr w pb mb gs st ar lf) (s : List UInt8) :
    Calls Tryz.prog 75 #[.pointer (some ⟨pb, 0, none⟩), .string (str s)] w fun e w' => e = .returned (findE s gs) ∧ w' = w := by
  have c0 := h.c0
  cases hv : vname s with
  | false =>
    go_enter Tryz.func75, Tryz.ntmps75
    have hct := vname_any s w
    rw [hv] at hct
    go_wp2_with (go_at_call 80; refine hct.mono ?_; rintro e w' ⟨rfl, rfl⟩)
    go_ret2
    exact ⟨by simp [findE, hv], rfl⟩
  | true =>
    have hlk := map_look h.map (s := s) (by have := (vname_le hv).2; simp only [maxLen]; omega)
    have hct := vname_any s w
    rw [hv] at hct
    cases hf : findK Gm.name s gs with
    | none =>
      rw [hf] at hlk
      simp only [ptr] at hlk
      have HF := Lib.hid hf
      have HV := Lib.hid hv
      clear hf hv
      go_enter Tryz.func75, Tryz.ntmps75
      go_wp2_with (go_at_call 80; refine hct.mono ?_; rintro e w' ⟨rfl, rfl⟩)
      go_ret2
      exact ⟨by simp [findE, HV.out, HF.out], rfl⟩
    | some g =>
      rw [hf] at hlk
      simp only [ptr] at hlk
      have HF := Lib.hid hf
      have HV := Lib.hid hv
      clear hf hv
      go_enter Tryz.func75, Tryz.ntmps75
      go_wp2_with (go_at_call 80; refine hct.mono ?_; rintro e w' ⟨rfl, rfl⟩)
      go_ret2
      exact ⟨by simp [findE, HV.out, HF.out], rfl⟩
end Go.Proofs.YtnbomifnbhijbaaGreatDoor
