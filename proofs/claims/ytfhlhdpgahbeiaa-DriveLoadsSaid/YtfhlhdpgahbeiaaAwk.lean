/-
  The document's example: awake answers true, and writes nothing that was there.
-/
import Derived.Test.YtfhlhdpgahbeiaaDrI
namespace Go.Proofs.Ytfhlhdpgahbeiaa
open Go.RowKit Go.Maps
set_option linter.unusedVariables false

section
variable {w : World} {pb mb : Nat} {gs : List Gm} {st lf : Int} {ar : Bool}
theorem append_ok (h : Dr w pb mb gs st ar lf) (s : List UInt8) (A : Option Addr) (n c : Nat) (l : List UInt8) (hl : Sl w A n (bv l)) (hn : n ≤ 140737488355328) (hA : ∀ k, (Value.slice A n c).ownBlock = some k → ¬ foot pb mb gs k) (hE : appE s n gs ar lf = 0) :
    Calls Try.prog 24 #[.pointer (some ⟨pb, 0, none⟩), .string (str s), .slice A n c] w fun e w' => e = .returned (.int .i64 0) ∧ ∃ g : Gm, g.f = ⟨s, (oldF s gs).data ++ l, (oldF s gs).syn⟩ ∧ Dr w' pb mb (withK Gm.name g gs) (wrap64 (st + 1)) ar (lf1 ar lf) ∧ Stp w w' (foot pb mb gs) (foot pb mb (withK Gm.name g gs)) := by
  have := append_any h s A n c l hl hn hA
  rw [hE] at this
  exact this
theorem append_no (h : Dr w pb mb gs st ar lf) (s : List UInt8) (A : Option Addr) (n c : Nat) (l : List UInt8) (hl : Sl w A n (bv l)) (hn : n ≤ 140737488355328) (hA : ∀ k, (Value.slice A n c).ownBlock = some k → ¬ foot pb mb gs k) (hE : appE s n gs ar lf = 5) :
    Calls Try.prog 24 #[.pointer (some ⟨pb, 0, none⟩), .string (str s), .slice A n c] w fun e w' => e = .returned (.int .i64 5) ∧ Dr w' pb mb gs st ar lf ∧ Stp w w' (foot pb mb gs) (foot pb mb gs) := by
  have := append_any h s A n c l hl hn hA
  rw [hE] at this
  exact this
theorem sync_ok (h : Dr w pb mb gs st ar lf) (s : List UInt8) (hE : lookE s gs ar lf = 0) :
    Calls Try.prog 21 #[.pointer (some ⟨pb, 0, none⟩), .string (str s)] w fun e w' => e = .returned (.int .i64 0) ∧ ∃ g : Gm, g.f = ⟨s, (oldF s gs).data, (oldF s gs).data.length⟩ ∧ Dr w' pb mb (withK Gm.name g gs) (wrap64 (st + 1)) ar (lf1 ar lf) ∧ Stp w w' (foot pb mb gs) (foot pb mb (withK Gm.name g gs)) := by
  have := sync_any h s
  rw [hE] at this
  exact this
theorem delete_ok (h : Dr w pb mb gs st ar lf) (s : List UInt8) (hE : lookE s gs ar lf = 0) :
    Calls Try.prog 26 #[.pointer (some ⟨pb, 0, none⟩), .string (str s)] w fun e w' => e = .returned (.int .i64 0) ∧ Dr w' pb mb (outK Gm.name s gs) (wrap64 (st + 1)) ar (lf1 ar lf) ∧ Stp w w' (foot pb mb gs) (foot pb mb (outK Gm.name s gs)) := by
  have := delete_any h s
  rw [hE] at this
  exact this
theorem rename_ok (h : Dr w pb mb gs st ar lf) (s tn : List UInt8) (hE : renE s tn gs ar lf = 0) :
    Calls Try.prog 25 #[.pointer (some ⟨pb, 0, none⟩), .string (str s), .string (str tn)] w fun e w' => e = .returned (.int .i64 0) ∧ ∃ g : Gm, g.f = ⟨tn, (oldF s gs).data, (oldF s gs).syn⟩ ∧ Dr w' pb mb (withK Gm.name g (outK Gm.name s gs)) (wrap64 (st + 1)) ar (lf1 ar lf) ∧ Stp w w' (foot pb mb gs) (foot pb mb (withK Gm.name g (outK Gm.name s gs))) := by
  have := rename_any h s tn
  rw [hE] at this
  exact this
end
theorem foot_lo {pb mb B : Nat} {gs gs' : List Gm} {w w' : World} (hS : Stp w w' (foot pb mb gs) (foot pb mb gs')) (h : ∀ k, foot pb mb gs k → B ≤ k) (hB : B ≤ w.heap.size) : (∀ k, foot pb mb gs' k → B ≤ k) ∧ Below B w w' :=
  ⟨fun k hk => by rcases hS.sub k hk with e | e; exact h k e; omega, hS.oth.below h hB⟩

set_option maxRecDepth 40000 in
set_option maxHeartbeats 8000000 in
theorem awake_any (w : World) : Calls Try.prog 10 #[] w fun e w' => e = .returned (.bool true) ∧ Below w.heap.size w w' := by
  have nm : ∀ g : Gm, ∀ d k, g.f = ⟨[97], d, k⟩ → findK Gm.name [97] [g] = some g := fun g d k hg => by simp [findK, Gm.name, hg]
  have wk : ∀ (g g' : Gm) d k d' k', g.f = ⟨[97], d, k⟩ → g'.f = ⟨[97], d', k'⟩ → withK Gm.name g' [g] = [g'] := fun g g' d k d' k' h1 h2 => by simp [withK, le, Gm.name, h1, h2]
  have hva : vname [97] = true := by decide
  have NM := Lib.hid nm
  have WK := Lib.hid wk
  have HV := Lib.hid hva
  clear nm wk hva
  go_enter Try.func10, Try.ntmps10
  go_wp2_with fail
  refine (new_any _).mono ?_
  rintro e w1 ⟨rfl, hD1, hb1⟩
  have hf1 : ∀ k, foot (w.heap.size + 1) w.heap.size [] k → w.heap.size ≤ k := fun k hk => by rcases hk with e | e | ⟨g, hg, _⟩; omega; omega; cases hg
  have HD1 := Lib.hid hD1
  clear hD1
  go_wp2_with fail
  have h1 := HD1.out.alloc (.cells #[.int .u8 1, .int .u8 2, .int .u8 3] 5)
  have hE : appE [97] 3 [] false 0 = 0 := by decide
  have hlt1 := fun k => HD1.out.foot_lt (k := k)
  refine (append_ok h1 [97] (some ⟨w1.heap.size, 0, none⟩) 3 3 [1, 2, 3] (Sl.lit w1 5 (bv [1, 2, 3])) (by decide) (fun k hk hf => by cases hk; exact absurd (hlt1 _ hf) (Nat.lt_irrefl _)) hE).mono ?_
  rintro e w2 ⟨rfl, g1, hg1, hD2, hS2⟩
  have hg1' : g1.f = ⟨[97], [1, 2, 3], 0⟩ := hg1
  have hw1 : w.heap.size ≤ w1.heap.size := hb1.size
  obtain ⟨hf2, hb2⟩ := foot_lo hS2 hf1 (by simp; omega)
  have hb2' : Below w.heap.size w w2 := (hb1.alloc (by omega) _).trans hb2
  rw [show withK Gm.name g1 [] = [g1] from rfl] at hD2 hf2
  have HD2 := Lib.hid hD2
  have HG1 := Lib.hid hg1'
  clear hD2 hg1 hg1' hE hb2 h1 hS2
  go_wp2_with fail
  have hE : lookE [97] [g1] false (lf1 false 0) = 0 := by simp [lookE, HV.out, NM.out g1 _ _ HG1.out, code1, dead]
  refine (sync_ok HD2.out [97] hE).mono ?_
  rintro e w3 ⟨rfl, g2, hg2, hD3, hS3⟩
  have hof : oldF [97] [g1] = ⟨[97], [1, 2, 3], 0⟩ := by simp [oldF, NM.out g1 _ _ HG1.out, HG1.out]
  rw [hof] at hg2
  obtain ⟨hf3, hb3⟩ := foot_lo hS3 hf2 hb2'.size
  have hb3' : Below w.heap.size w w3 := hb2'.trans hb3
  rw [WK.out g1 g2 _ _ _ _ HG1.out hg2] at hD3 hf3
  have HD3 := Lib.hid hD3
  have HG2 := Lib.hid hg2
  clear hD3 hg2 hE hb3 hS3 hof
  go_wp2_with fail
  have h3 := HD3.out.alloc (.cells #[.int .u8 4, .int .u8 5] 5)
  have hE : appE [97] 2 [g2] false (lf1 false (lf1 false 0)) = 0 := by simp [appE, HV.out, NM.out g2 _ _ HG2.out, sizeG, HG2.out, dead]
  have hlt3 := fun k => HD3.out.foot_lt (k := k)
  refine (append_ok h3 [97] (some ⟨w3.heap.size, 0, none⟩) 2 2 [4, 5] (Sl.lit w3 5 (bv [4, 5])) (by decide) (fun k hk hf => by cases hk; exact absurd (hlt3 _ hf) (Nat.lt_irrefl _)) hE).mono ?_
  rintro e w4 ⟨rfl, g3, hg3, hD4, hS4⟩
  have hof : oldF [97] [g2] = ⟨[97], [1, 2, 3], 3⟩ := by simp [oldF, NM.out g2 _ _ HG2.out, HG2.out]
  rw [hof] at hg3
  have hg3' : g3.f = ⟨[97], [1, 2, 3, 4, 5], 3⟩ := hg3
  obtain ⟨hf4, hb4⟩ := foot_lo hS4 hf3 (by have := hb3'.size; simp; omega)
  have hb4' : Below w.heap.size w w4 := (hb3'.alloc hb3'.size _).trans hb4
  rw [WK.out g2 g3 _ _ _ _ HG2.out hg3'] at hD4 hf4
  have HD4 := Lib.hid hD4
  have HG3 := Lib.hid hg3'
  clear hD4 hg3 hg3' hE hb4 hS4 hof h3
  go_wp2_with fail
  have h4 := HD4.out.alloc (.cells #[.int .i64 1] 3)
  refine (crash_any h4 (some ⟨w4.heap.size, 0, none⟩) 1 1 [1] (Sl.new w4 _ _) (Nat.le_refl _)).mono ?_
  rintro e w5 ⟨pb2, mb2, hs, rfl, hfs, hD5, hb5, hf5⟩
  have hcr : (crash ([g3].map Gm.f) [1]).1 = [⟨[97], [1, 2, 3, 4], 4⟩] := by
    rw [show [g3].map Gm.f = [g3.f] from rfl, HG3.out]; rfl
  rw [hcr] at hfs
  obtain ⟨h5, rfl⟩ : ∃ h5, hs = [h5] := by
    cases hs with
    | nil => cases hfs
    | cons a r => cases r with
      | nil => exact ⟨a, rfl⟩
      | cons b s => simp at hfs
  have hh5 : h5.f = ⟨[97], [1, 2, 3, 4], 4⟩ := by simpa using hfs
  have hb5' : Below w.heap.size w w5 := (hb4'.alloc hb4'.size _).trans (hb5.mono (by have := hb4'.size; simp; omega))
  have hD4b : Dr w5 (w.heap.size + 1) w.heap.size [g3] _ false _ := h4.below hb5 (Nat.le_refl _)
  have HD5 := Lib.hid hD5
  have HD4b := Lib.hid hD4b
  have HH5 := Lib.hid hh5
  clear hD5 hD4b hh5 hfs hcr h4 hb5
  go_wp2_with fail
  have hrd := read_any HD5.out [97]
  have hre : readE [97] [h5] = 0 := by simp [readE, HV.out, NM.out h5 _ _ HH5.out]
  have hof : oldF [97] [h5] = ⟨[97], [1, 2, 3, 4], 4⟩ := by simp [oldF, NM.out h5 _ _ HH5.out, HH5.out]
  rw [hre, hof] at hrd
  refine hrd.mono ?_
  rintro e w6 ⟨A6, c6, rfl, hown6, hb6⟩
  have hb6' : Below w.heap.size w w6 := hb5'.trans (hb6.mono hb5'.size)
  have hD6 := HD5.out.below hb6 (Nat.le_refl _)
  have hD6b := HD4b.out.below hb6 (Nat.le_refl _)
  have hcs : (convert 33 9 (.slice A6 4 c6)).run Try.prog w6 = .ok (.string ⟨#[1, 2, 3, 4]⟩) w6 := run_str (P := Try.prog) (c := c6) (own_sl hown6) 33 5 9 Try.underlying33 Try.underlying5 Try.underlying9
  have hl1 := loose_any hD6b [97] (by decide)
  have hlg : looseG [97] [g3] = 2 := by simp [looseG, NM.out g3 _ _ HG3.out, HG3.out]
  rw [hlg] at hl1
  have hl2 := fun q => loose_any (hD6.drew q) [97] (by decide)
  have hlh : looseG [97] [h5] = 0 := by simp [looseG, NM.out h5 _ _ HH5.out, HH5.out]
  rw [hlh] at hl2
  clear hlg hlh hD6 hD6b hrd hre hof
  go_wp2_with fail
  refine hl1.mono ?_
  rintro e w7 ⟨rfl, q, rfl⟩
  go_wp2_with fail
  refine (hl2 q).mono ?_
  rintro e w8 ⟨rfl, q2, rfl⟩
  go_wp2_with fail
  go_ret
  exact ⟨rfl, hb6'.trans ⟨rfl, rfl, rfl, Nat.le_refl _, fun _ _ => rfl⟩⟩
end Go.Proofs.Ytfhlhdpgahbeiaa
