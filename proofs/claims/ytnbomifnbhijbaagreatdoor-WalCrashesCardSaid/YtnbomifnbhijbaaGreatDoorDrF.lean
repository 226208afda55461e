/-
  A drive's other calls: Sync, Delete, Rename, Arm; a file read, its loose bytes counted; the names in order.
-/
import Derived.Test.YtnbomifnbhijbaaGreatDoorDrE
namespace Go.Proofs.YtnbomifnbhijbaaGreatDoor
open Go.RowKit Go.Maps
set_option linter.unusedVariables false

/-- What a step on a file that must be there answers. -/
def lookE (s : List UInt8) (gs : List Gm) (ar : Bool) (lf : Int) : Int :=
  if vname s = false then 20 else match findK Gm.name s gs with
    | none => 4
    | some _ => code1 ar lf

/-- stepOn, by its cases. -/
theorem stepOn_cases {w : World} {pb mb : Nat} {gs : List Gm} {st lf : Int} {ar : Bool} (h : Dr w pb mb gs st ar lf) (s : List UInt8) :
    (∃ code : Int, lookE s gs ar lf = code ∧ (code = 20 ∨ code = 4 ∨ code = 6) ∧ ∃ p : Value, Calls Tryz.prog 88 #[.pointer (some ⟨pb, 0, none⟩), .string (str s)] w fun e w' => e = .returned (.tuple #[p, .int .i64 code]) ∧ Dr w' pb mb gs st ar lf ∧ Stp w w' (foot pb mb gs) (foot pb mb gs)) ∨
    (∃ g, lookE s gs ar lf = 0 ∧ vname s = true ∧ findK Gm.name s gs = some g ∧ g ∈ gs ∧ g.name = s ∧ Calls Tryz.prog 88 #[.pointer (some ⟨pb, 0, none⟩), .string (str s)] w fun e w' => e = .returned (.tuple #[.pointer (some ⟨g.blk, 0, none⟩), .int .i64 0]) ∧ Dr w' pb mb gs (wrap64 (st + 1)) ar (lf1 ar lf) ∧ Stp w w' (foot pb mb gs) (foot pb mb gs)) := by
  have hct := stepOn_any h s
  cases hv : vname s with
  | false =>
    refine .inl ⟨20, by simp [lookE, hv], .inl rfl, .pointer none, hct.mono ?_⟩
    rintro e w' ⟨rfl, hw⟩
    simp only [hv, Bool.false_and, Bool.false_eq_true, if_false] at hw
    subst hw
    exact ⟨by simp [stepOnE, hv], h, Stp.refl _ _⟩
  | true =>
    cases hf : findK Gm.name s gs with
    | none =>
      refine .inl ⟨4, by simp [lookE, hv, hf], .inr (.inl rfl), .pointer none, hct.mono ?_⟩
      rintro e w' ⟨rfl, hw⟩
      simp only [hv, hf, Bool.true_and, Option.isSome, Bool.false_eq_true, if_false] at hw
      subst hw
      exact ⟨by simp [stepOnE, hv, hf], h, Stp.refl _ _⟩
    | some g =>
      have hg := find_some hf
      cases hd : dead ar lf with
      | true =>
        refine .inl ⟨6, by simp [lookE, hv, hf, code1, hd], .inr (.inr rfl), .pointer (some ⟨g.blk, 0, none⟩), hct.mono ?_⟩
        rintro e w' ⟨rfl, hw⟩
        simp only [hv, hf, Bool.true_and, Option.isSome, if_true, st1, lf1, hd] at hw
        exact ⟨by simp [stepOnE, hv, hf, code1, hd], hw⟩
      | false =>
        refine .inr ⟨g, by simp [lookE, hv, hf, code1, hd], rfl, rfl, hg.1, hg.2, hct.mono ?_⟩
        rintro e w' ⟨rfl, hw⟩
        simp only [hv, hf, Bool.true_and, Option.isSome, if_true, st1, hd, Bool.false_eq_true, if_false] at hw
        exact ⟨by simp [stepOnE, hv, hf, code1, hd], hw⟩

set_option maxRecDepth 40000 in
set_option maxHeartbeats 4000000 in
theorem sync_any {w : World} {pb mb : Nat} {gs : List Gm} {st lf : Int} {ar : Bool} (h : Dr w pb mb gs st ar lf) (s : List UInt8) :
    Calls Tryz.prog 62 #[.pointer (some ⟨pb, 0, none⟩), .string (str s)] w fun e w' => e = .returned (.int .i64 (lookE s gs ar lf)) ∧
      if lookE s gs ar lf = 0 then ∃ g : Gm, g.f = ⟨s, (oldF s gs).data, (oldF s gs).data.length⟩ ∧ Dr w' pb mb (withK Gm.name g gs) (wrap64 (st + 1)) ar (lf1 ar lf) ∧ Stp w w' (foot pb mb gs) (foot pb mb (withK Gm.name g gs))
      else Dr w' pb mb gs st ar lf ∧ Stp w w' (foot pb mb gs) (foot pb mb gs) := by
  rcases stepOn_cases h s with ⟨code, hE, hc, p, hct⟩ | ⟨g, hE, hv, hf, hg, hgn, hct⟩
  · have hcn : code ≠ 0 := by rcases hc with rfl | rfl | rfl <;> decide
    rw [hE]
    simp only [if_neg hcn]
    clear hE
    rcases hc with rfl | rfl | rfl
    all_goals
      go_enter Tryz.func62, Tryz.ntmps62
      go_wp2_with (go_at_call 88; refine hct.mono ?_; rintro e w1 ⟨rfl, hD, hS⟩; have HD := Lib.hid hD; clear hD)
      go_ret
      exact ⟨rfl, HD.out, hS⟩
  · have hof : oldF s gs = g.f := by simp [oldF, hf]
    rw [hE, hof]
    simp only [if_true]
    have HF := Lib.hid hf
    have HG := Lib.hid hg
    have HN := Lib.hid hgn
    clear hE hof hf hg hgn hv
    have H := Lib.hid h
    clear h
    go_enter Tryz.func62, Tryz.ntmps62
    go_wp2_with (go_at_call 88; refine hct.mono ?_; rintro e w1 ⟨rfl, hD, hS⟩; have HD := Lib.hid hD; clear hD; obtain ⟨g1, g2, g3⟩ := HD.out.file g HG.out; obtain ⟨Ag, cg, hgv⟩ := own_form g2; have cf := HD.out.f0 HG.out; have cf1 := HD.out.f1 HG.out; have ff := g1.frozen 1; rw [hgv] at cf; have HV := Lib.hid hgv; clear hgv g1 g2 g3)
    go_ret
    obtain ⟨g1, g2, g3⟩ := HD.out.file g HG.out
    have hkeep : ∀ k, k ≠ g.blk → (w1.setCell ⟨g.blk, 1, none⟩ (.int .i64 (g.f.data.length : Int))).heap[k]? = w1.heap[k]? := fun k hk => setCell_other _ _ _ hk
    have hown : ∀ k, g.v.ownBlock = some k → k ≠ g.blk := fun k e ek => by
      obtain ⟨cur, hB⟩ := own_blk_type g2 e
      exact blk_type_ne g1 hB (by decide) ek.symm
    refine ⟨rfl, ⟨⟨g.f.name, g.f.data, g.f.data.length⟩, g.blk, g.v⟩, ?_, HD.out.turnG HG.out rfl rfl (g1.set 1 _) (own_at g2 fun k e => hkeep k (hown k e)) ⟨Nat.le_refl _, g3.2.1⟩ (fun k e => .inl e) (fun k h1 _ _ => hkeep k h1), hS.trans ⟨⟨rfl, rfl, rfl, by rw [setCell_size]; exact Nat.le_refl _, fun k _ hn => hkeep k fun e => hn (.inr (.inr ⟨g, HG.out, .inl e⟩))⟩, fun k hk => ?_⟩⟩
    · rw [← HN.out]
    · rcases foot_with hk with e | e | e
      · exact .inl e
      · exact .inl (.inr (.inr ⟨g, HG.out, .inl e⟩))
      · exact .inl (.inr (.inr ⟨g, HG.out, .inr e⟩))

theorem turned_stp {w w' : World} {pb mb : Nat} {gs gs' : List Gm} (ht : w.mapTurned w' mb) (hs : ∀ k, foot pb mb gs' k → foot pb mb gs k) : Stp w w' (foot pb mb gs) (foot pb mb gs') :=
  ⟨⟨ht.grown.os, ht.grown.tape, ht.grown.output, ht.grown.size, fun k hk hn => ht.grown.block k hk fun e => hn (.inr (.inl (Option.some.inj e)))⟩, fun k hk => .inl (hs k hk)⟩

set_option maxRecDepth 40000 in
set_option maxHeartbeats 4000000 in
theorem delete_any {w : World} {pb mb : Nat} {gs : List Gm} {st lf : Int} {ar : Bool} (h : Dr w pb mb gs st ar lf) (s : List UInt8) :
    Calls Tryz.prog 64 #[.pointer (some ⟨pb, 0, none⟩), .string (str s)] w fun e w' => e = .returned (.int .i64 (lookE s gs ar lf)) ∧
      if lookE s gs ar lf = 0 then Dr w' pb mb (outK Gm.name s gs) (wrap64 (st + 1)) ar (lf1 ar lf) ∧ Stp w w' (foot pb mb gs) (foot pb mb (outK Gm.name s gs))
      else Dr w' pb mb gs st ar lf ∧ Stp w w' (foot pb mb gs) (foot pb mb gs) := by
  rcases stepOn_cases h s with ⟨code, hE, hc, p, hct⟩ | ⟨g, hE, hv, hf, hg, hgn, hct⟩
  · have hcn : code ≠ 0 := by rcases hc with rfl | rfl | rfl <;> decide
    rw [hE]
    simp only [if_neg hcn]
    clear hE
    rcases hc with rfl | rfl | rfl
    all_goals
      go_enter Tryz.func64, Tryz.ntmps64
      go_wp2_with (go_at_call 88; refine hct.mono ?_; rintro e w1 ⟨rfl, hD, hS⟩; have HD := Lib.hid hD; clear hD)
      go_ret
      exact ⟨rfl, HD.out, hS⟩
  · rw [hE]
    simp only [if_true]
    have hkey := key_str (s := s) (by have := (vname_le hv).2; simp only [maxLen]; omega)
    have HF := Lib.hid hf
    clear hE hf hg hgn hv
    have H := Lib.hid h
    clear h
    go_enter Tryz.func64, Tryz.ntmps64
    go_wp2_with (first
      | (go_at_call 88; refine hct.mono ?_; rintro e w1 ⟨rfl, hD, hS⟩; have HD := Lib.hid hD; clear hD; have c0 := HD.out.c0)
      | (at_delete; refine wpList_delete_own _ rfl _ _ 68 9 rfl 109 law9 Tryz.underlying68 R mb gs.length _ rfl HD.out.map _ _ rfl hkey ?_; intro w2 hm2 ht2))
    go_ret
    exact ⟨rfl, HD.out.outG s hm2 (fun k hk hl => ht2.grown.block k hl fun e => hk (Option.some.inj e)), hS.trans (turned_stp ht2 fun k hk => foot_out hk)⟩
end Go.Proofs.YtnbomifnbhijbaaGreatDoor
