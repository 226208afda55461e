/-
  A drive's other calls: Rename, Arm; a file read, its loose bytes counted; the names in order.
-/
import Derived.Test.YtfhlhdpgahbeiaaDrF
namespace Go.Proofs.Ytfhlhdpgahbeiaa
open Go.RowKit Go.Maps
set_option linter.unusedVariables false

theorem Oth.trans_oth {S S' : Nat → Prop} {a b c : World} (h : Oth S a b) (k : Oth S' b c) (hs : ∀ i, S' i → S i) : Oth S a c :=
  ⟨k.os.trans h.os, k.tape.trans h.tape, k.output.trans h.output, Nat.le_trans h.size k.size, fun i hi hn => (k.block i (Nat.lt_of_lt_of_le hi h.size) fun e => hn (hs i e)).trans (h.block i hi hn)⟩

def renE (s tn : List UInt8) (gs : List Gm) (ar : Bool) (lf : Int) : Int := if vname tn = false then 20 else lookE s gs ar lf

set_option maxRecDepth 40000 in
set_option maxHeartbeats 4000000 in
theorem rename_any {w : World} {pb mb : Nat} {gs : List Gm} {st lf : Int} {ar : Bool} (h : Dr w pb mb gs st ar lf) (s tn : List UInt8) :
    Calls Try.prog 25 #[.pointer (some ⟨pb, 0, none⟩), .string (str s), .string (str tn)] w fun e w' => e = .returned (.int .i64 (renE s tn gs ar lf)) ∧
      if renE s tn gs ar lf = 0 then ∃ g : Gm, g.f = ⟨tn, (oldF s gs).data, (oldF s gs).syn⟩ ∧ Dr w' pb mb (withK Gm.name g (outK Gm.name s gs)) (wrap64 (st + 1)) ar (lf1 ar lf) ∧ Stp w w' (foot pb mb gs) (foot pb mb (withK Gm.name g (outK Gm.name s gs)))
      else Dr w' pb mb gs st ar lf ∧ Stp w w' (foot pb mb gs) (foot pb mb gs) := by
  have hvn := vname_any tn w
  cases hto : vname tn with
  | false =>
    rw [hto] at hvn
    have he : renE s tn gs ar lf = 20 := by simp [renE, hto]
    rw [he]
    simp only [show ¬ ((20 : Int) = 0) from by decide, if_false]
    clear hto he
    go_enter Try.func25, Try.ntmps25
    go_wp2_with (go_at_call 47; refine hvn.mono ?_; rintro e w' ⟨rfl, rfl⟩)
    go_ret
    exact ⟨rfl, h, Stp.refl _ _⟩
  | true =>
    rw [hto] at hvn
    have he : renE s tn gs ar lf = lookE s gs ar lf := by simp [renE, hto]
    rw [he]
    have htl := (vname_le hto).2
    rcases stepOn_cases h s with ⟨code, hE, hc, p, hct⟩ | ⟨g, hE, hv, hf, hg, hgn, hct⟩
    · have hcn : code ≠ 0 := by rcases hc with rfl | rfl | rfl <;> decide
      rw [hE]
      simp only [if_neg hcn]
      clear hE hto he
      rcases hc with rfl | rfl | rfl
      all_goals
        go_enter Try.func25, Try.ntmps25
        go_wp2_with (first
          | (go_at_call 47; refine hvn.mono ?_; rintro e w' ⟨rfl, rfl⟩)
          | (go_at_call 46; refine hct.mono ?_; rintro e w1 ⟨rfl, hD, hS⟩; have HD := Lib.hid hD; clear hD))
        go_ret
        exact ⟨rfl, HD.out, hS⟩
    · have hof : oldF s gs = g.f := by simp [oldF, hf]
      rw [hE, hof]
      simp only [if_true]
      have hkey := key_str (s := s) (by have := (vname_le hv).2; simp only [maxLen]; omega)
      have HG := Lib.hid hg
      have HN := Lib.hid hgn
      clear hE hf hg hgn hv hto he hof
      have H := Lib.hid h
      clear h
      go_enter Try.func25, Try.ntmps25
      go_wp2_with (first
        | (go_at_call 47; refine hvn.mono ?_; rintro e w' ⟨rfl, rfl⟩)
        | (go_at_call 46; refine hct.mono ?_; rintro e w1 ⟨rfl, hD, hS⟩; have HD := Lib.hid hD; clear hD; have c0 := HD.out.c0)
        | (at_delete; refine wpList_delete_own _ rfl _ _ 78 9 rfl 77 law9 Try.underlying78 R mb gs.length _ rfl HD.out.map _ _ rfl hkey ?_; intro w2 hm2 ht2))
      obtain ⟨g1, g2, g3⟩ := HD.out.file g HG.out
      have hD2 := HD.out.outG s hm2 (fun k hk hl => ht2.grown.block k hl fun e => hk (Option.some.inj e))
      have hkm : ∀ k cs t, Blk w1 k cs t → w2.heap[k]? = w1.heap[k]? := fun k cs t hB => ht2.grown.block k hB.lt fun e => by
        obtain ⟨es, c, hm⟩ := map_is HD.out.map
        unfold Blk at hB; rw [Option.some.inj e, hm] at hB; cases hB
      have hlen : (withK Gm.name (⟨⟨tn, g.f.data, g.f.syn⟩, g.blk, g.v⟩ : Gm) (outK Gm.name s gs)).length ≤ 256 := by
        refine Nat.le_trans (length_with _ _) ?_
        have h1 : (outK Gm.name s gs).length < gs.length := List.length_filter_lt_length_iff_exists.2 ⟨g, HG.out, by simp [HN.out]⟩
        have := HD.out.few
        omega
      have hctp := put_any hD2 ⟨⟨tn, g.f.data, g.f.syn⟩, g.blk, g.v⟩ (g1.keep (hkm _ _ _ g1)) (own_at g2 fun k e => by obtain ⟨cur, hB⟩ := own_blk_type g2 e; exact hkm _ _ _ hB) ⟨g3.1, g3.2.1, htl⟩
        (fun y hy _ => by
          have hy' := List.mem_filter.1 hy
          have hne : y.name ≠ s := by simpa using hy'.2
          exact HD.out.apart g HG.out y hy'.1 (by rw [HN.out]; exact hne.symm)) hlen
      have HS2 := hS.trans (turned_stp (gs' := outK Gm.name s gs) ht2 fun k hk => foot_out hk)
      refine hctp.mono ?_
      rintro e w3 ⟨rfl, hD3, hO3⟩
      have HD3 := Lib.hid hD3
      clear hD3 hctp hD2 g1 g2 g3
      go_wp2_with fail
      go_ret
      refine ⟨rfl, _, rfl, HD3.out, ⟨(HS2.oth.trans_oth hO3 fun k e => .inr (.inl e)), fun k hk => ?_⟩⟩
      rcases foot_with hk with e | e | e
      · exact .inl (foot_out e)
      · exact .inl (.inr (.inr ⟨g, HG.out, .inl e⟩))
      · exact .inl (.inr (.inr ⟨g, HG.out, .inr e⟩))
/-- What Arm answers. -/
def armE (n : Int) (ar : Bool) (lf : Int) : Int := if n < 0 then 1 else if dead ar lf = true then 6 else 0

set_option maxHeartbeats 4000000 in
theorem arm_any {w : World} {pb mb : Nat} {gs : List Gm} {st lf : Int} {ar : Bool} (h : Dr w pb mb gs st ar lf) (n : Int) :
    Calls Try.prog 41 #[.pointer (some ⟨pb, 0, none⟩), .int .i64 n] w fun e w' => e = .returned (.int .i64 (armE n ar lf)) ∧
      (if armE n ar lf = 0 then Dr w' pb mb gs st true n else Dr w' pb mb gs st ar lf) ∧ Stp w w' (foot pb mb gs) (foot pb mb gs) := by
  have hdd := dead_any h
  by_cases hn : n < 0
  · have he : armE n ar lf = 1 := by simp [armE, hn]
    rw [he]
    simp only [show ¬ ((1 : Int) = 0) from by decide, if_false]
    have H := Lib.hid h
    clear he h
    go_enter Try.func41, Try.ntmps41
    go_wp2_with fail
    go_ret
    exact ⟨rfl, H.out, Stp.refl _ _⟩
  · cases hd : dead ar lf with
    | true =>
      rw [hd] at hdd
      have he : armE n ar lf = 6 := by simp [armE, hn, hd]
      rw [he]
      simp only [show ¬ ((6 : Int) = 0) from by decide, if_false]
      have H := Lib.hid h
      clear he h hd
      go_enter Try.func41, Try.ntmps41
      go_wp2_with (go_at_call 17; refine hdd.mono ?_; rintro e w' ⟨rfl, rfl⟩)
      go_ret
      exact ⟨rfl, H.out, Stp.refl _ _⟩
    | false =>
      rw [hd] at hdd
      have he : armE n ar lf = 0 := by simp [armE, hn, hd]
      rw [he]
      simp only [if_true]
      have f2 := h.fz 2
      have f3 := h.fz 3
      have c2 := h.c2
      have c3 := h.c3
      have hA := (h.set2 true).set3 n
      have HA := Lib.hid hA
      clear he h hd hA
      go_enter Try.func41, Try.ntmps41
      go_wp2_with (go_at_call 17; refine hdd.mono ?_; rintro e w' ⟨rfl, rfl⟩)
      go_ret
      exact ⟨rfl, HA.out, (stp_set (.inl rfl)).trans (stp_set (.inl rfl))⟩

def readE (s : List UInt8) (gs : List Gm) : Int := if vname s = false then 20 else match findK Gm.name s gs with
  | none => 4
  | some _ => 0

set_option maxHeartbeats 4000000 in
theorem read_any {w : World} {pb mb : Nat} {gs : List Gm} {st lf : Int} {ar : Bool} (h : Dr w pb mb gs st ar lf) (s : List UInt8) :
    Calls Try.prog 29 #[.pointer (some ⟨pb, 0, none⟩), .string (str s)] w fun e w' => ∃ A c, e = .returned (.tuple #[.slice A (if readE s gs = 0 then (oldF s gs).data.length else 0) c, .int .i64 (readE s gs)]) ∧
      w'.ownsRow w.heap.size 5 1 (.slice A (if readE s gs = 0 then (oldF s gs).data.length else 0) c) (if readE s gs = 0 then (oldF s gs).data.length else 0) (bv (if readE s gs = 0 then (oldF s gs).data else [])) ∧ Below w.heap.size w w' := by
  have hct := find_any h s
  cases hv : vname s with
  | false =>
    have he : readE s gs = 20 := by simp [readE, hv]
    simp only [findE, hv] at hct
    rw [he]
    simp only [show ¬ ((20 : Int) = 0) from by decide, if_false]
    clear hv he
    go_enter Try.func29, Try.ntmps29
    go_wp2_with (go_at_call 51; refine hct.mono ?_; rintro e w' ⟨rfl, rfl⟩)
    go_ret2
    exact ⟨none, 0, rfl, World.ownsRow_nil _ _ _ _, Below.refl _ _⟩
  | true =>
    cases hf : findK Gm.name s gs with
    | none =>
      have he : readE s gs = 4 := by simp [readE, hv, hf]
      simp only [findE, hv, hf] at hct
      rw [he]
      simp only [show ¬ ((4 : Int) = 0) from by decide, if_false]
      clear hv he hf
      go_enter Try.func29, Try.ntmps29
      go_wp2_with (go_at_call 51; refine hct.mono ?_; rintro e w' ⟨rfl, rfl⟩)
      go_ret2
      exact ⟨none, 0, rfl, World.ownsRow_nil _ _ _ _, Below.refl _ _⟩
    | some g =>
      have he : readE s gs = 0 := by simp [readE, hv, hf]
      have hof : oldF s gs = g.f := by simp [oldF, hf]
      have hg := find_some hf
      obtain ⟨g1, g2, g3⟩ := h.file g hg.1
      obtain ⟨Ag, cg, hgv⟩ := own_form g2
      have cf := h.f0 hg.1
      rw [hgv] at cf g2
      have hgl := g3.2.1
      have hcl := clone_any Ag _ cg g.f.data w (own_sl g2) (by omega)
      simp only [findE, hv, hf] at hct
      rw [he, hof]
      simp only [if_true]
      clear hv he hf hof hg g1 g2 g3 hgv h
      go_enter Try.func29, Try.ntmps29
      go_wp2_with (first
        | (go_at_call 51; refine hct.mono ?_; rintro e w' ⟨rfl, rfl⟩)
        | (go_at_call 52; refine hcl.mono ?_; rintro e w2 ⟨A2, c2, rfl, hown2, hb2⟩))
      go_ret2
      exact ⟨A2, c2, rfl, hown2, hb2⟩

set_option maxHeartbeats 4000000 in
theorem loose_any {w : World} {pb mb : Nat} {gs : List Gm} {st lf : Int} {ar : Bool} (h : Dr w pb mb gs st ar lf) (s : List UInt8) (hs : s.length ≤ maxLen) :
    Calls Try.prog 22 #[.pointer (some ⟨pb, 0, none⟩), .string (str s)] w fun e w' => e = .returned (.int .i64 (looseG s gs)) ∧ ∃ q, w' = w.drewN q := by
  have c0 := h.c0
  have hlk := map_look h.map hs
  cases hf : findK Gm.name s gs with
  | none =>
    rw [hf] at hlk
    simp only [ptr] at hlk
    have hE : looseG s gs = 0 := by simp [looseG, hf]
    rw [hE]
    clear hf h hE
    go_enter Try.func22, Try.ntmps22
    go_wp2_with fail
    go_ret
    exact ⟨rfl, 0, rfl⟩
  | some g =>
    rw [hf] at hlk
    simp only [ptr] at hlk
    have hg := find_some hf
    have hct := lo_any h hg.1
    have hE : looseG s gs = g.f.data.length - g.f.syn := by simp [looseG, hf]
    rw [hE]
    clear hf h hg hE
    go_enter Try.func22, Try.ntmps22
    go_wp2_with (go_at_call 43; refine hct.mono ?_; rintro e w' ⟨rfl, q, rfl⟩)
    go_ret
    exact ⟨rfl, q, rfl⟩
end Go.Proofs.Ytfhlhdpgahbeiaa
