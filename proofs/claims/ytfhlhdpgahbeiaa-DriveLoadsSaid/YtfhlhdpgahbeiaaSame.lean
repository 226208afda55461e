/-
  The law's same: two drives that hold the same names and the same bytes.
-/
import Derived.Test.YtfhlhdpgahbeiaaReH
namespace Go.Proofs.Ytfhlhdpgahbeiaa
open Go.RowKit Go.Maps
set_option linter.unusedVariables false

def nd (g : Gm) : List UInt8 × List UInt8 := (g.name, g.f.data)
theorem nd_get {gs hs : List Gm} (h : gs.map nd = hs.map nd) {i : Nat} {g : Gm} (hg : gs[i]? = some g) : ∃ k, hs[i]? = some k ∧ k.name = g.name ∧ k.f.data = g.f.data := by
  have h1 : (gs.map nd)[i]? = some (nd g) := by rw [List.getElem?_map, hg]; rfl
  rw [h, List.getElem?_map] at h1
  cases hk : hs[i]? with
  | none => rw [hk] at h1; cases h1
  | some k =>
    rw [hk] at h1
    have h2 : nd k = nd g := Option.some.inj h1
    exact ⟨k, rfl, congrArg Prod.fst h2, congrArg Prod.snd h2⟩
theorem read_of {w : World} {pb mb : Nat} {gs : List Gm} {st lf : Int} {ar : Bool} (h : Dr w pb mb gs st ar lf) (hv : ∀ g ∈ gs, vname g.name = true) {g : Gm} (hg : g ∈ gs) :
    Calls Try.prog 29 #[.pointer (some ⟨pb, 0, none⟩), .string (str g.name)] w fun e w' => ∃ A c, e = .returned (.tuple #[.slice A g.f.data.length c, .int .i64 0]) ∧
      Sl w' A g.f.data.length (bv g.f.data) ∧ Below w.heap.size w w' := by
  have hfg : findK Gm.name g.name gs = some g := find_mem' h.rises hg
  have hre : readE g.name gs = 0 := by simp [readE, hv g hg, hfg]
  have hof : oldF g.name gs = g.f := by simp [oldF, hfg]
  refine (read_any h g.name).mono ?_
  rintro e w' ⟨A, c, rfl, ho, hb⟩
  rw [hre, hof] at ho ⊢
  simp only [if_true] at ho ⊢
  exact ⟨A, c, rfl, own_sl ho, hb⟩

set_option maxRecDepth 40000 in
set_option maxHeartbeats 4000000 in
theorem same_any {w : World} {pb mb pc mc : Nat} {gs hs : List Gm} {st lf st2 lf2 : Int} {ar ar2 : Bool} (h : Dr w pb mb gs st ar lf) (k : Dr w pc mc hs st2 ar2 lf2) (he : gs.map nd = hs.map nd)
    (hv : ∀ g ∈ gs, vname g.name = true) (hu : ∀ g ∈ hs, vname g.name = true) :
    Calls Try.prog 19 #[.pointer (some ⟨pb, 0, none⟩), .pointer (some ⟨pc, 0, none⟩)] w fun e w' => e = .returned (.bool true) ∧ Below w.heap.size w w' := by
  have hfew := h.few
  have hlen : hs.length = gs.length := by have := congrArg List.length he; simpa using this.symm
  have HD : Hid (∀ V, Below w.heap.size w V → Dr V pb mb gs st ar lf) := fun V hV => h.below hV (Nat.le_refl _)
  have HC : Hid (∀ V, Below w.heap.size w V → Dr V pc mc hs st2 ar2 lf2) := fun V hV => k.below hV (Nat.le_refl _)
  have HE := Lib.hid he
  have HV := Lib.hid hv
  have HU := Lib.hid hu
  have HR := Lib.hid h.rises
  clear h k he hv hu
  have n1 := names_any (HD.out w (Below.refl _ w))
  go_enter Try.func19, Try.ntmps19
  go_wp2_with fail
  refine n1.mono ?_
  rintro e w1 ⟨A1, c1, rfl, ho1, hb1⟩
  have s1 := own_sl ho1
  have n2 := names_any (HC.out w1 hb1)
  rw [hlen] at n2
  clear ho1 n1
  go_wp2_with fail
  refine n2.mono ?_
  rintro e w2 ⟨A2, c2, rfl, ho2, hb2⟩
  have hb02 : Below w.heap.size w w2 := hb1.trans (hb2.mono hb1.size)
  have s1' := s1.below hb2
  have s2 := own_sl ho2
  have hw2 := hb02.size
  have H1 : Hid (∀ V, Below w2.heap.size w2 V → Sl V A1 gs.length (gs.map fun g => sv g.name)) := fun V hV => s1'.below hV
  have H2 : Hid (∀ V, Below w2.heap.size w2 V → Sl V A2 gs.length (hs.map fun g => sv g.name)) := fun V hV => s2.below hV
  have HD2 : Hid (∀ V, Below w2.heap.size w2 V → Dr V pb mb gs st ar lf) := fun V hV => HD.out V (hb02.trans (hV.mono hw2))
  have HC2 : Hid (∀ V, Below w2.heap.size w2 V → Dr V pc mc hs st2 ar2 lf2) := fun V hV => HC.out V (hb02.trans (hV.mono hw2))
  have HL := Lib.hid hlen
  clear s1 s1' s2 ho2 n2 hlen
  go_wp2_with fail
  go_loopw [25] (fun j wr => ∃ i : Nat, i ≤ gs.length ∧ j = .int .i64 i ∧ Below w2.heap.size w2 wr) (fun j _ => gs.length - (intOf j).toNat)
  case atStart => exact ⟨0, Nat.zero_le _, rfl, Below.refl _ _⟩
  case round =>
    obtain ⟨i, hi, rfl, hb⟩ := hrel
    by_cases hin : i < gs.length
    · have hcN : (i : Int) < gs.length := by omega
      obtain ⟨g, hg⟩ : ∃ g, gs[i]? = some g := ⟨_, List.getElem?_eq_getElem hin⟩
      obtain ⟨k, hk, hkn, hkd⟩ := nd_get HE.out hg
      have hgm : g ∈ gs := List.mem_of_getElem? hg
      have hkm : k ∈ hs := List.mem_of_getElem? hk
      have hx1 : ∀ V, Below w2.heap.size w2 V → ∃ b o : Nat, A1 = some ⟨b, o, none⟩ ∧ V.cell? ⟨b, o + i, none⟩ = some (.string (str g.name)) := fun V hV => by
        obtain ⟨bn, on, un, e1, hun, n1⟩ := (H1.out V hV).at_ hin
        rw [List.getElem?_map, hg] at hun
        have hun := (Option.some.inj hun).symm
        subst hun
        exact ⟨bn, on, e1, n1⟩
      have hx2 : ∀ V, Below w2.heap.size w2 V → ∃ b o : Nat, A2 = some ⟨b, o, none⟩ ∧ V.cell? ⟨b, o + i, none⟩ = some (.string (str g.name)) := fun V hV => by
        obtain ⟨bn, on, un, e1, hun, n1⟩ := (H2.out V hV).at_ hin
        rw [List.getElem?_map, hk] at hun
        have hun := (Option.some.inj hun).symm
        subst hun
        rw [← hkn]
        exact ⟨bn, on, e1, n1⟩
      have hr1 := read_of (HD2.out wr hb) HV.out hgm
      have hdl : g.f.data.length ≤ 262144 := ((HD2.out wr hb).file g hgm).2.2.2.1
      have hnl : g.name.length ≤ 32 := ((HD2.out wr hb).file g hgm).2.2.2.2
      have HX1 := Lib.hid hx1
      have HX2 := Lib.hid hx2
      have HG := Lib.hid (And.intro hkn hkd)
      clear hg hk hx1 hx2 hkn hkd
      obtain ⟨b1, o1, e1, x1⟩ := HX1.out wr hb
      subst e1
      go_wp2_with fail
      refine hr1.mono ?_
      rintro e w3 ⟨A3, c3, rfl, q3, hb3⟩
      have hb3x : Below w2.heap.size w2 w3 := hb.trans (hb3.mono hb.size)
      have hr2 := read_of (HC2.out w3 hb3x) HU.out hkm
      rw [HG.out.1, HG.out.2] at hr2
      obtain ⟨_, _, e1, y1⟩ := HX1.out w3 hb3x
      cases e1
      clear hr1 x1
      go_wp2_with fail
      refine hr2.mono ?_
      rintro e w4 ⟨A4, c4, rfl, q4, hb4⟩
      have hb4x : Below w2.heap.size w2 w4 := hb3x.trans (hb4.mono hb3x.size)
      have q3' := q3.below hb4
      obtain ⟨_, _, e1, z1⟩ := HX1.out w4 hb4x
      cases e1
      obtain ⟨b2, o2, e2, z2⟩ := HX2.out w4 hb4x
      subst e2
      have hcs3 : ∀ q, (convert 33 9 (.slice A3 g.f.data.length c3)).run Try.prog (w4.drewN q) = .ok (.string (str g.f.data)) (w4.drewN q) := fun q =>
        run_str (P := Try.prog) (q3'.drewN q) 33 5 9 Try.underlying33 Try.underlying5 Try.underlying9
      have hcs4 : ∀ q, (convert 33 9 (.slice A4 g.f.data.length c4)).run Try.prog (w4.drewN q) = .ok (.string (str g.f.data)) (w4.drewN q) := fun q =>
        run_str (P := Try.prog) (q4.drewN q) 33 5 9 Try.underlying33 Try.underlying5 Try.underlying9
      clear q3 q3' q4 hr2 y1
      go_wp2_with fail
      go_quiet (fail)
      go_wp2_with fail
      exact ⟨⟨i + 1, by omega, by simp, hb4x.trans ⟨rfl, rfl, rfl, Nat.le_refl _, fun _ _ => rfl⟩⟩, by simp [intOf]; omega⟩
    · have hcN : ¬ (i : Int) < gs.length := by omega
      go_wp2_with fail
      go_ret
      exact ⟨rfl, hb02.trans (hb.mono hw2)⟩
end Go.Proofs.Ytfhlhdpgahbeiaa
