/-
  The law's look at a drive: all that is told is the reference's.
-/
import Derived.Test.YtfhlhdpgahbeiaaReH
namespace Go.Proofs.Ytfhlhdpgahbeiaa
open Go.RowKit Go.Maps
set_option linter.unusedVariables false

theorem find_f {gs : List Gm} {s : List UInt8} (h : findK Fm.name s (gs.map Gm.f) = none) : findK Gm.name s gs = none := by
  have := find_map (key := Gm.name) (key' := Fm.name) Gm.f (fun _ => rfl) s gs
  rw [h] at this
  cases hf : findK Gm.name s gs with
  | none => rfl
  | some g => rw [hf] at this; cases this

set_option maxRecDepth 40000 in
set_option maxHeartbeats 8000000 in
theorem tells_any {w : World} {pb mb : Nat} {gs : List Gm} {st lf : Int} {ar : Bool} (h : Dr w pb mb gs st ar lf) (A : Option Addr) (c : Nat) (hF : Fl w A gs.length (gs.map Gm.f)) (hvn : ∀ g ∈ gs, vname g.name = true) :
    Calls Try.prog 13 #[.pointer (some ⟨pb, 0, none⟩), .agg #[.slice A gs.length c, .int .i64 st, .bool ar, .int .i64 lf]] w fun e w' => e = .returned (.bool true) ∧ Below w.heap.size w w' := by
  have hfew := h.few
  have htl : ∀ l, (str l).toList = l := fun l => ByteArray.toList_mk l
  have hsz : ∀ l, (str l).size = l.length := str_size
  have H := Lib.hid h
  clear h
  have hb1 : Below w.heap.size w (w.alloc (dobj (dcs A gs.length c st ar lf))) := (Below.refl _ w).alloc (Nat.le_refl _) _
  have hd1 := Blk.new w (dcs A gs.length c st ar lf) 26
  have HD1 := Lib.hid (H.out.alloc (dobj (dcs A gs.length c st ar lf)))
  go_enter Try.func13, Try.ntmps13
  go_wp2_with (go_at_call 20; refine (names_any HD1.out).mono ?_; rintro e w2 ⟨A2, c2, rfl, hown2, hb2⟩)
  have hb02 : Below w.heap.size w w2 := hb1.trans (hb2.mono (by simp))
  have hd2 := hd1.keep (hb2.block _ hd1.lt)
  have hsl2 := own_sl hown2
  clear hown2
  have HDV : Hid (∀ V, Below w2.heap.size w2 V → Dr V pb mb gs st ar lf) := fun V hV => HD1.out.below (hb2.trans (hV.mono hb2.size)) (Nat.le_refl _)
  have dc0 : ∀ V, Below w2.heap.size w2 V → V.cell? ⟨w.heap.size, 0, none⟩ = some (.slice A gs.length c) := fun V hV => (hd2.keep (hV.block _ hd2.lt)).cell rfl
  have dc1 : ∀ V, Below w2.heap.size w2 V → V.cell? ⟨w.heap.size, 1, none⟩ = some (.int .i64 st) := fun V hV => (hd2.keep (hV.block _ hd2.lt)).cell rfl
  have dc2 : ∀ V, Below w2.heap.size w2 V → V.cell? ⟨w.heap.size, 2, none⟩ = some (.bool ar) := fun V hV => (hd2.keep (hV.block _ hd2.lt)).cell rfl
  have dc3 : ∀ V, Below w2.heap.size w2 V → V.cell? ⟨w.heap.size, 3, none⟩ = some (.int .i64 lf) := fun V hV => (hd2.keep (hV.block _ hd2.lt)).cell rfl
  go_cut [36] (fun s36 wx => s36 = .bool false ∧ Below w2.heap.size w2 wx)
  case first =>
    have hb0 : Below w2.heap.size w2 w2.drew := (Below.refl _ _).drew
    go_region_held (fun V => Below w2.heap.size w2 V) (first | exact hb0 | exact hb0.trans (by assumption)) (first
      | (go_at_call 18; refine (steps_any (HDV.out _ hb0)).mono ?_; rintro e w' ⟨rfl, rfl⟩)
      | (go_at_call 17; refine (dead_any (HDV.out _ hb0)).mono ?_; rintro e w' ⟨rfl, rfl⟩)
      | (go_at_call 36; refine (rdead_any A gs.length c st ar lf _).mono ?_; rintro e w6 ⟨rfl, hb6⟩; have hb06 : Below w2.heap.size w2 w6 := hb0.trans hb6))
    all_goals (go_wp2_with fail; go_meet; exact ⟨rfl, by assumption⟩)
  case rest =>
    obtain ⟨rfl, hbx⟩ := hcut
    have q0 := dc0 wc hbx
    have q1 := dc1 wc hbx
    have q2 := dc2 wc hbx
    have q3 := dc3 wc hbx
    have HVN := Lib.hid hvn
    clear hvn
    have hw2 := hb02.size
    have hFV : ∀ V, Below w2.heap.size w2 V → Fl V A gs.length (gs.map Gm.f) := fun V hV => hF.below (hb02.trans (hV.mono hw2))
    have hNV : ∀ V, Below w2.heap.size w2 V → Sl V A2 gs.length (gs.map fun g => sv g.name) := fun V hV => hsl2.below hV
    have HFV := Lib.hid hFV
    have HNV := Lib.hid hNV
    have HX := Lib.hid hbx
    clear hFV hNV hbx hF hsl2
    go_wp2_with fail
    go_loopw [40] (fun j wr => ∃ i : Nat, i ≤ gs.length ∧ j = .int .i64 i ∧ Below w2.heap.size w2 wr) (fun j _ => gs.length - (intOf j).toNat)
    case atStart => exact ⟨0, Nat.zero_le _, rfl, HX.out⟩
    case round =>
      obtain ⟨i, hi, rfl, hb⟩ := hrel
      by_cases hin : i < gs.length
      · have hcN : (i : Int) < gs.length := by omega
        obtain ⟨g, hg⟩ : ∃ g, gs[i]? = some g := ⟨_, List.getElem?_eq_getElem hin⟩
        have hgm : g ∈ gs := List.mem_of_getElem? hg
        have hfg : findK Gm.name g.name gs = some g := find_mem' H.out.rises hgm
        have hfile := (H.out.file g hgm).2.2
        have hsyn := hfile.1
        have hdl := hfile.2.1
        have hnl := hfile.2.2
        obtain ⟨bm, om, f, rfl, hff, x1, x2, x3⟩ := (HFV.out wr hb).at_ (i := i) hin
        rw [List.getElem?_map, hg] at hff
        obtain rfl : g.f = f := Option.some.inj hff
        have HG := Lib.hid hg
        have HFG := Lib.hid hfg
        clear hff hg hfg hfile
        have hre : readE g.name gs = 0 := by simp [readE, HVN.out g hgm, HFG.out]
        have hof : oldF g.name gs = g.f := by simp [oldF, HFG.out]
        have hrd := fun V hV => read_any (HDV.out V hV) g.name
        rw [hre, hof] at hrd
        simp only [if_true] at hrd
        clear hre hof
        go_wp2_with (go_at_call 29; refine (hrd _ (hb.alloc hb.size _)).mono ?_; rintro e w3 ⟨A3, c3, rfl, hown3, hb3⟩)
        have hb3x : Below w2.heap.size w2 w3 := (hb.alloc hb.size _).trans (hb3.mono (by have := hb.size; simp; omega))
        obtain ⟨bn, on, un, rfl, hun, n1⟩ := (HNV.out w3 hb3x).at_ hin
        have hun' : un = .string (str g.name) := by
          rw [List.getElem?_map, HG.out] at hun
          exact (Option.some.inj hun).symm
        subst hun'
        have hfb := (Blk.new wr #[.string (str g.f.name), .string (str g.f.data), .int .i64 g.f.syn] 70).keep (hb3.block _ (by simp))
        have y0 := hfb.cell (k := 0) rfl
        have y1 := hfb.cell (k := 1) rfl
        have y2 := hfb.cell (k := 2) rfl
        have hcs : ∀ q, (convert 33 9 (.slice A3 g.f.data.length c3)).run Try.prog (w3.drewN q) = .ok (.string (str g.f.data)) (w3.drewN q) := fun q =>
          run_str (P := Try.prog) ((own_sl hown3).drewN q) 33 5 9 Try.underlying33 Try.underlying5 Try.underlying9
        have hD3 := HDV.out w3 hb3x
        have hszc : ∀ q, Calls Try.prog 27 #[.pointer (some ⟨pb, 0, none⟩), .string (str g.name)] (w3.drewN q) fun e w' => e = .returned (.int .i64 (g.f.data.length : Int)) ∧ w' = w3.drewN q := fun q => by
          have := size_any (hD3.drew q) g.name (by simp only [maxLen]; omega)
          rwa [show sizeG g.name gs = g.f.data.length from by simp [sizeG, HFG.out]] at this
        have hloc : ∀ q, Calls Try.prog 22 #[.pointer (some ⟨pb, 0, none⟩), .string (str g.name)] (w3.drewN q) fun e w' => e = .returned (.int .i64 ((g.f.data.length : Int) - g.f.syn)) ∧ ∃ m, w' = (w3.drewN q).drewN m := fun q => by
          have := loose_any (hD3.drew q) g.name (by simp only [maxLen]; omega)
          rwa [show looseG g.name gs = g.f.data.length - g.f.syn from by simp [looseG, HFG.out], Int.ofNat_sub hsyn] at this
        have HSZ := Lib.hid hszc
        have HLO := Lib.hid hloc
        clear hszc hloc hD3 hun x1 x2 x3
        go_quiet ((first
          | (go_at_call 27; exact Calls.quiet_of_same (HSZ.out _))
          | (go_at_call 22; exact Calls.quiet_of (HLO.out _))))
        go_wp2_with fail
        exact ⟨⟨i + 1, by omega, by simp, hb3x.trans ⟨rfl, rfl, rfl, Nat.le_refl _, fun _ _ => rfl⟩⟩, by simp [intOf]; omega⟩
      · have hcN : ¬ (i : Int) < gs.length := by omega
        have q0 := dc0 wr hb
        have q1 := dc1 wr hb
        have q2 := dc2 wr hb
        have q3 := dc3 wr hb
        have hms := missing_any A gs.length c (gs.map Gm.f) st ar lf wr (HFV.out wr hb) hfew
        have hvb : vname [66, 97, 100] = false := by decide
        have hfb : findK Gm.name [66, 97, 100] gs = none := by
          simp only [findK, List.find?_eq_none]
          intro x hx
          have := HVN.out x hx
          simp only [beq_iff_eq]
          intro e
          rw [e, hvb] at this; cases this
        have HVB := Lib.hid (And.intro hvb hfb)
        clear hvb hfb
        go_wp2_with (go_at_call 37; refine hms.mono ?_; rintro e w4 ⟨s, rfl, hsv, hsf, hb4⟩)
        have hb4x : Below w2.heap.size w2 w4 := hb.trans (hb4.mono hb.size)
        have hsg := find_f hsf
        have hss := (vname_le hsv).2
        have HS := Lib.hid (And.intro hsv hsg)
        clear hsv hsf hsg
        have hr1 := read_any (HDV.out w4 hb4x) s
        have hre : readE s gs = 4 := by simp [readE, HS.out.1, HS.out.2]
        rw [hre] at hr1
        simp only [show ¬ ((4 : Int) = 0) from by decide, if_false] at hr1
        clear hre
        refine hr1.mono ?_
        rintro e w5 ⟨A5, c5, rfl, hown5, hb5⟩
        have hb5x : Below w2.heap.size w2 w5 := hb4x.trans (hb5.mono hb4x.size)
        clear hr1 hown5
        go_wp2_with fail
        have hr2 := read_any (HDV.out w5 hb5x) [66, 97, 100]
        have hre : readE [66, 97, 100] gs = 20 := by simp [readE, HVB.out.1]
        rw [hre] at hr2
        simp only [show ¬ ((20 : Int) = 0) from by decide, if_false] at hr2
        clear hre
        refine hr2.mono ?_
        rintro e w6 ⟨A6, c6, rfl, hown6, hb6⟩
        have hb6x : Below w2.heap.size w2 w6 := hb5x.trans (hb6.mono hb5x.size)
        clear hr2 hown6
        go_wp2_with fail
        have hz := size_any (HDV.out w6 hb6x) [66, 97, 100] (by decide)
        rw [show sizeG [66, 97, 100] gs = 0 from by simp [sizeG, HVB.out.2]] at hz
        refine hz.mono ?_
        rintro e w7 ⟨rfl, rfl⟩
        clear hz
        go_wp2_with fail
        have hz := loose_any (HDV.out w7 hb6x) s (by simp only [maxLen]; omega)
        rw [show looseG s gs = 0 from by simp [looseG, HS.out.2]] at hz
        refine hz.mono ?_
        rintro e w8 ⟨rfl, q, rfl⟩
        clear hz
        go_wp2_with fail
        go_ret
        exact ⟨rfl, (hb02.trans (hb6x.mono hw2)).trans ⟨rfl, rfl, rfl, Nat.le_refl _, fun _ _ => rfl⟩⟩
end Go.Proofs.Ytfhlhdpgahbeiaa
