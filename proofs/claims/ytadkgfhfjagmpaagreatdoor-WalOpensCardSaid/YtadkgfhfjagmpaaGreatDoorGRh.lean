/-
  Texts put together: ReH, Tells.
-/
import Derived.Test.YtadkgfhfjagmpaaGreatDoorReE
namespace Go.Proofs.YtadkgfhfjagmpaaGreatDoor
open Go.RowKit Go.Maps
set_option linter.unusedVariables false

def dgo : Nat → Nat → List UInt8 → List UInt8
  | 0, _, acc => acc
  | f + 1, n, acc => if n = 0 then acc else dgo f (n / 10) (UInt8.ofNat (48 + n % 10) :: acc)
def dig (n : Nat) : List UInt8 := if n = 0 then [48] else dgo 4 n []
def qn (n : Nat) : List UInt8 := 113 :: dig n
def dval (l : List UInt8) : Nat := l.foldl (fun a c => a * 10 + (c.toNat - 48)) 0
theorem dig_val : ∀ i, i < 257 → dval (dig i) = i := by decide +kernel
theorem qn_ok : ∀ i, i < 257 → vname (qn i) = true := by decide +kernel
theorem qn_inj {i j : Nat} (hi : i < 257) (hj : j < 257) (h : qn i = qn j) : i = j := by
  unfold qn at h
  injection h with _ h
  rw [← dig_val i hi, ← dig_val j hj, h]
theorem dgo_zero (f : Nat) (acc : List UInt8) : dgo f 0 acc = acc := by cases f <;> rfl

set_option maxRecDepth 40000 in
set_option maxHeartbeats 4000000 in
theorem dig_any (n : Nat) (hn : n < 257) (w : World) : Calls Tryz.prog 49 #[.int .i64 n] w fun e w' => e = .returned (.string (str (dig n))) ∧ Below w.heap.size w w' := by
  have hcat := str_app
  by_cases h0 : n = 0
  · subst h0
    go_enter Tryz.func49, Tryz.ntmps49
    go_wp2_with fail
    go_ret
    exact ⟨rfl, Below.refl _ _⟩
  · have hn0 : ¬ (n : Int) = 0 := by omega
    have hdg : dig n = dgo 4 n [] := by simp [dig, h0]
    rw [hdg]
    clear hdg h0
    obtain ⟨D, hD⟩ : ∃ D, D = dgo 4 n [] := ⟨_, rfl⟩
    rw [← hD]
    have HD := Lib.hid hD
    clear hD
    go_enter Tryz.func49, Tryz.ntmps49
    go_wp2_with fail
    go_loopw [3, 4] (fun s j wr => ∃ (f m : Nat) (acc : List UInt8), m < 10 ^ f ∧ m ≤ n ∧ j = .int .i64 m ∧ s = .string (str acc) ∧ dgo f m acc = D ∧ acc.length + f ≤ 4 ∧ Below w.heap.size w wr) (fun _ j _ => (intOf j).toNat)
    case atStart => exact ⟨4, n, [], by omega, Nat.le_refl _, rfl, rfl, HD.out.symm, by simp, Below.refl _ _⟩
    case round =>
      obtain ⟨f, m, acc, hf, hm, rfl, rfl, hdg, hal, hb⟩ := hrel
      have HF := Lib.hid hf
      have HG := Lib.hid hdg
      clear hf hdg
      by_cases hm0 : (m : Int) = 0
      · obtain rfl : m = 0 := by omega
        have hacc := HG.out
        rw [dgo_zero] at hacc
        subst hacc
        have hmn : ¬ (n : Int) < 0 := by omega
        go_wp2_with fail
        go_ret
        exact ⟨rfl, hb⟩
      · have hmn : ¬ (n : Int) < 0 := by omega
        have hm1 : (m : Int) ≤ 256 := by omega
        have hm2 : (0 : Int) < m := by omega
        have hsz : ∀ l, (str l).size = l.length := str_size
        have hcs : (convert 28 9 (.slice (some ⟨wr.heap.size, 0, none⟩) 1 1)).run Tryz.prog (wr.alloc (.cells #[.int .u8 (48 + (m : Int) % 10)] 5)) = .ok (.string (str [UInt8.ofNat (48 + m % 10)])) (wr.alloc (.cells #[.int .u8 (48 + (m : Int) % 10)] 5)) := by
          have h1 : (UInt8.ofNat (48 + m % 10)).toNat = 48 + m % 10 := by rw [UInt8.toNat_ofNat']; omega
          have e : bv [UInt8.ofNat (48 + m % 10)] = [.int .u8 (48 + (m : Int) % 10)] := by
            simp only [bv, List.map_cons, List.map_nil, h1]
            simp
          have h := Sl.new wr (.int .u8 (48 + (m : Int) % 10)) 5
          have h3 := run_str (P := Tryz.prog) (c := 1) (l := [UInt8.ofNat (48 + m % 10)]) (by rw [e]; exact h) 28 5 9 Tryz.underlying28 Tryz.underlying5 Tryz.underlying9
          exact h3
        have hf1 : ∃ f', f = f' + 1 := by
          cases f with
          | zero => have := HF.out; simp at this; omega
          | succ f' => exact ⟨f', rfl⟩
        obtain ⟨f', rfl⟩ := hf1
        have hlt : m / 10 < 10 ^ f' := by
          have := HF.out
          rw [Nat.pow_succ] at this
          exact Nat.div_lt_of_lt_mul (by omega)
        have hgo : dgo f' (m / 10) ([UInt8.ofNat (48 + m % 10)] ++ acc) = D := by
          have := HG.out
          rw [dgo, if_neg (by omega)] at this
          exact this
        have HLT := Lib.hid hlt
        have HGO := Lib.hid hgo
        clear hlt hgo
        obtain ⟨bt, hbt⟩ : ∃ bt, bt = UInt8.ofNat (48 + m % 10) := ⟨_, rfl⟩
        have hgo2 := HGO.out
        rw [← hbt] at hcs hgo2
        have HGO2 := Lib.hid hgo2
        clear hbt hgo2
        have hq : (m : Int) / 10 = ((m / 10 : Nat) : Int) := by omega
        have hac : (acc.length : Int) ≤ 4 := by omega
        have HQQ := Lib.hid hq
        clear hq
        go_wp2_with fail
        exact ⟨⟨f', m / 10, _, HLT.out, by omega, by rw [← HQQ.out], rfl, HGO2.out, by simp only [List.length_cons]; omega, hb.alloc hb.size _⟩, by simp only [intOf]; omega⟩

theorem sub_len {α : Type} [DecidableEq α] : ∀ {l m : List α}, l.Nodup → (∀ x ∈ l, x ∈ m) → l.length ≤ m.length
  | [], _, _, _ => Nat.zero_le _
  | a :: r, m, hn, hs => by
    obtain ⟨h1, h2⟩ := List.nodup_cons.1 hn
    have ha := hs a (by simp)
    have := sub_len (l := r) (m := m.erase a) h2 fun x hx => by
      have hne : x ≠ a := fun e => h1 (e ▸ hx)
      exact (List.mem_erase_of_ne hne).2 (hs x (by simp [hx]))
    rw [List.length_erase_of_mem ha] at this
    have hp : 0 < m.length := List.length_pos_of_mem ha
    simp only [List.length_cons]; omega
/-- So many of the names have a file. -/
def QN (fs : List Fm) (i : Nat) : Prop := ∀ j, j < i → ∃ f ∈ fs, f.name = qn j
theorem QN.le {fs : List Fm} {i : Nat} (h : QN fs i) (hi : i ≤ 257) : i ≤ fs.length := by
  have := sub_len (l := (List.range i).map qn) (m := fs.map Fm.name) (by
    refine List.pairwise_map.2 (List.Pairwise.imp_of_mem ?_ List.nodup_range)
    intro a b ha hb hab e
    exact hab (qn_inj (by have := List.mem_range.1 ha; omega) (by have := List.mem_range.1 hb; omega) e)) (by
    intro x hx
    obtain ⟨j, hj, rfl⟩ := List.mem_map.1 hx
    obtain ⟨f, hf, e⟩ := h j (List.mem_range.1 hj)
    exact List.mem_map.2 ⟨f, hf, e⟩)
  simpa using this

set_option maxRecDepth 40000 in
set_option maxHeartbeats 4000000 in
theorem missing_any (A : Option Addr) (n c : Nat) (fs : List Fm) (st : Int) (ar : Bool) (lf : Int) (w : World) (h : Fl w A n fs) (hn : n ≤ 256) :
    Calls Tryz.prog 65 #[.agg #[.slice A n c, .int .i64 st, .bool ar, .int .i64 lf]] w fun e w' => ∃ s : List UInt8, e = .returned (.string (str s)) ∧ vname s = true ∧ findK Fm.name s fs = none ∧ Below w.heap.size w w' := by
  have hnl := h.1
  have hq : ∀ d, (⟨#[113]⟩ : ByteArray) ++ str d = str (113 :: d) := fun d => str_app [113] d
  have hsz : ∀ l, (str l).size = l.length := str_size
  have hsz1 : (⟨#[113]⟩ : ByteArray).size = 1 := rfl
  go_enter Tryz.func65, Tryz.ntmps65
  go_wp2_with fail
  have hb1 : Below w.heap.size w (w.alloc (dobj (dcs A n c st ar lf))) := (Below.refl _ w).alloc (Nat.le_refl _) _
  have hd1 := Blk.new w (dcs A n c st ar lf) 35
  go_loopw [3] (fun j wr => ∃ i : Nat, i ≤ n ∧ j = .int .i64 i ∧ QN fs i ∧ Below w.heap.size w wr ∧ Blk wr w.heap.size (dcs A n c st ar lf) 35) (fun j _ => n + 1 - (intOf j).toNat)
  case atStart => exact ⟨0, Nat.zero_le _, rfl, fun j hj => by omega, hb1, hd1⟩
  case round =>
    obtain ⟨i, hi, rfl, hQ, hb, hd⟩ := hrel
    have HQ := Lib.hid hQ
    have HD := Lib.hid hd
    clear hQ hd
    have hln : (dig i).length ≤ 32 := by
      have := (vname_le (qn_ok i (by omega))).2
      simp only [qn, List.length_cons] at this; omega
    have hlnI : ((dig i).length : Int) ≤ 32 := by omega
    have hat := fun W (hF : Fl W A n fs) => at_any A n c fs st ar lf (113 :: dig i) W hF (by omega)
    have hdg := dig_any i (by omega)
    go_wp2_with (go_at_call 49; refine (hdg _).mono ?_; rintro e w2 ⟨rfl, hb2⟩; have hd2 := HD.out.keep (hb2.block _ HD.out.lt); have k0 := hd2.cell (k := 0) rfl; have k1 := hd2.cell (k := 1) rfl; have k2 := hd2.cell (k := 2) rfl; have k3 := hd2.cell (k := 3) rfl; have HD2 := Lib.hid hd2; clear hd2)
    have hb02 : Below w.heap.size w w2 := hb.trans (hb2.mono hb.size)
    cases hf : findK Fm.name (qn i) fs with
    | none =>
      have hct := hat w2 (h.below hb02)
      rw [show (113 :: dig i) = qn i from rfl] at hct ⊢
      rw [atK_none hf] at hct
      have HF := Lib.hid hf
      clear hf
      refine hct.mono ?_
      rintro e w3 ⟨rfl, hb3⟩
      go_wp2_with fail
      go_ret
      exact ⟨_, rfl, qn_ok i (by omega), HF.out, hb02.trans (hb3.mono hb02.size)⟩
    | some f =>
      obtain ⟨k, hk, -, -⟩ := atK_some hf
      have hct := hat w2 (h.below hb02)
      rw [show (113 :: dig i) = qn i from rfl] at hct ⊢
      rw [hk] at hct
      have hQ1 : QN fs (i + 1) := fun j hj => by
        rcases Nat.lt_or_ge j i with hlt | hge
        · exact HQ.out j hlt
        · have : j = i := by omega
          subst this
          exact ⟨f, (find_some hf).1, (find_some hf).2⟩
      have hle := hQ1.le (by omega)
      have HQ1 := Lib.hid hQ1
      have hk0 : ¬ (k : Int) < 0 := by omega
      clear hf hk hQ1
      refine hct.mono ?_
      rintro e w3 ⟨rfl, hb3⟩
      have hd3 := HD2.out.keep (hb3.block _ HD2.out.lt)
      have HD3 := Lib.hid hd3
      clear hd3
      go_wp2_with fail
      exact ⟨⟨i + 1, by omega, by simp, HQ1.out, hb02.trans (hb3.mono hb02.size), HD3.out⟩, by simp [intOf]; omega⟩
end Go.Proofs.YtadkgfhfjagmpaaGreatDoor

namespace Go.Proofs.YtadkgfhfjagmpaaGreatDoor
open Go.RowKit Go.Maps
set_option linter.unusedVariables false

theorem find_f {gs : List Gm} {s : List UInt8} (h : findK Fm.name s (gs.map Gm.f) = none) : findK Gm.name s gs = none := by
  have := find_map (key := Gm.name) (key' := Fm.name) Gm.f (fun _ => rfl) s gs
  rw [h] at this
  cases hf : findK Gm.name s gs with
  | none => rfl
  | some g => rw [hf] at this; cases this

set_option maxRecDepth 40000 in
set_option maxHeartbeats 8000000 in
theorem tells_any {w : World} {pb mb : Nat} {gs : List Gm} {st lf : Int} {ar : Bool} (h : Dr w pb mb gs st ar lf) (A : Option Addr) (c : Nat) (hF : Fl w A gs.length (gs.map Gm.f)) (hvn : ∀ g ∈ gs, vname g.name = true) :
    Calls Tryz.prog 16 #[.pointer (some ⟨pb, 0, none⟩), .agg #[.slice A gs.length c, .int .i64 st, .bool ar, .int .i64 lf]] w fun e w' => e = .returned (.bool true) ∧ Below w.heap.size w w' := by
  have hfew := h.few
  have htl : ∀ l, (str l).toList = l := fun l => ByteArray.toList_mk l
  have hsz : ∀ l, (str l).size = l.length := str_size
  have H := Lib.hid h
  clear h
  have hb1 : Below w.heap.size w (w.alloc (dobj (dcs A gs.length c st ar lf))) := (Below.refl _ w).alloc (Nat.le_refl _) _
  have hd1 := Blk.new w (dcs A gs.length c st ar lf) 35
  have HD1 := Lib.hid (H.out.alloc (dobj (dcs A gs.length c st ar lf)))
  go_enter Tryz.func16, Tryz.ntmps16
  go_wp2_with (go_at_call 60; refine (names_any HD1.out).mono ?_; rintro e w2 ⟨A2, c2, rfl, hown2, hb2⟩)
  have hb02 : Below w.heap.size w w2 := hb1.trans (hb2.mono (by simp))
  have hd2 := hd1.keep (hb2.block _ hd1.lt)
  have hsl2 := own_sl hown2
  clear hown2
  have HDV : Hid (∀ V, Below w2.heap.size w2 V → Dr V pb mb gs st ar lf) := fun V hV => HD1.out.below (hb2.trans (hV.mono hb2.size)) (Nat.le_refl _)
  have dc0 : ∀ V, Below w2.heap.size w2 V → V.cell? ⟨w.heap.size, 0, none⟩ = some (.slice A gs.length c) := fun V hV => (hd2.keep (hV.block _ hd2.lt)).cell rfl
  have dc1 : ∀ V, Below w2.heap.size w2 V → V.cell? ⟨w.heap.size, 1, none⟩ = some (.int .i64 st) := fun V hV => (hd2.keep (hV.block _ hd2.lt)).cell rfl
  have dc2 : ∀ V, Below w2.heap.size w2 V → V.cell? ⟨w.heap.size, 2, none⟩ = some (.bool ar) := fun V hV => (hd2.keep (hV.block _ hd2.lt)).cell rfl
  have dc3 : ∀ V, Below w2.heap.size w2 V → V.cell? ⟨w.heap.size, 3, none⟩ = some (.int .i64 lf) := fun V hV => (hd2.keep (hV.block _ hd2.lt)).cell rfl
  go_cut [36] (fun s36 wx => s36 = .bool false ∧ Below w2.heap.size w2 wx)
  case first =>
    have hb0 : Below w2.heap.size w2 w2.drew := (Below.refl _ _).drew
    go_region_held (fun V => Below w2.heap.size w2 V) (first | exact hb0 | exact hb0.trans (by assumption)) (first
      | (go_at_call 46; refine (steps_any (HDV.out _ hb0)).mono ?_; rintro e w' ⟨rfl, rfl⟩)
      | (go_at_call 61; refine (dead_any (HDV.out _ hb0)).mono ?_; rintro e w' ⟨rfl, rfl⟩)
      | (go_at_call 62; refine (rdead_any A gs.length c st ar lf _).mono ?_; rintro e w6 ⟨rfl, hb6⟩; have hb06 : Below w2.heap.size w2 w6 := hb0.trans hb6))
    all_goals (go_wp2_with fail; go_meet; exact ⟨rfl, by assumption⟩)
  case rest =>
    obtain ⟨rfl, hbx⟩ := hcut
    have q0 := dc0 wc hbx
    have q1 := dc1 wc hbx
    have q2 := dc2 wc hbx
    have q3 := dc3 wc hbx
    have HVN := Lib.hid hvn
    clear hvn
    have hw2 := hb02.size
    have hFV : ∀ V, Below w2.heap.size w2 V → Fl V A gs.length (gs.map Gm.f) := fun V hV => hF.below (hb02.trans (hV.mono hw2))
    have hNV : ∀ V, Below w2.heap.size w2 V → Sl V A2 gs.length (gs.map fun g => sv g.name) := fun V hV => hsl2.below hV
    have HFV := Lib.hid hFV
    have HNV := Lib.hid hNV
    have HX := Lib.hid hbx
    clear hFV hNV hbx hF hsl2
    go_wp2_with fail
    go_loopw [40] (fun j wr => ∃ i : Nat, i ≤ gs.length ∧ j = .int .i64 i ∧ Below w2.heap.size w2 wr) (fun j _ => gs.length - (intOf j).toNat)
    case atStart => exact ⟨0, Nat.zero_le _, rfl, HX.out⟩
    case round =>
      obtain ⟨i, hi, rfl, hb⟩ := hrel
      by_cases hin : i < gs.length
      · have hcN : (i : Int) < gs.length := by omega
        obtain ⟨g, hg⟩ : ∃ g, gs[i]? = some g := ⟨_, List.getElem?_eq_getElem hin⟩
        have hgm : g ∈ gs := List.mem_of_getElem? hg
        have hfg : findK Gm.name g.name gs = some g := find_mem' H.out.rises hgm
        have hfile := (H.out.file g hgm).2.2
        have hsyn := hfile.1
        have hdl := hfile.2.1
        have hnl := hfile.2.2
        obtain ⟨bm, om, f, rfl, hff, x1, x2, x3⟩ := (HFV.out wr hb).at_ (i := i) hin
        rw [List.getElem?_map, hg] at hff
        obtain rfl : g.f = f := Option.some.inj hff
        have HG := Lib.hid hg
        have HFG := Lib.hid hfg
        clear hff hg hfg hfile
        have hre : readE g.name gs = 0 := by simp [readE, HVN.out g hgm, HFG.out]
        have hof : oldF g.name gs = g.f := by simp [oldF, HFG.out]
        have hrd := fun V hV => read_any (HDV.out V hV) g.name
        rw [hre, hof] at hrd
        simp only [if_true] at hrd
        clear hre hof
        go_wp2_with (go_at_call 63; refine (hrd _ (hb.alloc hb.size _)).mono ?_; rintro e w3 ⟨A3, c3, rfl, hown3, hb3⟩)
        have hb3x : Below w2.heap.size w2 w3 := (hb.alloc hb.size _).trans (hb3.mono (by have := hb.size; simp; omega))
        obtain ⟨bn, on, un, rfl, hun, n1⟩ := (HNV.out w3 hb3x).at_ hin
        have hun' : un = .string (str g.name) := by
          rw [List.getElem?_map, HG.out] at hun
          exact (Option.some.inj hun).symm
        subst hun'
        have hfb := (Blk.new wr #[.string (str g.f.name), .string (str g.f.data), .int .i64 g.f.syn] 108).keep (hb3.block _ (by simp))
        have y0 := hfb.cell (k := 0) rfl
        have y1 := hfb.cell (k := 1) rfl
        have y2 := hfb.cell (k := 2) rfl
        have hcs : ∀ q, (convert 28 9 (.slice A3 g.f.data.length c3)).run Tryz.prog (w3.drewN q) = .ok (.string (str g.f.data)) (w3.drewN q) := fun q =>
          run_str (P := Tryz.prog) ((own_sl hown3).drewN q) 28 5 9 Tryz.underlying28 Tryz.underlying5 Tryz.underlying9
        have hD3 := HDV.out w3 hb3x
        have hszc : ∀ q, Calls Tryz.prog 64 #[.pointer (some ⟨pb, 0, none⟩), .string (str g.name)] (w3.drewN q) fun e w' => e = .returned (.int .i64 (g.f.data.length : Int)) ∧ w' = w3.drewN q := fun q => by
          have := size_any (hD3.drew q) g.name (by simp only [maxLen]; omega)
          rwa [show sizeG g.name gs = g.f.data.length from by simp [sizeG, HFG.out]] at this
        have hloc : ∀ q, Calls Tryz.prog 48 #[.pointer (some ⟨pb, 0, none⟩), .string (str g.name)] (w3.drewN q) fun e w' => e = .returned (.int .i64 ((g.f.data.length : Int) - g.f.syn)) ∧ ∃ m, w' = (w3.drewN q).drewN m := fun q => by
          have := loose_any (hD3.drew q) g.name (by simp only [maxLen]; omega)
          rwa [show looseG g.name gs = g.f.data.length - g.f.syn from by simp [looseG, HFG.out], Int.ofNat_sub hsyn] at this
        have HSZ := Lib.hid hszc
        have HLO := Lib.hid hloc
        clear hszc hloc hD3 hun x1 x2 x3
        go_quiet ((first
          | (go_at_call 64; exact Calls.quiet_of_same (HSZ.out _))
          | (go_at_call 48; exact Calls.quiet_of (HLO.out _))))
        go_wp2_with fail
        exact ⟨⟨i + 1, by omega, by simp, hb3x.trans ⟨rfl, rfl, rfl, Nat.le_refl _, fun _ _ => rfl⟩⟩, by simp [intOf]; omega⟩
      · have hcN : ¬ (i : Int) < gs.length := by omega
        have q0 := dc0 wr hb
        have q1 := dc1 wr hb
        have q2 := dc2 wr hb
        have q3 := dc3 wr hb
        have hms := missing_any A gs.length c (gs.map Gm.f) st ar lf wr (HFV.out wr hb) hfew
        have hvb : vname [66, 97, 100] = false := by decide
        have hfb : findK Gm.name [66, 97, 100] gs = none := by
          simp only [findK, List.find?_eq_none]
          intro x hx
          have := HVN.out x hx
          simp only [beq_iff_eq]
          intro e
          rw [e, hvb] at this; cases this
        have HVB := Lib.hid (And.intro hvb hfb)
        clear hvb hfb
        go_wp2_with (go_at_call 65; refine hms.mono ?_; rintro e w4 ⟨s, rfl, hsv, hsf, hb4⟩)
        have hb4x : Below w2.heap.size w2 w4 := hb.trans (hb4.mono hb.size)
        have hsg := find_f hsf
        have hss := (vname_le hsv).2
        have HS := Lib.hid (And.intro hsv hsg)
        clear hsv hsf hsg
        have hr1 := read_any (HDV.out w4 hb4x) s
        have hre : readE s gs = 4 := by simp [readE, HS.out.1, HS.out.2]
        rw [hre] at hr1
        simp only [show ¬ ((4 : Int) = 0) from by decide, if_false] at hr1
        clear hre
        refine hr1.mono ?_
        rintro e w5 ⟨A5, c5, rfl, hown5, hb5⟩
        have hb5x : Below w2.heap.size w2 w5 := hb4x.trans (hb5.mono hb4x.size)
        clear hr1 hown5
        go_wp2_with fail
        have hr2 := read_any (HDV.out w5 hb5x) [66, 97, 100]
        have hre : readE [66, 97, 100] gs = 20 := by simp [readE, HVB.out.1]
        rw [hre] at hr2
        simp only [show ¬ ((20 : Int) = 0) from by decide, if_false] at hr2
        clear hre
        refine hr2.mono ?_
        rintro e w6 ⟨A6, c6, rfl, hown6, hb6⟩
        have hb6x : Below w2.heap.size w2 w6 := hb5x.trans (hb6.mono hb5x.size)
        clear hr2 hown6
        go_wp2_with fail
        have hz := size_any (HDV.out w6 hb6x) [66, 97, 100] (by decide)
        rw [show sizeG [66, 97, 100] gs = 0 from by simp [sizeG, HVB.out.2]] at hz
        refine hz.mono ?_
        rintro e w7 ⟨rfl, rfl⟩
        clear hz
        go_wp2_with fail
        have hz := loose_any (HDV.out w7 hb6x) s (by simp only [maxLen]; omega)
        rw [show looseG s gs = 0 from by simp [looseG, HS.out.2]] at hz
        refine hz.mono ?_
        rintro e w8 ⟨rfl, q, rfl⟩
        clear hz
        go_wp2_with fail
        go_ret
        exact ⟨rfl, (hb02.trans (hb6x.mono hw2)).trans ⟨rfl, rfl, rfl, Nat.le_refl _, fun _ _ => rfl⟩⟩
end Go.Proofs.YtadkgfhfjagmpaaGreatDoor
