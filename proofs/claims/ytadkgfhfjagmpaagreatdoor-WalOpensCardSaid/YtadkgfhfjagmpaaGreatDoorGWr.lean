/-
  Texts put together: WrA, WrB.
-/
import Derived.Test.YtadkgfhfjagmpaaGreatDoorGWs
import Derived.Test.YtadkgfhfjagmpaaGreatDoorReE
import Derived.Test.YtadkgfhfjagmpaaGreatDoorGFf
namespace Go.Proofs.YtadkgfhfjagmpaaGreatDoor
open Go.RowKit Go.Maps
set_option linter.unusedVariables false

def strLen : Value → Nat
  | .string b => b.size
  | _ => 0
def dgs (k : Nat) : List UInt8 := if h : k = 0 then [] else dgs (k / 10) ++ [dg k]
termination_by k
decreasing_by omega
theorem dgs_zero : dgs 0 = [] := by rw [dgs, dif_pos rfl]
theorem dgs_pos {k : Nat} (h : 0 < k) : dgs k = dgs (k / 10) ++ [dg k] := by
  conv => lhs; rw [dgs]
  rw [dif_neg (by omega)]
def dgt (n : Nat) : List UInt8 := if n = 0 then [48] else dgs n
theorem dgs_len : ∀ (j k : Nat), k < 10 ^ j → (dgs k).length ≤ j
  | 0, k, h => by
    have : k = 0 := by simpa using h
    subst this
    rw [dgs_zero]; simp
  | j + 1, k, h => by
    rcases Nat.eq_zero_or_pos k with h0 | h0
    · subst h0; rw [dgs_zero]; simp
    · rw [dgs_pos h0, List.length_append, List.length_cons, List.length_nil]
      have := dgs_len j (k / 10) (by rw [Nat.pow_succ] at h; omega)
      omega
def rname (n : Nat) : List UInt8 := [119, 97, 108, 45] ++ (List.replicate (6 - (dgt n).length) 48 ++ dgt n)
theorem dg_small {k : Nat} (h : k % 10 = 0) : dg k = 48 := by
  unfold dg
  rw [h]; rfl
theorem rname_wname {n : Nat} (h : n < 1000000) : rname n = wname n := by
  have e : List.replicate (6 - (dgt n).length) 48 ++ dgt n = six n := by
    unfold dgt six
    by_cases h0 : n = 0
    · subst h0; decide
    · rw [if_neg h0, dgs_pos (by omega)]
      by_cases h1 : n / 10 = 0
      · rw [dg_small (k := n / 100000) (by omega), dg_small (k := n / 10000) (by omega), dg_small (k := n / 1000) (by omega), dg_small (k := n / 100) (by omega), dg_small (k := n / 10) (by omega), h1, dgs_zero]; rfl
      · rw [dgs_pos (show 0 < n / 10 by omega), Nat.div_div_eq_div_mul]
        by_cases h2 : n / 100 = 0
        · rw [dg_small (k := n / 100000) (by omega), dg_small (k := n / 10000) (by omega), dg_small (k := n / 1000) (by omega), dg_small (k := n / 100) (by omega), show n / (10 * 10) = 0 from h2, dgs_zero]; rfl
        · rw [dgs_pos (show 0 < n / (10 * 10) from by omega), Nat.div_div_eq_div_mul]
          by_cases h3 : n / 1000 = 0
          · rw [dg_small (k := n / 100000) (by omega), dg_small (k := n / 10000) (by omega), dg_small (k := n / 1000) (by omega), show n / (10 * 10 * 10) = 0 from h3, dgs_zero]; rfl
          · rw [dgs_pos (show 0 < n / (10 * 10 * 10) from by omega), Nat.div_div_eq_div_mul]
            by_cases h4 : n / 10000 = 0
            · rw [dg_small (k := n / 100000) (by omega), dg_small (k := n / 10000) (by omega), show n / (10 * 10 * 10 * 10) = 0 from h4, dgs_zero]; rfl
            · rw [dgs_pos (show 0 < n / (10 * 10 * 10 * 10) from by omega), Nat.div_div_eq_div_mul]
              by_cases h5 : n / 100000 = 0
              · rw [dg_small (k := n / 100000) (by omega), show n / (10 * 10 * 10 * 10 * 10) = 0 from h5, dgs_zero]; rfl
              · rw [dgs_pos (show 0 < n / (10 * 10 * 10 * 10 * 10) from by omega), Nat.div_div_eq_div_mul, show n / (10 * 10 * 10 * 10 * 10 * 10) = 0 from by omega, dgs_zero]
                rfl
  unfold rname wname
  rw [e]
theorem below_alloc1 (w : World) (o : Obj) : Below w.heap.size w (w.alloc o) := (Below.refl _ w).alloc (Nat.le_refl _) o
set_option maxRecDepth 20000 in
set_option maxHeartbeats 4000000 in
/-- A numeral of a number from 0 on. -/
theorem digits_any (n : Nat) (hn : n ≤ 1000000) (w : World) : Calls Tryz.prog 49 #[.int .i64 (n : Int)] w fun e w' => e = .returned (.string (str (dgt n))) ∧ Below w.heap.size w w' := by
  have hnI : (n : Int) ≤ 1000000 := by omega
  go_enter Tryz.func49, Tryz.ntmps49
  by_cases h0 : n = 0
  · subst h0
    go_wp2_with fail
    go_ret
    exact ⟨rfl, Below.refl _ _⟩
  · have h0I : ¬ (n : Int) = 0 := by omega
    go_wp2_with fail
    go_loopw [3, 4, 5] (fun s3 s4 s5 wr => ∃ (k : Nat) (s : List UInt8), k ≤ n ∧ s3 = .string (str s) ∧ s4 = .int .i64 k ∧ dgs n = dgs k ++ s ∧ Below w.heap.size w wr) (fun _ k _ _ => (intOf k).toNat)
    case atStart => exact ⟨n, [], Nat.le_refl _, rfl, rfl, by simp, Below.refl _ _⟩
    case round =>
      obtain ⟨k, s, hk, rfl, rfl, hd, hb⟩ := hrel
      by_cases hk0 : k = 0
      · subst hk0
        have hge : ¬ (n : Int) < 0 := by omega
        go_wp2_with fail
        go_ret
        refine ⟨?_, hb⟩
        show Ending.returned (.string (str s)) = _
        unfold dgt
        rw [if_neg h0, hd, dgs_zero, List.nil_append]
      · have hkI : ¬ (k : Int) = 0 := by omega
        have hr : ((k : Nat) : Int).tmod 10 = ((k % 10 : Nat) : Int) := by rw [Int.tmod_eq_emod_of_nonneg (Int.natCast_nonneg _)]; omega
        have hq : ((k : Nat) : Int).tdiv 10 = ((k / 10 : Nat) : Int) := by rw [Int.tdiv_eq_ediv_of_nonneg (Int.natCast_nonneg _)]; omega
        have hd10 : k % 10 < 10 := Nat.mod_lt _ (by omega)
        have hnn : ¬ ((k % 10 : Nat) : Int) < 0 := by omega
        have hdv : (48 : Int) + (k : Int) % 10 = ((dg k).toNat : Int) := by rw [dg_nat]; omega
        have hcs : (convert 28 9 (.slice (some ⟨wr.heap.size, 0, none⟩) 1 1)).run Tryz.prog (wr.alloc (.cells #[.int .u8 (48 + (k : Int) % 10)] 5)) = .ok (.string (str [dg k])) (wr.alloc (.cells #[.int .u8 (48 + (k : Int) % 10)] 5)) := by
          rw [hdv]
          exact run_str (P := Tryz.prog) (c := 1) (l := [dg k]) (Sl.new wr _ _) 28 5 9 Tryz.underlying28 Tryz.underlying5 Tryz.underlying9
        clear hdv
        have hsz : (str [dg k]).size + (str s).size ≤ 100 := by
          rw [str_size, str_size]
          have h1 := dgs_len 7 n (by omega)
          rw [hd, List.length_append] at h1
          simp only [List.length_cons, List.length_nil]
          omega
        have hcat := str_cat [dg k] s
        go_wp2_with fail
        refine ⟨⟨k / 10, [dg k] ++ s, by omega, by first | rfl | rw [hcat], by first | rw [hq] | (congr 1), ?_, ?_⟩, by simp only [intOf]; omega⟩
        · rw [hd, dgs_pos (k := k) (by omega), List.append_assoc]
        · exact hb.alloc hb.size _
set_option maxRecDepth 20000 in
set_option maxHeartbeats 4000000 in
/-- The name of a segment. -/
theorem name3_any (n : Nat) (hn : n ≤ 1000000) (w : World) : Calls Tryz.prog 10 #[.int .i64 (n : Int)] w fun e w' => e = .returned (.string (str (rname n))) ∧ Below w.heap.size w w' := by
  have hl : (dgt n).length ≤ 7 := by
    unfold dgt
    split
    · simp
    · exact dgs_len 7 n (by omega)
  go_enter Tryz.func10, Tryz.ntmps10
  go_wp2_with fail
  refine (digits_any n hn w).mono ?_
  rintro r w1 ⟨rfl, hb1⟩
  have HB1 := Lib.hid hb1
  clear hb1
  go_wp2_with fail
  go_loopw [3] (fun s3 wr => ∃ (j : Nat), j + (dgt n).length ≤ max 6 (dgt n).length ∧ s3 = .string (str (List.replicate j 48 ++ dgt n)) ∧ Below w.heap.size w wr) (fun s3 _ => 6 - strLen s3)
  case atStart => exact ⟨0, by omega, rfl, HB1.out⟩
  case round =>
    obtain ⟨j, hj, rfl, hb⟩ := hrel
    have hsz := str_size (List.replicate j 48 ++ dgt n)
    rw [List.length_append, List.length_replicate] at hsz
    by_cases h6 : j + (dgt n).length < 6
    · have h6I : ((str (List.replicate j 48 ++ dgt n)).size : Int) < 6 := by omega
      have hcat := str_cat [48] (List.replicate j 48 ++ dgt n)
      go_wp2_with fail
      refine ⟨⟨j + 1, by omega, ?_, hb⟩, ?_⟩
      · rw [List.replicate_succ, List.cons_append]
        first | exact congrArg Value.string hcat | rfl
      · simp only [strLen]
        rw [show ((⟨#[48]⟩ : ByteArray) ++ str (List.replicate j 48 ++ dgt n)) = str ([48] ++ (List.replicate j 48 ++ dgt n)) from hcat, str_size]
        simp
        omega
    · have h6I : ¬ ((str (List.replicate j 48 ++ dgt n)).size : Int) < 6 := by omega
      have hcat := str_cat [119, 97, 108, 45] (List.replicate j 48 ++ dgt n)
      go_wp2_with fail
      go_ret
      have hj6 : j = 6 - (dgt n).length := by omega
      refine ⟨?_, hb⟩
      show Ending.returned (.string (str [119, 97, 108, 45] ++ str (List.replicate j 48 ++ dgt n))) = _
      rw [hcat, hj6]
      rfl
end Go.Proofs.YtadkgfhfjagmpaaGreatDoor

namespace Go.Proofs.YtadkgfhfjagmpaaGreatDoor
open Go.RowKit Go.Maps
set_option linter.unusedVariables false

abbrev lcs (seg : Int) (dd : Bool) : Array Value := #[.int .i64 seg, .bool dd]
abbrev lobj (cs : Array Value) : Obj := .cells cs 42
abbrev zfs : Array Value := #[.string ⟨#[]⟩, .string ⟨#[]⟩, .int .i64 0]
abbrev fobj (cs : Array Value) : Obj := .cells cs 108
theorem ret_file2 {fn : Func} {p u : Tmp} (h : fn.results = #[.cell p 108, .tmp u]) {R : Ending → World → Prop} {a : Act} {w : World} {g : Nat} {v0 v1 v2 : Value} {x : Value} (hd : a.defers = [])
    (hp : a.tmps.getD p undef = .pointer (some ⟨g, 0, none⟩)) (hu : a.tmps.getD u undef = x) (hg : Blk w g #[v0, v1, v2] 108)
    (hR : R (.returned (.tuple #[.agg #[v0, v1, v2], x])) w) : bodyPost Tryz.prog fn R .ret a w := by
  refine bodyPost_ret ?_ hd hR
  rw [results_cell_tmp h, hp, hu]
  have h1 : (asAddr (.pointer (some ⟨g, 0, none⟩))).run Tryz.prog w = .ok ⟨g, 0, none⟩ w := by simp [asAddr]
  rw [h1]
  have h2 := run_loadVar_row (P := Tryz.prog) w g 108 108 _ _ _ hg Tryz.underlying108 rfl (by kernel_rfl)
  simp only [Result.andThen_ok, h2]
/-- The boxes of a call on a drive, a log and a file to be answered. -/
theorem box3 {w V : World} {A : Option Addr} {n c : Nat} {st lf seg : Int} {ar dd : Bool} (h : Below (((w.alloc (dobj (dcs A n c st ar lf))).alloc (lobj (lcs seg dd))).alloc (fobj zfs)).heap.size (((w.alloc (dobj (dcs A n c st ar lf))).alloc (lobj (lcs seg dd))).alloc (fobj zfs)) V) :
    Blk V w.heap.size (dcs A n c st ar lf) 35 ∧ Blk V (w.heap.size + 1) (lcs seg dd) 42 ∧ Blk V (w.heap.size + 1 + 1) zfs 108 ∧ Below w.heap.size w V ∧ w.heap.size + 3 ≤ V.heap.size := by
  have b1 := Blk.new w (dcs A n c st ar lf) 35
  have b2 := Blk.new (w.alloc (dobj (dcs A n c st ar lf))) (lcs seg dd) 42
  have b3 := Blk.new ((w.alloc (dobj (dcs A n c st ar lf))).alloc (lobj (lcs seg dd))) zfs 108
  rw [World.size_alloc] at b2
  rw [World.size_alloc, World.size_alloc] at b3
  have hs := h.size
  simp only [World.size_alloc] at hs
  have hk : ∀ k, k < w.heap.size + 3 → V.heap[k]? = (((w.alloc (dobj (dcs A n c st ar lf))).alloc (lobj (lcs seg dd))).alloc (fobj zfs)).heap[k]? := fun k hk => h.block k (by simp; omega)
  refine ⟨((b1.keep (Below.heap_alloc _ _ _ (by simp))).keep (Below.heap_alloc _ _ _ (by simp; omega))).keep (hk _ (by omega)), (b2.keep (Below.heap_alloc _ _ _ (by simp))).keep (hk _ (by omega)), b3.keep (hk _ (by omega)), ?_, by omega⟩
  exact ((((Below.refl _ w).alloc (Nat.le_refl _) _).alloc (by simp) _).alloc (by simp; omega) _).trans (h.mono (by simp; omega))
def fileA (fs : List Fm) (seg : Int) : Value := match findK Fm.name (fname seg) fs with
  | some f => .tuple #[.agg #[.string (str f.name), .string (str f.data), .int .i64 f.syn], .bool true]
  | none => .tuple #[.agg #[.string ⟨#[]⟩, .string ⟨#[]⟩, .int .i64 0], .bool false]
set_option maxRecDepth 20000 in
set_option maxHeartbeats 8000000 in
theorem file_any (A : Option Addr) (n c : Nat) (fs : List Fm) (st : Int) (ar : Bool) (lf seg : Int) (dd : Bool) (w : World) (hF : Fl w A n fs) (hn : n ≤ 400) (h1 : 1 ≤ seg) (hne : ∀ f ∈ fs, f.name ≠ []) :
    Calls Tryz.prog 72 #[.agg #[.slice A n c, .int .i64 st, .bool ar, .int .i64 lf], .agg #[.int .i64 seg, .bool dd]] w fun e w' => e = .returned (fileA fs seg) ∧ Below w.heap.size w w' := by
  have tb := fun V h => box3 (V := V) (w := w) (A := A) (n := n) (c := c) (st := st) (ar := ar) (lf := lf) (seg := seg) (dd := dd) h
  have HTB := Lib.hid tb
  have hb0 := Below.refl (((w.alloc (dobj (dcs A n c st ar lf))).alloc (lobj (lcs seg dd))).alloc (fobj zfs)).heap.size (((w.alloc (dobj (dcs A n c st ar lf))).alloc (lobj (lcs seg dd))).alloc (fobj zfs))
  have kd0 := fun V h => (tb V h).1.cell (k := 0) rfl
  have kd1 := fun V h => (tb V h).1.cell (k := 1) rfl
  have kd2 := fun V h => (tb V h).1.cell (k := 2) rfl
  have kd3 := fun V h => (tb V h).1.cell (k := 3) rfl
  have kl0 := fun V h => (tb V h).2.1.cell (k := 0) rfl
  clear tb
  by_cases h9 : seg ≤ 999999
  · obtain ⟨k, rfl⟩ : ∃ k : Nat, seg = k := ⟨seg.toNat, by omega⟩
    have hnm := fun W => name3_any k (by omega) W
    rw [rname_wname (by omega)] at hnm
    have hfn : fname (k : Int) = wname k := by unfold fname; rw [if_pos ⟨h1, h9⟩]; rfl
    have hat := fun W (h : Fl W A n fs) => at_any A n c fs st ar lf (wname k) W h (by omega)
    go_enter Tryz.func72, Tryz.ntmps72
    generalize hU : ((w.alloc (dobj (dcs A n c st ar lf))).alloc (lobj (lcs (k : Int) dd))).alloc (fobj zfs) = U at *
    go_wp2_with fail
    go_region_held (fun V => Below U.heap.size U V) (first | assumption | exact Below.drew (by assumption)) (first
      | (go_at_call 10; refine (hnm _).mono ?_; rintro r w1 ⟨rfl, hb1'⟩
         have hb1 : Below U.heap.size U w1 := Below.trans (by first | assumption | exact Below.drew (by assumption)) (hb1'.mono (by first | exact (by assumption : Below U.heap.size U _).size | exact (Below.drew (by assumption) : Below U.heap.size U _).size))
         clear hb1')
      | (go_at_call 53; refine (hat _ (hF.below ((HTB.out _ (by first | assumption | exact Below.drew (by assumption))).2.2.2.1.mono (Nat.le_refl _)))).mono ?_; rintro r w3 ⟨rfl, hb3'⟩
         have hb3 : Below U.heap.size U w3 := Below.trans (by assumption) (hb3'.mono ((by assumption : Below U.heap.size U _).size))
         clear hb3'))
    clear kd0 kd1 kd2 kd3 kl0 hat hnm
    obtain ⟨t1, t2, t3, t4, t5⟩ := HTB.out w3 hb3
    have c0 := t1.cell (k := 0) rfl
    have z0 := t3.cell (k := 0) rfl
    have z1 := t3.cell (k := 1) rfl
    have z2 := t3.cell (k := 2) rfl
    have f0 := t3.frozen 0
    have f1 := t3.frozen 1
    have f2 := t3.frozen 2
    have HT3 := Lib.hid (And.intro t3 t4)
    have hF3 := hF.below (t4.mono (Nat.le_refl _))
    clear t1 t2 t3 t4
    cases hfd : findK Fm.name (wname k) fs with
    | none =>
      rw [atK_none hfd]
      go_wp2_with fail
      refine ret_file2 rfl rfl rfl rfl (((HT3.out.1.set 0 (.string ⟨#[]⟩)).set 1 (.string ⟨#[]⟩)).set 2 (.int .i64 0)) ⟨?_, ?_⟩
      · unfold fileA
        rw [hfn, hfd]
        rfl
      · exact ((HT3.out.2.setCell (p := ⟨w.heap.size + 1 + 1, 0, none⟩) (by simp only; omega) _).setCell (p := ⟨w.heap.size + 1 + 1, 1, none⟩) (by simp only; omega) _).setCell (p := ⟨w.heap.size + 1 + 1, 2, none⟩) (by simp only; omega) _
    | some g =>
      obtain ⟨i, hi, hfi, hil⟩ := atK_some hfd
      rw [hi]
      have hil2 : (i : Int) < n := by have := hF.1; omega
      have hi0 : ¬ (i : Int) < 0 := by omega
      obtain ⟨b, o, f2', hA, hf2, x1, x2, x3⟩ := hF3.at_ (i := i) (by omega)
      rw [hfi] at hf2
      obtain rfl := Option.some.inj hf2
      subst hA
      clear hF3 hfi hi hf2
      go_wp2_with fail
      refine ret_file2 rfl rfl rfl rfl (((HT3.out.1.set 0 (.string (str g.name))).set 1 (.string (str g.data))).set 2 (.int .i64 g.syn)) ⟨?_, ?_⟩
      · unfold fileA
        rw [hfn, hfd]
        rfl
      · exact ((HT3.out.2.setCell (p := ⟨w.heap.size + 1 + 1, 0, none⟩) (by simp only; omega) _).setCell (p := ⟨w.heap.size + 1 + 1, 1, none⟩) (by simp only; omega) _).setCell (p := ⟨w.heap.size + 1 + 1, 2, none⟩) (by simp only; omega) _
  · have hfn : fname seg = [] := by unfold fname; rw [if_neg (by omega)]
    have hfd : findK Fm.name (fname seg) fs = none := by
      cases hq : findK Fm.name (fname seg) fs with
      | none => rfl
      | some g => exact absurd ((find_some hq).2.trans hfn) (hne g (find_some hq).1)
    have hx1 : Blk (((w.alloc (dobj (dcs A n c st ar lf))).alloc (lobj (lcs seg dd))).alloc (fobj zfs)) (w.heap.size + 1 + 1) zfs 108 := (HTB.out _ hb0).2.2.1
    have hx2 := (HTB.out _ hb0).2.2.2.1
    have HX := Lib.hid (And.intro hx1 hx2)
    clear kd0 kd1 kd2 kd3 kl0 hx1 hx2
    go_enter Tryz.func72, Tryz.ntmps72
    go_wp2_with fail
    refine ret_file2 rfl rfl rfl rfl HX.out.1 ⟨?_, HX.out.2⟩
    unfold fileA
    rw [hfd]
    rfl
end Go.Proofs.YtadkgfhfjagmpaaGreatDoor
