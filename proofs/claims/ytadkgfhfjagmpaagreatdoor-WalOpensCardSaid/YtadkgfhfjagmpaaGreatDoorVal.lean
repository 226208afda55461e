/-
  slices.Values of a list of names, gone through by a loop that leaves the list alone.
-/
import Derived.Test.YtadkgfhfjagmpaaGreatDoorGDr
import Derived.Shelf.SlIter.Sorted
namespace Go.Proofs.YtadkgfhfjagmpaaGreatDoor
open Go.RowKit Go.Maps Go.Sort Go.Shelf
set_option linter.unusedVariables false

set_option maxRecDepth 100000 in
set_option maxHeartbeats 1000000 in
theorem vals_run (m l Bx n c : Nat) (A : Option Addr) (ns : List (List UInt8)) (hn : ns.length = n) (hn9 : n ≤ 1000000) (J : List (List UInt8) → World → Prop)
    (hKeep : ∀ pre V, J pre V → V.cell? ⟨Bx, 0, none⟩ = some (.slice A n c) ∧ Sl V A n (ns.map sv))
    (hY : ∀ pre x V, J pre V → pre.length < n → YieldAt Fence.wide m Tryz.prog l #[encStr x] V fun e W' => e = .returned (.bool true) ∧ J (pre ++ [x]) W' ∧ KeepsWalks V W') (W : World) (h0 : J [] W) :
    CallsIn Fence.wide (m + 1) Tryz.prog 185 #[.func (.yield l) #[] #[], .pointer (some ⟨Bx, 0, none⟩)] W fun e W' => (∃ v, e = .returned v) ∧ J ns W' := by
  have hc := (hKeep _ _ h0).1
  have HK := Lib.hid hKeep
  have HY := Lib.hid hY
  have HN := Lib.hid hn
  have H0 := Lib.hid h0
  clear hKeep hY hn h0
  refine callsIn_of_wp Tryz.func185 rfl trivial ?_ rfl
  simp only [Tryz.ntmps185, List.size_toArray, List.length_cons, List.length_nil, Nat.reduceAdd, Nat.reduceSub, Array.replicate_succ, Array.replicate_zero, List.push_toArray, List.append_toArray, List.nil_append, List.cons_append]
  gi_wp2
  gi_loopw [7] (fun j wr => ∃ k : Nat, k ≤ n ∧ j = .int .i64 k ∧ J (ns.take k) wr) (fun j _ => n - (intOf j).toNat)
  case atStart => exact ⟨0, Nat.zero_le _, rfl, by rw [List.take_zero]; exact H0.out⟩
  case round =>
    obtain ⟨k, hk, rfl, hJ⟩ := hrel
    by_cases hin : k < n
    · have hcN : (k : Int) < n := by omega
      have hk0 : (0 : Int) ≤ k := by omega
      have hkl : k < ns.length := by have := HN.out; omega
      obtain ⟨b, o, u, rfl, hu, x0⟩ := (HK.out _ _ hJ).2.at_ hin
      have hu2 : u = encStr ns[k] := by
        rw [List.getElem?_map, List.getElem?_eq_getElem hkl] at hu
        exact (Option.some.inj hu).symm
      subst hu2
      obtain ⟨fn, tmps, assign, body, hy, hR⟩ := HY.out (ns.take k) ns[k] wr hJ (by rw [List.length_take]; omega)
      have htk : ns.take k ++ [ns[k]] = ns.take (k + 1) := by simp
      rw [htk] at hR
      clear hJ hu htk
      gi_wp2
      refine hR.mono ?_
      rintro e W3 ⟨rfl, hJ3, _⟩
      have HJ3 := Lib.hid hJ3
      clear hJ3 hR hy x0
      gi_wp2
      exact ⟨⟨k + 1, by omega, by go_num, HJ3.out⟩, by simp [intOf]; omega⟩
    · have hcN : ¬ (k : Int) < n := by omega
      have hfin : ns.take k = ns := List.take_of_length_le (by have := HN.out; omega)
      rw [hfin] at hJ
      have HJ := Lib.hid hJ
      clear hJ hfin
      gi_wp2
      go_end0
      exact ⟨⟨_, rfl⟩, HJ.out⟩

theorem nB : 25 ≠ 9 := by decide
theorem loop_cells {r : Loop} : ∀ cur, Obj.loop r ≠ .cells cur 9 (0, 0) := fun cur e => by cases e
theorem def_cells {x : Option (List Deferred)} : ∀ cur, Obj.deferred x ≠ .cells cur 9 (0, 0) := fun cur e => by cases e

/-- A list of names in memory, behind the box of slices.Values. -/
structure VBox (w : World) (Bx : Nat) (A : Option Addr) (n c : Nat) (ns : List (List UInt8)) : Prop where
  box : w.cell? ⟨Bx, 0, none⟩ = some (.slice A n c)
  lt : Bx < w.heap.size
  sl : Sl w A n (ns.map sv)
  len : ns.length = n
theorem VBox.below {w w' : World} {Bx n c : Nat} {A : Option Addr} {ns : List (List UInt8)} (h : VBox w Bx A n c ns) (hb : Below w.heap.size w w') : VBox w' Bx A n c ns :=
  ⟨(hb.cell (p := ⟨Bx, 0, none⟩) h.lt).trans h.box, Nat.lt_of_lt_of_le h.lt hb.size, h.sl.below hb, h.len⟩

set_option maxRecDepth 100000 in
set_option maxHeartbeats 2000000 in
theorem vals_append (m Bx n c : Nat) (A : Option Addr) (ns : List (List UInt8)) (w : World) (h : VBox w Bx A n c ns) (hn9 : n ≤ 1000000) :
    CallsIn Fence.wide (m + 3) Tryz.prog 188 #[.slice none 0 0, .func (.func 185) #[] #[.pointer (some ⟨Bx, 0, none⟩)]] w fun e w' => ∃ v, e = .returned v ∧ w'.ownsRow w.heap.size 9 1 v n (ns.map encStr) ∧ Below w.heap.size w w' := by
  have HV := Lib.hid h
  clear h
  refine callsIn_of_wp_marks Tryz.func188 rfl trivial ?_ rfl
  simp only [Tryz.ntmps188, List.size_toArray, List.length_cons, List.length_nil, Nat.reduceAdd, Nat.reduceSub, Array.replicate_succ, Array.replicate_zero, List.push_toArray, List.append_toArray, List.nil_append, List.cons_append]
  gi_wp2
  refine wpIn_rangeFunc ?_
  intro fn hfn
  have hsz : (w.alloc (.cells #[.slice none 0 0] 25)).heap.size = w.heap.size + 1 := by simp
  have hbx := World.alloc_heap_new w (.cells #[.slice none 0 0] 25)
  have hb0 : Below w.heap.size w (w.alloc (.cells #[.slice none 0 0] 25)) := (Below.refl _ w).alloc (Nat.le_refl _) _
  generalize w.alloc (.cells #[.slice none 0 0] 25) = U at hsz hbx hb0 ⊢
  have hlook : ∀ r, ((U.alloc (.deferred (some []))).alloc (.loop r)).heap[U.heap.size + 1]? = some (.loop r) ∧ ((U.alloc (.deferred (some []))).alloc (.loop r)).heap[U.heap.size]? = some (.deferred (some [])) ∧
      ((U.alloc (.deferred (some []))).alloc (.loop r)).heap[w.heap.size]? = some (.cells #[.slice none 0 0] 25 (0, 0)) ∧ Below w.heap.size w ((U.alloc (.deferred (some []))).alloc (.loop r)) := fun r => by
    have h1 := World.alloc_heap_new (U.alloc (.deferred (some []))) (.loop r)
    rw [World.size_alloc] at h1
    refine ⟨h1, (Below.heap_alloc _ _ _ (by simp)).trans (World.alloc_heap_new U _), (Below.heap_alloc _ _ _ (by simp; omega)).trans ((Below.heap_alloc _ _ _ (by omega)).trans hbx), ?_⟩
    exact (hb0.alloc hb0.size _).alloc (by simp; omega) _
  obtain ⟨hl1, hd1, hc1, hbw⟩ := hlook (AnyZ.apRec Tryz.sorted109_ren fn (.func (.func 185) #[] #[.pointer (some ⟨Bx, 0, none⟩)]) w.heap.size U.heap.size .ready none)
  obtain ⟨X, hX⟩ : ∃ X, (U.alloc (.deferred (some []))).alloc (.loop (AnyZ.apRec Tryz.sorted109_ren fn (.func (.func 185) #[] #[.pointer (some ⟨Bx, 0, none⟩)]) w.heap.size U.heap.size .ready none)) = X := ⟨_, rfl⟩
  rw [hX] at hl1 hd1 hc1 hbw
  refine ⟨U.heap.size + 1, [{ target := .collected U.heap.size, args := #[] }], X, { target := .fn (.func 185) #[.pointer (some ⟨Bx, 0, none⟩)], args := #[.func (.yield (U.heap.size + 1)) #[] #[]] }, X, 185,
    #[.func (.yield (U.heap.size + 1)) #[] #[], .pointer (some ⟨Bx, 0, none⟩)], X, ?_, ?_, fun f' _ => trivial, ?_, fun _ => by omega, ?_⟩
  · rw [← hX]
    exact run_enterLoop_outer _ _ _ _ _
  · simp [resolve, go_sem]
  · have he := enters_of Tryz.func185 (by kernel_rfl) rfl
    simp [invoke, go_sem, he _ _]
  · have hAt : AnyZ.ApAt Tryz.sorted109_ren w fn (.func (.func 185) #[] #[.pointer (some ⟨Bx, 0, none⟩)]) w.heap.size (U.heap.size + 1) U.heap.size [] X :=
      ⟨⟨_, hc1, ⟨rfl, .inl ⟨rfl, rfl⟩⟩, by simp⟩, hl1, hd1, hbw⟩
    clear hX hl1 hd1 hc1 hbw hlook hb0 hbx
    refine (vals_run (m + 1) (U.heap.size + 1) Bx n c A ns HV.out.len hn9 (fun pre V => AnyZ.ApAt Tryz.sorted109_ren w fn (.func (.func 185) #[] #[.pointer (some ⟨Bx, 0, none⟩)]) w.heap.size (U.heap.size + 1) U.heap.size pre V)
      (fun pre V hJ => ⟨(HV.out.below hJ.below).box, (HV.out.below hJ.below).sl⟩)
      (fun pre x V hJ hl => AnyZ.apYield { Tryz.sorted109 with } Fence.wide (m + 1) w fn hfn _ w.heap.size (U.heap.size + 1) U.heap.size (by omega) (by omega) (by omega) (Nat.le_refl _) (by omega) n (by simp only [maxLen]; omega) (by omega) pre x V hJ hl) X hAt).mono ?_
    rintro e W2 ⟨⟨v0, rfl⟩, h2⟩
    obtain ⟨v, hv, hrow, hnil⟩ := h2.box
    have hend := run_endLoop (P := Tryz.prog) h2.L (by simp [AnyZ.apRec])
    have hgr : W2.grownBy (W2.putObj (U.heap.size + 1) (.loop { AnyZ.apRec Tryz.sorted109_ren fn (.func (.func 185) #[] #[.pointer (some ⟨Bx, 0, none⟩)]) w.heap.size U.heap.size .ready none with state := .exhausted })) (some (U.heap.size + 1)) := grownBy_putObj_a _ _ _
    have hbx3 : (W2.putObj (U.heap.size + 1) (.loop { AnyZ.apRec Tryz.sorted109_ren fn (.func (.func 185) #[] #[.pointer (some ⟨Bx, 0, none⟩)]) w.heap.size U.heap.size .ready none with state := .exhausted })).heap[w.heap.size]? = some (.cells #[v] 25 (0, 0)) := (World.putObj_heap_other (by omega)).trans hv
    have hdf3 : (W2.putObj (U.heap.size + 1) (.loop { AnyZ.apRec Tryz.sorted109_ren fn (.func (.func 185) #[] #[.pointer (some ⟨Bx, 0, none⟩)]) w.heap.size U.heap.size .ready none with state := .exhausted })).heap[U.heap.size]? = some (.deferred (some [])) := (World.putObj_heap_other (by omega)).trans h2.K
    have hrow3 := hrow.kept hgr (ownsRow_ne_a hrow h2.L loop_cells)
    have hb3 := h2.below.grown hgr h2.below.size (fun k e => by cases e; omega)
    generalize W2.putObj (U.heap.size + 1) (.loop { AnyZ.apRec Tryz.sorted109_ren fn (.func (.func 185) #[] #[.pointer (some ⟨Bx, 0, none⟩)]) w.heap.size U.heap.size .ready none with state := .exhausted }) = Y at hend hgr hbx3 hdf3 hrow3 hb3
    obtain ⟨hc3, hf3⟩ := cell_of_box_a hbx3
    have HY := Lib.hid (And.intro hrow3 (And.intro hb3 hdf3))
    clear hgr hbx3 hrow3 hb3 hv hrow hnil h2 hAt
    refine ⟨none, Y, hend, ?_⟩
    clear hend hdf3
    gi_wp2
    obtain ⟨hrow3, hb3, hdf3⟩ := HY.out
    rw [← hsz]
    refine ⟨by simp, .inl ⟨_, _, rfl, run_takeDeferred hdf3, ?_⟩⟩
    refine ⟨_, results_tmp rfl _ _ _, v, rfl, ?_, hb3.grown (grownBy_putObj_a _ _ _) hb3.size (fun k e => by cases e; omega)⟩
    have := hrow3.kept (grownBy_putObj_a _ _ (.deferred none)) (ownsRow_ne_a hrow3 hdf3 def_cells)
    rw [HV.out.len] at this
    exact this
end Go.Proofs.YtadkgfhfjagmpaaGreatDoor
