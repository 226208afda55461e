/-
  What a filter answers, by the program.
-/
import Derived.Test.YtnbomifnbhijbaaBlD
import Derived.RangeFuncBox
namespace Go.Proofs.Ytnbomifnbhijbaa
open Go.RowKit Go.Shelf
attribute [local go_sem] Oper.semAt_some
set_option linter.unusedVariables false

theorem pbox_new (w : World) (l : List UInt8) (n k : Nat) :
    (((w.alloc (.cells #[.string (str l)] 9)).alloc (.cells #[.int .i64 k] 3)).alloc (.cells #[.int .i64 n] 3)).cell? ⟨w.heap.size, 0, none⟩ = some (.string (str l)) ∧
    (((w.alloc (.cells #[.string (str l)] 9)).alloc (.cells #[.int .i64 k] 3)).alloc (.cells #[.int .i64 n] 3)).cell? ⟨w.heap.size + 1, 0, none⟩ = some (.int .i64 k) ∧
    (((w.alloc (.cells #[.string (str l)] 9)).alloc (.cells #[.int .i64 k] 3)).alloc (.cells #[.int .i64 n] 3)).cell? ⟨w.heap.size + 2, 0, none⟩ = some (.int .i64 n) ∧
    (((w.alloc (.cells #[.string (str l)] 9)).alloc (.cells #[.int .i64 k] 3)).alloc (.cells #[.int .i64 n] 3)).heap.size = w.heap.size + 3 := by
  have h0 := Boxed.new w 9 (.string (str l))
  have h1 := Boxed.new (w.alloc (.cells #[.string (str l)] 9)) 3 (.int .i64 k)
  have h2 := Boxed.new ((w.alloc (.cells #[.string (str l)] 9)).alloc (.cells #[.int .i64 k] 3)) 3 (.int .i64 n)
  rw [World.size_alloc] at h1
  rw [World.size_alloc, World.size_alloc] at h2
  exact ⟨((h0.alloc _).alloc _).cell, (h1.alloc _).cell, h2.cell, by simp⟩
theorem places_any (m : Nat) (l : List UInt8) (n k : Nat) (w : World) :
    CallsIn Fence.wide (m + 1) Try.prog 37 #[.string (str l), .int .i64 k, .int .i64 n] w fun e w' =>
      e = .returned (.func (.func 43) #[] #[.pointer (some ⟨w.heap.size, 0, none⟩), .pointer (some ⟨w.heap.size + 1, 0, none⟩), .pointer (some ⟨w.heap.size + 2, 0, none⟩)]) ∧
        PBox w' w.heap.size l n k ∧ Below w.heap.size w w' ∧ w'.heap.size = w.heap.size + 3 := by
  refine callsIn_of_wp Try.func37 rfl trivial ?_ rfl
  simp only [Try.ntmps37, List.size_toArray, List.length_cons, List.length_nil, Nat.reduceAdd, Nat.reduceSub, Array.replicate_succ, Array.replicate_zero, List.push_toArray, List.append_toArray, List.nil_append, List.cons_append]
  gi_wp2
  refine bodyPost_ret (results_tmp rfl _ _ _) rfl ?_
  obtain ⟨h1, h2, h3, h4⟩ := pbox_new w l n k
  exact ⟨rfl, ⟨h1, h2, h3, by omega⟩, (((Below.refl _ w).alloc (Nat.le_refl _) _).alloc (by simp) _).alloc (by simp; omega) _, h4⟩
theorem bit_no (y r : Nat) (hy : y < 2 ^ 8) : (bits .and .u8 ((y : Int) / 2 ^ r) 1 == 0) = true ↔ y.testBit r = false := by
  have h1 : (y : Int) / 2 ^ r = ((y / 2 ^ r : Nat) : Int) := by push_cast; rfl
  have h2 : y / 2 ^ r < 256 := Nat.lt_of_le_of_lt (Nat.div_le_self _ _) hy
  have h3 : bits .and .u8 ((y : Int) / 2 ^ r) 1 = ((y / 2 ^ r % 2 : Nat) : Int) := by
    rw [h1, show (1 : Int) = ((1 : Nat) : Int) from rfl, u8_and_nat _ _ h2 (by omega), nat_mask1]
  rw [h3, Nat.testBit_eq_decide_div_mod_eq]
  have : y / 2 ^ r % 2 < 2 := Nat.mod_lt _ (by omega)
  generalize y / 2 ^ r % 2 = z at this
  rcases (by omega : z = 0 ∨ z = 1) with rfl | rfl <;> simp
theorem boxed_from {V V' : World} {row : Option Nat} {B D : Nat} {t : TypeId} {v : Value} (h : Boxed V B t v) (hg : V.grownBy V' row) (hr : ∀ r, row = some r → D ≤ r ∧ ∃ o : Obj, V.heap[r]? = some o ∧ o.isCells = false) : Boxed V' B t v :=
  h.kept hg fun e => by
    obtain ⟨_, o, ho, hc⟩ := hr _ e.symm
    unfold Boxed at h
    rw [h] at ho
    cases ho
    cases hc
theorem below_from {w V V' : World} {row : Option Nat} {B D : Nat} (h : Below B w V) (hg : V.grownBy V' row) (hB : B ≤ D) (hr : ∀ r, row = some r → D ≤ r ∧ ∃ o : Obj, V.heap[r]? = some o ∧ o.isCells = false) (hs : B ≤ V.heap.size) : Below B w V' :=
  h.grown hg hs fun r e => Nat.le_trans hB (hr r e).1
set_option maxRecDepth 100000 in
set_option maxHeartbeats 2000000 in
theorem may_any (m n c : Nat) (A : Option Addr) (f l : List UInt8) (hl : l.length ≤ 4611686018427387904) (w : World) (hS : Sl w A n (bv f)) (hn : n ≤ 4611686018427387904) (hc : n ≤ c) :
    CallsIn Fence.wide (m + 5) Try.prog 27 #[.slice A n c, .string (str l)] w fun e w' => e = .returned (.bool (Bl.may f l)) ∧ Below w.heap.size w w' := by
  have hfl : f.length = n := hS.len
  have hbx : Boxed ((w.alloc (.cells #[.slice A n c] 50)).alloc (.cells #[.bool false] 4)) (w.heap.size + 1) 4 (.bool false) := by
    have := Boxed.new (w.alloc (.cells #[.slice A n c] 50)) 4 (.bool false); rwa [World.size_alloc] at this
  have hbw : Below w.heap.size w ((w.alloc (.cells #[.slice A n c] 50)).alloc (.cells #[.bool false] 4)) := ((Below.refl _ w).alloc (Nat.le_refl _) _).alloc (by simp) _
  have HB := Lib.hid (And.intro hbx hbw)
  clear hbx hbw
  by_cases h1 : (n : Int) - 1 < 1
  · have hm : Bl.may f l = true := by unfold Bl.may; rw [if_pos (by omega)]
    refine callsIn_of_wp_marks Try.func27 rfl trivial ?_ rfl
    simp only [Try.ntmps27, List.size_toArray, List.length_cons, List.length_nil, Nat.reduceAdd, Nat.reduceSub, Array.replicate_succ, Array.replicate_zero, List.push_toArray, List.append_toArray, List.nil_append, List.cons_append]
    gi_wp2
    exact ⟨.bool true, by simp [results, Try.f27, go_sem], by first | rfl | rw [hm], ((Below.refl _ w).alloc (Nat.le_refl _) _).alloc (by simp) _⟩
  · by_cases h2 : (1048576 : Int) ≤ (n : Int) - 1
    · have hm : Bl.may f l = true := by unfold Bl.may; rw [if_pos (by omega)]
      refine callsIn_of_wp_marks Try.func27 rfl trivial ?_ rfl
      simp only [Try.ntmps27, List.size_toArray, List.length_cons, List.length_nil, Nat.reduceAdd, Nat.reduceSub, Array.replicate_succ, Array.replicate_zero, List.push_toArray, List.append_toArray, List.nil_append, List.cons_append]
      gi_wp2
      exact ⟨.bool true, by simp [results, Try.f27, go_sem], by first | rfl | rw [hm], ((Below.refl _ w).alloc (Nat.le_refl _) _).alloc (by simp) _⟩
    · obtain ⟨s, rfl⟩ : ∃ s, n = s + 1 := ⟨n - 1, by omega⟩
      obtain ⟨b, o, hsl, rfl, hcell⟩ := hS.byte (k := s) (by omega)
      have hlt := World.block_lt_of_cell? w _ hcell
      have x0 := (HB.out.2.cell hlt).trans hcell
      obtain ⟨k, hk⟩ : ∃ k : Nat, k = f[s].toNat := ⟨_, rfl⟩
      have hk2 : k < 256 := by rw [hk]; have := f[s].toNat_lt; omega
      have hgd : f.getD (f.length - 1) 0 = f[s] := by
        rw [hfl, Nat.add_sub_cancel, List.getD_eq_getElem?_getD, List.getElem?_eq_getElem hsl]; rfl
      have hmay : Bl.may f l = if k < 1 ∨ 16 < k then true else (Bl.places l (8 * s) k).all (Bl.has f) := by
        unfold Bl.may
        rw [if_neg (by omega), hgd, ← hk, hfl, Nat.add_sub_cancel]
      rw [← hk] at x0
      have hss : ((s + 1 : Nat) : Int) - 1 = s := by omega
      have HM := Lib.hid (And.intro hmay (And.intro hfl hcell))
      clear hmay hgd hk hcell hfl
      by_cases h3 : (k : Int) < 1
      · refine callsIn_of_wp_marks Try.func27 rfl trivial ?_ rfl
        simp only [Try.ntmps27, List.size_toArray, List.length_cons, List.length_nil, Nat.reduceAdd, Nat.reduceSub, Array.replicate_succ, Array.replicate_zero, List.push_toArray, List.append_toArray, List.nil_append, List.cons_append]
        gi_wp2
        exact ⟨.bool true, by simp [results, Try.f27, go_sem], by rw [HM.out.1, if_pos (by omega)], ((Below.refl _ w).alloc (Nat.le_refl _) _).alloc (by simp) _⟩
      · by_cases h4 : (16 : Int) < k
        · refine callsIn_of_wp_marks Try.func27 rfl trivial ?_ rfl
          simp only [Try.ntmps27, List.size_toArray, List.length_cons, List.length_nil, Nat.reduceAdd, Nat.reduceSub, Array.replicate_succ, Array.replicate_zero, List.push_toArray, List.append_toArray, List.nil_append, List.cons_append]
          gi_wp2
          exact ⟨.bool true, by simp [results, Try.f27, go_sem], by rw [HM.out.1, if_pos (by omega)], ((Below.refl _ w).alloc (Nat.le_refl _) _).alloc (by simp) _⟩
        · refine callsIn_of_wp_marks Try.func27 rfl trivial ?_ rfl
          simp only [Try.ntmps27, List.size_toArray, List.length_cons, List.length_nil, Nat.reduceAdd, Nat.reduceSub, Array.replicate_succ, Array.replicate_zero, List.push_toArray, List.append_toArray, List.nil_append, List.cons_append]
          gi_wp2_with fail
          have hb := HB.out
          have hf0 : Boxed ((w.alloc (.cells #[.slice (some ⟨b, o, none⟩) (s + 1) c] 50)).alloc (.cells #[.bool false] 4)) w.heap.size 50 (.slice (some ⟨b, o, none⟩) (s + 1) c) := (Boxed.new w _ _).alloc _
          have hsU : ((w.alloc (.cells #[.slice (some ⟨b, o, none⟩) (s + 1) c] 50)).alloc (.cells #[.bool false] 4)).heap.size = w.heap.size + 2 := by simp
          generalize (w.alloc (.cells #[.slice (some ⟨b, o, none⟩) (s + 1) c] 50)).alloc (.cells #[.bool false] 4) = U at hb hf0 hsU x0 ⊢
          refine ⟨trivial, ?_⟩
          rw [show (8 : Int) * s = ((8 * s : Nat) : Int) by omega]
          refine (places_any (m + 3) l (8 * s) k U).mono ?_
          rintro e W1 ⟨rfl, hP, hb1, hs1⟩
          have hf1 : Boxed W1 w.heap.size 50 (.slice (some ⟨b, o, none⟩) (s + 1) c) := (hb1.block _ (by omega)).trans hf0
          have hr1 : Boxed W1 (w.heap.size + 1) 4 (.bool false) := (hb1.block _ (by omega)).trans hb.1
          have hbw1 : Below w.heap.size w W1 := hb.2.trans (hb1.mono (by omega))
          rw [hsU] at hP hs1
          have H1 := Lib.hid (And.intro hf1 (And.intro hr1 (And.intro hbw1 hP)))
          clear hb hf0 x0 hP hb1 hf1 hr1 hbw1
          gi_wp2_with fail
          have hKt : ∀ {A B C : World}, Kp3 (w.heap.size + 2) A B → Kp3 (w.heap.size + 2) B C → Kp3 (w.heap.size + 2) A C := fun h1 h2 j hj1 hj2 => (h2 j hj1 hj2).trans (h1 j hj1 hj2)
          have hKb : ∀ (V : World) (l : Nat) (o o' : Obj), W1.heap.size ≤ l → V.heap[l]? = some o → o.isCells = false → o.isWalk = false → Kp3 (w.heap.size + 2) V (V.putObj l o') := fun V l o o' hl _ _ _ j hj1 hj2 => World.putObj_heap_other (by omega)
          apply wpIn_rangeFunc_ownF (Kp := Kp3 (w.heap.size + 2)) (α := Fin (8 * s)) (encs := fun x : Fin (8 * s) => #[.int .i64 ((x.val : Nat) : Int)]) rfl (by omega) (gf := 43) (lb := #[.pointer (some ⟨(w.heap.size + 2), 0, none⟩), .pointer (some ⟨(w.heap.size + 2) + 1, 0, none⟩), .pointer (some ⟨(w.heap.size + 2) + 2, 0, none⟩)]) rfl trivial (enters_of Try.func43 (by kernel_rfl) rfl)
            (places_stops (m + 3) l hl (8 * s) k (w.heap.size + 2) (by omega) (by omega) (by omega) W1 H1.out.2.2.2) hKt hKb (Below.refl _ _) (fun _ => rfl)
            (fun pre V => (∀ p ∈ pre, Bl.has f p.val = true) ∧ Boxed V w.heap.size 50 (.slice (some ⟨b, o, none⟩) (s + 1) c) ∧ Boxed V (w.heap.size + 1) 4 (.bool false) ∧ Below w.heap.size w V)
            (fun cd pre V => cd = .ret ∧ (∃ p ∈ pre, Bl.has f p.val = false) ∧ Boxed V (w.heap.size + 1) 4 (.bool false) ∧ Below w.heap.size w V)
            (fun pre V V' row hs hg hr => ⟨hs.1, boxed_from hs.2.1 hg hr, boxed_from hs.2.2.1 hg hr, below_from hs.2.2.2 hg (by omega) hr hs.2.2.2.size⟩)
            (fun cd pre V V' row hs hg hr => ⟨hs.1, hs.2.1, boxed_from hs.2.2.1 hg hr, below_from hs.2.2.2 hg (by omega) hr hs.2.2.2.size⟩)
            ⟨(fun p hp => by cases hp), H1.out.1, H1.out.2.1, H1.out.2.2.1⟩
          · intro l x V K hK
            have HK := Lib.hid hK
            clear hK
            gi_wp2
            exact HK.out
          · rintro l' pre x V ⟨hall, hbf, hbr, hbw⟩ hlen
            have hxl := x.isLt
            have c0 := hbf.cell
            have c1 := hbr.cell
            have c2 := hbr.frozen
            have hx0 : (0 : Int) ≤ ((x.val : Nat) : Int) := by omega
            have hq : x.val / 8 < s := by omega
            obtain ⟨b', o', hql, hb', hce⟩ := hS.byte (k := x.val / 8) (by omega)
            cases hb'
            have c3 := (hbw.cell (World.block_lt_of_cell? w _ hce)).trans hce
            have hy := f[x.val / 8].toNat_lt
            have hhas : Bl.has f x.val = (f[x.val / 8].toNat).testBit (x.val % 8) := by
              unfold Bl.has
              rw [List.getD_eq_getElem?_getD, List.getElem?_eq_getElem hql]; rfl
            generalize f[x.val / 8].toNat = y at c3 hy hhas
            have HH := Lib.hid (And.intro hall (And.intro hbf (And.intro hbr (And.intro hbw hhas))))
            clear hall hbf hbr hbw hhas hce
            gi_wp2
            · rename_i hcond
              have hfalse : Bl.has f x.val = false := by
                rw [HH.out.2.2.2.2]
                exact (bit_no y (x.val % 8) hy).1 hcond
              exact ⟨KeepsOthers.setCell _ _ _, rfl, ⟨x, by simp, hfalse⟩, HH.out.2.2.1.set _, HH.out.2.2.2.1.setCell (p := ⟨w.heap.size + 1, 0, none⟩) (Nat.le_succ _) _⟩
            · rename_i hcond
              have htrue : Bl.has f x.val = true := by
                rw [HH.out.2.2.2.2]
                cases ht : y.testBit (x.val % 8) with
                | true => rfl
                | false => exact absurd ((bit_no y (x.val % 8) hy).2 ht) (by simpa using hcond)
              refine ⟨KeepsOthers.refl _, fun _ _ _ => rfl, fun p hp => ?_, HH.out.2.1, HH.out.2.2.1, HH.out.2.2.2.1⟩
              rcases List.mem_append.1 hp with hp | hp
              · exact HH.out.1 p hp
              · rw [List.mem_singleton] at hp
                subst hp; exact htrue
          · rintro D xs V hD hxs ⟨hall, hbf, hbr, hbw⟩ hK
            have hans : Bl.may f l = true := by
              rw [HM.out.1, if_neg (by omega), List.all_eq_true]
              intro p hp
              rw [← hxs] at hp
              obtain ⟨z, hz, rfl⟩ := List.mem_map.1 hp
              exact hall z hz
            have c1 := hbr.cell
            have c2 := hbr.frozen
            have HH := Lib.hid (And.intro hbr (And.intro hbw (And.intro hK hans)))
            clear hall hbf hbr hbw hK hans hxs
            gi_wp2
            have hK' := (KeepsOthers.setCell V ⟨w.heap.size + 1, 0, none⟩ (.bool true)).same D _ HH.out.2.2.1 rfl
            refine ⟨by simp, .inl ⟨_, _, rfl, run_takeDeferred hK', ?_⟩⟩
            have hc5 := cell_kept (HH.out.1.set (.bool true)).cell (grownBy_putObj' _ D (.deferred none)) (fun r e => by cases e; exact ⟨_, hK', rfl⟩)
            have hb5 := HH.out.2.1.setCell (p := ⟨w.heap.size + 1, 0, none⟩) (Nat.le_succ _) (.bool true)
            exact ⟨.bool true, by simp [results, Try.f27, go_sem, hc5], by rw [HH.out.2.2.2], hb5.grown (grownBy_putObj' _ D (.deferred none)) hb5.size (fun r e => by cases e; omega)⟩
          · rintro D cd pre V hD hpre ⟨rfl, hex, hbr, hbw⟩ hK
            have hans : Bl.may f l = false := by
              rw [HM.out.1, if_neg (by omega), Bool.eq_false_iff]
              intro hc2
              rw [List.all_eq_true] at hc2
              obtain ⟨z, hz, hz2⟩ := hex
              rw [hc2 _ (hpre.subset (List.mem_map.2 ⟨z, hz, rfl⟩))] at hz2
              cases hz2
            have HH := Lib.hid (And.intro hbr (And.intro hbw (And.intro hK hans)))
            clear hex hbr hbw hK hans hpre
            gi_wp2
            refine ⟨by simp, .inl ⟨_, _, rfl, run_takeDeferred HH.out.2.2.1, ?_⟩⟩
            have hc5 := cell_kept HH.out.1.cell (grownBy_putObj' _ D (.deferred none)) (fun r e => by cases e; exact ⟨_, HH.out.2.2.1, rfl⟩)
            have hb5 := HH.out.2.1
            exact ⟨.bool false, by simp [results, Try.f27, go_sem, hc5], by rw [HH.out.2.2.2], hb5.grown (grownBy_putObj' _ D (.deferred none)) hb5.size (fun r e => by cases e; omega)⟩
end Go.Proofs.Ytnbomifnbhijbaa
