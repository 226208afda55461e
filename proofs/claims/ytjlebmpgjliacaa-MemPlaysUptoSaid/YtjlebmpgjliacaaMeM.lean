/-
  The traversal of a table from a key on: From, and what it hands back.
-/
import Derived.Test.YtjlebmpgjliacaaMeL
import Derived.RangeFuncNested
import Derived.RangeFuncBound
import Derived.RangeFuncCalls
import Derived.RangeFuncLeaves
import Derived.RangeFuncBox
import Derived.Shelf.Abstract
import Derived.Shelf.RegionOpen
import Derived.Deep.RegionHeldLaw
import Derived.OwnWalkIn
import Derived.TacticsInMore
import Derived.LoopNIn
import Derived.LoopIn
import Derived.Sort.QuietIn
namespace Go.Proofs.Ytjlebmpgjliacaa
open Go.RowKit Go.Shelf
set_option linter.unusedVariables false

theorem alM {w V : World} (h : Below w.heap.size w V) (o : Obj) : Below w.heap.size w (V.alloc o) := h.alloc h.size o
theorem set1 {W : World} {b : Nat} {u : Value} {t : TypeId} (h : Blk W b #[u] t) (v : Value) : Blk (W.setCell ⟨b, 0, none⟩ v) b #[v] t := h.set 0 v
theorem set_o {W : World} {b b' k : Nat} {cs : Array Value} {t : TypeId} {v : Value} (h : Blk W b cs t) (hne : b ≠ b') : Blk (W.setCell ⟨b', k, none⟩ v) b cs t := h.keep (heap_setCell_other W ⟨b', k, none⟩ b v hne)
theorem al_o {W : World} {b : Nat} {cs : Array Value} {t : TypeId} (h : Blk W b cs t) (o : Obj) : Blk (W.alloc o) b cs t := h.keep (Below.heap_alloc W o _ h.lt)
theorem bl1 (V : World) (cs : Array Value) (t : TypeId) : (V.alloc (.cells cs t)).heap[V.heap.size]? = some (.cells cs t (0, 0)) := heap_alloc_new V _
theorem bl2 (V : World) (cs : Array Value) (t : TypeId) (o : Obj) : ((V.alloc (.cells cs t)).alloc o).heap[V.heap.size]? = some (.cells cs t (0, 0)) := (Below.heap_alloc _ _ _ (by simp)).trans (heap_alloc_new V _)
theorem bl3 (V : World) (o : Obj) (cs : Array Value) (t : TypeId) : ((V.alloc o).alloc (.cells cs t)).heap[V.heap.size + 1]? = some (.cells cs t (0, 0)) := by
  have := heap_alloc_new (V.alloc o) (.cells cs t)
  rwa [World.size_alloc] at this
theorem stM {w V : World} (h : Below w.heap.size w V) {b : Nat} (hb : w.heap.size ≤ b) (k : Nat) (u : Value) : Below w.heap.size w (V.setCell ⟨b, k, none⟩ u) := h.setCell (p := ⟨b, k, none⟩) hb u
set_option maxRecDepth 20000 in
set_option maxHeartbeats 2000000 in
theorem from_any {w : World} {tb : Nat} {N : List Nd} {cnt byt : Int} (h : Tb w tb N cnt byt) (hT : Tall N) {key : List UInt8} {p : Nat} (hs : Split N key 4611686018427387904 p) :
    Calls Try.prog 9 #[.pointer (some ⟨tb, 0, none⟩), .string (str key)] w fun e w' => ∃ B1 B2, e = .returned (.func (.func 18) #[] #[.pointer (some ⟨B1, 0, none⟩), .pointer (some ⟨B2, 0, none⟩)]) ∧
      Blk w' B1 #[pnt N[p]?] 45 ∧ Blk w' B2 #[.int .i64 cnt] 3 ∧ w.heap.size ≤ B1 ∧ w.heap.size ≤ B2 ∧ Below w.heap.size w w' := by
  have HF : Hid (∀ V, Below w.heap.size w V → Calls Try.prog 17 #[.pointer (some ⟨tb, 0, none⟩), .string (str key), .int .i64 4611686018427387904] V fun e w' => e = .returned (pnt N[p]?) ∧ Below V.heap.size V w') := fun V hV => first_any (h.below hV (Nat.le_refl _)) hT hs
  have kc : ∀ V, Below w.heap.size w V → V.cell? ⟨tb, 17, none⟩ = some (.int .i64 cnt) := fun V hV => (h.below hV (Nat.le_refl _)).cnt_.1
  obtain ⟨ad, had⟩ : ∃ ad, pnt N[p]? = .pointer ad := by cases N[p]? <;> exact ⟨_, rfl⟩
  rw [had] at HF ⊢
  clear had
  have hb0 : Below w.heap.size w w := Below.refl _ w
  clear h hT hs
  go_enter Try.func9, Try.ntmps9
  go_wp2_with fail
  go_region_held (fun V => Below w.heap.size w V) (first | assumption | exact Below.drew (by assumption) | exact alM (by assumption) _ | exact alM (alM (by assumption) _) _ | exact stM (by assumption) (by omega) _ _ | exact alM (stM (by assumption) (by omega) _ _) _ | exact stM (alM (by assumption) _) (by omega) _ _ | exact stM (stM (by assumption) (by omega) _ _) (by omega) _ _) (first
    | (go_at_call 17; refine (HF.out _ (by first | assumption | exact Below.drew (by assumption) | exact alM (Below.drew (by assumption)) _ | exact alM (alM (Below.drew (by assumption)) _) _)).mono ?_; rintro e w1 ⟨rfl, hb1'⟩
       have hb1 : Below w.heap.size w w1 := Below.trans (by first | assumption | exact Below.drew (by assumption) | exact alM (Below.drew (by assumption)) _ | exact alM (alM (Below.drew (by assumption)) _) _) (hb1'.mono (by simp <;> omega))
       have hs1 := hb1.size
       try have x5 := (show Blk w1 w.heap.size _ _ from (hb1'.block w.heap.size (by simp <;> omega)).trans (bl1 w.drew _ _))
       try have x6 := (show Blk w1 (w.heap.size + 1) _ _ from (hb1'.block (w.heap.size + 1) (by simp <;> omega)).trans (bl3 w.drew _ _ _))
       try have x5 := (show Blk w1 w.heap.size _ _ from (hb1'.block w.heap.size (by simp <;> omega)).trans (bl2 w.drew _ _ _))
       try have y5 : w1.cell? ⟨w.heap.size, 0, none⟩ = some (.pointer none) := x5.cell (k := 0) rfl
       try have y5 : w1.cell? ⟨w.heap.size, 0, none⟩ = some (.int .i64 0) := x5.cell (k := 0) rfl
       try have z5 := x5.frozen 0
       try have y6 : w1.cell? ⟨w.heap.size + 1, 0, none⟩ = some (.pointer none) := x6.cell (k := 0) rfl
       try have y6 : w1.cell? ⟨w.heap.size + 1, 0, none⟩ = some (.int .i64 0) := x6.cell (k := 0) rfl
       try have z6 := x6.frozen 0
       try have y5a : ∀ o : Obj, (w1.alloc o).cell? ⟨w.heap.size, 0, none⟩ = some (.pointer none) := fun o => (x5.keep (Below.heap_alloc w1 o _ x5.lt)).cell (k := 0) rfl
       try have y5a : ∀ o : Obj, (w1.alloc o).cell? ⟨w.heap.size, 0, none⟩ = some (.int .i64 0) := fun o => (x5.keep (Below.heap_alloc w1 o _ x5.lt)).cell (k := 0) rfl
       try have z5a : ∀ o : Obj, (w1.alloc o).frozen? ⟨w.heap.size, 0, none⟩ = false := fun o => (x5.keep (Below.heap_alloc w1 o _ x5.lt)).frozen 0
       try have q5 : ∀ u : Value, ((w1.alloc (.cells #[.int .i64 0] 3)).setCell ⟨w.heap.size, 0, none⟩ u).cell? ⟨w1.heap.size, 0, none⟩ = some (.int .i64 0) := fun u => ((Blk.new w1 #[.int .i64 0] 3).keep (heap_setCell_other _ ⟨w.heap.size, 0, none⟩ _ u (Nat.ne_of_gt x5.lt))).cell (k := 0) rfl
       try have q6 : ∀ u : Value, ((w1.alloc (.cells #[.int .i64 0] 3)).setCell ⟨w.heap.size, 0, none⟩ u).frozen? ⟨w1.heap.size, 0, none⟩ = false := fun u => ((Blk.new w1 #[.int .i64 0] 3).keep (heap_setCell_other _ ⟨w.heap.size, 0, none⟩ _ u (Nat.ne_of_gt x5.lt))).frozen 0
       try have r5 : ∀ u : Value, (w1.setCell ⟨w.heap.size, 0, none⟩ u).cell? ⟨w.heap.size + 1, 0, none⟩ = some (.int .i64 0) := fun u => (x6.keep (heap_setCell_other _ ⟨w.heap.size, 0, none⟩ _ u (by simp))).cell (k := 0) rfl
       try have r6 : ∀ u : Value, (w1.setCell ⟨w.heap.size, 0, none⟩ u).frozen? ⟨w.heap.size + 1, 0, none⟩ = false := fun u => (x6.keep (heap_setCell_other _ ⟨w.heap.size, 0, none⟩ _ u (by simp))).frozen 0
       try have r7 : ∀ u : Value, (w1.setCell ⟨w.heap.size + 1, 0, none⟩ u).cell? ⟨w.heap.size, 0, none⟩ = some (.int .i64 0) := fun u => (x5.keep (heap_setCell_other _ ⟨w.heap.size + 1, 0, none⟩ _ u (by simp))).cell (k := 0) rfl
       try have r8 : ∀ u : Value, (w1.setCell ⟨w.heap.size + 1, 0, none⟩ u).frozen? ⟨w.heap.size, 0, none⟩ = false := fun u => (x5.keep (heap_setCell_other _ ⟨w.heap.size + 1, 0, none⟩ _ u (by simp))).frozen 0
       clear hb1'))
  · go_wp2_with fail
    go_ret
    exact ⟨w1.heap.size, w1.heap.size + 1, rfl, al_o (Blk.new w1 _ _) _, (by have := Blk.new (w1.alloc (.cells #[.pointer ad] 45)) #[.int .i64 cnt] 3; rwa [World.size_alloc] at this), hs1, by omega, alM (alM hb1 _) _⟩
  · go_wp2_with fail
    go_ret
    exact ⟨w1.heap.size + 1, w1.heap.size, rfl, (by have := Blk.new (w1.alloc (.cells #[.int .i64 cnt] 3)) #[.pointer ad] 45; rwa [World.size_alloc] at this), al_o (Blk.new w1 _ _) _, by omega, hs1, alM (alM hb1 _) _⟩
  · have hlt := x5.lt
    have hsz : (w1.setCell ⟨w.heap.size, 0, none⟩ (.pointer ad)).heap.size = w1.heap.size := by simp
    go_wp2_with fail
    go_ret
    exact ⟨w.heap.size, w1.heap.size, rfl, al_o (set1 x5 _) _, (by have := Blk.new (w1.setCell ⟨w.heap.size, 0, none⟩ (.pointer ad)) #[.int .i64 cnt] 3; rwa [hsz] at this), Nat.le_refl _, hs1, alM (stM hb1 (Nat.le_refl _) _ _) _⟩
  · go_wp2_with fail
    go_ret
    exact ⟨w.heap.size, w.heap.size + 1, rfl, set_o (set1 x5 _) (by simp), set1 (set_o x6 (by simp)) _, Nat.le_refl _, Nat.le_succ _, stM (stM hb1 (Nat.le_refl _) _ _) (Nat.le_succ _) _ _⟩
  · have hlt := x5.lt
    have hsz : (w1.setCell ⟨w.heap.size, 0, none⟩ (.int .i64 cnt)).heap.size = w1.heap.size := by simp
    go_wp2_with fail
    go_ret
    exact ⟨w1.heap.size, w.heap.size, rfl, (by have := Blk.new (w1.setCell ⟨w.heap.size, 0, none⟩ (.int .i64 cnt)) #[.pointer ad] 45; rwa [hsz] at this), al_o (set1 x5 _) _, hs1, Nat.le_refl _, alM (stM hb1 (Nat.le_refl _) _ _) _⟩
  · go_wp2_with fail
    go_ret
    exact ⟨w.heap.size + 1, w.heap.size, rfl, set_o (set1 x6 _) (by simp), set1 (set_o x5 (by simp)) _, Nat.le_succ _, Nat.le_refl _, stM (stM hb1 (Nat.le_succ _) _ _) (Nat.le_refl _) _ _⟩
end Go.Proofs.Ytjlebmpgjliacaa
