/-
  Get; rows of entries; a call of the law's script as it lies in memory.
-/
import Derived.Test.YtjlebmpgjliacaaMeH
import Derived.Laws.ResultCell
namespace Go.Proofs.Ytjlebmpgjliacaa
open Go.RowKit
set_option linter.unusedVariables false

/-! ### Get -/
def getN (N : List Nd) (p : Nat) (key : List UInt8) : En × Bool := match N[p]? with
  | some m => if m.e.key = key then (m.e, true) else (zE, false)
  | none => (zE, false)
theorem ret_entry {fn : Func} {p u : Tmp} (h : fn.results = #[.cell p 30, .tmp u]) {R : Ending → World → Prop} {a : Act} {w : World} {g : Nat} {e : En} {x : Value} (hd : a.defers = [])
    (hp : a.tmps.getD p undef = .pointer (some ⟨g, 0, none⟩)) (hu : a.tmps.getD u undef = x) (hg : Blk w g (ec e).toArray 30)
    (hR : R (.returned (.tuple #[ev e, x])) w) : bodyPost Try.prog fn R .ret a w := by
  refine bodyPost_ret ?_ hd hR
  rw [results_cell_tmp h, hp, hu]
  have h1 : (asAddr (.pointer (some ⟨g, 0, none⟩))).run Try.prog w = .ok ⟨g, 0, none⟩ w := by simp [asAddr]
  rw [h1]
  have h2 := run_loadVar_row (P := Try.prog) w g 30 30 _ _ _ hg Try.underlying30 rfl (by kernel_rfl)
  simp only [Result.andThen_ok, h2]
  rfl
theorem set4 {w0 w : World} {b B : Nat} {e0 : En} {t : TypeId} (h : Blk w b (ec e0).toArray t) (hB : B ≤ b) (hb : Below B w0 w) (e : En) :
    ∃ V, (((w.setCell ⟨b, 0, none⟩ (.string (str e.key))).setCell ⟨b, 1, none⟩ (.int .i64 e.seq)).setCell ⟨b, 2, none⟩ (.bool e.del)).setCell ⟨b, 3, none⟩ (.string (str e.val)) = V ∧ Blk V b (ec e).toArray t ∧ Below B w0 V := by
  refine ⟨_, rfl, ?_, (((hb.setCell hB _).setCell hB _).setCell hB _).setCell hB _⟩
  have h0 := (((h.set 0 (.string (str e.key))).set 1 (.int .i64 e.seq)).set 2 (.bool e.del)).set 3 (.string (str e.val))
  exact h0
set_option maxRecDepth 40000 in
set_option maxHeartbeats 8000000 in
theorem get_any {w : World} {tb : Nat} {N : List Nd} {cnt byt : Int} (h : Tb w tb N cnt byt) (hT : Tall N) {key : List UInt8} {seq : Int} {p : Nat} (hs : Split N key seq p) :
    Calls Try.prog 14 #[.pointer (some ⟨tb, 0, none⟩), .string (str key), .int .i64 seq] w fun r w' => r = .returned (.tuple #[ev (getN N p key).1, .bool (getN N p key).2]) ∧ Below w.heap.size w w' := by
  have hz : Blk (w.alloc (.cells (ec zE).toArray 30)) w.heap.size (ec zE).toArray 30 := Blk.new w _ _
  have hb0 : Below w.heap.size w (w.alloc (.cells (ec zE).toArray 30)) := (Below.refl _ w).alloc (Nat.le_refl _) _
  have hfi := first_any (h.below hb0 (Nat.le_refl _)) hT hs
  have H := Lib.hid h
  have HZ := Lib.hid (And.intro hz hb0)
  have htl : ∀ l : List UInt8, (str l).toList = l := fun l => ByteArray.toList_mk l
  clear h hz hb0
  change Calls _ _ _ (w.alloc (.cells #[.string (str []), .int .i64 0, .bool false, .string (str [])] 30)) _ at hfi
  go_enter Try.func14, Try.ntmps14
  go_wp2_with fail
  refine hfi.mono ?_
  rintro r w1 ⟨rfl, hb1⟩
  have hz1 : Blk w1 w.heap.size (ec zE).toArray 30 := HZ.out.1.keep (hb1.block _ HZ.out.1.lt)
  have hb01 : Below w.heap.size w w1 := HZ.out.2.trans (hb1.mono (by simp))
  have hT1 := H.out.below hb01 (Nat.le_refl _)
  have q0 : w1.cell? ⟨w.heap.size, 0, none⟩ = some (.string (str [])) := hz1.cell rfl
  have q1 : w1.cell? ⟨w.heap.size, 1, none⟩ = some (.int .i64 0) := hz1.cell rfl
  have q2 : w1.cell? ⟨w.heap.size, 2, none⟩ = some (.bool false) := hz1.cell rfl
  have q3 : w1.cell? ⟨w.heap.size, 3, none⟩ = some (.string (str [])) := hz1.cell rfl
  have qf := hz1.frozen
  have HZ1 := Lib.hid (And.intro hz1 hb01)
  clear hfi hz1 hb01 hb1
  have hor : N[p]? = none ∨ ∃ m, N[p]? = some m := by cases N[p]? <;> simp
  rcases hor with hm | ⟨m, hm⟩
  · have hg : getN N p key = (zE, false) := by unfold getN; rw [hm]
    have hm9 : pnt N[p]? = .pointer none := by rw [hm]; rfl
    rw [hm9]
    have HG := Lib.hid hg
    clear htl hm hm9 hg hT1
    go_wp2_with fail
    obtain ⟨V, hV, v1, v2⟩ := set4 HZ1.out.1 (Nat.le_refl _) HZ1.out.2 zE
    refine ret_entry rfl rfl rfl rfl (e := zE) (x := .bool false) (g := w.heap.size) ?_ ?_
    · rw [← hV] at v1; exact v1
    · rw [HG.out]
      refine ⟨rfl, ?_⟩
      rw [← hV] at v2; exact v2
  · have hm9 : pnt N[p]? = .pointer (some ⟨m.blk, 0, none⟩) := by rw [hm]; rfl
    rw [hm9]
    obtain ⟨z0, z1, z2, z3, -⟩ := hT1.key hm
    by_cases hk : m.e.key = key
    · have HG := Lib.hid (show getN N p key = (m.e, true) by unfold getN; rw [hm]; simp [hk])
      have g2 : ((str m.e.key).toList == (str key).toList) = true := by rw [hk]; simp
      have g3 : (str m.e.key).toList = (str key).toList := by rw [hk]
      clear htl hm hm9 hT1 hk
      go_wp2_with fail
      obtain ⟨V, hV, v1, v2⟩ := set4 HZ1.out.1 (Nat.le_refl _) HZ1.out.2 m.e
      refine ret_entry rfl rfl rfl rfl (e := m.e) (x := .bool true) (g := w.heap.size) ?_ ?_
      · rw [← hV] at v1; exact v1
      · rw [HG.out]
        refine ⟨rfl, ?_⟩
        rw [← hV] at v2; exact v2
    · have HG := Lib.hid (show getN N p key = (zE, false) by unfold getN; rw [hm]; simp [hk])
      have g2 : ((str m.e.key).toList == (str key).toList) = false := by rw [htl, htl]; simpa using hk
      have g3 : ¬ (str m.e.key).toList = (str key).toList := by rw [htl, htl]; exact hk
      clear htl hm hm9 hT1 hk
      go_wp2_with fail
      obtain ⟨V, hV, v1, v2⟩ := set4 HZ1.out.1 (Nat.le_refl _) HZ1.out.2 zE
      refine ret_entry rfl rfl rfl rfl (e := zE) (x := .bool false) (g := w.heap.size) ?_ ?_
      · rw [← hV] at v1; exact v1
      · rw [HG.out]
        refine ⟨rfl, ?_⟩
        rw [← hV] at v2; exact v2
end Go.Proofs.Ytjlebmpgjliacaa
