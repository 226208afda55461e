/-
  The reference of the log: Open.
-/
import Derived.Test.YtadkgfhfjagmpaaGreatDoorGWr
import Derived.Test.YtadkgfhfjagmpaaGreatDoorWrE
import Derived.Test.YtadkgfhfjagmpaaGreatDoorGWb
import Derived.Test.YtadkgfhfjagmpaaGreatDoorGFf
import Derived.Lib.ConvBytes
import Derived.Deep.CutBlock
namespace Go.Proofs.YtadkgfhfjagmpaaGreatDoor
open Go.RowKit Go.Maps Num Crc
set_option linter.unusedVariables false

/-- The payloads of a segment, and of all from a number on. -/
def paysF (n : Int) (fs : List Fm) : List (List UInt8) := (scan (oldL (fname n) fs).data).1
def psF (f : Int) (fs : List Fm) (ns : List Int) : List (List UInt8) := ns.flatMap fun n => if f ≤ n then paysF n fs else []
theorem psF_snoc (f : Int) (fs : List Fm) (ns : List Int) (n : Int) : psF f fs (ns ++ [n]) = psF f fs ns ++ (if f ≤ n then paysF n fs else []) := by simp [psF]
theorem psF_gs {gs : List Gm} {fs : List Fm} (h : gs.map Gm.f = fs) (f : Int) (ns : List Int) : psF f fs ns = psO f gs ns := by
  unfold psF psO paysF paysOf dataL
  simp only [oldL_gs h]

/-- A text as bytes: a new row. -/
theorem bytes_new (V : World) (l : List UInt8) : (convert 9 28 (.string (str l))).run Tryz.prog V = .ok (.slice (some ⟨V.heap.size, 0, none⟩) l.length (grownCap V (str l).size 0 5)) (Lib.bytesWorld V 5 (str l)) := by
  have h := Lib.run_convert_string_bytes (P := Tryz.prog) V 9 28 5 (str l) Tryz.underlying9 Tryz.underlying28 Tryz.underlying5
  rw [h]
  rw [str_size]
theorem bytes_sl (V : World) (l : List UInt8) : Sl (Lib.bytesWorld V 5 (str l)) (some ⟨V.heap.size, 0, none⟩) l.length (bv l) := by
  refine ⟨by simp [bv], fun _ => ⟨V.heap.size, 0, rfl, fun j u hu => ?_⟩⟩
  have hj : j < l.length := by
    have := (List.getElem?_eq_some_iff.1 hu).1
    simpa [bv] using this
  have h1 := Lib.bytesWorld_cell V 5 (str l) j (by rw [str_size]; exact hj)
  rw [Nat.zero_add, h1]
  rw [bv_get hj] at hu
  rw [← Option.some.inj hu]
  simp [str, List.getD, hj]
theorem bytes_below (V : World) (l : List UInt8) : Below V.heap.size V (Lib.bytesWorld V 5 (str l)) := by
  refine ⟨rfl, rfl, rfl, ?_, fun k hk => Lib.bytesWorld_at_old V _ _ k hk⟩
  rw [Lib.bytesWorld_size]; omega

theorem ret_log3 {fn : Func} {p u v : Tmp} (h : fn.results = #[.cell p 42, .tmp u, .tmp v]) {R : Ending → World → Prop} {a : Act} {w : World} {g : Nat} {u0 u1 : Value} {x y : Value} (hd : a.defers = [])
    (hp : a.tmps.getD p undef = .pointer (some ⟨g, 0, none⟩)) (hu : a.tmps.getD u undef = x) (hv : a.tmps.getD v undef = y) (hg : Blk w g #[u0, u1] 42)
    (hR : R (.returned (.tuple #[.agg #[u0, u1], x, y])) w) : bodyPost Tryz.prog fn R .ret a w := by
  refine bodyPost_ret ?_ hd hR
  have h1 : ∀ b, (asAddr (.pointer (some ⟨b, 0, none⟩))).run Tryz.prog w = .ok ⟨b, 0, none⟩ w := fun b => by simp [asAddr]
  have h3 := run_loadVar_row (P := Tryz.prog) w g 42 42 _ _ _ hg Tryz.underlying42 rfl (by kernel_rfl)
  simp only [results, h]
  simp [Sem.run_bind, Result.andThen] at hp hu hv ⊢
  simp [hp, hu, hv, h1, h3]

/-- What the reference's Open answers. -/
def ROpen (w : World) (sg : Int) (ps : List (List UInt8)) (code : Int) (e : Ending) (w' : World) : Prop :=
  ∃ A c vs, e = .returned (.tuple #[.agg #[.int .i64 sg, .bool false], .slice A ps.length c, .int .i64 code]) ∧ w'.ownsRow w.heap.size 28 1 (.slice A ps.length c) ps.length vs ∧ Each w' w.heap.size vs ps ∧ Below w.heap.size w w'

/-- The three boxes: the drive, the answered log, the log. -/
structure Bo (w V : World) (A : Option Addr) (n c : Nat) (st : Int) (ar : Bool) (lf : Int) (sg : Int) : Prop where
  d : Blk V w.heap.size (dcs A n c st ar lf) 35
  r : Blk V (w.heap.size + 1) (lcs 0 false) 42
  l : Blk V (w.heap.size + 1 + 1) (lcs sg false) 42
  bel : Below w.heap.size w V
  big : w.heap.size + 3 ≤ V.heap.size
theorem Bo.below {w V V' : World} {A : Option Addr} {n c : Nat} {st lf sg : Int} {ar : Bool} (h : Bo w V A n c st ar lf sg) (hb : Below V.heap.size V V') : Bo w V' A n c st ar lf sg :=
  ⟨h.d.keep (hb.block _ h.d.lt), h.r.keep (hb.block _ h.r.lt), h.l.keep (hb.block _ h.l.lt), h.bel.trans (hb.mono h.bel.size), Nat.le_trans h.big hb.size⟩
theorem Bo.grown {w V V' : World} {A : Option Addr} {n c : Nat} {st lf sg : Int} {ar : Bool} {blk : Option Nat} (h : Bo w V A n c st ar lf sg) (hg : V.grownBy V' blk) (hb : ∀ k, blk = some k → w.heap.size + 3 ≤ k) : Bo w V' A n c st ar lf sg := by
  have hk : ∀ k, k < w.heap.size + 3 → V'.heap[k]? = V.heap[k]? := fun k h1 => hg.block k (by have := h.big; omega) (fun e => by have := hb k e.symm; omega)
  exact ⟨h.d.keep (hk _ (by omega)), h.r.keep (hk _ (by omega)), h.l.keep (hk _ (by omega)), h.bel.grown hg (by have := h.big; omega) (fun k e => by have := hb k e; omega), Nat.le_trans h.big hg.size⟩
theorem Bo.setl {w V : World} {A : Option Addr} {n c : Nat} {st lf sg : Int} {ar : Bool} (h : Bo w V A n c st ar lf sg) (s : Int) : Bo w (V.setCell ⟨w.heap.size + 1 + 1, 0, none⟩ (.int .i64 s)) A n c st ar lf s := by
  have hk : ∀ k, k ≠ w.heap.size + 1 + 1 → (V.setCell ⟨w.heap.size + 1 + 1, 0, none⟩ (.int .i64 s)).heap[k]? = V.heap[k]? := fun k h2 => setCell_other _ _ _ h2
  exact ⟨h.d.keep (hk _ (by omega)), h.r.keep (hk _ (by omega)), h.l.set 0 _, h.bel.setCell (p := ⟨_, 0, none⟩) (by simp only; omega) _, by rw [setCell_size]; exact h.big⟩
theorem Bo.start (w : World) (A : Option Addr) (n c : Nat) (st : Int) (ar : Bool) (lf f : Int) : Bo w (((w.alloc (dobj (dcs A n c st ar lf))).alloc (lobj (lcs 0 false))).alloc (lobj (lcs f false))) A n c st ar lf f := by
  have b1 := Blk.new w (dcs A n c st ar lf) 35
  have b2 := Blk.new (w.alloc (dobj (dcs A n c st ar lf))) (lcs 0 false) 42
  have b3 := Blk.new ((w.alloc (dobj (dcs A n c st ar lf))).alloc (lobj (lcs 0 false))) (lcs f false) 42
  simp only [World.size_alloc] at b2 b3
  refine ⟨(b1.keep (Below.heap_alloc _ _ _ (by simp))).keep (Below.heap_alloc _ _ _ (by simp <;> omega)), b2.keep (Below.heap_alloc _ _ _ (by simp)), b3, ?_, by simp only [World.size_alloc]; omega⟩
  exact (((Below.refl _ w).alloc (Nat.le_refl _) _).alloc (by simp) _).alloc (by simp <;> omega) _

theorem paysF_len {fs : List Fm} (h : ∀ f ∈ fs, f.data.length ≤ 262144) (n : Int) : (paysF n fs).length ≤ 262144 := by
  refine Nat.le_trans (scan_len _) ?_
  unfold oldL
  cases hq : findK Fm.name (fname n) fs with
  | none => simp [emptyF]
  | some g => exact h g (find_some hq).1
end Go.Proofs.YtadkgfhfjagmpaaGreatDoor
