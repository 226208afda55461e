/-
  The reference of the log: Sync.
-/
import Derived.Test.YtadkgfhfjagmpaaGreatDoorGWr
import Derived.Test.YtadkgfhfjagmpaaGreatDoorReF
namespace Go.Proofs.YtadkgfhfjagmpaaGreatDoor
open Go.RowKit Go.Maps
set_option linter.unusedVariables false

abbrev zlcs : Array Value := #[.int .i64 0, .bool false]
abbrev xdr (A : Option Addr) (c : Nat) (x : Ws) : Value := .agg #[.slice A x.fs.length c, .int .i64 x.st, .bool x.ar, .int .i64 x.lf]
abbrev xlg (x : Ws) : Value := .agg #[.int .i64 x.seg, .bool x.dd]
/-- What is known of a drive with a log, in plain lists. -/
structure Wx (x : Ws) : Prop where
  few : x.fs.length ≤ 256
  vn : ∀ f ∈ x.fs, vname f.name = true
  sy : ∀ f ∈ x.fs, f.syn ≤ f.data.length ∧ f.data.length ≤ 262144
  seg1 : 1 ≤ x.seg
theorem Wx.ne {x : Ws} (h : Wx x) : ∀ f ∈ x.fs, f.name ≠ [] := fun f hf e => by
  have := h.vn f hf
  rw [e] at this
  revert this; decide
/-- The reference's answer: a drive, a log, a code; nothing older is written. -/
def RL (w : World) (lo : Nat) (y : Ws) (code : Int) (e : Ending) (w' : World) : Prop :=
  ∃ A c, e = .returned (.tuple #[xdr A c y, xlg y, .int .i64 code]) ∧ w'.ownsRow lo 108 3 (.slice A y.fs.length c) y.fs.length (fcs y.fs) ∧ Below w.heap.size w w'
theorem ret_dl {fn : Func} {p q u : Tmp} (h : fn.results = #[.cell p 35, .cell q 42, .tmp u]) {R : Ending → World → Prop} {a : Act} {w : World} {g l : Nat} {v0 v1 v2 v3 u0 u1 : Value} {x : Value} (hd : a.defers = [])
    (hp : a.tmps.getD p undef = .pointer (some ⟨g, 0, none⟩)) (hq : a.tmps.getD q undef = .pointer (some ⟨l, 0, none⟩)) (hu : a.tmps.getD u undef = x) (hg : Blk w g #[v0, v1, v2, v3] 35) (hl : Blk w l #[u0, u1] 42)
    (hR : R (.returned (.tuple #[.agg #[v0, v1, v2, v3], .agg #[u0, u1], x])) w) : bodyPost Tryz.prog fn R .ret a w := by
  refine bodyPost_ret ?_ hd hR
  have h1 : ∀ b, (asAddr (.pointer (some ⟨b, 0, none⟩))).run Tryz.prog w = .ok ⟨b, 0, none⟩ w := fun b => by simp [asAddr]
  have h2 := run_loadVar_row (P := Tryz.prog) w g 35 35 _ _ _ hg Tryz.underlying35 rfl (by kernel_rfl)
  have h3 := run_loadVar_row (P := Tryz.prog) w l 42 42 _ _ _ hl Tryz.underlying42 rfl (by kernel_rfl)
  simp only [results, h]
  simp [Sem.run_bind, Result.andThen] at hp hq hu ⊢
  simp [hp, hq, hu, h1, h2, h3]
/-- The boxes of a call on a drive and a log, and those of the two to be answered. -/
structure Bx4 (w V : World) (A : Option Addr) (c : Nat) (x : Ws) : Prop where
  d : Blk V w.heap.size (dcs A x.fs.length c x.st x.ar x.lf) 35
  l : Blk V (w.heap.size + 1) (lcs x.seg x.dd) 42
  rd : Blk V (w.heap.size + 1 + 1) zcs 35
  rl : Blk V (w.heap.size + 1 + 1 + 1) zlcs 42
  bel : Below w.heap.size w V
  big : w.heap.size + 4 ≤ V.heap.size
abbrev w4 (w : World) (A : Option Addr) (c : Nat) (x : Ws) : World := (((w.alloc (dobj (dcs A x.fs.length c x.st x.ar x.lf))).alloc (lobj (lcs x.seg x.dd))).alloc (dobj zcs)).alloc (lobj zlcs)
theorem Bx4.start (w : World) (A : Option Addr) (c : Nat) (x : Ws) : Bx4 w (w4 w A c x) A c x := by
  have b1 := Blk.new w (dcs A x.fs.length c x.st x.ar x.lf) 35
  have b2 := Blk.new (w.alloc (dobj (dcs A x.fs.length c x.st x.ar x.lf))) (lcs x.seg x.dd) 42
  have b3 := Blk.new ((w.alloc (dobj (dcs A x.fs.length c x.st x.ar x.lf))).alloc (lobj (lcs x.seg x.dd))) zcs 35
  have b4 := Blk.new (((w.alloc (dobj (dcs A x.fs.length c x.st x.ar x.lf))).alloc (lobj (lcs x.seg x.dd))).alloc (dobj zcs)) zlcs 42
  simp only [World.size_alloc] at b2 b3 b4
  refine ⟨((b1.keep (Below.heap_alloc _ _ _ (by simp))).keep (Below.heap_alloc _ _ _ (by simp <;> omega))).keep (Below.heap_alloc _ _ _ (by simp <;> omega)), (b2.keep (Below.heap_alloc _ _ _ (by simp))).keep (Below.heap_alloc _ _ _ (by simp <;> omega)), b3.keep (Below.heap_alloc _ _ _ (by simp)), b4, ?_, by simp <;> omega⟩
  exact ((((Below.refl _ w).alloc (Nat.le_refl _) _).alloc (by simp) _).alloc (by simp <;> omega) _).alloc (by simp <;> omega) _
theorem Bx4.below {w V V' : World} {A : Option Addr} {c : Nat} {x : Ws} (h : Bx4 w V A c x) (hb : Below V.heap.size V V') : Bx4 w V' A c x :=
  ⟨h.d.keep (hb.block _ h.d.lt), h.l.keep (hb.block _ h.l.lt), h.rd.keep (hb.block _ h.rd.lt), h.rl.keep (hb.block _ h.rl.lt), h.bel.trans (hb.mono h.bel.size), Nat.le_trans h.big hb.size⟩
/-- The answer's boxes filled. -/
theorem Bx4.fill {w V : World} {A : Option Addr} {c : Nat} {x : Ws} (h : Bx4 w V A c x) (v0 v1 v2 v3 u0 u1 : Value) :
    Blk ((((((V.setCell ⟨w.heap.size + 1 + 1, 0, none⟩ v0).setCell ⟨w.heap.size + 1 + 1, 1, none⟩ v1).setCell ⟨w.heap.size + 1 + 1, 2, none⟩ v2).setCell ⟨w.heap.size + 1 + 1, 3, none⟩ v3).setCell ⟨w.heap.size + 1 + 1 + 1, 0, none⟩ u0).setCell ⟨w.heap.size + 1 + 1 + 1, 1, none⟩ u1) (w.heap.size + 1 + 1) #[v0, v1, v2, v3] 35 ∧
    Blk ((((((V.setCell ⟨w.heap.size + 1 + 1, 0, none⟩ v0).setCell ⟨w.heap.size + 1 + 1, 1, none⟩ v1).setCell ⟨w.heap.size + 1 + 1, 2, none⟩ v2).setCell ⟨w.heap.size + 1 + 1, 3, none⟩ v3).setCell ⟨w.heap.size + 1 + 1 + 1, 0, none⟩ u0).setCell ⟨w.heap.size + 1 + 1 + 1, 1, none⟩ u1) (w.heap.size + 1 + 1 + 1) #[u0, u1] 42 ∧
    Below w.heap.size w ((((((V.setCell ⟨w.heap.size + 1 + 1, 0, none⟩ v0).setCell ⟨w.heap.size + 1 + 1, 1, none⟩ v1).setCell ⟨w.heap.size + 1 + 1, 2, none⟩ v2).setCell ⟨w.heap.size + 1 + 1, 3, none⟩ v3).setCell ⟨w.heap.size + 1 + 1 + 1, 0, none⟩ u0).setCell ⟨w.heap.size + 1 + 1 + 1, 1, none⟩ u1) ∧
    (∀ k, k ≠ w.heap.size + 1 + 1 → k ≠ w.heap.size + 1 + 1 + 1 → ((((((V.setCell ⟨w.heap.size + 1 + 1, 0, none⟩ v0).setCell ⟨w.heap.size + 1 + 1, 1, none⟩ v1).setCell ⟨w.heap.size + 1 + 1, 2, none⟩ v2).setCell ⟨w.heap.size + 1 + 1, 3, none⟩ v3).setCell ⟨w.heap.size + 1 + 1 + 1, 0, none⟩ u0).setCell ⟨w.heap.size + 1 + 1 + 1, 1, none⟩ u1).heap[k]? = V.heap[k]?) := by
  have hk : ∀ k, k ≠ w.heap.size + 1 + 1 → k ≠ w.heap.size + 1 + 1 + 1 → ((((((V.setCell ⟨w.heap.size + 1 + 1, 0, none⟩ v0).setCell ⟨w.heap.size + 1 + 1, 1, none⟩ v1).setCell ⟨w.heap.size + 1 + 1, 2, none⟩ v2).setCell ⟨w.heap.size + 1 + 1, 3, none⟩ v3).setCell ⟨w.heap.size + 1 + 1 + 1, 0, none⟩ u0).setCell ⟨w.heap.size + 1 + 1 + 1, 1, none⟩ u1).heap[k]? = V.heap[k]? := fun k h1 h2 =>
    (setCell_other _ _ _ h2).trans ((setCell_other _ _ _ h2).trans ((setCell_other _ _ _ h1).trans ((setCell_other _ _ _ h1).trans ((setCell_other _ _ _ h1).trans (setCell_other _ _ _ h1)))))
  have e1 : ∀ (W : World) (k : Nat) (v : Value), (W.setCell ⟨w.heap.size + 1 + 1 + 1, k, none⟩ v).heap[w.heap.size + 1 + 1]? = W.heap[w.heap.size + 1 + 1]? := fun W k v => setCell_other _ _ _ (show w.heap.size + 1 + 1 ≠ w.heap.size + 1 + 1 + 1 by omega)
  have e2 : ∀ (W : World) (k : Nat) (v : Value), (W.setCell ⟨w.heap.size + 1 + 1, k, none⟩ v).heap[w.heap.size + 1 + 1 + 1]? = W.heap[w.heap.size + 1 + 1 + 1]? := fun W k v => setCell_other _ _ _ (show w.heap.size + 1 + 1 + 1 ≠ w.heap.size + 1 + 1 by omega)
  refine ⟨(((((h.rd.set 0 v0).set 1 v1).set 2 v2).set 3 v3).keep (e1 _ _ _)).keep (e1 _ _ _), (((((h.rl.keep (e2 _ _ _)).keep (e2 _ _ _)).keep (e2 _ _ _)).keep (e2 _ _ _)).set 0 u0).set 1 u1, ?_, hk⟩
  refine ((((((h.bel.setCell (p := ⟨_, 0, none⟩) ?_ _).setCell (p := ⟨_, 1, none⟩) ?_ _).setCell (p := ⟨_, 2, none⟩) ?_ _).setCell (p := ⟨_, 3, none⟩) ?_ _).setCell (p := ⟨_, 0, none⟩) ?_ _).setCell (p := ⟨_, 1, none⟩) ?_ _) <;> (simp only; omega)
/-- The drive's box stored anew. -/
theorem Bx4.setD {w V : World} {A A' : Option Addr} {c c' : Nat} {x : Ws} (h : Bx4 w V A c x) (y : Ws) (hs : y.seg = x.seg) (hd : y.dd = x.dd) :
    Bx4 w ((((V.setCell ⟨w.heap.size, 0, none⟩ (.slice A' y.fs.length c')).setCell ⟨w.heap.size, 1, none⟩ (.int .i64 y.st)).setCell ⟨w.heap.size, 2, none⟩ (.bool y.ar)).setCell ⟨w.heap.size, 3, none⟩ (.int .i64 y.lf)) A' c' y ∧
    (∀ k, k ≠ w.heap.size → ((((V.setCell ⟨w.heap.size, 0, none⟩ (.slice A' y.fs.length c')).setCell ⟨w.heap.size, 1, none⟩ (.int .i64 y.st)).setCell ⟨w.heap.size, 2, none⟩ (.bool y.ar)).setCell ⟨w.heap.size, 3, none⟩ (.int .i64 y.lf)).heap[k]? = V.heap[k]?) := by
  have hk : ∀ k, k ≠ w.heap.size → ((((V.setCell ⟨w.heap.size, 0, none⟩ (.slice A' y.fs.length c')).setCell ⟨w.heap.size, 1, none⟩ (.int .i64 y.st)).setCell ⟨w.heap.size, 2, none⟩ (.bool y.ar)).setCell ⟨w.heap.size, 3, none⟩ (.int .i64 y.lf)).heap[k]? = V.heap[k]? := fun k h2 =>
    (setCell_other _ _ _ h2).trans ((setCell_other _ _ _ h2).trans ((setCell_other _ _ _ h2).trans (setCell_other _ _ _ h2)))
  refine ⟨⟨(((h.d.set 0 _).set 1 _).set 2 _).set 3 _, by rw [hs, hd]; exact h.l.keep (hk _ (by omega)), h.rd.keep (hk _ (by omega)), h.rl.keep (hk _ (by omega)), ?_, by simp only [setCell_size]; exact h.big⟩, hk⟩
  exact (((h.bel.setCell (p := ⟨_, 0, none⟩) (Nat.le_refl _) _).setCell (p := ⟨_, 1, none⟩) (Nat.le_refl _) _).setCell (p := ⟨_, 2, none⟩) (Nat.le_refl _) _).setCell (p := ⟨_, 3, none⟩) (Nat.le_refl _) _
/-- The log's mark stored anew. -/
theorem Bx4.setM {w V : World} {A : Option Addr} {c : Nat} {x : Ws} (h : Bx4 w V A c x) (b : Bool) :
    Bx4 w (V.setCell ⟨w.heap.size + 1, 1, none⟩ (.bool b)) A c { x with dd := b } ∧ (∀ k, k ≠ w.heap.size + 1 → (V.setCell ⟨w.heap.size + 1, 1, none⟩ (.bool b)).heap[k]? = V.heap[k]?) := by
  have hk : ∀ k, k ≠ w.heap.size + 1 → (V.setCell ⟨w.heap.size + 1, 1, none⟩ (.bool b)).heap[k]? = V.heap[k]? := fun k h2 => setCell_other _ _ _ h2
  refine ⟨⟨h.d.keep (hk _ (by omega)), h.l.set 1 _, h.rd.keep (hk _ (by omega)), h.rl.keep (hk _ (by omega)), h.bel.setCell (p := ⟨_, 1, none⟩) (by simp only; omega) _, by simp only [setCell_size]; exact h.big⟩, hk⟩
/-- The end of a call on a drive and a log. -/
theorem end_dl {w V : World} {lo : Nat} {A0 A : Option Addr} {c0 c : Nat} {x y : Ws} (hB : Bx4 w V A0 c0 x) (hown : V.ownsRow lo 108 3 (.slice A y.fs.length c) y.fs.length (fcs y.fs)) {code : Int}
    {fn : Func} {p q u : Tmp} (h : fn.results = #[.cell p 35, .cell q 42, .tmp u]) {a : Act} (hdf : a.defers = []) (hp : a.tmps.getD p undef = .pointer (some ⟨w.heap.size + 1 + 1, 0, none⟩)) (hq : a.tmps.getD q undef = .pointer (some ⟨w.heap.size + 1 + 1 + 1, 0, none⟩)) (hu : a.tmps.getD u undef = .int .i64 code) :
    bodyPost Tryz.prog fn (RL w lo y code) .ret a ((((((V.setCell ⟨w.heap.size + 1 + 1, 0, none⟩ (.slice A y.fs.length c)).setCell ⟨w.heap.size + 1 + 1, 1, none⟩ (.int .i64 y.st)).setCell ⟨w.heap.size + 1 + 1, 2, none⟩ (.bool y.ar)).setCell ⟨w.heap.size + 1 + 1, 3, none⟩ (.int .i64 y.lf)).setCell ⟨w.heap.size + 1 + 1 + 1, 0, none⟩ (.int .i64 y.seg)).setCell ⟨w.heap.size + 1 + 1 + 1, 1, none⟩ (.bool y.dd)).drew := by
  obtain ⟨q1, q2, q3, q4⟩ := hB.fill (.slice A y.fs.length c) (.int .i64 y.st) (.bool y.ar) (.int .i64 y.lf) (.int .i64 y.seg) (.bool y.dd)
  generalize (((((V.setCell ⟨w.heap.size + 1 + 1, 0, none⟩ (.slice A y.fs.length c)).setCell ⟨w.heap.size + 1 + 1, 1, none⟩ (.int .i64 y.st)).setCell ⟨w.heap.size + 1 + 1, 2, none⟩ (.bool y.ar)).setCell ⟨w.heap.size + 1 + 1, 3, none⟩ (.int .i64 y.lf)).setCell ⟨w.heap.size + 1 + 1 + 1, 0, none⟩ (.int .i64 y.seg)).setCell ⟨w.heap.size + 1 + 1 + 1, 1, none⟩ (.bool y.dd) = W at q1 q2 q3 q4 ⊢
  have ho : W.ownsRow lo 108 3 (.slice A y.fs.length c) y.fs.length (fcs y.fs) := own3_keep hown fun k hk => q4 k (row_ne hown hB.rd (by decide) k hk) (row_ne hown hB.rl (by decide) k hk)
  exact ret_dl h hdf hp hq hu (show Blk W.drew _ _ _ from q1) (show Blk W.drew _ _ _ from q2) ⟨A, c, rfl, ho, q3.drew⟩
set_option maxRecDepth 40000 in
set_option maxHeartbeats 8000000 in
theorem rlsync_any (x : Ws) (hx : Wx x) (A : Option Addr) (c : Nat) (w : World) (lo : Nat) (hown : w.ownsRow lo 108 3 (.slice A x.fs.length c) x.fs.length (fcs x.fs)) (hlo : lo ≤ w.heap.size) :
    Calls Tryz.prog 120 #[xdr A c x, xlg x] w (RL w lo (syncX x).1 (syncX x).2) := by
  obtain ⟨fs, st, ar, lf, seg, dd⟩ := x
  have hb0 := Bx4.start w A c ⟨fs, st, ar, lf, seg, dd⟩
  have HB0 := Lib.hid hb0
  have HX := Lib.hid hx
  have HO := Lib.hid hown
  have d0 := hb0.d.cell (k := 0) rfl
  have d1 := hb0.d.cell (k := 1) rfl
  have d2 := hb0.d.cell (k := 2) rfl
  have d3 := hb0.d.cell (k := 3) rfl
  have l0 := hb0.l.cell (k := 0) rfl
  have l1 := hb0.l.cell (k := 1) rfl
  have r0 := hb0.rd.cell (k := 0) rfl
  have r1 := hb0.rd.cell (k := 1) rfl
  have r2 := hb0.rd.cell (k := 2) rfl
  have r3 := hb0.rd.cell (k := 3) rfl
  have s0 := hb0.rl.cell (k := 0) rfl
  have s1 := hb0.rl.cell (k := 1) rfl
  have f0 := hb0.rd.frozen 0
  have f1 := hb0.rd.frozen 1
  have f2 := hb0.rd.frozen 2
  have f3 := hb0.rd.frozen 3
  have g0 := hb0.rl.frozen 0
  have g1 := hb0.rl.frozen 1
  have e0 := hb0.d.frozen 0
  have e1 := hb0.d.frozen 1
  have e2 := hb0.d.frozen 2
  have e3 := hb0.d.frozen 3
  have h0 := hb0.l.frozen 0
  have h1 := hb0.l.frozen 1
  clear hb0 hown hx
  cases dd with
  | true =>
    have hsy : syncX ⟨fs, st, ar, lf, seg, true⟩ = (⟨fs, st, ar, lf, seg, true⟩, 6) := rfl
    rw [hsy]
    go_enter Tryz.func120, Tryz.ntmps120
    generalize hU : w4 w A c ⟨fs, st, ar, lf, seg, true⟩ = U at *
    go_wp2_with fail
    go_region_with (fail)
    all_goals
      go_wp2_with fail
      exact end_dl (y := ⟨fs, st, ar, lf, seg, true⟩) HB0.out (own3_below HO.out (HB0.out.bel.mono (Nat.le_refl _))) rfl rfl rfl rfl rfl
  | false =>
    have hfl := file_any A fs.length c fs st ar lf seg false (w4 w A c ⟨fs, st, ar, lf, seg, false⟩) (own_fl (own3_below HO.out (HB0.out.bel.mono (Nat.le_refl _)))) (by have := HX.out.few; simp only at this; omega) HX.out.seg1 HX.out.ne
    have HFL := Lib.hid hfl
    clear hfl
    have hfd : ∃ z, z = findK Fm.name (fname seg) fs := ⟨_, rfl⟩
    obtain ⟨z, hfd⟩ := hfd
    have HFD := Lib.hid hfd
    clear hfd
    cases z with
    | none =>
      have hsy : syncX ⟨fs, st, ar, lf, seg, false⟩ = (⟨fs, st, ar, lf, seg, false⟩, 0) := by simp only [syncX]; rw [← HFD.out]; rfl
      rw [hsy]
      clear hsy
      go_enter Tryz.func120, Tryz.ntmps120
      generalize hU : w4 w A c ⟨fs, st, ar, lf, seg, false⟩ = U at *
      go_wp2_with fail
      refine HFL.out.mono ?_
      unfold fileA
      rw [← HFD.out]
      rintro r w1 ⟨rfl, hb1⟩
      have HB1 := Lib.hid (HB0.out.below hb1)
      clear d0 d1 d2 d3 l0 l1 r0 r1 r2 r3 s0 s1 f0 f1 f2 f3 g0 g1 e0 e1 e2 e3 h0 h1 hb1
      have HB2 := Lib.hid (HB1.out.below (below_alloc1 w1 (fobj zfs)))
      have d0 := HB2.out.d.cell (k := 0) rfl
      have d1 := HB2.out.d.cell (k := 1) rfl
      have d2 := HB2.out.d.cell (k := 2) rfl
      have d3 := HB2.out.d.cell (k := 3) rfl
      have l0 := HB2.out.l.cell (k := 0) rfl
      have l1 := HB2.out.l.cell (k := 1) rfl
      have r0 := HB2.out.rd.cell (k := 0) rfl
      have r1 := HB2.out.rd.cell (k := 1) rfl
      have r2 := HB2.out.rd.cell (k := 2) rfl
      have r3 := HB2.out.rd.cell (k := 3) rfl
      have s0 := HB2.out.rl.cell (k := 0) rfl
      have s1 := HB2.out.rl.cell (k := 1) rfl
      have f0 := HB2.out.rd.frozen 0
      have f1 := HB2.out.rd.frozen 1
      have f2 := HB2.out.rd.frozen 2
      have f3 := HB2.out.rd.frozen 3
      have g0 := HB2.out.rl.frozen 0
      have g1 := HB2.out.rl.frozen 1
      have e0 := HB2.out.d.frozen 0
      have e1 := HB2.out.d.frozen 1
      have e2 := HB2.out.d.frozen 2
      have e3 := HB2.out.d.frozen 3
      have h0 := HB2.out.l.frozen 0
      have h1 := HB2.out.l.frozen 1
      go_wp2_with fail
      go_region_with (fail)
      all_goals
        go_wp2_with fail
        exact end_dl (y := ⟨fs, st, ar, lf, seg, false⟩) HB2.out (own3_below HO.out (HB2.out.bel.mono (Nat.le_refl _))) rfl rfl rfl rfl rfl
    | some g =>
      have hgs := HX.out.sy g (find_some HFD.out.symm).1
      have hgn := (find_some HFD.out.symm).2
      have ksz := str_size g.data
      by_cases hsd : g.data.length = g.syn
      · obtain ⟨gn, gd, gs⟩ := g
        simp only at hsd ksz hgn
        subst hsd
        clear hgs hgn
        have hsy : syncX ⟨fs, st, ar, lf, seg, false⟩ = (⟨fs, st, ar, lf, seg, false⟩, 0) := by simp only [syncX]; rw [← HFD.out]; simp
        rw [hsy]
        clear hsy
        go_enter Tryz.func120, Tryz.ntmps120
        generalize hU : w4 w A c ⟨fs, st, ar, lf, seg, false⟩ = U at *
        go_wp2_with fail
        refine HFL.out.mono ?_
        unfold fileA
        rw [← HFD.out]
        rintro r w1 ⟨rfl, hb1⟩
        have HB1 := Lib.hid (HB0.out.below hb1)
        clear d0 d1 d2 d3 l0 l1 r0 r1 r2 r3 s0 s1 f0 f1 f2 f3 g0 g1 e0 e1 e2 e3 h0 h1 hb1
        have HB2 := Lib.hid (HB1.out.below (below_alloc1 w1 (fobj #[.string (str gn), .string (str gd), .int .i64 gd.length])))
        have hkb := Blk.new w1 #[.string (str gn), .string (str gd), .int .i64 gd.length] 108
        have k0 := hkb.cell (k := 0) rfl
        have k1 := hkb.cell (k := 1) rfl
        have k2 := hkb.cell (k := 2) rfl
        clear hkb
        have d0 := HB2.out.d.cell (k := 0) rfl
        have d1 := HB2.out.d.cell (k := 1) rfl
        have d2 := HB2.out.d.cell (k := 2) rfl
        have d3 := HB2.out.d.cell (k := 3) rfl
        have l0 := HB2.out.l.cell (k := 0) rfl
        have l1 := HB2.out.l.cell (k := 1) rfl
        have r0 := HB2.out.rd.cell (k := 0) rfl
        have r1 := HB2.out.rd.cell (k := 1) rfl
        have r2 := HB2.out.rd.cell (k := 2) rfl
        have r3 := HB2.out.rd.cell (k := 3) rfl
        have s0 := HB2.out.rl.cell (k := 0) rfl
        have s1 := HB2.out.rl.cell (k := 1) rfl
        have f0 := HB2.out.rd.frozen 0
        have f1 := HB2.out.rd.frozen 1
        have f2 := HB2.out.rd.frozen 2
        have f3 := HB2.out.rd.frozen 3
        have g0 := HB2.out.rl.frozen 0
        have g1 := HB2.out.rl.frozen 1
        have e0 := HB2.out.d.frozen 0
        have e1 := HB2.out.d.frozen 1
        have e2 := HB2.out.d.frozen 2
        have e3 := HB2.out.d.frozen 3
        have h0 := HB2.out.l.frozen 0
        have h1 := HB2.out.l.frozen 1
        go_wp2_with fail
        go_region_with (fail)
        all_goals
          go_wp2_with fail
          exact end_dl (y := ⟨fs, st, ar, lf, seg, false⟩) HB2.out (own3_below HO.out (HB2.out.bel.mono (Nat.le_refl _))) rfl rfl rfl rfl rfl
      · have hsdI : ¬ (g.syn : Int) = g.data.length := by omega
        obtain ⟨cd, hcd⟩ : ∃ cd, cd = code1 ar lf := ⟨_, rfl⟩
        have hlk : lookF g.name fs ar lf = cd := by
          unfold lookF
          rw [if_neg (by rw [HX.out.vn g (find_some HFD.out.symm).1]; simp), hgn, ← HFD.out, hcd]
        have hqI : (((g.syn : Nat) : Int) == (((str g.data).size : Nat) : Int)) = false := by rw [ksz]; simpa using hsdI
        have hof : oldFm g.name fs = g := by unfold oldFm; rw [hgn, ← HFD.out]
        have hgl : g.name.length ≤ 140737488355328 := by rw [hgn]; have := fname_len seg; omega
        have hsyP : RL w lo (syncX ⟨fs, st, ar, lf, seg, false⟩).1 (syncX ⟨fs, st, ar, lf, seg, false⟩).2 = if cd = 0 then RL w lo ⟨withK Fm.name ⟨g.name, g.data, g.data.length⟩ fs, wrap64 (st + 1), ar, lf1 ar lf, seg, false⟩ 0 else RL w lo ⟨fs, st, ar, lf, seg, true⟩ 6 := by
          have h0 : ¬ g.data.length - g.syn = 0 := by have := hgs.1; omega
          simp only [syncX]
          rw [← HFD.out, hcd]
          unfold code1
          cases hdd : dead ar lf <;> simp [h0, stepX]
        rw [hsyP]
        clear hsyP
        have hrs := fun (V : World) (ho : V.ownsRow lo 108 3 (.slice A fs.length c) fs.length (fcs fs)) (hl : lo ≤ V.heap.size) => rsync_any A fs.length c fs st ar lf g.name V lo ho rfl hl (by have := HX.out.few; simp only at this; omega) hgl
        simp only [hlk, hof] at hrs
        have HRS := Lib.hid hrs
        have hcd6 : cd = 0 ∨ cd = 6 := by rw [hcd]; unfold code1; split <;> simp
        clear hrs hlk hcd hof hgl hgs hgn hsdI
        go_enter Tryz.func120, Tryz.ntmps120
        generalize hU : w4 w A c ⟨fs, st, ar, lf, seg, false⟩ = U at *
        go_wp2_with fail
        refine HFL.out.mono ?_
        unfold fileA
        rw [← HFD.out]
        rintro r w1 ⟨rfl, hb1⟩
        have HB1 := Lib.hid (HB0.out.below hb1)
        clear d0 d1 d2 d3 l0 l1 r0 r1 r2 r3 s0 s1 f0 f1 f2 f3 g0 g1 e0 e1 e2 e3 h0 h1 hb1
        have HB2 := Lib.hid (HB1.out.below (below_alloc1 w1 (fobj #[.string (str g.name), .string (str g.data), .int .i64 g.syn])))
        have hkb := Blk.new w1 #[.string (str g.name), .string (str g.data), .int .i64 g.syn] 108
        have k0 := hkb.cell (k := 0) rfl
        have k1 := hkb.cell (k := 1) rfl
        have k2 := hkb.cell (k := 2) rfl
        clear hkb ksz
        have d0 := HB2.out.d.cell (k := 0) rfl
        have d1 := HB2.out.d.cell (k := 1) rfl
        have d2 := HB2.out.d.cell (k := 2) rfl
        have d3 := HB2.out.d.cell (k := 3) rfl
        have l0 := HB2.out.l.cell (k := 0) rfl
        have l1 := HB2.out.l.cell (k := 1) rfl
        have r0 := HB2.out.rd.cell (k := 0) rfl
        have r1 := HB2.out.rd.cell (k := 1) rfl
        have r2 := HB2.out.rd.cell (k := 2) rfl
        have r3 := HB2.out.rd.cell (k := 3) rfl
        have s0 := HB2.out.rl.cell (k := 0) rfl
        have s1 := HB2.out.rl.cell (k := 1) rfl
        have f0 := HB2.out.rd.frozen 0
        have f1 := HB2.out.rd.frozen 1
        have f2 := HB2.out.rd.frozen 2
        have f3 := HB2.out.rd.frozen 3
        have g0 := HB2.out.rl.frozen 0
        have g1 := HB2.out.rl.frozen 1
        have e0 := HB2.out.d.frozen 0
        have e1 := HB2.out.d.frozen 1
        have e2 := HB2.out.d.frozen 2
        have e3 := HB2.out.d.frozen 3
        have h0 := HB2.out.l.frozen 0
        have h1 := HB2.out.l.frozen 1
        go_wp2_with fail
        refine (HRS.out _ (own3_below HO.out (HB2.out.bel.mono (Nat.le_refl _))) (Nat.le_trans hlo HB2.out.bel.size)).mono ?_
        rcases hcd6 with rfl | rfl
        · simp only [if_true]
          rintro r w5 ⟨A5, c5, rfl, ho5, hb5⟩
          have HB3 := Lib.hid (HB2.out.below hb5)
          have HO5 := Lib.hid ho5
          clear d0 d1 d2 d3 l0 l1 r0 r1 r2 r3 s0 s1 f0 f1 f2 f3 g0 g1 e0 e1 e2 e3 h0 h1 ho5 hb5 k0 k1 k2
          have d0 := HB3.out.d.cell (k := 0) rfl
          have d1 := HB3.out.d.cell (k := 1) rfl
          have d2 := HB3.out.d.cell (k := 2) rfl
          have d3 := HB3.out.d.cell (k := 3) rfl
          have l0 := HB3.out.l.cell (k := 0) rfl
          have l1 := HB3.out.l.cell (k := 1) rfl
          have r0 := HB3.out.rd.cell (k := 0) rfl
          have r1 := HB3.out.rd.cell (k := 1) rfl
          have r2 := HB3.out.rd.cell (k := 2) rfl
          have r3 := HB3.out.rd.cell (k := 3) rfl
          have s0 := HB3.out.rl.cell (k := 0) rfl
          have s1 := HB3.out.rl.cell (k := 1) rfl
          have f0 := HB3.out.rd.frozen 0
          have f1 := HB3.out.rd.frozen 1
          have f2 := HB3.out.rd.frozen 2
          have f3 := HB3.out.rd.frozen 3
          have g0 := HB3.out.rl.frozen 0
          have g1 := HB3.out.rl.frozen 1
          have e0 := HB3.out.d.frozen 0
          have e1 := HB3.out.d.frozen 1
          have e2 := HB3.out.d.frozen 2
          have e3 := HB3.out.d.frozen 3
          have h0 := HB3.out.l.frozen 0
          have h1 := HB3.out.l.frozen 1
          go_wp2_with fail
          obtain ⟨hB6, hk6⟩ := HB3.out.setD (A' := A5) (c' := c5) ⟨withK Fm.name ⟨g.name, g.data, g.data.length⟩ fs, wrap64 (st + 1), ar, lf1 ar lf, seg, false⟩ rfl rfl
          obtain ⟨hB7, hk7⟩ := hB6.setM false
          have ho7 := own3_keep HO5.out fun k hk => (hk7 k (row_ne HO5.out HB3.out.l (by decide) k hk)).trans (hk6 k (row_ne HO5.out HB3.out.d (by decide) k hk))
          have HB7 := Lib.hid (And.intro hB7 ho7)
          clear hB6 hk6 hB7 hk7 ho7 d0 d1 d2 d3 l0 l1 r0 r1 r2 r3 s0 s1 f0 f1 f2 f3 g0 g1 e0 e1 e2 e3 h0 h1
          generalize (((((w5.setCell ⟨w.heap.size, 0, none⟩ (.slice A5 (withK Fm.name ⟨g.name, g.data, g.data.length⟩ fs).length c5)).setCell ⟨w.heap.size, 1, none⟩ (.int .i64 (wrap64 (st + 1)))).setCell ⟨w.heap.size, 2, none⟩ (.bool ar)).setCell ⟨w.heap.size, 3, none⟩ (.int .i64 (lf1 ar lf))).setCell ⟨w.heap.size + 1, 1, none⟩ (.bool false)) = V7 at HB7 ⊢
          have d0 := HB7.out.1.d.cell (k := 0) rfl
          have d1 := HB7.out.1.d.cell (k := 1) rfl
          have d2 := HB7.out.1.d.cell (k := 2) rfl
          have d3 := HB7.out.1.d.cell (k := 3) rfl
          have l0 := HB7.out.1.l.cell (k := 0) rfl
          have l1 := HB7.out.1.l.cell (k := 1) rfl
          have r0 := HB7.out.1.rd.cell (k := 0) rfl
          have r1 := HB7.out.1.rd.cell (k := 1) rfl
          have r2 := HB7.out.1.rd.cell (k := 2) rfl
          have r3 := HB7.out.1.rd.cell (k := 3) rfl
          have s0 := HB7.out.1.rl.cell (k := 0) rfl
          have s1 := HB7.out.1.rl.cell (k := 1) rfl
          have f0 := HB7.out.1.rd.frozen 0
          have f1 := HB7.out.1.rd.frozen 1
          have f2 := HB7.out.1.rd.frozen 2
          have f3 := HB7.out.1.rd.frozen 3
          have g0 := HB7.out.1.rl.frozen 0
          have g1 := HB7.out.1.rl.frozen 1
          have e0 := HB7.out.1.d.frozen 0
          have e1 := HB7.out.1.d.frozen 1
          have e2 := HB7.out.1.d.frozen 2
          have e3 := HB7.out.1.d.frozen 3
          have h0 := HB7.out.1.l.frozen 0
          have h1 := HB7.out.1.l.frozen 1
          go_region_with (fail)
          all_goals
            go_wp2_with fail
            exact end_dl (y := ⟨withK Fm.name ⟨g.name, g.data, g.data.length⟩ fs, wrap64 (st + 1), ar, lf1 ar lf, seg, false⟩) HB7.out.1 HB7.out.2 rfl rfl rfl rfl rfl
        · simp only [show ¬ ((6 : Int) = 0) by decide, if_false]
          rintro r w5 ⟨A5, c5, rfl, ho5, hb5⟩
          have HB3 := Lib.hid (HB2.out.below hb5)
          have HO5 := Lib.hid ho5
          clear d0 d1 d2 d3 l0 l1 r0 r1 r2 r3 s0 s1 f0 f1 f2 f3 g0 g1 e0 e1 e2 e3 h0 h1 ho5 hb5 k0 k1 k2
          have d0 := HB3.out.d.cell (k := 0) rfl
          have d1 := HB3.out.d.cell (k := 1) rfl
          have d2 := HB3.out.d.cell (k := 2) rfl
          have d3 := HB3.out.d.cell (k := 3) rfl
          have l0 := HB3.out.l.cell (k := 0) rfl
          have l1 := HB3.out.l.cell (k := 1) rfl
          have r0 := HB3.out.rd.cell (k := 0) rfl
          have r1 := HB3.out.rd.cell (k := 1) rfl
          have r2 := HB3.out.rd.cell (k := 2) rfl
          have r3 := HB3.out.rd.cell (k := 3) rfl
          have s0 := HB3.out.rl.cell (k := 0) rfl
          have s1 := HB3.out.rl.cell (k := 1) rfl
          have f0 := HB3.out.rd.frozen 0
          have f1 := HB3.out.rd.frozen 1
          have f2 := HB3.out.rd.frozen 2
          have f3 := HB3.out.rd.frozen 3
          have g0 := HB3.out.rl.frozen 0
          have g1 := HB3.out.rl.frozen 1
          have e0 := HB3.out.d.frozen 0
          have e1 := HB3.out.d.frozen 1
          have e2 := HB3.out.d.frozen 2
          have e3 := HB3.out.d.frozen 3
          have h0 := HB3.out.l.frozen 0
          have h1 := HB3.out.l.frozen 1
          go_wp2_with fail
          obtain ⟨hB6, hk6⟩ := HB3.out.setD (A' := A5) (c' := c5) ⟨fs, st, ar, lf, seg, false⟩ rfl rfl
          obtain ⟨hB7, hk7⟩ := hB6.setM true
          have ho7 := own3_keep HO5.out fun k hk => (hk7 k (row_ne HO5.out HB3.out.l (by decide) k hk)).trans (hk6 k (row_ne HO5.out HB3.out.d (by decide) k hk))
          have HB7 := Lib.hid (And.intro hB7 ho7)
          clear hB6 hk6 hB7 hk7 ho7 d0 d1 d2 d3 l0 l1 r0 r1 r2 r3 s0 s1 f0 f1 f2 f3 g0 g1 e0 e1 e2 e3 h0 h1
          generalize (((((w5.setCell ⟨w.heap.size, 0, none⟩ (.slice A5 fs.length c5)).setCell ⟨w.heap.size, 1, none⟩ (.int .i64 st)).setCell ⟨w.heap.size, 2, none⟩ (.bool ar)).setCell ⟨w.heap.size, 3, none⟩ (.int .i64 lf)).setCell ⟨w.heap.size + 1, 1, none⟩ (.bool true)) = V7 at HB7 ⊢
          have d0 := HB7.out.1.d.cell (k := 0) rfl
          have d1 := HB7.out.1.d.cell (k := 1) rfl
          have d2 := HB7.out.1.d.cell (k := 2) rfl
          have d3 := HB7.out.1.d.cell (k := 3) rfl
          have l0 := HB7.out.1.l.cell (k := 0) rfl
          have l1 := HB7.out.1.l.cell (k := 1) rfl
          have r0 := HB7.out.1.rd.cell (k := 0) rfl
          have r1 := HB7.out.1.rd.cell (k := 1) rfl
          have r2 := HB7.out.1.rd.cell (k := 2) rfl
          have r3 := HB7.out.1.rd.cell (k := 3) rfl
          have s0 := HB7.out.1.rl.cell (k := 0) rfl
          have s1 := HB7.out.1.rl.cell (k := 1) rfl
          have f0 := HB7.out.1.rd.frozen 0
          have f1 := HB7.out.1.rd.frozen 1
          have f2 := HB7.out.1.rd.frozen 2
          have f3 := HB7.out.1.rd.frozen 3
          have g0 := HB7.out.1.rl.frozen 0
          have g1 := HB7.out.1.rl.frozen 1
          have e0 := HB7.out.1.d.frozen 0
          have e1 := HB7.out.1.d.frozen 1
          have e2 := HB7.out.1.d.frozen 2
          have e3 := HB7.out.1.d.frozen 3
          have h0 := HB7.out.1.l.frozen 0
          have h1 := HB7.out.1.l.frozen 1
          go_region_with (fail)
          all_goals
            go_wp2_with fail
            exact end_dl (y := ⟨fs, st, ar, lf, seg, true⟩) HB7.out.1 HB7.out.2 rfl rfl rfl rfl rfl
end Go.Proofs.YtadkgfhfjagmpaaGreatDoor
