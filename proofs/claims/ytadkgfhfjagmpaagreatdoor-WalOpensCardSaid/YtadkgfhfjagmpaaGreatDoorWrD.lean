/-
  The reference of the log: Roll.
-/
import Derived.Test.YtadkgfhfjagmpaaGreatDoorWrC
namespace Go.Proofs.YtadkgfhfjagmpaaGreatDoor
open Go.RowKit Go.Maps
set_option linter.unusedVariables false

theorem wpList_min3 {P : Program} (w : World) {ops : Array Oper} {rest : List Oper} {o : Oper} {a : Act} {Q : Exit → Act → World → Prop} (hgd : o.guard = none) (s x : Operand) (t : TypeId)
    (ho : o.op = .call { callee := .builtin .min, args := #[s, x], argTypes := #[t, t] }) (p q r : Int) (hs : a.eval s = .int .i64 p) (hx : a.eval x = .int .i64 q) (hr : (if q < p then q else p) = r)
    (h : wpList P ops Q rest (a.put o.dst (.int .i64 r)) w) : wpList P ops Q (o :: rest) a w := by
  refine wpList_plain hgd fun K hK => ?_
  unfold Oper.wp execOp
  subst hr
  simp only [ho, resolve, invoke, builtin, Sem.run_bind, Sem.run_pure, Result.andThen_ok, List.map_toArray, List.map_cons, List.map_nil, hs, hx, Builtin.min_, Builtin.min2, List.foldlM]
  exact hK _ _ h
/-- Both boxes stored anew. -/
theorem Bx4.setB {w V : World} {A A' : Option Addr} {c c' : Nat} {x : Ws} (h : Bx4 w V A c x) (y : Ws) :
    Bx4 w ((((((V.setCell ⟨w.heap.size, 0, none⟩ (.slice A' y.fs.length c')).setCell ⟨w.heap.size, 1, none⟩ (.int .i64 y.st)).setCell ⟨w.heap.size, 2, none⟩ (.bool y.ar)).setCell ⟨w.heap.size, 3, none⟩ (.int .i64 y.lf)).setCell ⟨w.heap.size + 1, 0, none⟩ (.int .i64 y.seg)).setCell ⟨w.heap.size + 1, 1, none⟩ (.bool y.dd)) A' c' y ∧
    (∀ k, k ≠ w.heap.size → k ≠ w.heap.size + 1 → ((((((V.setCell ⟨w.heap.size, 0, none⟩ (.slice A' y.fs.length c')).setCell ⟨w.heap.size, 1, none⟩ (.int .i64 y.st)).setCell ⟨w.heap.size, 2, none⟩ (.bool y.ar)).setCell ⟨w.heap.size, 3, none⟩ (.int .i64 y.lf)).setCell ⟨w.heap.size + 1, 0, none⟩ (.int .i64 y.seg)).setCell ⟨w.heap.size + 1, 1, none⟩ (.bool y.dd)).heap[k]? = V.heap[k]?) := by
  obtain ⟨h1, hk1⟩ := h.setD (A' := A') (c' := c') { y with seg := x.seg, dd := x.dd } rfl rfl
  generalize ((((V.setCell ⟨w.heap.size, 0, none⟩ (.slice A' y.fs.length c')).setCell ⟨w.heap.size, 1, none⟩ (.int .i64 y.st)).setCell ⟨w.heap.size, 2, none⟩ (.bool y.ar)).setCell ⟨w.heap.size, 3, none⟩ (.int .i64 y.lf)) = W at h1 hk1 ⊢
  have hk : ∀ k, k ≠ w.heap.size + 1 → ((W.setCell ⟨w.heap.size + 1, 0, none⟩ (.int .i64 y.seg)).setCell ⟨w.heap.size + 1, 1, none⟩ (.bool y.dd)).heap[k]? = W.heap[k]? := fun k h2 => (setCell_other _ _ _ h2).trans (setCell_other _ _ _ h2)
  refine ⟨⟨h1.d.keep (hk _ (by omega)), (h1.l.set 0 _).set 1 _, h1.rd.keep (hk _ (by omega)), h1.rl.keep (hk _ (by omega)), (h1.bel.setCell (p := ⟨_, 0, none⟩) (by simp only; omega) _).setCell (p := ⟨_, 1, none⟩) (by simp only; omega) _, by simp only [setCell_size]; exact h1.big⟩, fun k a b => (hk k b).trans (hk1 k a)⟩
/-- The log's number stored anew. -/
theorem Bx4.setS {w V : World} {A : Option Addr} {c : Nat} {x : Ws} (h : Bx4 w V A c x) (s : Int) :
    Bx4 w (V.setCell ⟨w.heap.size + 1, 0, none⟩ (.int .i64 s)) A c { x with seg := s } ∧ (∀ k, k ≠ w.heap.size + 1 → (V.setCell ⟨w.heap.size + 1, 0, none⟩ (.int .i64 s)).heap[k]? = V.heap[k]?) := by
  have hk : ∀ k, k ≠ w.heap.size + 1 → (V.setCell ⟨w.heap.size + 1, 0, none⟩ (.int .i64 s)).heap[k]? = V.heap[k]? := fun k h2 => setCell_other _ _ _ h2
  refine ⟨⟨h.d.keep (hk _ (by omega)), h.l.set 0 _, h.rd.keep (hk _ (by omega)), h.rl.keep (hk _ (by omega)), h.bel.setCell (p := ⟨_, 0, none⟩) (by simp only; omega) _, by simp only [setCell_size]; exact h.big⟩, hk⟩
theorem syncX_bnd {x : Ws} (h : Wx x) : Wx (syncX x).1 ∧ (syncX x).1.seg = x.seg ∧ ((syncX x).2 = 0 ∨ (syncX x).2 = 6) := by
  unfold syncX
  split
  · exact ⟨h, rfl, .inr rfl⟩
  · split
    · exact ⟨h, rfl, .inl rfl⟩
    · rename_i f hf
      split
      · exact ⟨h, rfl, .inl rfl⟩
      · split
        · exact ⟨⟨h.few, h.vn, h.sy, h.seg1⟩, rfl, .inr rfl⟩
        · have hin := (find_some hf).1
          refine ⟨⟨?_, fun y hy => ?_, fun y hy => ?_, h.seg1⟩, rfl, .inl rfl⟩
          · exact Nat.le_trans (length_with_old (key := Fm.name) _ _ ⟨f, hin, rfl⟩) h.few
          · rcases mem_with hy with rfl | hy
            · exact h.vn f hin
            · exact h.vn y hy
          · rcases mem_with hy with rfl | hy
            · exact ⟨Nat.le_refl _, (h.sy f hin).2⟩
            · exact h.sy y hy
/-- The reference's answer of Roll. -/
def RR (w : World) (lo : Nat) (y : Ws) (n code : Int) (e : Ending) (w' : World) : Prop :=
  ∃ A c, e = .returned (.tuple #[xdr A c y, xlg y, .int .i64 n, .int .i64 code]) ∧ w'.ownsRow lo 108 3 (.slice A y.fs.length c) y.fs.length (fcs y.fs) ∧ Below w.heap.size w w'
theorem ret_dl4 {fn : Func} {p q u v : Tmp} (h : fn.results = #[.cell p 35, .cell q 42, .tmp u, .tmp v]) {R : Ending → World → Prop} {a : Act} {w : World} {g l : Nat} {v0 v1 v2 v3 u0 u1 : Value} {x y : Value} (hd : a.defers = [])
    (hp : a.tmps.getD p undef = .pointer (some ⟨g, 0, none⟩)) (hq : a.tmps.getD q undef = .pointer (some ⟨l, 0, none⟩)) (hu : a.tmps.getD u undef = x) (hv : a.tmps.getD v undef = y) (hg : Blk w g #[v0, v1, v2, v3] 35) (hl : Blk w l #[u0, u1] 42)
    (hR : R (.returned (.tuple #[.agg #[v0, v1, v2, v3], .agg #[u0, u1], x, y])) w) : bodyPost Tryz.prog fn R .ret a w := by
  refine bodyPost_ret ?_ hd hR
  have h1 : ∀ b, (asAddr (.pointer (some ⟨b, 0, none⟩))).run Tryz.prog w = .ok ⟨b, 0, none⟩ w := fun b => by simp [asAddr]
  have h2 := run_loadVar_row (P := Tryz.prog) w g 35 35 _ _ _ hg Tryz.underlying35 rfl (by kernel_rfl)
  have h3 := run_loadVar_row (P := Tryz.prog) w l 42 42 _ _ _ hl Tryz.underlying42 rfl (by kernel_rfl)
  simp only [results, h]
  simp [Sem.run_bind, Result.andThen] at hp hq hu hv ⊢
  simp [hp, hq, hu, hv, h1, h2, h3]
theorem end_dl4 {w V : World} {lo : Nat} {A0 A : Option Addr} {c0 c : Nat} {x y : Ws} (hB : Bx4 w V A0 c0 x) (hown : V.ownsRow lo 108 3 (.slice A y.fs.length c) y.fs.length (fcs y.fs)) {n code : Int}
    {fn : Func} {p q u v : Tmp} (h : fn.results = #[.cell p 35, .cell q 42, .tmp u, .tmp v]) {a : Act} (hdf : a.defers = []) (hp : a.tmps.getD p undef = .pointer (some ⟨w.heap.size + 1 + 1, 0, none⟩)) (hq : a.tmps.getD q undef = .pointer (some ⟨w.heap.size + 1 + 1 + 1, 0, none⟩)) (hu : a.tmps.getD u undef = .int .i64 n) (hv : a.tmps.getD v undef = .int .i64 code) :
    bodyPost Tryz.prog fn (RR w lo y n code) .ret a ((((((V.setCell ⟨w.heap.size + 1 + 1, 0, none⟩ (.slice A y.fs.length c)).setCell ⟨w.heap.size + 1 + 1, 1, none⟩ (.int .i64 y.st)).setCell ⟨w.heap.size + 1 + 1, 2, none⟩ (.bool y.ar)).setCell ⟨w.heap.size + 1 + 1, 3, none⟩ (.int .i64 y.lf)).setCell ⟨w.heap.size + 1 + 1 + 1, 0, none⟩ (.int .i64 y.seg)).setCell ⟨w.heap.size + 1 + 1 + 1, 1, none⟩ (.bool y.dd)).drew := by
  obtain ⟨q1, q2, q3, q4⟩ := hB.fill (.slice A y.fs.length c) (.int .i64 y.st) (.bool y.ar) (.int .i64 y.lf) (.int .i64 y.seg) (.bool y.dd)
  generalize (((((V.setCell ⟨w.heap.size + 1 + 1, 0, none⟩ (.slice A y.fs.length c)).setCell ⟨w.heap.size + 1 + 1, 1, none⟩ (.int .i64 y.st)).setCell ⟨w.heap.size + 1 + 1, 2, none⟩ (.bool y.ar)).setCell ⟨w.heap.size + 1 + 1, 3, none⟩ (.int .i64 y.lf)).setCell ⟨w.heap.size + 1 + 1 + 1, 0, none⟩ (.int .i64 y.seg)).setCell ⟨w.heap.size + 1 + 1 + 1, 1, none⟩ (.bool y.dd) = W at q1 q2 q3 q4 ⊢
  have ho : W.ownsRow lo 108 3 (.slice A y.fs.length c) y.fs.length (fcs y.fs) := own3_keep hown fun k hk => q4 k (row_ne hown hB.rd (by decide) k hk) (row_ne hown hB.rl (by decide) k hk)
  exact ret_dl4 h hdf hp hq hu hv (show Blk W.drew _ _ _ from q1) (show Blk W.drew _ _ _ from q2) ⟨A, c, rfl, ho, q3.drew⟩
set_option maxRecDepth 40000 in
set_option maxHeartbeats 8000000 in
theorem rlroll_any (x : Ws) (hx : Wx x) (hs2 : x.seg ≤ 1000000) (A : Option Addr) (c : Nat) (w : World) (lo : Nat) (hown : w.ownsRow lo 108 3 (.slice A x.fs.length c) x.fs.length (fcs x.fs)) (hlo : lo ≤ w.heap.size) :
    Calls Tryz.prog 73 #[xdr A c x, xlg x] w (RR w lo (rollX x).1 (rollX x).2.1 (rollX x).2.2) := by
  have HB0 := Lib.hid (Bx4.start w A c x)
  have HX := Lib.hid hx
  have HO := Lib.hid hown
  obtain ⟨h1, h2, h3⟩ := syncX_bnd hx
  have hs1 := hx.seg1
  have hsy := rlsync_any x hx A c (w4 w A c x) lo (own3_below HO.out (HB0.out.bel.mono (Nat.le_refl _))) (Nat.le_trans hlo HB0.out.bel.size)
  have hro : rollX x = if (syncX x).2 = 0 then ({ (syncX x).1 with seg := min (syncX x).1.seg 999999 + 1 }, min (syncX x).1.seg 999999 + 1, 0) else ((syncX x).1, 0, (syncX x).2) := rfl
  rw [hro]
  clear hro
  generalize hyq : (syncX x).1 = y at *
  generalize hcq : (syncX x).2 = cd at *
  obtain ⟨fs, st, ar, lf, seg, dd⟩ := y
  simp only at h2
  subst h2
  obtain ⟨M, hM⟩ : ∃ M, M = min x.seg 999999 := ⟨_, rfl⟩
  rw [← hM]
  have hMn : (if (999999 : Int) < x.seg then 999999 else x.seg) = M := by omega
  have HMn := Lib.hid hMn
  have hM2 : 1 ≤ M ∧ M ≤ 999999 := by omega
  obtain ⟨hM3, hM4⟩ := hM2
  clear hM hMn
  have HSY := Lib.hid hsy
  clear hsy hyq hcq hx hown h1
  rcases h3 with rfl | rfl
  · rw [if_pos rfl]
    have d0 := HB0.out.d.cell (k := 0) rfl
    have d1 := HB0.out.d.cell (k := 1) rfl
    have d2 := HB0.out.d.cell (k := 2) rfl
    have d3 := HB0.out.d.cell (k := 3) rfl
    have l0 := HB0.out.l.cell (k := 0) rfl
    have l1 := HB0.out.l.cell (k := 1) rfl
    have r0 := HB0.out.rd.cell (k := 0) rfl
    have r1 := HB0.out.rd.cell (k := 1) rfl
    have r2 := HB0.out.rd.cell (k := 2) rfl
    have r3 := HB0.out.rd.cell (k := 3) rfl
    have s0 := HB0.out.rl.cell (k := 0) rfl
    have s1 := HB0.out.rl.cell (k := 1) rfl
    have f0 := HB0.out.rd.frozen 0
    have f1 := HB0.out.rd.frozen 1
    have f2 := HB0.out.rd.frozen 2
    have f3 := HB0.out.rd.frozen 3
    have g0 := HB0.out.rl.frozen 0
    have g1 := HB0.out.rl.frozen 1
    have e0 := HB0.out.d.frozen 0
    have e1 := HB0.out.d.frozen 1
    have e2 := HB0.out.d.frozen 2
    have e3 := HB0.out.d.frozen 3
    have h0 := HB0.out.l.frozen 0
    have h1 := HB0.out.l.frozen 1
    go_enter Tryz.func73, Tryz.ntmps73
    generalize hU : w4 w A c x = U at *
    go_wp2_with fail
    refine HSY.out.mono ?_
    rintro r w5 ⟨A5, c5, rfl, ho5, hb5⟩
    have HB3 := Lib.hid (HB0.out.below hb5)
    have HO5 := Lib.hid ho5
    clear d0 d1 d2 d3 l0 l1 r0 r1 r2 r3 s0 s1 f0 f1 f2 f3 g0 g1 e0 e1 e2 e3 h0 h1 ho5 hb5
    have d0 := HB3.out.d.cell (k := 0) rfl
    have d1 := HB3.out.d.cell (k := 1) rfl
    have d2 := HB3.out.d.cell (k := 2) rfl
    have d3 := HB3.out.d.cell (k := 3) rfl
    have l0 := HB3.out.l.cell (k := 0) rfl
    have l1 := HB3.out.l.cell (k := 1) rfl
    have r0 := HB3.out.rd.cell (k := 0) rfl
    have r1 := HB3.out.rd.cell (k := 1) rfl
    have r2 := HB3.out.rd.cell (k := 2) rfl
    have r3 := HB3.out.rd.cell (k := 3) rfl
    have s0 := HB3.out.rl.cell (k := 0) rfl
    have s1 := HB3.out.rl.cell (k := 1) rfl
    have f0 := HB3.out.rd.frozen 0
    have f1 := HB3.out.rd.frozen 1
    have f2 := HB3.out.rd.frozen 2
    have f3 := HB3.out.rd.frozen 3
    have g0 := HB3.out.rl.frozen 0
    have g1 := HB3.out.rl.frozen 1
    have e0 := HB3.out.d.frozen 0
    have e1 := HB3.out.d.frozen 1
    have e2 := HB3.out.d.frozen 2
    have e3 := HB3.out.d.frozen 3
    have h0 := HB3.out.l.frozen 0
    have h1 := HB3.out.l.frozen 1
    obtain ⟨hB7, hk7⟩ := HB3.out.setB (A' := A5) (c' := c5) ⟨fs, st, ar, lf, x.seg, dd⟩
    have ho7 := own3_keep HO5.out fun k hk => hk7 k (row_ne HO5.out HB3.out.d (by decide) k hk) (row_ne HO5.out HB3.out.l (by decide) k hk)
    have HB7 := Lib.hid (And.intro hB7 ho7)
    clear hB7 hk7 ho7
    go_wp2_with (refine wpList_min3 _ rfl (.tmp 22) (.const (.int .i64 999999)) 3 rfl x.seg 999999 M rfl rfl HMn.out ?_)
    obtain ⟨hB8, hk8⟩ := HB7.out.1.setS (M + 1)
    have ho8 := own3_keep HB7.out.2 fun k hk => hk8 k (row_ne HB7.out.2 HB7.out.1.l (by decide) k hk)
    have HB8 := Lib.hid (And.intro hB8 ho8)
    clear hB8 hk8 ho8 d0 d1 d2 d3 l0 l1 r0 r1 r2 r3 s0 s1 f0 f1 f2 f3 g0 g1 e0 e1 e2 e3 h0 h1
    generalize ((((((w5.setCell ⟨w.heap.size, 0, none⟩ (.slice A5 fs.length c5)).setCell ⟨w.heap.size, 1, none⟩ (.int .i64 st)).setCell ⟨w.heap.size, 2, none⟩ (.bool ar)).setCell ⟨w.heap.size, 3, none⟩ (.int .i64 lf)).setCell ⟨w.heap.size + 1, 0, none⟩ (.int .i64 x.seg)).setCell ⟨w.heap.size + 1, 1, none⟩ (.bool dd)).setCell ⟨w.heap.size + 1, 0, none⟩ (.int .i64 (M + 1)) = V8 at HB8 ⊢
    have d0 := HB8.out.1.d.cell (k := 0) rfl
    have d1 := HB8.out.1.d.cell (k := 1) rfl
    have d2 := HB8.out.1.d.cell (k := 2) rfl
    have d3 := HB8.out.1.d.cell (k := 3) rfl
    have l0 := HB8.out.1.l.cell (k := 0) rfl
    have l1 := HB8.out.1.l.cell (k := 1) rfl
    have r0 := HB8.out.1.rd.cell (k := 0) rfl
    have r1 := HB8.out.1.rd.cell (k := 1) rfl
    have r2 := HB8.out.1.rd.cell (k := 2) rfl
    have r3 := HB8.out.1.rd.cell (k := 3) rfl
    have s0 := HB8.out.1.rl.cell (k := 0) rfl
    have s1 := HB8.out.1.rl.cell (k := 1) rfl
    have f0 := HB8.out.1.rd.frozen 0
    have f1 := HB8.out.1.rd.frozen 1
    have f2 := HB8.out.1.rd.frozen 2
    have f3 := HB8.out.1.rd.frozen 3
    have g0 := HB8.out.1.rl.frozen 0
    have g1 := HB8.out.1.rl.frozen 1
    have e0 := HB8.out.1.d.frozen 0
    have e1 := HB8.out.1.d.frozen 1
    have e2 := HB8.out.1.d.frozen 2
    have e3 := HB8.out.1.d.frozen 3
    have h0 := HB8.out.1.l.frozen 0
    have h1 := HB8.out.1.l.frozen 1
    go_region_with (fail)
    all_goals
      go_wp2_with fail
      exact end_dl4 (y := ⟨fs, st, ar, lf, M + 1, dd⟩) HB8.out.1 HB8.out.2 rfl rfl rfl rfl rfl rfl
  · rw [if_neg (by decide)]
    have d0 := HB0.out.d.cell (k := 0) rfl
    have d1 := HB0.out.d.cell (k := 1) rfl
    have d2 := HB0.out.d.cell (k := 2) rfl
    have d3 := HB0.out.d.cell (k := 3) rfl
    have l0 := HB0.out.l.cell (k := 0) rfl
    have l1 := HB0.out.l.cell (k := 1) rfl
    have r0 := HB0.out.rd.cell (k := 0) rfl
    have r1 := HB0.out.rd.cell (k := 1) rfl
    have r2 := HB0.out.rd.cell (k := 2) rfl
    have r3 := HB0.out.rd.cell (k := 3) rfl
    have s0 := HB0.out.rl.cell (k := 0) rfl
    have s1 := HB0.out.rl.cell (k := 1) rfl
    have f0 := HB0.out.rd.frozen 0
    have f1 := HB0.out.rd.frozen 1
    have f2 := HB0.out.rd.frozen 2
    have f3 := HB0.out.rd.frozen 3
    have g0 := HB0.out.rl.frozen 0
    have g1 := HB0.out.rl.frozen 1
    have e0 := HB0.out.d.frozen 0
    have e1 := HB0.out.d.frozen 1
    have e2 := HB0.out.d.frozen 2
    have e3 := HB0.out.d.frozen 3
    have h0 := HB0.out.l.frozen 0
    have h1 := HB0.out.l.frozen 1
    go_enter Tryz.func73, Tryz.ntmps73
    generalize hU : w4 w A c x = U at *
    go_wp2_with fail
    refine HSY.out.mono ?_
    rintro r w5 ⟨A5, c5, rfl, ho5, hb5⟩
    have HB3 := Lib.hid (HB0.out.below hb5)
    have HO5 := Lib.hid ho5
    clear d0 d1 d2 d3 l0 l1 r0 r1 r2 r3 s0 s1 f0 f1 f2 f3 g0 g1 e0 e1 e2 e3 h0 h1 ho5 hb5
    have d0 := HB3.out.d.cell (k := 0) rfl
    have d1 := HB3.out.d.cell (k := 1) rfl
    have d2 := HB3.out.d.cell (k := 2) rfl
    have d3 := HB3.out.d.cell (k := 3) rfl
    have l0 := HB3.out.l.cell (k := 0) rfl
    have l1 := HB3.out.l.cell (k := 1) rfl
    have r0 := HB3.out.rd.cell (k := 0) rfl
    have r1 := HB3.out.rd.cell (k := 1) rfl
    have r2 := HB3.out.rd.cell (k := 2) rfl
    have r3 := HB3.out.rd.cell (k := 3) rfl
    have s0 := HB3.out.rl.cell (k := 0) rfl
    have s1 := HB3.out.rl.cell (k := 1) rfl
    have f0 := HB3.out.rd.frozen 0
    have f1 := HB3.out.rd.frozen 1
    have f2 := HB3.out.rd.frozen 2
    have f3 := HB3.out.rd.frozen 3
    have g0 := HB3.out.rl.frozen 0
    have g1 := HB3.out.rl.frozen 1
    have e0 := HB3.out.d.frozen 0
    have e1 := HB3.out.d.frozen 1
    have e2 := HB3.out.d.frozen 2
    have e3 := HB3.out.d.frozen 3
    have h0 := HB3.out.l.frozen 0
    have h1 := HB3.out.l.frozen 1
    obtain ⟨hB7, hk7⟩ := HB3.out.setB (A' := A5) (c' := c5) ⟨fs, st, ar, lf, x.seg, dd⟩
    have ho7 := own3_keep HO5.out fun k hk => hk7 k (row_ne HO5.out HB3.out.d (by decide) k hk) (row_ne HO5.out HB3.out.l (by decide) k hk)
    have HB7 := Lib.hid (And.intro hB7 ho7)
    clear hB7 hk7 ho7
    go_wp2_with fail
    clear d0 d1 d2 d3 l0 l1 r0 r1 r2 r3 s0 s1 f0 f1 f2 f3 g0 g1 e0 e1 e2 e3 h0 h1
    generalize ((((((w5.setCell ⟨w.heap.size, 0, none⟩ (.slice A5 fs.length c5)).setCell ⟨w.heap.size, 1, none⟩ (.int .i64 st)).setCell ⟨w.heap.size, 2, none⟩ (.bool ar)).setCell ⟨w.heap.size, 3, none⟩ (.int .i64 lf)).setCell ⟨w.heap.size + 1, 0, none⟩ (.int .i64 x.seg)).setCell ⟨w.heap.size + 1, 1, none⟩ (.bool dd)) = V8 at HB7 ⊢
    have d0 := HB7.out.1.d.cell (k := 0) rfl
    have d1 := HB7.out.1.d.cell (k := 1) rfl
    have d2 := HB7.out.1.d.cell (k := 2) rfl
    have d3 := HB7.out.1.d.cell (k := 3) rfl
    have l0 := HB7.out.1.l.cell (k := 0) rfl
    have l1 := HB7.out.1.l.cell (k := 1) rfl
    have r0 := HB7.out.1.rd.cell (k := 0) rfl
    have r1 := HB7.out.1.rd.cell (k := 1) rfl
    have r2 := HB7.out.1.rd.cell (k := 2) rfl
    have r3 := HB7.out.1.rd.cell (k := 3) rfl
    have s0 := HB7.out.1.rl.cell (k := 0) rfl
    have s1 := HB7.out.1.rl.cell (k := 1) rfl
    have f0 := HB7.out.1.rd.frozen 0
    have f1 := HB7.out.1.rd.frozen 1
    have f2 := HB7.out.1.rd.frozen 2
    have f3 := HB7.out.1.rd.frozen 3
    have g0 := HB7.out.1.rl.frozen 0
    have g1 := HB7.out.1.rl.frozen 1
    have e0 := HB7.out.1.d.frozen 0
    have e1 := HB7.out.1.d.frozen 1
    have e2 := HB7.out.1.d.frozen 2
    have e3 := HB7.out.1.d.frozen 3
    have h0 := HB7.out.1.l.frozen 0
    have h1 := HB7.out.1.l.frozen 1
    go_region_with (fail)
    all_goals
      go_wp2_with fail
      exact end_dl4 (y := ⟨fs, st, ar, lf, x.seg, dd⟩) HB7.out.1 HB7.out.2 rfl rfl rfl rfl rfl rfl
end Go.Proofs.YtadkgfhfjagmpaaGreatDoor
