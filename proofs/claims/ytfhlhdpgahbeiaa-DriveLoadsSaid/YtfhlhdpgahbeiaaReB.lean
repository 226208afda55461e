/-
  The reference's drive: step; a file put in, a file taken out.
-/
import Derived.Test.YtfhlhdpgahbeiaaReA
namespace Go.Proofs.Ytfhlhdpgahbeiaa
open Go.RowKit Go.Maps
set_option linter.unusedVariables false

theorem ret_drive {fn : Func} {p : Tmp} (h : fn.results = #[.cell p 26]) {R : Ending → World → Prop} {a : Act} {w : World} {g : Nat} {A : Option Addr} {n c : Nat} {st lf : Int} {ar : Bool} (hd : a.defers = [])
    (hp : a.tmps.getD p undef = .pointer (some ⟨g, 0, none⟩)) (hg : Blk w g #[.slice A n c, .int .i64 st, .bool ar, .int .i64 lf] 26)
    (hR : R (.returned (.agg #[.slice A n c, .int .i64 st, .bool ar, .int .i64 lf])) w) : bodyPost Try.prog fn R .ret a w :=
  bodyPost_ret (results_cell_row h _ _ g _ _ _ _ hp hg Try.underlying26 rfl (by kernel_rfl)) hd hR

set_option maxHeartbeats 4000000 in
theorem rstep_any (A : Option Addr) (n c : Nat) (st : Int) (ar : Bool) (lf : Int) (w : World) :
    Calls Try.prog 50 #[.agg #[.slice A n c, .int .i64 st, .bool ar, .int .i64 lf]] w fun e w' => e = .returned (.agg #[.slice A n c, .int .i64 (wrap64 (st + 1)), .bool ar, .int .i64 (if ar then wrap64 (lf - 1) else lf)]) ∧ Below w.heap.size w w' := by
  cases ar
  · go_enter Try.func50, Try.ntmps50
    go_wp2_with fail
    exact ret_drive rfl rfl rfl (heap_alloc2_new w _ _) ⟨rfl, ((Below.refl _ w).alloc (Nat.le_refl _) _).alloc (by simp) _⟩
  · go_enter Try.func50, Try.ntmps50
    go_wp2_with fail
    exact ret_drive rfl rfl rfl (heap_alloc2_new w _ _) ⟨rfl, ((Below.refl _ w).alloc (Nat.le_refl _) _).alloc (by simp) _⟩

/-! ### append of one file -/
theorem fileInfo : (Try.prog.info? 70).map (fun i => (i.zero, i.size, i.bytes)) = some (some (.agg #[.string ⟨#[]⟩, .string ⟨#[]⟩, .int .i64 0]), 3, 40) := by kernel_rfl
theorem fcs_one (fs : List Fm) : ∀ u ∈ fcs fs, u.oneCell' = true := by
  intro u hu
  obtain ⟨f, _, h⟩ := List.mem_flatMap.1 hu
  simp [fcells] at h
  rcases h with rfl | rfl | rfl <;> rfl
theorem wpList_app3 (w : World) {ops : Array Oper} {rest : List Oper} {o : Oper} {a : Act} {Q : Exit → Act → World → Prop} (hgd : o.guard = none) (s x : Operand)
    (ho : o.op = .call { callee := .builtin .append, args := #[s, x], argTypes := #[24, 24] })
    (base : Nat) (v : Value) (n : Nat) (xs : List Fm) (hnx : xs.length = n) (hs : a.eval s = v) (hown : w.ownsRow base 70 3 v n (fcs xs))
    (b : Nat) (f : Fm) (hx : a.eval x = .slice (some ⟨b, 0, none⟩) 1 1) (hb : Blk w b #[.string (str f.name), .string (str f.data), .int .i64 f.syn] 70)
    (hlen : n ≤ 1000000) (hbase : base ≤ w.heap.size)
    (h : ∀ A' c' w', w'.ownsRow base 70 3 (.slice A' (n + 1) c') (n + 1) (fcs (xs ++ [f])) → w.grownBy w' v.ownBlock →
      wpList Try.prog ops Q rest (a.put o.dst (.slice A' (n + 1) c')) w') :
    wpList Try.prog ops Q (o :: rest) a w := by
  refine wpList_plain hgd fun K hK => ?_
  obtain ⟨i, hi, hz0, hz1, hz2⟩ := info_parts fileInfo
  obtain ⟨v', w', hrun, h2, h3, _, h5⟩ := run_append_own_at (P := Try.prog) w base 24 o.type 70 i _ 3 40 Try.underlying24 hi hz0 hz1 hz2 rfl (by omega) v n (fcs xs) hown ⟨b, 0, none⟩ 1 1 (fcs [f]) rfl
    (fun j u hu => by
      rw [add_plain, Nat.zero_add]
      have : j < 3 := by
        have := (List.getElem?_eq_some_iff.1 hu).1
        simpa [fcs, fcells] using this
      refine hb.cell ?_
      rcases j with _ | _ | _ | j
      · simpa [fcs, fcells] using hu
      · simpa [fcs, fcells] using hu
      · simpa [fcs, fcells] using hu
      · omega) (fcs_one _) (by simp only [maxLen]; omega) (by omega) hbase
  rw [← fcs_app] at h2
  have hform : ∃ A' c', v' = .slice A' (n + 1) c' := by
    rcases h2.2 with ⟨rfl, e⟩ | ⟨g, cap, cur, rfl, _⟩
    · simp at e
    · exact ⟨_, _, rfl⟩
  obtain ⟨A', c', rfl⟩ := hform
  unfold Oper.wp execOp
  simp only [ho, resolve, invoke, builtin, Sem.run_bind, Sem.run_pure, Result.andThen_ok, List.map_toArray, List.map_cons, List.map_nil, hs, hx, hrun]
  exact hK _ _ (h A' c' w' h2 h3)

/-! ### with -/
def WPre (f : Fm) (fs : List Fm) (i : Nat) (put : Bool) (xs : List Fm) : Prop :=
  xs ++ (if put then (fs.drop i).filter (fun z => z.name != f.name) else withK Fm.name f (fs.drop i)) = withK Fm.name f fs
theorem WPre.start (f : Fm) (fs : List Fm) : WPre f fs 0 false [] := by simp [WPre]
theorem drop_at {α : Type} {l : List α} {i : Nat} {x : α} (h : l[i]? = some x) : l.drop i = x :: l.drop (i + 1) := by
  obtain ⟨hl, he⟩ := List.getElem?_eq_some_iff.1 h
  rw [List.drop_eq_getElem_cons hl, he]
theorem WPre.s1 {f x : Fm} {fs xs : List Fm} {i : Nat} (h : WPre f fs i false xs) (hx : fs[i]? = some x) (hle : le f.name x.name = true) (hne : x.name ≠ f.name) : WPre f fs (i + 1) true (xs ++ [f] ++ [x]) := by
  unfold WPre at h ⊢
  rw [drop_at hx] at h
  rw [← h]
  simp [withK, hle, hne]
theorem WPre.s2 {f x : Fm} {fs xs : List Fm} {i : Nat} (h : WPre f fs i false xs) (hx : fs[i]? = some x) (hne : x.name = f.name) : WPre f fs (i + 1) true (xs ++ [f]) := by
  unfold WPre at h ⊢
  rw [drop_at hx] at h
  rw [← h]
  have : le f.name f.name = true := by simp [le]
  simp [withK, this, hne]
theorem WPre.s3 {f x : Fm} {fs xs : List Fm} {i : Nat} (h : WPre f fs i false xs) (hx : fs[i]? = some x) (hle : le f.name x.name = false) : WPre f fs (i + 1) false (xs ++ [x]) := by
  unfold WPre at h ⊢
  rw [drop_at hx] at h
  rw [← h]
  simp [withK, hle]
theorem WPre.s4 {f x : Fm} {fs xs : List Fm} {i : Nat} (h : WPre f fs i true xs) (hx : fs[i]? = some x) (hne : x.name ≠ f.name) : WPre f fs (i + 1) true (xs ++ [x]) := by
  unfold WPre at h ⊢
  rw [drop_at hx] at h
  rw [← h]
  simp [hne]
theorem WPre.s5 {f x : Fm} {fs xs : List Fm} {i : Nat} (h : WPre f fs i true xs) (hx : fs[i]? = some x) (hne : x.name = f.name) : WPre f fs (i + 1) true xs := by
  unfold WPre at h ⊢
  rw [drop_at hx] at h
  rw [← h]
  simp [hne]
theorem WPre.end1 {f : Fm} {fs xs : List Fm} {i : Nat} (h : WPre f fs i true xs) (hi : fs.length ≤ i) : xs = withK Fm.name f fs := by
  unfold WPre at h
  rw [List.drop_of_length_le hi] at h
  simpa using h
theorem WPre.end2 {f : Fm} {fs xs : List Fm} {i : Nat} (h : WPre f fs i false xs) (hi : fs.length ≤ i) : xs ++ [f] = withK Fm.name f fs := by
  unfold WPre at h
  rw [List.drop_of_length_le hi] at h
  simpa [withK] using h
theorem bless_eq : ∀ (a b : List UInt8), Op.bytesLess a b = bytesBefore a b
  | [], [] => rfl
  | [], _ :: _ => rfl
  | _ :: _, [] => rfl
  | a :: r, b :: s => by
    have := bless_eq r s
    simp only [bytesBefore]
    unfold Op.bytesLess
    first
      | rw [this]
      | (simp only [this])

/-- A drive's files in memory of the call's own; nothing older is written. -/
def FreshD (w : World) (fs : List Fm) (st : Int) (ar : Bool) (lf : Int) (e : Ending) (w' : World) : Prop :=
  ∃ A c, e = .returned (.agg #[.slice A fs.length c, .int .i64 st, .bool ar, .int .i64 lf]) ∧ w'.ownsRow w.heap.size 70 3 (.slice A fs.length c) fs.length (fcs fs) ∧ Below w.heap.size w w'

theorem own3_nil (w : World) (B : Nat) : w.ownsRow B 70 3 (.slice none 0 0) ([] : List Fm).length (fcs []) := ⟨rfl, .inl ⟨rfl, rfl⟩⟩
theorem own3_form {w : World} {base e : Nat} {v : Value} {n : Nat} {xs : List Value} (h : w.ownsRow base e 3 v n xs) : ∃ A c, v = .slice A n c := by
  rcases h.2 with ⟨rfl, rfl⟩ | ⟨g, cap, cur, rfl, _⟩
  · exact ⟨_, _, rfl⟩
  · exact ⟨_, _, rfl⟩
theorem own3_blk {w : World} {base e : Nat} {v : Value} {n : Nat} {xs : List Value} (h : w.ownsRow base e 3 v n xs) : ∀ k, v.ownBlock = some k → base ≤ k := by
  intro k hk
  rcases h.2 with ⟨rfl, _⟩ | ⟨g, cap, cur, rfl, hb, _⟩
  · cases hk
  · cases hk; exact hb
theorem own3_keep {w1 w2 : World} {base e : Nat} {v : Value} {n : Nat} {xs : List Value} (h : w1.ownsRow base e 3 v n xs) (hk : ∀ k, v.ownBlock = some k → w2.heap[k]? = w1.heap[k]?) : w2.ownsRow base e 3 v n xs := by
  refine ⟨h.1, ?_⟩
  rcases h.2 with h2 | ⟨g, cap, cur, rfl, h3, h4, h5⟩
  · exact .inl h2
  · exact .inr ⟨g, cap, cur, rfl, h3, (hk g rfl).trans h4, h5⟩
theorem own3_lt {w : World} {base e : Nat} {v : Value} {n : Nat} {xs : List Value} (h : w.ownsRow base e 3 v n xs) : ∀ k, v.ownBlock = some k → k < w.heap.size := by
  intro k hk
  rcases h.2 with ⟨rfl, _⟩ | ⟨g, cap, cur, rfl, hb, h4, _⟩
  · cases hk
  · cases hk; exact (Array.getElem?_eq_some_iff.1 h4).1
theorem own3_below {w1 w2 : World} {base e : Nat} {v : Value} {n : Nat} {xs : List Value} (h : w1.ownsRow base e 3 v n xs) (hb : Below w1.heap.size w1 w2) : w2.ownsRow base e 3 v n xs :=
  own3_keep h fun k hk => hb.block k (own3_lt h k hk)
theorem own3_base {w : World} {B B' e : Nat} {v : Value} {n : Nat} {xs : List Value} (h : w.ownsRow B e 3 v n xs) (hB : B' ≤ B) : w.ownsRow B' e 3 v n xs := by
  refine ⟨h.1, ?_⟩
  rcases h.2 with h2 | ⟨g, cap, cur, rfl, h3, h4⟩
  · exact .inl h2
  · exact .inr ⟨g, cap, cur, rfl, Nat.le_trans hB h3, h4⟩

theorem setCell_os (w : World) (a : Addr) (v : Value) : (w.setCell a v).os = w.os := rfl
theorem setCell_tape (w : World) (a : Addr) (v : Value) : (w.setCell a v).tape = w.tape := rfl
theorem setCell_output (w : World) (a : Addr) (v : Value) : (w.setCell a v).output = w.output := rfl
/-- What a function of the reference leaves: its drive's new files stored, and all of it stored as its result. -/
theorem set_fin {w W0 V : World} {d r n c : Nat} {A : Option Addr} {st lf : Int} {ar : Bool} {ys : List Fm} {z0 z1 z2 z3 : Value} (hB0 : Below w.heap.size w W0) (hd : w.heap.size ≤ d) (hr : w.heap.size ≤ r) (hdl : d < W0.heap.size) (hrl : r < W0.heap.size) (hdr : r ≠ d)
    (hR : Blk W0 r #[z0, z1, z2, z3] 26) (hbw : Below W0.heap.size W0 V) (hown : V.ownsRow W0.heap.size 70 3 (.slice A n c) n (fcs ys)) (hn : ys.length = n)
    {fn : Func} {p : Tmp} (h : fn.results = #[.cell p 26]) {a : Act} (hdf : a.defers = []) (hp : a.tmps.getD p undef = .pointer (some ⟨r, 0, none⟩)) :
    bodyPost Try.prog fn (FreshD w ys st ar lf) .ret a (((((V.setCell ⟨d, 0, none⟩ (.slice A n c)).setCell ⟨r, 0, none⟩ (.slice A n c)).setCell ⟨r, 1, none⟩ (.int .i64 st)).setCell ⟨r, 2, none⟩ (.bool ar)).setCell ⟨r, 3, none⟩ (.int .i64 lf)) := by
  subst hn
  have hR1 : Blk V r #[z0, z1, z2, z3] 26 := hR.keep (hbw.block _ hrl)
  have hR2 : Blk (V.setCell ⟨d, 0, none⟩ (.slice A ys.length c)) r #[z0, z1, z2, z3] 26 := hR1.keep (setCell_other _ _ _ hdr)
  have hR3 := (((hR2.set 0 (.slice A ys.length c)).set 1 (.int .i64 st)).set 2 (.bool ar)).set 3 (.int .i64 lf)
  have hk : ∀ k, k ≠ d → k ≠ r → (((((V.setCell ⟨d, 0, none⟩ (.slice A ys.length c)).setCell ⟨r, 0, none⟩ (.slice A ys.length c)).setCell ⟨r, 1, none⟩ (.int .i64 st)).setCell ⟨r, 2, none⟩ (.bool ar)).setCell ⟨r, 3, none⟩ (.int .i64 lf)).heap[k]? = V.heap[k]? := fun k h1 h2 => by
    exact (setCell_other _ _ _ h2).trans ((setCell_other _ _ _ h2).trans ((setCell_other _ _ _ h2).trans ((setCell_other _ _ _ h2).trans (setCell_other _ _ _ h1))))
  have hR4 : Blk _ r #[.slice A ys.length c, .int .i64 st, .bool ar, .int .i64 lf] 26 := hR3
  refine ret_drive h hdf hp hR4 ⟨A, c, rfl, own3_base (own3_keep hown fun k hk' => hk k ?_ ?_) hB0.size, ?_⟩
  · have := own3_blk hown k hk'; omega
  · have := own3_blk hown k hk'; omega
  · refine ⟨?_, ?_, ?_, ?_, fun k hk' => ?_⟩
    · simp only [setCell_os]; exact hbw.os.trans hB0.os
    · simp only [setCell_tape]; exact hbw.tape.trans hB0.tape
    · simp only [setCell_output]; exact hbw.output.trans hB0.output
    · simp only [setCell_size]; have := hB0.size; have := hbw.size; omega
    · rw [hk k (by omega) (by omega), hbw.block k (by have := hB0.size; omega)]
      exact hB0.block k hk'

set_option maxRecDepth 40000 in
set_option maxHeartbeats 8000000 in
theorem with_any (A : Option Addr) (n c : Nat) (fs : List Fm) (st : Int) (ar : Bool) (lf : Int) (f : Fm) (w : World) (h : Fl w A n fs) (hn : n ≤ 400) :
    Calls Try.prog 34 #[.agg #[.slice A n c, .int .i64 st, .bool ar, .int .i64 lf], .agg #[.string (str f.name), .string (str f.data), .int .i64 f.syn]] w (FreshD w (withK Fm.name f fs) st ar lf) := by
  have hnl := h.1
  subst hnl
  have htl : ∀ l, (str l).toList = l := fun l => ByteArray.toList_mk l
  go_enter Try.func34, Try.ntmps34
  go_wp2_with fail
  have b1 := Blk.new w #[.slice A fs.length c, .int .i64 st, .bool ar, .int .i64 lf] 26
  have b2 := Blk.new (w.alloc (.cells #[.slice A fs.length c, .int .i64 st, .bool ar, .int .i64 lf] 26)) #[.string (str f.name), .string (str f.data), .int .i64 f.syn] 70
  have b3 := Blk.new ((w.alloc (.cells #[.slice A fs.length c, .int .i64 st, .bool ar, .int .i64 lf] 26)).alloc (.cells #[.string (str f.name), .string (str f.data), .int .i64 f.syn] 70)) #[.slice none 0 0, .int .i64 0, .bool false, .int .i64 0] 26
  have hB0 : Below w.heap.size w (((w.alloc (.cells #[.slice A fs.length c, .int .i64 st, .bool ar, .int .i64 lf] 26)).alloc (.cells #[.string (str f.name), .string (str f.data), .int .i64 f.syn] 70)).alloc (.cells #[.slice none 0 0, .int .i64 0, .bool false, .int .i64 0] 26)) := (((Below.refl _ w).alloc (Nat.le_refl _) _).alloc (by simp) _).alloc (by simp; omega) _
  have d1 := (b1.keep (Below.heap_alloc _ (.cells #[.string (str f.name), .string (str f.data), .int .i64 f.syn] 70) _ b1.lt)).keep (Below.heap_alloc _ (.cells #[.slice none 0 0, .int .i64 0, .bool false, .int .i64 0] 26) _ (by simp; omega))
  have d2 := b2.keep (Below.heap_alloc _ (.cells #[.slice none 0 0, .int .i64 0, .bool false, .int .i64 0] 26) _ b2.lt)
  have hs0 : (((w.alloc (.cells #[.slice A fs.length c, .int .i64 st, .bool ar, .int .i64 lf] 26)).alloc (.cells #[.string (str f.name), .string (str f.data), .int .i64 f.syn] 70)).alloc (.cells #[.slice none 0 0, .int .i64 0, .bool false, .int .i64 0] 26)).heap.size = w.heap.size + 3 := by simp
  clear b1 b2
  rw [World.size_alloc] at d2
  rw [World.size_alloc, World.size_alloc] at b3
  generalize (((w.alloc (.cells #[.slice A fs.length c, .int .i64 st, .bool ar, .int .i64 lf] 26)).alloc (.cells #[.string (str f.name), .string (str f.data), .int .i64 f.syn] 70)).alloc (.cells #[.slice none 0 0, .int .i64 0, .bool false, .int .i64 0] 26)) = W0 at b3 hB0 d1 d2 hs0 ⊢
  have HS0 := Lib.hid hs0
  clear hs0
  obtain ⟨fw, hfw⟩ : ∃ x, x = withK Fm.name f fs := ⟨_, rfl⟩
  have h0 := h.below hB0
  go_loopw [5, 6, 7] (fun v pt j wr => ∃ (i : Nat) (xs : List Fm) (p : Bool) (A' : Option Addr) (c' : Nat), i ≤ fs.length ∧ j = .int .i64 i ∧ pt = .bool p ∧ v = .slice A' xs.length c' ∧ WPre f fs i p xs ∧ xs.length ≤ 2 * i ∧ wr.ownsRow W0.heap.size 70 3 (.slice A' xs.length c') xs.length (fcs xs) ∧ Below W0.heap.size W0 wr) (fun _ _ j _ => fs.length - (intOf j).toNat)
  case atStart => exact ⟨0, [], false, none, 0, Nat.zero_le _, rfl, rfl, rfl, WPre.start f fs, Nat.le_refl _, own3_nil _ _, Below.refl _ _⟩
  case round =>
    obtain ⟨i, xs, p, A', c', hi, rfl, rfl, rfl, hpre, hxl, hown, hbw⟩ := hrel
    have HP := Lib.hid hpre
    clear hpre
    have cell : ∀ V, Below W0.heap.size W0 V → V.cell? ⟨w.heap.size, 0, none⟩ = some (.slice A fs.length c) ∧ V.cell? ⟨w.heap.size + 1, 0, none⟩ = some (.string (str f.name)) ∧ V.cell? ⟨w.heap.size + 1, 1, none⟩ = some (.string (str f.data)) ∧ V.cell? ⟨w.heap.size + 1, 2, none⟩ = some (.int .i64 f.syn) := fun V hV =>
      ⟨(d1.keep (hV.block _ d1.lt)).cell rfl, (d2.keep (hV.block _ d2.lt)).cell rfl, (d2.keep (hV.block _ d2.lt)).cell rfl, (d2.keep (hV.block _ d2.lt)).cell rfl⟩
    by_cases hin : i < fs.length
    · have hcN : (i : Int) < fs.length := by omega
      obtain ⟨k1, k2, k3, k4⟩ := cell wr hbw
      obtain ⟨b, o, x, rfl, hx, x1, x2, x3⟩ := h0.at_ hin
      have xc : ∀ V, Below W0.heap.size W0 V → V.cell? ⟨b, o + i * 3, none⟩ = some (.string (str x.name)) ∧ V.cell? ⟨b, o + i * 3 + 1, none⟩ = some (.string (str x.data)) ∧ V.cell? ⟨b, o + i * 3 + 2, none⟩ = some (.int .i64 x.syn) := fun V hV => by
        have hl := World.block_lt_of_cell? _ _ x1
        exact ⟨(World.cell?_of_block (hV.block b hl)).trans x1, (World.cell?_of_block (hV.block b hl)).trans x2, (World.cell?_of_block (hV.block b hl)).trans x3⟩
      obtain ⟨y1, y2, y3⟩ := xc wr hbw
      have HX := Lib.hid hx
      clear hx x1 x2 x3
      cases p
      · by_cases heq : x.name = f.name
        · have e1 : (x.name == f.name) = true := by simp [heq]
          have e2 : (f.name == x.name) = true := by simp [heq]
          have HE := Lib.hid heq
          clear heq
          go_wp2_with fail
          go_quiet (fail)
          have hownq : (wr.drewN nq).ownsRow W0.heap.size 70 3 (.slice A' xs.length c') xs.length (fcs xs) := hown
          have hbq : Below W0.heap.size W0 (wr.drewN nq) := hbw.trans ⟨rfl, rfl, rfl, Nat.le_refl _, fun _ _ => rfl⟩
          generalize wr.drewN nq = wq at hownq hbq ⊢
          obtain ⟨k1q, k2q, k3q, k4q⟩ := cell wq hbq
          obtain ⟨y1q, y2q, y3q⟩ := xc wq hbq
          go_wp2_with (at_builtin; refine wpList_app3 _ rfl (.tmp 28) (.tmp 30) rfl W0.heap.size (.slice A' xs.length c') xs.length xs rfl rfl (own3_keep hownq fun k hk => Below.heap_alloc _ _ _ (own3_lt hownq k hk)) _ f rfl (Blk.new _ _ _) (by (try simp only [List.length_append, List.length_cons, List.length_nil]); omega) (by have := hbq.size; simp; omega) ?_; intro A4 c4 w4 hown4 hg4; have hb4 := (hbq.alloc hbq.size _).grown hg4 (by have := hbq.size; simp; omega) (own3_blk hownq); obtain ⟨k14, k24, k34, k44⟩ := cell w4 hb4; obtain ⟨y14, y24, y34⟩ := xc w4 hb4)
          go_quiet (fail)
          have hownr : (w4.drewN nq).ownsRow W0.heap.size 70 3 (.slice A4 (xs.length + 1) c4) (xs.length + 1) (fcs (xs ++ [f])) := hown4
          have hbr : Below W0.heap.size W0 (w4.drewN nq) := hb4.trans ⟨rfl, rfl, rfl, Nat.le_refl _, fun _ _ => rfl⟩
          generalize w4.drewN nq = wv at hownr hbr ⊢
          obtain ⟨k1r, k2r, k3r, k4r⟩ := cell wv hbr
          obtain ⟨y1r, y2r, y3r⟩ := xc wv hbr
          go_wp2_with fail
          exact ⟨⟨i + 1, xs ++ [f], _, A4, c4, by omega, by simp, rfl, by simp, HP.out.s2 HX.out HE.out, by (try simp only [List.length_append, List.length_cons, List.length_nil]); omega, by simpa using hownr, hbr⟩, by simp [intOf]; omega⟩
        · have e1 : (x.name == f.name) = false := by simpa using heq
          have e2 : (f.name == x.name) = false := by simpa using (Ne.symm heq)
          have HE := Lib.hid heq
          clear heq
          cases hle : bytesBefore f.name x.name
          · have e3 : Op.bytesLess f.name x.name = false := by rw [bless_eq]; exact hle
            have hlf : le f.name x.name = false := by simp only [le, hle, e2, Bool.or_false]
            have HL := Lib.hid hlf
            clear hle hlf
            go_wp2_with fail
            go_quiet (fail)
            have hownq : (wr.drewN nq).ownsRow W0.heap.size 70 3 (.slice A' xs.length c') xs.length (fcs xs) := hown
            have hbq : Below W0.heap.size W0 (wr.drewN nq) := hbw.trans ⟨rfl, rfl, rfl, Nat.le_refl _, fun _ _ => rfl⟩
            generalize wr.drewN nq = wq at hownq hbq ⊢
            obtain ⟨k1q, k2q, k3q, k4q⟩ := cell wq hbq
            obtain ⟨y1q, y2q, y3q⟩ := xc wq hbq
            go_wp2_with fail
            go_quiet (fail)
            have hownr : (wq.drewN nq).ownsRow W0.heap.size 70 3 (.slice A' xs.length c') xs.length (fcs xs) := hownq
            have hbr : Below W0.heap.size W0 (wq.drewN nq) := hbq.trans ⟨rfl, rfl, rfl, Nat.le_refl _, fun _ _ => rfl⟩
            generalize wq.drewN nq = wv at hownr hbr ⊢
            obtain ⟨k1r, k2r, k3r, k4r⟩ := cell wv hbr
            obtain ⟨y1r, y2r, y3r⟩ := xc wv hbr
            go_wp2_with (at_builtin; refine wpList_app3 _ rfl (.tmp 41) (.tmp 47) rfl W0.heap.size (.slice A' xs.length c') xs.length xs rfl rfl (own3_keep hownr fun k hk => Below.heap_alloc _ _ _ (own3_lt hownr k hk)) _ x rfl (Blk.new _ _ _) (by (try simp only [List.length_append, List.length_cons, List.length_nil]); omega) (by have := hbr.size; simp; omega) ?_; intro A5 c5 w5 hown5 hg5; have hb5 := (hbr.alloc hbr.size _).grown hg5 (by have := hbr.size; simp; omega) (own3_blk hownr))
            exact ⟨⟨i + 1, xs ++ [x], _, A5, c5, by omega, by simp, rfl, by simp, HP.out.s3 HX.out HL.out, by (try simp only [List.length_append, List.length_cons, List.length_nil]); omega, by simpa using hown5, hb5⟩, by simp [intOf]; omega⟩
          · have e3 : Op.bytesLess f.name x.name = true := by rw [bless_eq]; exact hle
            have hlf : le f.name x.name = true := by simp only [le, hle, Bool.true_or]
            have HL := Lib.hid hlf
            clear hle hlf
            go_wp2_with fail
            go_quiet (fail)
            have hownq : (wr.drewN nq).ownsRow W0.heap.size 70 3 (.slice A' xs.length c') xs.length (fcs xs) := hown
            have hbq : Below W0.heap.size W0 (wr.drewN nq) := hbw.trans ⟨rfl, rfl, rfl, Nat.le_refl _, fun _ _ => rfl⟩
            generalize wr.drewN nq = wq at hownq hbq ⊢
            obtain ⟨k1q, k2q, k3q, k4q⟩ := cell wq hbq
            obtain ⟨y1q, y2q, y3q⟩ := xc wq hbq
            go_wp2_with (at_builtin; refine wpList_app3 _ rfl (.tmp 28) (.tmp 30) rfl W0.heap.size (.slice A' xs.length c') xs.length xs rfl rfl (own3_keep hownq fun k hk => Below.heap_alloc _ _ _ (own3_lt hownq k hk)) _ f rfl (Blk.new _ _ _) (by (try simp only [List.length_append, List.length_cons, List.length_nil]); omega) (by have := hbq.size; simp; omega) ?_; intro A4 c4 w4 hown4 hg4; have hb4 := (hbq.alloc hbq.size _).grown hg4 (by have := hbq.size; simp; omega) (own3_blk hownq); obtain ⟨k14, k24, k34, k44⟩ := cell w4 hb4; obtain ⟨y14, y24, y34⟩ := xc w4 hb4)
            go_quiet (fail)
            have hownr : (w4.drewN nq).ownsRow W0.heap.size 70 3 (.slice A4 (xs.length + 1) c4) (xs.length + 1) (fcs (xs ++ [f])) := hown4
            have hbr : Below W0.heap.size W0 (w4.drewN nq) := hb4.trans ⟨rfl, rfl, rfl, Nat.le_refl _, fun _ _ => rfl⟩
            generalize w4.drewN nq = wv at hownr hbr ⊢
            obtain ⟨k1r, k2r, k3r, k4r⟩ := cell wv hbr
            obtain ⟨y1r, y2r, y3r⟩ := xc wv hbr
            go_wp2_with (at_builtin; refine wpList_app3 _ rfl (.tmp 41) (.tmp 47) rfl W0.heap.size (.slice A4 (xs.length + 1) c4) (xs.length + 1) (xs ++ [f]) (by simp) rfl (own3_keep hownr fun k hk => Below.heap_alloc _ _ _ (own3_lt hownr k hk)) _ x rfl (Blk.new _ _ _) (by (try simp only [List.length_append, List.length_cons, List.length_nil]); omega) (by have := hbr.size; simp; omega) ?_; intro A5 c5 w5 hown5 hg5; have hb5 := (hbr.alloc hbr.size _).grown hg5 (by have := hbr.size; simp; omega) (own3_blk hownr))
            exact ⟨⟨i + 1, xs ++ [f] ++ [x], _, A5, c5, by omega, by simp, rfl, by simp, HP.out.s1 HX.out HL.out HE.out, by (try simp only [List.length_append, List.length_cons, List.length_nil]); omega, by simpa using hown5, hb5⟩, by simp [intOf]; omega⟩
      · by_cases heq : x.name = f.name
        · have e1 : (x.name == f.name) = true := by simp [heq]
          have e2 : (f.name == x.name) = true := by simp [heq]
          have HE := Lib.hid heq
          clear heq
          go_wp2_with fail
          go_quiet (fail)
          have hownq : (wr.drewN nq).ownsRow W0.heap.size 70 3 (.slice A' xs.length c') xs.length (fcs xs) := hown
          have hbq : Below W0.heap.size W0 (wr.drewN nq) := hbw.trans ⟨rfl, rfl, rfl, Nat.le_refl _, fun _ _ => rfl⟩
          generalize wr.drewN nq = wq at hownq hbq ⊢
          obtain ⟨k1q, k2q, k3q, k4q⟩ := cell wq hbq
          obtain ⟨y1q, y2q, y3q⟩ := xc wq hbq
          go_wp2_with fail
          go_quiet (fail)
          have hownr : (wq.drewN nq).ownsRow W0.heap.size 70 3 (.slice A' xs.length c') xs.length (fcs xs) := hownq
          have hbr : Below W0.heap.size W0 (wq.drewN nq) := hbq.trans ⟨rfl, rfl, rfl, Nat.le_refl _, fun _ _ => rfl⟩
          generalize wq.drewN nq = wv at hownr hbr ⊢
          obtain ⟨k1r, k2r, k3r, k4r⟩ := cell wv hbr
          obtain ⟨y1r, y2r, y3r⟩ := xc wv hbr
          go_wp2_with fail
          exact ⟨⟨i + 1, xs, _, A', c', by omega, by simp, rfl, by simp, HP.out.s5 HX.out HE.out, by (try simp only [List.length_append, List.length_cons, List.length_nil]); omega, by simpa using hownr, hbr⟩, by simp [intOf]; omega⟩
        · have e1 : (x.name == f.name) = false := by simpa using heq
          have e2 : (f.name == x.name) = false := by simpa using (Ne.symm heq)
          have HE := Lib.hid heq
          clear heq
          go_wp2_with fail
          go_quiet (fail)
          have hownq : (wr.drewN nq).ownsRow W0.heap.size 70 3 (.slice A' xs.length c') xs.length (fcs xs) := hown
          have hbq : Below W0.heap.size W0 (wr.drewN nq) := hbw.trans ⟨rfl, rfl, rfl, Nat.le_refl _, fun _ _ => rfl⟩
          generalize wr.drewN nq = wq at hownq hbq ⊢
          obtain ⟨k1q, k2q, k3q, k4q⟩ := cell wq hbq
          obtain ⟨y1q, y2q, y3q⟩ := xc wq hbq
          go_wp2_with fail
          go_quiet (fail)
          have hownr : (wq.drewN nq).ownsRow W0.heap.size 70 3 (.slice A' xs.length c') xs.length (fcs xs) := hownq
          have hbr : Below W0.heap.size W0 (wq.drewN nq) := hbq.trans ⟨rfl, rfl, rfl, Nat.le_refl _, fun _ _ => rfl⟩
          generalize wq.drewN nq = wv at hownr hbr ⊢
          obtain ⟨k1r, k2r, k3r, k4r⟩ := cell wv hbr
          obtain ⟨y1r, y2r, y3r⟩ := xc wv hbr
          go_wp2_with (at_builtin; refine wpList_app3 _ rfl (.tmp 41) (.tmp 47) rfl W0.heap.size (.slice A' xs.length c') xs.length xs rfl rfl (own3_keep hownr fun k hk => Below.heap_alloc _ _ _ (own3_lt hownr k hk)) _ x rfl (Blk.new _ _ _) (by (try simp only [List.length_append, List.length_cons, List.length_nil]); omega) (by have := hbr.size; simp; omega) ?_; intro A5 c5 w5 hown5 hg5; have hb5 := (hbr.alloc hbr.size _).grown hg5 (by have := hbr.size; simp; omega) (own3_blk hownr))
          exact ⟨⟨i + 1, xs ++ [x], _, A5, c5, by omega, by simp, rfl, by simp, HP.out.s4 HX.out HE.out, by (try simp only [List.length_append, List.length_cons, List.length_nil]); omega, by simpa using hown5, hb5⟩, by simp [intOf]; omega⟩
    · have hcN : ¬ (i : Int) < fs.length := by omega
      have fin : ∀ V, Below W0.heap.size W0 V → V.cell? ⟨w.heap.size, 0, none⟩ = some (.slice A fs.length c) ∧ V.cell? ⟨w.heap.size, 1, none⟩ = some (.int .i64 st) ∧ V.cell? ⟨w.heap.size, 2, none⟩ = some (.bool ar) ∧ V.cell? ⟨w.heap.size, 3, none⟩ = some (.int .i64 lf) ∧ V.frozen? ⟨w.heap.size, 0, none⟩ = false := fun V hV =>
        have D := d1.keep (hV.block _ d1.lt)
        ⟨D.cell rfl, D.cell rfl, D.cell rfl, D.cell rfl, D.frozen 0⟩
      have finr : ∀ V, Below W0.heap.size W0 V → V.cell? ⟨w.heap.size + 1 + 1, 0, none⟩ = some (.slice none 0 0) ∧ V.cell? ⟨w.heap.size + 1 + 1, 1, none⟩ = some (.int .i64 0) ∧ V.cell? ⟨w.heap.size + 1 + 1, 2, none⟩ = some (.bool false) ∧ V.cell? ⟨w.heap.size + 1 + 1, 3, none⟩ = some (.int .i64 0) ∧ V.frozen? ⟨w.heap.size + 1 + 1, 0, none⟩ = false ∧ V.frozen? ⟨w.heap.size + 1 + 1, 1, none⟩ = false ∧ V.frozen? ⟨w.heap.size + 1 + 1, 2, none⟩ = false ∧ V.frozen? ⟨w.heap.size + 1 + 1, 3, none⟩ = false := fun V hV =>
        have D := b3.keep (hV.block _ b3.lt)
        ⟨D.cell rfl, D.cell rfl, D.cell rfl, D.cell rfl, D.frozen 0, D.frozen 1, D.frozen 2, D.frozen 3⟩
      cases p
      · obtain ⟨q0, q1, q2, q3, q4⟩ := fin wr hbw
        obtain ⟨k1, k2, k3, k4⟩ := cell wr hbw
        go_wp2_with (at_builtin; refine wpList_app3 _ rfl (.tmp 51) (.tmp 53) rfl W0.heap.size (.slice A' xs.length c') xs.length xs rfl rfl (own3_keep hown fun k hk => Below.heap_alloc _ _ _ (own3_lt hown k hk)) _ f rfl (Blk.new _ _ _) (by omega) (by have := hbw.size; simp; omega) ?_; intro A5 c5 w5 hown5 hg5; have hb5 := (hbw.alloc hbw.size _).grown hg5 (by have := hbw.size; simp; omega) (own3_blk hown); obtain ⟨q0, q1, q2, q3, q4⟩ := fin w5 hb5; obtain ⟨r0, r1, r2, r3, r4, r5, r6, r7⟩ := finr w5 hb5)
        have he := HP.out.end2 (by omega)
        rw [he] at hown5
        exact set_fin hB0 (Nat.le_refl _) (by omega) d1.lt b3.lt (by omega) b3 hb5 hown5 (by rw [← he]; simp) rfl rfl rfl
      · obtain ⟨q0, q1, q2, q3, q4⟩ := fin wr hbw
        obtain ⟨r0, r1, r2, r3, r4, r5, r6, r7⟩ := finr wr hbw
        go_wp2_with fail
        have he := HP.out.end1 (by omega)
        rw [he] at hown ⊢
        exact set_fin hB0 (Nat.le_refl _) (by omega) d1.lt b3.lt (by omega) b3 hbw hown rfl rfl rfl rfl
end Go.Proofs.Ytfhlhdpgahbeiaa
