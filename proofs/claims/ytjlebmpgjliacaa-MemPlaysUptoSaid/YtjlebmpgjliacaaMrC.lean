/-
  The reference's Put.
-/
import Derived.Test.YtjlebmpgjliacaaMrB
namespace Go.Proofs.Ytjlebmpgjliacaa
open Go.RowKit
set_option linter.unusedVariables false

/-- Is it there already? -/
def dupE (es : List En) (e : En) : Bool := match es[posE es e.key e.seq]? with
  | some m => (m.key == e.key) && decide (m.seq = e.seq)
  | none => false
theorem putC_dup {es : List En} (hs : Srt es) {e : En} (hc : chk e = 0) : putC es e = if dupE es e = true then 2 else 0 := by
  classical
  unfold putC
  have hc2 : ¬ (chk e ≠ 0) := fun q => q hc
  rw [if_neg hc2]
  have hd : dupE es e = true ↔ hasE es e := by
    rw [has_iff hs]
    unfold dupE
    cases es[posE es e.key e.seq]? with
    | none => simp
    | some m => simp
  by_cases h : hasE es e
  · rw [if_pos h, if_pos (hd.2 h)]
  · rw [if_neg h, if_neg (fun q => h (hd.1 q))]
theorem putC_bad {es : List En} {e : En} (hc : chk e ≠ 0) : putC es e = chk e := by
  unfold putC
  rw [if_pos hc]
/-- What the reference's Put answers: the list, or a longer one of its own. -/
def RPut (w : World) (A : Option Addr) (n c : Nat) (es : List En) (e : En) (r : Ending) (w' : World) : Prop :=
  ∃ v, r = .returned (.tuple #[v, .int .i64 (putC es e)]) ∧ Below w.heap.size w w' ∧ ((putC es e ≠ 0 ∧ v = .slice A n c) ∨ (putC es e = 0 ∧ w'.ownsRow w.heap.size 30 4 v (n + 1) (ecs (insE es e))))
theorem posE_ge {es : List En} {k : List UInt8} {s : Int} {i : Nat} (h : ∀ j, j < i → ∀ m, es[j]? = some m → m.ahead k s = true) (hi : i ≤ es.length) : i ≤ posE es k s := by
  rcases Nat.lt_or_ge (posE es k s) i with q | q
  · have hm : es[posE es k s]? = some es[posE es k s] := List.getElem?_eq_getElem (by omega)
    have h1 := posE_at es k s _ hm
    rw [h _ q _ hm] at h1; cases h1
  · exact q
theorem posE_is {es : List En} {k : List UInt8} {s : Int} {i : Nat} (h : i ≤ posE es k s) (hn : ∀ m, es[i]? = some m → m.ahead k s = false) : posE es k s = i := by
  rcases Nat.lt_or_ge i (posE es k s) with q | q
  · have hl := posE_le es k s
    have hm : es[i]? = some es[i] := List.getElem?_eq_getElem (by omega)
    have h1 := posE_yes es k s i q _ hm
    rw [hn _ hm] at h1; cases h1
  · omega
theorem own_capE {w : World} {B e s n c : Nat} {A : Option Addr} {xs : List Value} (h : w.ownsRow B e s (.slice A n c) n xs) : n ≤ c := by
  rcases h.2 with ⟨h1, h2⟩ | ⟨g, cap, cur, h1, _, _, h3, _⟩
  · omega
  · injection h1 with _ _ hc
    omega
theorem run_app0 (w : World) (ty : TypeId) (ad : Addr) (n c c' : Nat) (A : Option Addr) (hc : n ≤ c) :
    (Builtin.append_ #[26, 26] ty #[.slice (some ad) n c, .slice A 0 c']).run Try.prog w = .ok (.slice (some ad) n c) w := by
  obtain ⟨i, hi, hz0, hz1, hz2⟩ := info_parts entInfo
  cases A with
  | none => simp [Builtin.append_, run_underlying Try.underlying26, sizeOf, typeInfo, hi, Builtin.lenOf, run_firstCells_none, hc, storeCells]
  | some a =>
    have hf := run_firstCells_some (P := Try.prog) w i.size 0 a 0 c' [] (by simp) (by simp)
    simp [Builtin.append_, run_underlying Try.underlying26, sizeOf, typeInfo, hi, Builtin.lenOf, hf, hc, storeCells]
theorem wpList_app0 (w : World) {ops : Array Oper} {rest : List Oper} {o : Oper} {a : Act} {Q : Exit → Act → World → Prop} (hgd : o.guard = none) (s x : Operand)
    (ho : o.op = .call { callee := .builtin .append, args := #[s, x], argTypes := #[26, 26] }) (ad : Addr) (n c c' : Nat) (A : Option Addr) (hs : a.eval s = .slice (some ad) n c) (hx : a.eval x = .slice A 0 c') (hc : n ≤ c)
    (h : wpList Try.prog ops Q rest (a.put o.dst (.slice (some ad) n c)) w) : wpList Try.prog ops Q (o :: rest) a w := by
  refine wpList_plain hgd fun K hK => ?_
  have hrun := run_app0 w o.type ad n c c' A hc
  unfold Oper.wp execOp
  simp only [ho, resolve, invoke, builtin, Sem.run_bind, Sem.run_pure, Result.andThen_ok, List.map_toArray, List.map_cons, List.map_nil, hs, hx, hrun]
  exact hK _ _ h
theorem Sle.belowW {w w' : World} {A : Option Addr} {n : Nat} {es : List En} (h : Sle w A n es) (hb : Below w.heap.size w w') : Sle w' A n es := h.below hb
theorem Sle.drop {w : World} {b o n i : Nat} {es : List En} (h : Sle w (some ⟨b, o, none⟩) n es) (hi : i ≤ n) : Sle w (some ⟨b, o + i * 4, none⟩) (n - i) (es.drop i) := by
  refine ⟨by rw [List.length_drop, h.1], fun h0 => ⟨b, o + i * 4, rfl, fun k x hx j hj => ?_⟩⟩
  obtain ⟨b', o', e', hc⟩ := h.2 (by omega)
  injection e' with e'
  injection e' with e1 e2
  subst e1 e2
  rw [List.getElem?_drop] at hx
  have := hc _ x hx j hj
  rw [← this]
  congr 2
  omega
theorem insE_at {es : List En} {e : En} {i : Nat} (h : posE es e.key e.seq = i) : insE es e = (es.take i ++ [e]) ++ es.drop i := by
  unfold insE
  rw [h]; simp
/-- Where the loop stands. -/
structure RpS (w wr : World) (es : List En) (e : En) (i : Nat) (A : Option Addr) (c : Nat) : Prop where
  row : wr.ownsRow (w.heap.size + 1) 30 4 (.slice A i c) i (ecs (es.take i))
  box : Blk wr w.heap.size #[.string (str e.key), .int .i64 e.seq, .bool e.del, .string (str e.val)] 30
  bel : Below w.heap.size w wr
  pos : i ≤ posE es e.key e.seq
theorem RpS.below {w wr w' : World} {es : List En} {e : En} {i : Nat} {A : Option Addr} {c : Nat} (h : RpS w wr es e i A c) (hb : Below wr.heap.size wr w') : RpS w w' es e i A c :=
  ⟨ownS_below h.row hb, h.box.keep (hb.block _ h.box.lt), h.bel.trans (hb.mono h.bel.size), h.pos⟩
theorem RpS.app {w wr w' : World} {es : List En} {e x : En} {i : Nat} {A A' : Option Addr} {c c' : Nat} {o : Obj} (h : RpS w wr es e i A c) (hx : es[i]? = some x) (ha : x.ahead e.key e.seq = true)
    (hr : w'.ownsRow (w.heap.size + 1) 30 4 (.slice A' (i + 1) c') (i + 1) (ecs (es.take i ++ [x]))) (hg : (wr.alloc o).grownBy w' (Value.slice A i c).ownBlock) : RpS w w' es e (i + 1) A' c' := by
  have hal := (Below.refl _ wr).alloc (Nat.le_refl _) o
  have hbk : ∀ k, (Value.slice A i c).ownBlock = some k → w.heap.size + 1 ≤ k := ownS_blk h.row
  refine ⟨?_, ?_, ?_, ?_⟩
  · rw [List.take_add_one, hx]; exact hr
  · exact (h.box.keep (hal.block _ h.box.lt)).keep (hg.block _ (by have := h.box.lt; simp; omega) (fun e => by have := hbk _ e.symm; omega))
  · exact (h.bel.alloc h.bel.size o).grown hg (by have := h.bel.size; simp; omega) (fun k e => by have := hbk _ e; omega)
  · rcases Nat.lt_or_ge i (posE es e.key e.seq) with q | q
    · exact q
    · have : posE es e.key e.seq = i := Nat.le_antisymm q h.pos
      rw [← this] at hx
      rw [posE_at es _ _ _ hx] at ha; cases ha
set_option maxRecDepth 40000 in
set_option maxHeartbeats 8000000 in
theorem rput_any (A : Option Addr) (n c : Nat) (es : List En) (hs : Srt es) (e : En) (w : World) (hA : Sle w A n es) (hn : n ≤ 1000) (hc : n ≤ c) :
    Calls Try.prog 16 #[.slice A n c, .agg #[.string (str e.key), .int .i64 e.seq, .bool e.del, .string (str e.val)]] w (RPut w A n c es e) := by
  have HA := Lib.hid hA
  have HS := Lib.hid hs
  have hnI : (n : Int) ≤ 1000 := by omega
  have hcI : (n : Int) ≤ c := by omega
  have hbx : Blk (w.alloc (.cells #[.string (str e.key), .int .i64 e.seq, .bool e.del, .string (str e.val)] 30)) w.heap.size #[.string (str e.key), .int .i64 e.seq, .bool e.del, .string (str e.val)] 30 := Blk.new w _ _
  have hb0 : Below w.heap.size w (w.alloc (.cells #[.string (str e.key), .int .i64 e.seq, .bool e.del, .string (str e.val)] 30)) := (Below.refl _ w).alloc (Nat.le_refl _) _
  have HB := Lib.hid (And.intro hbx hb0)
  have her := rerror_any e
  obtain ⟨ck, hck⟩ : ∃ ck, ck = chk e := ⟨_, rfl⟩
  rw [← hck] at her
  have HE := Lib.hid her
  have HCK := Lib.hid hck
  clear hA hs hbx hb0 her hck
  go_enter Try.func16, Try.ntmps16
  go_wp2_with fail
  refine (HE.out _).mono ?_
  rintro r w1 ⟨rfl, hb1⟩
  have hbx1 := HB.out.1.keep (hb1.block _ HB.out.1.lt)
  have hb01 := HB.out.2.trans (hb1.mono HB.out.2.size)
  by_cases hz : ck = 0
  · subst hz
    have H1 : Hid (RpS w w1 es e 0 none 0) := ⟨ownE_nil _ _, hbx1, hb01, Nat.zero_le _⟩
    clear hb1 hbx1 hb01
    go_wp2_with fail
    go_loopw [7, 8] (fun s7 s8 wr => ∃ (i : Nat) (A' : Option Addr) (c' : Nat), i ≤ n ∧ s7 = .slice A' i c' ∧ s8 = .int .i64 i ∧ RpS w wr es e i A' c') (fun _ j _ => n - (intOf j).toNat)
    case atStart => exact ⟨0, none, 0, Nat.zero_le _, rfl, rfl, H1.out⟩
    case round =>
      obtain ⟨i, A', c', hi, rfl, rfl, hR⟩ := hrel
      have HR := Lib.hid hR
      by_cases hin : i < n
      · have hcN : (i : Int) < n := by omega
        obtain ⟨b, o, x, rfl, hx, z0, z1, z2, z3⟩ := HA.out.at_ hin
        have k : ∀ {a : Addr} {u : Value}, w.cell? a = some u → ∀ V, (Blk V w.heap.size #[.string (str e.key), .int .i64 e.seq, .bool e.del, .string (str e.val)] 30 ∧ Below w.heap.size w V) → V.cell? a = some u := fun h V hV => (hV.2.cell (World.block_lt_of_cell? w _ h)).trans h
        have z0' := k z0
        have z1' := k z1
        have z2' := k z2
        have z3' := k z3
        have y0 : ∀ V, (Blk V w.heap.size #[.string (str e.key), .int .i64 e.seq, .bool e.del, .string (str e.val)] 30 ∧ Below w.heap.size w V) → V.cell? ⟨w.heap.size, 0, none⟩ = some (.string (str e.key)) := fun V h => h.1.cell rfl
        have y1 : ∀ V, (Blk V w.heap.size #[.string (str e.key), .int .i64 e.seq, .bool e.del, .string (str e.val)] 30 ∧ Below w.heap.size w V) → V.cell? ⟨w.heap.size, 1, none⟩ = some (.int .i64 e.seq) := fun V h => h.1.cell rfl
        have y2 : ∀ V, (Blk V w.heap.size #[.string (str e.key), .int .i64 e.seq, .bool e.del, .string (str e.val)] 30 ∧ Below w.heap.size w V) → V.cell? ⟨w.heap.size, 2, none⟩ = some (.bool e.del) := fun V h => h.1.cell rfl
        have y3 : ∀ V, (Blk V w.heap.size #[.string (str e.key), .int .i64 e.seq, .bool e.del, .string (str e.val)] 30 ∧ Below w.heap.size w V) → V.cell? ⟨w.heap.size, 3, none⟩ = some (.string (str e.val)) := fun V h => h.1.cell rfl
        have hS0 : Blk wr w.heap.size #[.string (str e.key), .int .i64 e.seq, .bool e.del, .string (str e.val)] 30 ∧ Below w.heap.size w wr := ⟨hR.box, hR.bel⟩
        have hbf := rbefore_any x e
        obtain ⟨ah, hah⟩ : ∃ ah, ah = x.ahead e.key e.seq := ⟨_, rfl⟩
        rw [← hah] at hbf
        have HF := Lib.hid hbf
        have HX := Lib.hid (And.intro hx hah)
        have HZ := Lib.hid (And.intro z0' (And.intro z1' (And.intro z2' z3')))
        clear hR k z0 z1 z2 z3 hbf hx hah
        go_wp2_with fail
        go_region_held (fun V => Blk V w.heap.size #[.string (str e.key), .int .i64 e.seq, .bool e.del, .string (str e.val)] 30 ∧ Below w.heap.size w V) (first | assumption | exact ⟨(by assumption : _ ∧ _).1, Below.drew (by assumption : _ ∧ _).2⟩ | exact ⟨Blk.keep hS0.1 (hb4.block _ hS0.1.lt), hS0.2.trans (hb4.mono hS0.2.size)⟩) (first
          | (go_at_call 24; refine (HF.out _).mono ?_; rintro r w4 ⟨rfl, hb4'⟩; have hb4 : Below wr.heap.size wr w4 := (by first | exact hb4' | exact (below_dN9 wr 1).trans hb4'); clear hb4'))
        have hR4 := HR.out.below hb4
        cases ah with
        | true =>
          have hS4 := And.intro hR4.box hR4.bel
          have z0 := z0' _ hS4
          have z1 := z1' _ hS4
          have z2 := z2' _ hS4
          have z3 := z3' _ hS4
          have HR4 := Lib.hid hR4
          clear z0' z1' z2' z3' y0 y1 y2 y3 hR4 hS4 hb4
          go_wp2_with (at_builtin; refine wpList_appE _ rfl (.tmp 27) (.tmp 32) rfl (w.heap.size + 1) _ _ (es.take i) rfl (ownS_below HR4.out.row ((Below.refl _ w4).alloc (Nat.le_refl _) _)) (some ⟨w4.heap.size, 0, none⟩) 1 1 [x] rfl (Sle.new w4 x) (by simp) (by omega) (by have := HR4.out.bel.size; have := HR4.out.box.lt; simp; omega) ?_; intro A7 c7 w7 hown7 hg7)
          exact ⟨⟨i + 1, A7, c7, by omega, rfl, by go_num, HR4.out.app HX.out.1 HX.out.2.symm hown7 hg7⟩, by simp only [intOf]; omega⟩
        | false =>
          have hS4 := And.intro hR4.box hR4.bel
          have z0 := z0' _ hS4
          have z1 := z1' _ hS4
          have z2 := z2' _ hS4
          have z3 := z3' _ hS4
          have x0 := y0 _ hS4
          have x1 := y1 _ hS4
          have x2 := y2 _ hS4
          have x3 := y3 _ hS4
          have HR4 := Lib.hid hR4
          have hpe : posE es e.key e.seq = i := posE_is HR.out.pos (fun m hm => by rw [HX.out.1] at hm; cases hm; exact HX.out.2.symm)
          have HPE := Lib.hid hpe
          have htl : ∀ l : List UInt8, (str l).toList = l := fun l => ByteArray.toList_mk l
          clear z0' z1' z2' z3' y0 y1 y2 y3 hR4 hS4 hb4 hpe
          by_cases hk : x.key = e.key
          · by_cases hq : x.seq = e.seq
            · have hd : putC es e = 2 := by
                rw [putC_dup HS.out HCK.out.symm, if_pos]
                unfold dupE
                rw [HPE.out, HX.out.1]
                simp [hk, hq]
              rw [hk] at z0
              rw [hq] at z1
              have HD := Lib.hid hd
              clear htl hk hq hd
              go_wp2_with fail
              go_quiet (fail)
              go_wp2_with fail
              refine bodyPost_ret (results_tmp2 rfl _ _ _) rfl ?_
              exact ⟨.slice (some ⟨b, o, none⟩) n c, by rw [HD.out]; rfl, HR4.out.bel.trans ((below_dN9 w4 nq).mono HR4.out.bel.size), .inl ⟨by rw [HD.out]; decide, rfl⟩⟩
            · rw [hk] at z0
              have HQ := Lib.hid (show (x.seq == e.seq) = false by simpa using hq)
              have HPUT := Lib.hid (show putC es e = 0 by rw [putC_dup HS.out HCK.out.symm, if_neg]; unfold dupE; rw [HPE.out, HX.out.1]; simp [hq])
              clear htl hk
              go_wp2_with fail
              have hqb := HQ.out
              go_quiet (fail)
              have hR5 := HR4.out.below (below_dN9 w4 nq)
              generalize w4.drewN nq = W at hR5 ⊢
              clear z0 z1 z2 z3 x0 x1 x2 x3
              have q0 : W.cell? ⟨w.heap.size, 0, none⟩ = some (.string (str e.key)) := hR5.box.cell rfl
              have q1 : W.cell? ⟨w.heap.size, 1, none⟩ = some (.int .i64 e.seq) := hR5.box.cell rfl
              have q2 : W.cell? ⟨w.heap.size, 2, none⟩ = some (.bool e.del) := hR5.box.cell rfl
              have q3 : W.cell? ⟨w.heap.size, 3, none⟩ = some (.string (str e.val)) := hR5.box.cell rfl
              have HR5 := Lib.hid hR5
              clear hR5
              go_wp2_with (first
                | (at_builtin; refine wpList_appE _ rfl (.tmp 61) (.tmp 63) rfl (w.heap.size + 1) _ _ (es.take i) rfl (ownS_below HR5.out.row ((Below.refl _ W).alloc (Nat.le_refl _) _)) (some ⟨W.heap.size, 0, none⟩) 1 1 [e] rfl (Sle.new W e) (by simp) (by omega) (by have := HR5.out.bel.size; have := HR5.out.box.lt; simp; omega) ?_; intro A7 c7 w7 hown7 hg7
                   have hb7 := (HR5.out.bel.alloc HR5.out.bel.size (.cells #[.string (str e.key), .int .i64 e.seq, .bool e.del, .string (str e.val)] 30)).grown hg7 (by have := HR5.out.bel.size; simp; omega) (fun k e => by have := ownS_blk HR5.out.row k e; omega)
                   clear q0 q1 q2 q3)
                | (at_builtin; refine wpList_appE _ rfl (.tmp 65) (.tmp 68) rfl (w.heap.size + 1) _ _ (es.take i ++ [e]) rfl hown7 (some ⟨b, o + i * 4, none⟩) (n - i) _ (es.drop i) rfl (((HA.out).belowW hb7).drop hi) (by simp) (by omega) (by have := hb7.size; have := HR5.out.box.lt; have := hg7.size; simp at this; omega) ?_; intro A8 c8 w8 hown8 hg8))
              refine bodyPost_ret (results_tmp2 rfl _ _ _) rfl ?_
              refine ⟨.slice A8 (i + 1 + (n - i)) c8, by rw [HPUT.out]; rfl, hb7.grown hg8 (by have := hb7.size; omega) (fun k e => by have := ownS_blk hown7 k e; omega), .inr ⟨HPUT.out, ?_⟩⟩
              rw [insE_at HPE.out]
              have hown9 := ownS_base hown8 (Nat.le_succ w.heap.size)
              rw [show n + 1 = i + 1 + (n - i) by omega]
              exact hown9
          · have HPUT := Lib.hid (show putC es e = 0 by rw [putC_dup HS.out HCK.out.symm, if_neg]; unfold dupE; rw [HPE.out, HX.out.1]; simp [hk])
            have g2 : ((str x.key).toList == (str e.key).toList) = false := by rw [htl, htl]; simpa using hk
            have g3 : ¬ (str x.key).toList = (str e.key).toList := by rw [htl, htl]; exact hk
            clear htl hk
            go_wp2_with fail
            go_quiet (fail)
            have hR5 := HR4.out.below (below_dN9 w4 nq)
            generalize w4.drewN nq = W at hR5 ⊢
            clear z0 z1 z2 z3 x0 x1 x2 x3
            have q0 : W.cell? ⟨w.heap.size, 0, none⟩ = some (.string (str e.key)) := hR5.box.cell rfl
            have q1 : W.cell? ⟨w.heap.size, 1, none⟩ = some (.int .i64 e.seq) := hR5.box.cell rfl
            have q2 : W.cell? ⟨w.heap.size, 2, none⟩ = some (.bool e.del) := hR5.box.cell rfl
            have q3 : W.cell? ⟨w.heap.size, 3, none⟩ = some (.string (str e.val)) := hR5.box.cell rfl
            have HR5 := Lib.hid hR5
            clear hR5
            go_wp2_with (first
              | (at_builtin; refine wpList_appE _ rfl (.tmp 61) (.tmp 63) rfl (w.heap.size + 1) _ _ (es.take i) rfl (ownS_below HR5.out.row ((Below.refl _ W).alloc (Nat.le_refl _) _)) (some ⟨W.heap.size, 0, none⟩) 1 1 [e] rfl (Sle.new W e) (by simp) (by omega) (by have := HR5.out.bel.size; have := HR5.out.box.lt; simp; omega) ?_; intro A7 c7 w7 hown7 hg7
                 have hb7 := (HR5.out.bel.alloc HR5.out.bel.size (.cells #[.string (str e.key), .int .i64 e.seq, .bool e.del, .string (str e.val)] 30)).grown hg7 (by have := HR5.out.bel.size; simp; omega) (fun k e => by have := ownS_blk HR5.out.row k e; omega)
                 clear q0 q1 q2 q3)
              | (at_builtin; refine wpList_appE _ rfl (.tmp 65) (.tmp 68) rfl (w.heap.size + 1) _ _ (es.take i ++ [e]) rfl hown7 (some ⟨b, o + i * 4, none⟩) (n - i) _ (es.drop i) rfl (((HA.out).belowW hb7).drop hi) (by simp) (by omega) (by have := hb7.size; have := HR5.out.box.lt; have := hg7.size; simp at this; omega) ?_; intro A8 c8 w8 hown8 hg8))
            refine bodyPost_ret (results_tmp2 rfl _ _ _) rfl ?_
            refine ⟨.slice A8 (i + 1 + (n - i)) c8, by rw [HPUT.out]; rfl, hb7.grown hg8 (by have := hb7.size; omega) (fun k e => by have := ownS_blk hown7 k e; omega), .inr ⟨HPUT.out, ?_⟩⟩
            rw [insE_at HPE.out]
            have hown9 := ownS_base hown8 (Nat.le_succ w.heap.size)
            rw [show n + 1 = i + 1 + (n - i) by omega]
            exact hown9
      · have hcN : ¬ (i : Int) < n := by omega
        obtain rfl : i = n := by omega
        have hpe : posE es e.key e.seq = i := posE_is HR.out.pos (fun m hm => by rw [List.getElem?_eq_none (by have := HA.out.1; omega)] at hm; cases hm)
        have HPUT := Lib.hid (show putC es e = 0 by rw [putC_dup HS.out HCK.out.symm, if_neg]; unfold dupE; rw [hpe, List.getElem?_eq_none (by have := HA.out.1; omega)]; simp)
        have HPE := Lib.hid hpe
        clear hR hpe
        go_wp2_with fail
        go_quiet (fail)
        have hR4 := HR.out.below (below_dN9 wr nq)
        generalize wr.drewN nq = w4 at hR4 ⊢
        have HR4 := Lib.hid hR4
        clear hR4
        go_wp2_with fail
        go_quiet (fail)
        have hR5 := HR4.out.below (below_dN9 w4 nq)
        generalize w4.drewN nq = W at hR5 ⊢
        have q0 : W.cell? ⟨w.heap.size, 0, none⟩ = some (.string (str e.key)) := hR5.box.cell rfl
        have q1 : W.cell? ⟨w.heap.size, 1, none⟩ = some (.int .i64 e.seq) := hR5.box.cell rfl
        have q2 : W.cell? ⟨w.heap.size, 2, none⟩ = some (.bool e.del) := hR5.box.cell rfl
        have q3 : W.cell? ⟨w.heap.size, 3, none⟩ = some (.string (str e.val)) := hR5.box.cell rfl
        have HR5 := Lib.hid hR5
        clear hR5
        by_cases hci : c = i
        · subst hci
          go_wp2_with (first
            | (at_builtin; refine wpList_appE _ rfl (.tmp 61) (.tmp 63) rfl (w.heap.size + 1) _ _ (es.take c) rfl (ownS_below HR5.out.row ((Below.refl _ W).alloc (Nat.le_refl _) _)) (some ⟨W.heap.size, 0, none⟩) 1 1 [e] rfl (Sle.new W e) (by simp) (by omega) (by have := HR5.out.bel.size; have := HR5.out.box.lt; simp; omega) ?_; intro A7 c7 w7 hown7 hg7
               have hb7 := (HR5.out.bel.alloc HR5.out.bel.size (.cells #[.string (str e.key), .int .i64 e.seq, .bool e.del, .string (str e.val)] 30)).grown hg7 (by have := HR5.out.bel.size; simp; omega) (fun k e => by have := ownS_blk HR5.out.row k e; omega)
               obtain ⟨g7, p7, hv7⟩ := ownsRow_succ hown7
               cases hv7
               have hcap7 := own_capE hown7
               clear q0 q1 q2 q3)
            | (at_builtin; refine wpList_app0 _ rfl (.tmp 65) (.tmp 68) rfl ⟨g7, 0, none⟩ (c + 1) c7 _ _ rfl rfl hcap7 ?_))
          refine bodyPost_ret (results_tmp2 rfl _ _ _) rfl ?_
          refine ⟨.slice (some ⟨g7, 0, none⟩) (c + 1) c7, by rw [HPUT.out]; rfl, hb7, .inr ⟨HPUT.out, ?_⟩⟩
          rw [insE_at HPE.out, List.drop_eq_nil_of_le (by have := HA.out.1; omega), List.append_nil]
          exact ownS_base hown7 (Nat.le_succ w.heap.size)
        · have hci2 : ¬ (c : Int) = i := by omega
          go_wp2_with (first
            | (at_builtin; refine wpList_appE _ rfl (.tmp 61) (.tmp 63) rfl (w.heap.size + 1) _ _ (es.take i) rfl (ownS_below HR5.out.row ((Below.refl _ W).alloc (Nat.le_refl _) _)) (some ⟨W.heap.size, 0, none⟩) 1 1 [e] rfl (Sle.new W e) (by simp) (by omega) (by have := HR5.out.bel.size; have := HR5.out.box.lt; simp; omega) ?_; intro A7 c7 w7 hown7 hg7
               have hb7 := (HR5.out.bel.alloc HR5.out.bel.size (.cells #[.string (str e.key), .int .i64 e.seq, .bool e.del, .string (str e.val)] 30)).grown hg7 (by have := HR5.out.bel.size; simp; omega) (fun k e => by have := ownS_blk HR5.out.row k e; omega)
               obtain ⟨g7, p7, hv7⟩ := ownsRow_succ hown7
               cases hv7
               have hcap7 := own_capE hown7
               clear q0 q1 q2 q3)
            | (at_builtin; refine wpList_app0 _ rfl (.tmp 65) (.tmp 68) rfl ⟨g7, 0, none⟩ (i + 1) c7 _ _ rfl rfl hcap7 ?_))
          refine bodyPost_ret (results_tmp2 rfl _ _ _) rfl ?_
          refine ⟨.slice (some ⟨g7, 0, none⟩) (i + 1) c7, by rw [HPUT.out]; rfl, hb7, .inr ⟨HPUT.out, ?_⟩⟩
          rw [insE_at HPE.out, List.drop_eq_nil_of_le (by have := HA.out.1; omega), List.append_nil]
          exact ownS_base hown7 (Nat.le_succ w.heap.size)
  · have H1 := Lib.hid (And.intro hbx1 hb01)
    have hpb := putC_bad (es := es) (show chk e ≠ 0 from HCK.out ▸ hz)
    clear hb1 hbx1 hb01
    go_wp2_with fail
    refine bodyPost_ret (results_tmp2 rfl _ _ _) rfl ?_
    exact ⟨.slice A n c, by rw [hpb, ← HCK.out]; rfl, H1.out.2, .inl ⟨by rw [hpb, ← HCK.out]; exact hz, rfl⟩⟩
end Go.Proofs.Ytjlebmpgjliacaa
