/-
  Texts put together: ReA, ReB, ReC, ReD.
-/
import Derived.Test.YtadkgfhfjagmpaaGreatDoorGDr
namespace Go.Proofs.YtadkgfhfjagmpaaGreatDoor
open Go.RowKit Go.Maps
set_option linter.unusedVariables false

def fcells (f : Fm) : List Value := [.string (str f.name), .string (str f.data), .int .i64 f.syn]
def fcs (fs : List Fm) : List Value := fs.flatMap fcells
def fagg (f : Fm) : Value := .agg #[.string (str f.name), .string (str f.data), .int .i64 f.syn]
theorem fcs_len (fs : List Fm) : (fcs fs).length = fs.length * 3 := by
  induction fs with
  | nil => rfl
  | cons f r ih => simp only [fcs, List.flatMap_cons, List.length_append, List.length_cons] at ih ⊢; rw [ih]; simp [fcells]; omega
theorem fcs_app (a b : List Fm) : fcs (a ++ b) = fcs a ++ fcs b := by simp [fcs]
theorem fcs_get : ∀ {fs : List Fm} {i : Nat} {f : Fm}, fs[i]? = some f → (fcs fs)[3 * i]? = some (.string (str f.name)) ∧ (fcs fs)[3 * i + 1]? = some (.string (str f.data)) ∧ (fcs fs)[3 * i + 2]? = some (.int .i64 f.syn)
  | [], i, f, h => by simp at h
  | g :: r, 0, f, h => by
    simp at h; subst h
    simp [fcs, fcells]
  | g :: r, i + 1, f, h => by
    have ih := fcs_get (fs := r) (i := i) (f := f) (by simpa using h)
    have e : fcs (g :: r) = fcells g ++ fcs r := by simp [fcs]
    have e3 : (fcells g).length = 3 := rfl
    rw [e]
    refine ⟨?_, ?_, ?_⟩
    · rw [List.getElem?_append_right (by rw [e3]; omega), e3, show 3 * (i + 1) - 3 = 3 * i from by omega]; exact ih.1
    · rw [List.getElem?_append_right (by rw [e3]; omega), e3, show 3 * (i + 1) + 1 - 3 = 3 * i + 1 from by omega]; exact ih.2.1
    · rw [List.getElem?_append_right (by rw [e3]; omega), e3, show 3 * (i + 1) + 2 - 3 = 3 * i + 2 from by omega]; exact ih.2.2

/-- A slice that reads as a list of files. -/
def Fl (w : World) (A : Option Addr) (n : Nat) (fs : List Fm) : Prop :=
  fs.length = n ∧ (0 < n → ∃ b o : Nat, A = some ⟨b, o, none⟩ ∧ ∀ j u, (fcs fs)[j]? = some u → w.cell? ⟨b, o + j, none⟩ = some u)
section
variable {w w' : World} {n : Nat} {A : Option Addr} {fs : List Fm}
theorem Fl.keep (h : Fl w A n fs) (hk : ∀ k, k < w.heap.size → w'.heap[k]? = w.heap[k]?) : Fl w' A n fs :=
  ⟨h.1, fun hn => by
    obtain ⟨b, o, e, hc⟩ := h.2 hn
    refine ⟨b, o, e, fun j u hu => ?_⟩
    have hcj := hc j u hu
    exact (World.cell?_of_block (w := w) (hk _ (World.block_lt_of_cell? w _ hcj))).trans hcj⟩
theorem Fl.below (h : Fl w A n fs) (hb : Below w.heap.size w w') : Fl w' A n fs := h.keep hb.block
theorem Fl.alloc (h : Fl w A n fs) (o : Obj) : Fl (w.alloc o) A n fs := h.keep fun k hk => Below.heap_alloc w o k hk
theorem Fl.drewN (h : Fl w A n fs) (k : Nat) : Fl (w.drewN k) A n fs := h
theorem Fl.at_ {i : Nat} (h : Fl w A n fs) (hi : i < n) : ∃ (b o : Nat) (f : Fm), A = some ⟨b, o, none⟩ ∧ fs[i]? = some f ∧ w.cell? ⟨b, o + i * 3, none⟩ = some (.string (str f.name)) ∧ w.cell? ⟨b, o + i * 3 + 1, none⟩ = some (.string (str f.data)) ∧ w.cell? ⟨b, o + i * 3 + 2, none⟩ = some (.int .i64 f.syn) := by
  obtain ⟨b, o, e, hc⟩ := h.2 (by omega)
  have hl : i < fs.length := by have := h.1; omega
  have hg : fs[i]? = some fs[i] := List.getElem?_eq_getElem hl
  obtain ⟨h1, h2, h3⟩ := fcs_get hg
  rw [Nat.mul_comm] at h1 h2 h3
  refine ⟨b, o, fs[i], e, hg, hc _ _ h1, ?_, ?_⟩
  · rw [Nat.add_assoc]; exact hc _ _ h2
  · rw [Nat.add_assoc]; exact hc _ _ h3
end
theorem own_fl {w : World} {base : Nat} {e : TypeId} {A : Option Addr} {n c : Nat} {fs : List Fm} (h : w.ownsRow base e 3 (.slice A n c) n (fcs fs)) : Fl w A n fs := by
  refine ⟨by have := h.1; rw [fcs_len] at this; omega, fun hn => ?_⟩
  rcases h.2 with ⟨_, h0⟩ | ⟨g, cap, cur, hv, _⟩
  · omega
  · injection hv with hA hn' hc'
    subst hA
    refine ⟨g, 0, rfl, fun j u hu => ?_⟩
    have := h.cells (g := g) rfl j u hu
    rwa [add_plain] at this
def dv (A : Option Addr) (n c : Nat) (st : Int) (ar : Bool) (lf : Int) : Value := .agg #[.slice A n c, .int .i64 st, .bool ar, .int .i64 lf]

set_option maxHeartbeats 4000000 in
theorem rdead_any (A : Option Addr) (n c : Nat) (st : Int) (ar : Bool) (lf : Int) (w : World) :
    Calls Tryz.prog 62 #[.agg #[.slice A n c, .int .i64 st, .bool ar, .int .i64 lf]] w fun e w' => e = .returned (.bool (dead ar lf)) ∧ Below w.heap.size w w' := by
  cases ar
  · go_enter Tryz.func62, Tryz.ntmps62
    go_wp2_with fail
    go_ret
    exact ⟨rfl, (Below.refl _ w).alloc (Nat.le_refl _) _⟩
  · go_enter Tryz.func62, Tryz.ntmps62
    go_wp2_with fail
    go_ret
    exact ⟨rfl, (Below.refl _ w).alloc (Nat.le_refl _) _⟩

def NoAt (fs : List Fm) (s : List UInt8) (k : Nat) : Prop := ∀ j f, j < k → fs[j]? = some f → f.name ≠ s
theorem NoAt.none_ {fs : List Fm} {s : List UInt8} {k : Nat} (h : NoAt fs s k) (hk : fs.length ≤ k) : atK Fm.name s fs = -1 := by
  apply atK_none
  simp only [findK, List.find?_eq_none]
  intro x hx
  obtain ⟨j, hj, e⟩ := List.getElem_of_mem hx
  have := h j x (by omega) (by rw [List.getElem?_eq_getElem hj, e])
  simpa using this
theorem NoAt.some_ {fs : List Fm} {s : List UInt8} {k : Nat} {f : Fm} (h : NoAt fs s k) (hk : fs[k]? = some f) (hf : f.name = s) : atK Fm.name s fs = (k : Int) := by
  have : fs.findIdx? (fun z => z.name == s) = some k := by
    rw [List.findIdx?_eq_some_iff_getElem]
    obtain ⟨hl, he⟩ := List.getElem?_eq_some_iff.1 hk
    refine ⟨hl, by rw [he]; simpa using hf, fun j hj => ?_⟩
    have := h j fs[j] hj (List.getElem?_eq_getElem (by omega))
    simpa using this
  simp [atK, this]
theorem NoAt.step {fs : List Fm} {s : List UInt8} {k : Nat} {f : Fm} (h : NoAt fs s k) (hk : fs[k]? = some f) (hf : f.name ≠ s) : NoAt fs s (k + 1) := by
  intro j g hj hg
  rcases Nat.lt_or_ge j k with hlt | hge
  · exact h j g hlt hg
  · have : j = k := by omega
    subst this
    rw [hk] at hg
    rwa [← Option.some.inj hg]

set_option maxHeartbeats 4000000 in
theorem at_any (A : Option Addr) (n c : Nat) (fs : List Fm) (st : Int) (ar : Bool) (lf : Int) (s : List UInt8) (w : World) (h : Fl w A n fs) (hn : n ≤ 140737488355328) :
    Calls Tryz.prog 53 #[.agg #[.slice A n c, .int .i64 st, .bool ar, .int .i64 lf], .string (str s)] w fun e w' => e = .returned (.int .i64 (atK Fm.name s fs)) ∧ Below w.heap.size w w' := by
  have hnl := h.1
  subst hnl
  have htl : ∀ l, (str l).toList = l := fun l => ByteArray.toList_mk l
  go_enter Tryz.func53, Tryz.ntmps53
  go_wp2_with fail
  have hb1 : Below w.heap.size w (w.alloc (.cells #[.slice A fs.length c, .int .i64 st, .bool ar, .int .i64 lf] 35)) := (Below.refl _ w).alloc (Nat.le_refl _) _
  have h1 := h.alloc (.cells #[.slice A fs.length c, .int .i64 st, .bool ar, .int .i64 lf] 35)
  have HB := Lib.hid hb1
  clear hb1
  go_loopw [5] (fun j wr => ∃ k : Nat, k ≤ fs.length ∧ j = .int .i64 k ∧ NoAt fs s k ∧ wr = w.alloc (.cells #[.slice A fs.length c, .int .i64 st, .bool ar, .int .i64 lf] 35)) (fun j _ => fs.length - (intOf j).toNat)
  case atStart => exact ⟨0, Nat.zero_le _, rfl, fun j f hj => by omega, rfl⟩
  case round =>
    obtain ⟨k, hk, rfl, hno, rfl⟩ := hrel
    have HN := Lib.hid hno
    clear hno
    by_cases hkn : k < fs.length
    · have hcN : (k : Int) < fs.length := by omega
      obtain ⟨b, o, f, rfl, hf, c1, c2, c3⟩ := h1.at_ hkn
      have HF := Lib.hid hf
      clear hf
      have hlt := World.block_lt_of_cell? _ _ c1
      by_cases he : f.name = s
      · subst he
        go_wp2_with fail
        go_ret
        exact ⟨by rw [HN.out.some_ HF.out rfl]; rfl, HB.out⟩
      · have HE := Lib.hid he
        have heq : (f.name == s) = false := by simpa using he
        clear he
        go_wp2_with fail
        exact ⟨⟨k + 1, by omega, by simp, HN.out.step HF.out HE.out, trivial⟩, by simp [intOf]; omega⟩
    · have hcN : ¬ (k : Int) < fs.length := by omega
      go_wp2_with fail
      go_ret
      exact ⟨by rw [HN.out.none_ (by omega)]; rfl, HB.out⟩
end Go.Proofs.YtadkgfhfjagmpaaGreatDoor

namespace Go.Proofs.YtadkgfhfjagmpaaGreatDoor
open Go.RowKit Go.Maps
set_option linter.unusedVariables false

theorem ret_drive {fn : Func} {p : Tmp} (h : fn.results = #[.cell p 35]) {R : Ending → World → Prop} {a : Act} {w : World} {g : Nat} {A : Option Addr} {n c : Nat} {st lf : Int} {ar : Bool} (hd : a.defers = [])
    (hp : a.tmps.getD p undef = .pointer (some ⟨g, 0, none⟩)) (hg : Blk w g #[.slice A n c, .int .i64 st, .bool ar, .int .i64 lf] 35)
    (hR : R (.returned (.agg #[.slice A n c, .int .i64 st, .bool ar, .int .i64 lf])) w) : bodyPost Tryz.prog fn R .ret a w :=
  bodyPost_ret (results_cell_row h _ _ g _ _ _ _ hp hg Tryz.underlying35 rfl (by kernel_rfl)) hd hR

set_option maxHeartbeats 4000000 in
theorem rstep_any (A : Option Addr) (n c : Nat) (st : Int) (ar : Bool) (lf : Int) (w : World) :
    Calls Tryz.prog 121 #[.agg #[.slice A n c, .int .i64 st, .bool ar, .int .i64 lf]] w fun e w' => e = .returned (.agg #[.slice A n c, .int .i64 (wrap64 (st + 1)), .bool ar, .int .i64 (if ar then wrap64 (lf - 1) else lf)]) ∧ Below w.heap.size w w' := by
  cases ar
  · go_enter Tryz.func121, Tryz.ntmps121
    go_wp2_with fail
    exact ret_drive rfl rfl rfl (heap_alloc2_new w _ _) ⟨rfl, ((Below.refl _ w).alloc (Nat.le_refl _) _).alloc (by simp) _⟩
  · go_enter Tryz.func121, Tryz.ntmps121
    go_wp2_with fail
    exact ret_drive rfl rfl rfl (heap_alloc2_new w _ _) ⟨rfl, ((Below.refl _ w).alloc (Nat.le_refl _) _).alloc (by simp) _⟩

/-! ### append of one file -/
theorem fileInfo : (Tryz.prog.info? 108).map (fun i => (i.zero, i.size, i.bytes)) = some (some (.agg #[.string ⟨#[]⟩, .string ⟨#[]⟩, .int .i64 0]), 3, 40) := by kernel_rfl
theorem fcs_one (fs : List Fm) : ∀ u ∈ fcs fs, u.oneCell' = true := by
  intro u hu
  obtain ⟨f, _, h⟩ := List.mem_flatMap.1 hu
  simp [fcells] at h
  rcases h with rfl | rfl | rfl <;> rfl
theorem wpList_app3 (w : World) {ops : Array Oper} {rest : List Oper} {o : Oper} {a : Act} {Q : Exit → Act → World → Prop} (hgd : o.guard = none) (s x : Operand)
    (ho : o.op = .call { callee := .builtin .append, args := #[s, x], argTypes := #[33, 33] })
    (base : Nat) (v : Value) (n : Nat) (xs : List Fm) (hnx : xs.length = n) (hs : a.eval s = v) (hown : w.ownsRow base 108 3 v n (fcs xs))
    (b : Nat) (f : Fm) (hx : a.eval x = .slice (some ⟨b, 0, none⟩) 1 1) (hb : Blk w b #[.string (str f.name), .string (str f.data), .int .i64 f.syn] 108)
    (hlen : n ≤ 1000000) (hbase : base ≤ w.heap.size)
    (h : ∀ A' c' w', w'.ownsRow base 108 3 (.slice A' (n + 1) c') (n + 1) (fcs (xs ++ [f])) → w.grownBy w' v.ownBlock →
      wpList Tryz.prog ops Q rest (a.put o.dst (.slice A' (n + 1) c')) w') :
    wpList Tryz.prog ops Q (o :: rest) a w := by
  refine wpList_plain hgd fun K hK => ?_
  obtain ⟨i, hi, hz0, hz1, hz2⟩ := info_parts fileInfo
  obtain ⟨v', w', hrun, h2, h3, _, h5⟩ := run_append_own_at (P := Tryz.prog) w base 33 o.type 108 i _ 3 40 Tryz.underlying33 hi hz0 hz1 hz2 rfl (by omega) v n (fcs xs) hown ⟨b, 0, none⟩ 1 1 (fcs [f]) rfl
    (fun j u hu => by
      rw [add_plain, Nat.zero_add]
      have : j < 3 := by
        have := (List.getElem?_eq_some_iff.1 hu).1
        simpa [fcs, fcells] using this
      refine hb.cell ?_
      rcases j with _ | _ | _ | j
      · simpa [fcs, fcells] using hu
      · simpa [fcs, fcells] using hu
      · simpa [fcs, fcells] using hu
      · omega) (fcs_one _) (by simp only [maxLen]; omega) (by omega) hbase
  rw [← fcs_app] at h2
  have hform : ∃ A' c', v' = .slice A' (n + 1) c' := by
    rcases h2.2 with ⟨rfl, e⟩ | ⟨g, cap, cur, rfl, _⟩
    · simp at e
    · exact ⟨_, _, rfl⟩
  obtain ⟨A', c', rfl⟩ := hform
  unfold Oper.wp execOp
  simp only [ho, resolve, invoke, builtin, Sem.run_bind, Sem.run_pure, Result.andThen_ok, List.map_toArray, List.map_cons, List.map_nil, hs, hx, hrun]
  exact hK _ _ (h A' c' w' h2 h3)

/-! ### with -/
def WPre (f : Fm) (fs : List Fm) (i : Nat) (put : Bool) (xs : List Fm) : Prop :=
  xs ++ (if put then (fs.drop i).filter (fun z => z.name != f.name) else withK Fm.name f (fs.drop i)) = withK Fm.name f fs
theorem WPre.start (f : Fm) (fs : List Fm) : WPre f fs 0 false [] := by simp [WPre]
theorem drop_at {α : Type} {l : List α} {i : Nat} {x : α} (h : l[i]? = some x) : l.drop i = x :: l.drop (i + 1) := by
  obtain ⟨hl, he⟩ := List.getElem?_eq_some_iff.1 h
  rw [List.drop_eq_getElem_cons hl, he]
theorem WPre.s1 {f x : Fm} {fs xs : List Fm} {i : Nat} (h : WPre f fs i false xs) (hx : fs[i]? = some x) (hle : le f.name x.name = true) (hne : x.name ≠ f.name) : WPre f fs (i + 1) true (xs ++ [f] ++ [x]) := by
  unfold WPre at h ⊢
  rw [drop_at hx] at h
  rw [← h]
  simp [withK, hle, hne]
theorem WPre.s2 {f x : Fm} {fs xs : List Fm} {i : Nat} (h : WPre f fs i false xs) (hx : fs[i]? = some x) (hne : x.name = f.name) : WPre f fs (i + 1) true (xs ++ [f]) := by
  unfold WPre at h ⊢
  rw [drop_at hx] at h
  rw [← h]
  have : le f.name f.name = true := by simp [le]
  simp [withK, this, hne]
theorem WPre.s3 {f x : Fm} {fs xs : List Fm} {i : Nat} (h : WPre f fs i false xs) (hx : fs[i]? = some x) (hle : le f.name x.name = false) : WPre f fs (i + 1) false (xs ++ [x]) := by
  unfold WPre at h ⊢
  rw [drop_at hx] at h
  rw [← h]
  simp [withK, hle]
theorem WPre.s4 {f x : Fm} {fs xs : List Fm} {i : Nat} (h : WPre f fs i true xs) (hx : fs[i]? = some x) (hne : x.name ≠ f.name) : WPre f fs (i + 1) true (xs ++ [x]) := by
  unfold WPre at h ⊢
  rw [drop_at hx] at h
  rw [← h]
  simp [hne]
theorem WPre.s5 {f x : Fm} {fs xs : List Fm} {i : Nat} (h : WPre f fs i true xs) (hx : fs[i]? = some x) (hne : x.name = f.name) : WPre f fs (i + 1) true xs := by
  unfold WPre at h ⊢
  rw [drop_at hx] at h
  rw [← h]
  simp [hne]
theorem WPre.end1 {f : Fm} {fs xs : List Fm} {i : Nat} (h : WPre f fs i true xs) (hi : fs.length ≤ i) : xs = withK Fm.name f fs := by
  unfold WPre at h
  rw [List.drop_of_length_le hi] at h
  simpa using h
theorem WPre.end2 {f : Fm} {fs xs : List Fm} {i : Nat} (h : WPre f fs i false xs) (hi : fs.length ≤ i) : xs ++ [f] = withK Fm.name f fs := by
  unfold WPre at h
  rw [List.drop_of_length_le hi] at h
  simpa [withK] using h
theorem bless_eq : ∀ (a b : List UInt8), Op.bytesLess a b = bytesBefore a b
  | [], [] => rfl
  | [], _ :: _ => rfl
  | _ :: _, [] => rfl
  | a :: r, b :: s => by
    have := bless_eq r s
    simp only [bytesBefore]
    unfold Op.bytesLess
    first
      | rw [this]
      | (simp only [this])

/-- A drive's files in memory of the call's own; nothing older is written. -/
def FreshD (w : World) (fs : List Fm) (st : Int) (ar : Bool) (lf : Int) (e : Ending) (w' : World) : Prop :=
  ∃ A c, e = .returned (.agg #[.slice A fs.length c, .int .i64 st, .bool ar, .int .i64 lf]) ∧ w'.ownsRow w.heap.size 108 3 (.slice A fs.length c) fs.length (fcs fs) ∧ Below w.heap.size w w'

theorem own3_nil (w : World) (B : Nat) : w.ownsRow B 108 3 (.slice none 0 0) ([] : List Fm).length (fcs []) := ⟨rfl, .inl ⟨rfl, rfl⟩⟩
theorem own3_form {w : World} {base e : Nat} {v : Value} {n : Nat} {xs : List Value} (h : w.ownsRow base e 3 v n xs) : ∃ A c, v = .slice A n c := by
  rcases h.2 with ⟨rfl, rfl⟩ | ⟨g, cap, cur, rfl, _⟩
  · exact ⟨_, _, rfl⟩
  · exact ⟨_, _, rfl⟩
theorem own3_blk {w : World} {base e : Nat} {v : Value} {n : Nat} {xs : List Value} (h : w.ownsRow base e 3 v n xs) : ∀ k, v.ownBlock = some k → base ≤ k := by
  intro k hk
  rcases h.2 with ⟨rfl, _⟩ | ⟨g, cap, cur, rfl, hb, _⟩
  · cases hk
  · cases hk; exact hb
theorem own3_keep {w1 w2 : World} {base e : Nat} {v : Value} {n : Nat} {xs : List Value} (h : w1.ownsRow base e 3 v n xs) (hk : ∀ k, v.ownBlock = some k → w2.heap[k]? = w1.heap[k]?) : w2.ownsRow base e 3 v n xs := by
  refine ⟨h.1, ?_⟩
  rcases h.2 with h2 | ⟨g, cap, cur, rfl, h3, h4, h5⟩
  · exact .inl h2
  · exact .inr ⟨g, cap, cur, rfl, h3, (hk g rfl).trans h4, h5⟩
theorem own3_lt {w : World} {base e : Nat} {v : Value} {n : Nat} {xs : List Value} (h : w.ownsRow base e 3 v n xs) : ∀ k, v.ownBlock = some k → k < w.heap.size := by
  intro k hk
  rcases h.2 with ⟨rfl, _⟩ | ⟨g, cap, cur, rfl, hb, h4, _⟩
  · cases hk
  · cases hk; exact (Array.getElem?_eq_some_iff.1 h4).1
theorem own3_below {w1 w2 : World} {base e : Nat} {v : Value} {n : Nat} {xs : List Value} (h : w1.ownsRow base e 3 v n xs) (hb : Below w1.heap.size w1 w2) : w2.ownsRow base e 3 v n xs :=
  own3_keep h fun k hk => hb.block k (own3_lt h k hk)
theorem own3_base {w : World} {B B' e : Nat} {v : Value} {n : Nat} {xs : List Value} (h : w.ownsRow B e 3 v n xs) (hB : B' ≤ B) : w.ownsRow B' e 3 v n xs := by
  refine ⟨h.1, ?_⟩
  rcases h.2 with h2 | ⟨g, cap, cur, rfl, h3, h4⟩
  · exact .inl h2
  · exact .inr ⟨g, cap, cur, rfl, Nat.le_trans hB h3, h4⟩

theorem setCell_os (w : World) (a : Addr) (v : Value) : (w.setCell a v).os = w.os := rfl
theorem setCell_tape (w : World) (a : Addr) (v : Value) : (w.setCell a v).tape = w.tape := rfl
theorem setCell_output (w : World) (a : Addr) (v : Value) : (w.setCell a v).output = w.output := rfl
/-- What a function of the reference leaves: its drive's new files stored, and all of it stored as its result. -/
theorem set_fin {w W0 V : World} {d r n c : Nat} {A : Option Addr} {st lf : Int} {ar : Bool} {ys : List Fm} {z0 z1 z2 z3 : Value} (hB0 : Below w.heap.size w W0) (hd : w.heap.size ≤ d) (hr : w.heap.size ≤ r) (hdl : d < W0.heap.size) (hrl : r < W0.heap.size) (hdr : r ≠ d)
    (hR : Blk W0 r #[z0, z1, z2, z3] 35) (hbw : Below W0.heap.size W0 V) (hown : V.ownsRow W0.heap.size 108 3 (.slice A n c) n (fcs ys)) (hn : ys.length = n)
    {fn : Func} {p : Tmp} (h : fn.results = #[.cell p 35]) {a : Act} (hdf : a.defers = []) (hp : a.tmps.getD p undef = .pointer (some ⟨r, 0, none⟩)) :
    bodyPost Tryz.prog fn (FreshD w ys st ar lf) .ret a (((((V.setCell ⟨d, 0, none⟩ (.slice A n c)).setCell ⟨r, 0, none⟩ (.slice A n c)).setCell ⟨r, 1, none⟩ (.int .i64 st)).setCell ⟨r, 2, none⟩ (.bool ar)).setCell ⟨r, 3, none⟩ (.int .i64 lf)) := by
  subst hn
  have hR1 : Blk V r #[z0, z1, z2, z3] 35 := hR.keep (hbw.block _ hrl)
  have hR2 : Blk (V.setCell ⟨d, 0, none⟩ (.slice A ys.length c)) r #[z0, z1, z2, z3] 35 := hR1.keep (setCell_other _ _ _ hdr)
  have hR3 := (((hR2.set 0 (.slice A ys.length c)).set 1 (.int .i64 st)).set 2 (.bool ar)).set 3 (.int .i64 lf)
  have hk : ∀ k, k ≠ d → k ≠ r → (((((V.setCell ⟨d, 0, none⟩ (.slice A ys.length c)).setCell ⟨r, 0, none⟩ (.slice A ys.length c)).setCell ⟨r, 1, none⟩ (.int .i64 st)).setCell ⟨r, 2, none⟩ (.bool ar)).setCell ⟨r, 3, none⟩ (.int .i64 lf)).heap[k]? = V.heap[k]? := fun k h1 h2 => by
    exact (setCell_other _ _ _ h2).trans ((setCell_other _ _ _ h2).trans ((setCell_other _ _ _ h2).trans ((setCell_other _ _ _ h2).trans (setCell_other _ _ _ h1))))
  have hR4 : Blk _ r #[.slice A ys.length c, .int .i64 st, .bool ar, .int .i64 lf] 35 := hR3
  refine ret_drive h hdf hp hR4 ⟨A, c, rfl, own3_base (own3_keep hown fun k hk' => hk k ?_ ?_) hB0.size, ?_⟩
  · have := own3_blk hown k hk'; omega
  · have := own3_blk hown k hk'; omega
  · refine ⟨?_, ?_, ?_, ?_, fun k hk' => ?_⟩
    · simp only [setCell_os]; exact hbw.os.trans hB0.os
    · simp only [setCell_tape]; exact hbw.tape.trans hB0.tape
    · simp only [setCell_output]; exact hbw.output.trans hB0.output
    · simp only [setCell_size]; have := hB0.size; have := hbw.size; omega
    · rw [hk k (by omega) (by omega), hbw.block k (by have := hB0.size; omega)]
      exact hB0.block k hk'

set_option maxRecDepth 40000 in
set_option maxHeartbeats 8000000 in
theorem with_any (A : Option Addr) (n c : Nat) (fs : List Fm) (st : Int) (ar : Bool) (lf : Int) (f : Fm) (w : World) (h : Fl w A n fs) (hn : n ≤ 400) :
    Calls Tryz.prog 54 #[.agg #[.slice A n c, .int .i64 st, .bool ar, .int .i64 lf], .agg #[.string (str f.name), .string (str f.data), .int .i64 f.syn]] w (FreshD w (withK Fm.name f fs) st ar lf) := by
  have hnl := h.1
  subst hnl
  have htl : ∀ l, (str l).toList = l := fun l => ByteArray.toList_mk l
  go_enter Tryz.func54, Tryz.ntmps54
  go_wp2_with fail
  have b1 := Blk.new w #[.slice A fs.length c, .int .i64 st, .bool ar, .int .i64 lf] 35
  have b2 := Blk.new (w.alloc (.cells #[.slice A fs.length c, .int .i64 st, .bool ar, .int .i64 lf] 35)) #[.string (str f.name), .string (str f.data), .int .i64 f.syn] 108
  have b3 := Blk.new ((w.alloc (.cells #[.slice A fs.length c, .int .i64 st, .bool ar, .int .i64 lf] 35)).alloc (.cells #[.string (str f.name), .string (str f.data), .int .i64 f.syn] 108)) #[.slice none 0 0, .int .i64 0, .bool false, .int .i64 0] 35
  have hB0 : Below w.heap.size w (((w.alloc (.cells #[.slice A fs.length c, .int .i64 st, .bool ar, .int .i64 lf] 35)).alloc (.cells #[.string (str f.name), .string (str f.data), .int .i64 f.syn] 108)).alloc (.cells #[.slice none 0 0, .int .i64 0, .bool false, .int .i64 0] 35)) := (((Below.refl _ w).alloc (Nat.le_refl _) _).alloc (by simp) _).alloc (by simp; omega) _
  have d1 := (b1.keep (Below.heap_alloc _ (.cells #[.string (str f.name), .string (str f.data), .int .i64 f.syn] 108) _ b1.lt)).keep (Below.heap_alloc _ (.cells #[.slice none 0 0, .int .i64 0, .bool false, .int .i64 0] 35) _ (by simp; omega))
  have d2 := b2.keep (Below.heap_alloc _ (.cells #[.slice none 0 0, .int .i64 0, .bool false, .int .i64 0] 35) _ b2.lt)
  have hs0 : (((w.alloc (.cells #[.slice A fs.length c, .int .i64 st, .bool ar, .int .i64 lf] 35)).alloc (.cells #[.string (str f.name), .string (str f.data), .int .i64 f.syn] 108)).alloc (.cells #[.slice none 0 0, .int .i64 0, .bool false, .int .i64 0] 35)).heap.size = w.heap.size + 3 := by simp
  clear b1 b2
  rw [World.size_alloc] at d2
  rw [World.size_alloc, World.size_alloc] at b3
  generalize (((w.alloc (.cells #[.slice A fs.length c, .int .i64 st, .bool ar, .int .i64 lf] 35)).alloc (.cells #[.string (str f.name), .string (str f.data), .int .i64 f.syn] 108)).alloc (.cells #[.slice none 0 0, .int .i64 0, .bool false, .int .i64 0] 35)) = W0 at b3 hB0 d1 d2 hs0 ⊢
  have HS0 := Lib.hid hs0
  clear hs0
  obtain ⟨fw, hfw⟩ : ∃ x, x = withK Fm.name f fs := ⟨_, rfl⟩
  have h0 := h.below hB0
  go_loopw [5, 6, 7] (fun v pt j wr => ∃ (i : Nat) (xs : List Fm) (p : Bool) (A' : Option Addr) (c' : Nat), i ≤ fs.length ∧ j = .int .i64 i ∧ pt = .bool p ∧ v = .slice A' xs.length c' ∧ WPre f fs i p xs ∧ xs.length ≤ 2 * i ∧ wr.ownsRow W0.heap.size 108 3 (.slice A' xs.length c') xs.length (fcs xs) ∧ Below W0.heap.size W0 wr) (fun _ _ j _ => fs.length - (intOf j).toNat)
  case atStart => exact ⟨0, [], false, none, 0, Nat.zero_le _, rfl, rfl, rfl, WPre.start f fs, Nat.le_refl _, own3_nil _ _, Below.refl _ _⟩
  case round =>
    obtain ⟨i, xs, p, A', c', hi, rfl, rfl, rfl, hpre, hxl, hown, hbw⟩ := hrel
    have HP := Lib.hid hpre
    clear hpre
    have cell : ∀ V, Below W0.heap.size W0 V → V.cell? ⟨w.heap.size, 0, none⟩ = some (.slice A fs.length c) ∧ V.cell? ⟨w.heap.size + 1, 0, none⟩ = some (.string (str f.name)) ∧ V.cell? ⟨w.heap.size + 1, 1, none⟩ = some (.string (str f.data)) ∧ V.cell? ⟨w.heap.size + 1, 2, none⟩ = some (.int .i64 f.syn) := fun V hV =>
      ⟨(d1.keep (hV.block _ d1.lt)).cell rfl, (d2.keep (hV.block _ d2.lt)).cell rfl, (d2.keep (hV.block _ d2.lt)).cell rfl, (d2.keep (hV.block _ d2.lt)).cell rfl⟩
    by_cases hin : i < fs.length
    · have hcN : (i : Int) < fs.length := by omega
      obtain ⟨k1, k2, k3, k4⟩ := cell wr hbw
      obtain ⟨b, o, x, rfl, hx, x1, x2, x3⟩ := h0.at_ hin
      have xc : ∀ V, Below W0.heap.size W0 V → V.cell? ⟨b, o + i * 3, none⟩ = some (.string (str x.name)) ∧ V.cell? ⟨b, o + i * 3 + 1, none⟩ = some (.string (str x.data)) ∧ V.cell? ⟨b, o + i * 3 + 2, none⟩ = some (.int .i64 x.syn) := fun V hV => by
        have hl := World.block_lt_of_cell? _ _ x1
        exact ⟨(World.cell?_of_block (hV.block b hl)).trans x1, (World.cell?_of_block (hV.block b hl)).trans x2, (World.cell?_of_block (hV.block b hl)).trans x3⟩
      obtain ⟨y1, y2, y3⟩ := xc wr hbw
      have HX := Lib.hid hx
      clear hx x1 x2 x3
      cases p
      · by_cases heq : x.name = f.name
        · have e1 : (x.name == f.name) = true := by simp [heq]
          have e2 : (f.name == x.name) = true := by simp [heq]
          have HE := Lib.hid heq
          clear heq
          go_wp2_with fail
          go_quiet (fail)
          have hownq : (wr.drewN nq).ownsRow W0.heap.size 108 3 (.slice A' xs.length c') xs.length (fcs xs) := hown
          have hbq : Below W0.heap.size W0 (wr.drewN nq) := hbw.trans ⟨rfl, rfl, rfl, Nat.le_refl _, fun _ _ => rfl⟩
          generalize wr.drewN nq = wq at hownq hbq ⊢
          obtain ⟨k1q, k2q, k3q, k4q⟩ := cell wq hbq
          obtain ⟨y1q, y2q, y3q⟩ := xc wq hbq
          go_wp2_with (at_builtin; refine wpList_app3 _ rfl (.tmp 28) (.tmp 30) rfl W0.heap.size (.slice A' xs.length c') xs.length xs rfl rfl (own3_keep hownq fun k hk => Below.heap_alloc _ _ _ (own3_lt hownq k hk)) _ f rfl (Blk.new _ _ _) (by (try simp only [List.length_append, List.length_cons, List.length_nil]); omega) (by have := hbq.size; simp; omega) ?_; intro A4 c4 w4 hown4 hg4; have hb4 := (hbq.alloc hbq.size _).grown hg4 (by have := hbq.size; simp; omega) (own3_blk hownq); obtain ⟨k14, k24, k34, k44⟩ := cell w4 hb4; obtain ⟨y14, y24, y34⟩ := xc w4 hb4)
          go_quiet (fail)
          have hownr : (w4.drewN nq).ownsRow W0.heap.size 108 3 (.slice A4 (xs.length + 1) c4) (xs.length + 1) (fcs (xs ++ [f])) := hown4
          have hbr : Below W0.heap.size W0 (w4.drewN nq) := hb4.trans ⟨rfl, rfl, rfl, Nat.le_refl _, fun _ _ => rfl⟩
          generalize w4.drewN nq = wv at hownr hbr ⊢
          obtain ⟨k1r, k2r, k3r, k4r⟩ := cell wv hbr
          obtain ⟨y1r, y2r, y3r⟩ := xc wv hbr
          go_wp2_with fail
          exact ⟨⟨i + 1, xs ++ [f], _, A4, c4, by omega, by simp, rfl, by simp, HP.out.s2 HX.out HE.out, by (try simp only [List.length_append, List.length_cons, List.length_nil]); omega, by simpa using hownr, hbr⟩, by simp [intOf]; omega⟩
        · have e1 : (x.name == f.name) = false := by simpa using heq
          have e2 : (f.name == x.name) = false := by simpa using (Ne.symm heq)
          have HE := Lib.hid heq
          clear heq
          cases hle : bytesBefore f.name x.name
          · have e3 : Op.bytesLess f.name x.name = false := by rw [bless_eq]; exact hle
            have hlf : le f.name x.name = false := by simp only [le, hle, e2, Bool.or_false]
            have HL := Lib.hid hlf
            clear hle hlf
            go_wp2_with fail
            go_quiet (fail)
            have hownq : (wr.drewN nq).ownsRow W0.heap.size 108 3 (.slice A' xs.length c') xs.length (fcs xs) := hown
            have hbq : Below W0.heap.size W0 (wr.drewN nq) := hbw.trans ⟨rfl, rfl, rfl, Nat.le_refl _, fun _ _ => rfl⟩
            generalize wr.drewN nq = wq at hownq hbq ⊢
            obtain ⟨k1q, k2q, k3q, k4q⟩ := cell wq hbq
            obtain ⟨y1q, y2q, y3q⟩ := xc wq hbq
            go_wp2_with fail
            go_quiet (fail)
            have hownr : (wq.drewN nq).ownsRow W0.heap.size 108 3 (.slice A' xs.length c') xs.length (fcs xs) := hownq
            have hbr : Below W0.heap.size W0 (wq.drewN nq) := hbq.trans ⟨rfl, rfl, rfl, Nat.le_refl _, fun _ _ => rfl⟩
            generalize wq.drewN nq = wv at hownr hbr ⊢
            obtain ⟨k1r, k2r, k3r, k4r⟩ := cell wv hbr
            obtain ⟨y1r, y2r, y3r⟩ := xc wv hbr
            go_wp2_with (at_builtin; refine wpList_app3 _ rfl (.tmp 41) (.tmp 47) rfl W0.heap.size (.slice A' xs.length c') xs.length xs rfl rfl (own3_keep hownr fun k hk => Below.heap_alloc _ _ _ (own3_lt hownr k hk)) _ x rfl (Blk.new _ _ _) (by (try simp only [List.length_append, List.length_cons, List.length_nil]); omega) (by have := hbr.size; simp; omega) ?_; intro A5 c5 w5 hown5 hg5; have hb5 := (hbr.alloc hbr.size _).grown hg5 (by have := hbr.size; simp; omega) (own3_blk hownr))
            exact ⟨⟨i + 1, xs ++ [x], _, A5, c5, by omega, by simp, rfl, by simp, HP.out.s3 HX.out HL.out, by (try simp only [List.length_append, List.length_cons, List.length_nil]); omega, by simpa using hown5, hb5⟩, by simp [intOf]; omega⟩
          · have e3 : Op.bytesLess f.name x.name = true := by rw [bless_eq]; exact hle
            have hlf : le f.name x.name = true := by simp only [le, hle, Bool.true_or]
            have HL := Lib.hid hlf
            clear hle hlf
            go_wp2_with fail
            go_quiet (fail)
            have hownq : (wr.drewN nq).ownsRow W0.heap.size 108 3 (.slice A' xs.length c') xs.length (fcs xs) := hown
            have hbq : Below W0.heap.size W0 (wr.drewN nq) := hbw.trans ⟨rfl, rfl, rfl, Nat.le_refl _, fun _ _ => rfl⟩
            generalize wr.drewN nq = wq at hownq hbq ⊢
            obtain ⟨k1q, k2q, k3q, k4q⟩ := cell wq hbq
            obtain ⟨y1q, y2q, y3q⟩ := xc wq hbq
            go_wp2_with (at_builtin; refine wpList_app3 _ rfl (.tmp 28) (.tmp 30) rfl W0.heap.size (.slice A' xs.length c') xs.length xs rfl rfl (own3_keep hownq fun k hk => Below.heap_alloc _ _ _ (own3_lt hownq k hk)) _ f rfl (Blk.new _ _ _) (by (try simp only [List.length_append, List.length_cons, List.length_nil]); omega) (by have := hbq.size; simp; omega) ?_; intro A4 c4 w4 hown4 hg4; have hb4 := (hbq.alloc hbq.size _).grown hg4 (by have := hbq.size; simp; omega) (own3_blk hownq); obtain ⟨k14, k24, k34, k44⟩ := cell w4 hb4; obtain ⟨y14, y24, y34⟩ := xc w4 hb4)
            go_quiet (fail)
            have hownr : (w4.drewN nq).ownsRow W0.heap.size 108 3 (.slice A4 (xs.length + 1) c4) (xs.length + 1) (fcs (xs ++ [f])) := hown4
            have hbr : Below W0.heap.size W0 (w4.drewN nq) := hb4.trans ⟨rfl, rfl, rfl, Nat.le_refl _, fun _ _ => rfl⟩
            generalize w4.drewN nq = wv at hownr hbr ⊢
            obtain ⟨k1r, k2r, k3r, k4r⟩ := cell wv hbr
            obtain ⟨y1r, y2r, y3r⟩ := xc wv hbr
            go_wp2_with (at_builtin; refine wpList_app3 _ rfl (.tmp 41) (.tmp 47) rfl W0.heap.size (.slice A4 (xs.length + 1) c4) (xs.length + 1) (xs ++ [f]) (by simp) rfl (own3_keep hownr fun k hk => Below.heap_alloc _ _ _ (own3_lt hownr k hk)) _ x rfl (Blk.new _ _ _) (by (try simp only [List.length_append, List.length_cons, List.length_nil]); omega) (by have := hbr.size; simp; omega) ?_; intro A5 c5 w5 hown5 hg5; have hb5 := (hbr.alloc hbr.size _).grown hg5 (by have := hbr.size; simp; omega) (own3_blk hownr))
            exact ⟨⟨i + 1, xs ++ [f] ++ [x], _, A5, c5, by omega, by simp, rfl, by simp, HP.out.s1 HX.out HL.out HE.out, by (try simp only [List.length_append, List.length_cons, List.length_nil]); omega, by simpa using hown5, hb5⟩, by simp [intOf]; omega⟩
      · by_cases heq : x.name = f.name
        · have e1 : (x.name == f.name) = true := by simp [heq]
          have e2 : (f.name == x.name) = true := by simp [heq]
          have HE := Lib.hid heq
          clear heq
          go_wp2_with fail
          go_quiet (fail)
          have hownq : (wr.drewN nq).ownsRow W0.heap.size 108 3 (.slice A' xs.length c') xs.length (fcs xs) := hown
          have hbq : Below W0.heap.size W0 (wr.drewN nq) := hbw.trans ⟨rfl, rfl, rfl, Nat.le_refl _, fun _ _ => rfl⟩
          generalize wr.drewN nq = wq at hownq hbq ⊢
          obtain ⟨k1q, k2q, k3q, k4q⟩ := cell wq hbq
          obtain ⟨y1q, y2q, y3q⟩ := xc wq hbq
          go_wp2_with fail
          go_quiet (fail)
          have hownr : (wq.drewN nq).ownsRow W0.heap.size 108 3 (.slice A' xs.length c') xs.length (fcs xs) := hownq
          have hbr : Below W0.heap.size W0 (wq.drewN nq) := hbq.trans ⟨rfl, rfl, rfl, Nat.le_refl _, fun _ _ => rfl⟩
          generalize wq.drewN nq = wv at hownr hbr ⊢
          obtain ⟨k1r, k2r, k3r, k4r⟩ := cell wv hbr
          obtain ⟨y1r, y2r, y3r⟩ := xc wv hbr
          go_wp2_with fail
          exact ⟨⟨i + 1, xs, _, A', c', by omega, by simp, rfl, by simp, HP.out.s5 HX.out HE.out, by (try simp only [List.length_append, List.length_cons, List.length_nil]); omega, by simpa using hownr, hbr⟩, by simp [intOf]; omega⟩
        · have e1 : (x.name == f.name) = false := by simpa using heq
          have e2 : (f.name == x.name) = false := by simpa using (Ne.symm heq)
          have HE := Lib.hid heq
          clear heq
          go_wp2_with fail
          go_quiet (fail)
          have hownq : (wr.drewN nq).ownsRow W0.heap.size 108 3 (.slice A' xs.length c') xs.length (fcs xs) := hown
          have hbq : Below W0.heap.size W0 (wr.drewN nq) := hbw.trans ⟨rfl, rfl, rfl, Nat.le_refl _, fun _ _ => rfl⟩
          generalize wr.drewN nq = wq at hownq hbq ⊢
          obtain ⟨k1q, k2q, k3q, k4q⟩ := cell wq hbq
          obtain ⟨y1q, y2q, y3q⟩ := xc wq hbq
          go_wp2_with fail
          go_quiet (fail)
          have hownr : (wq.drewN nq).ownsRow W0.heap.size 108 3 (.slice A' xs.length c') xs.length (fcs xs) := hownq
          have hbr : Below W0.heap.size W0 (wq.drewN nq) := hbq.trans ⟨rfl, rfl, rfl, Nat.le_refl _, fun _ _ => rfl⟩
          generalize wq.drewN nq = wv at hownr hbr ⊢
          obtain ⟨k1r, k2r, k3r, k4r⟩ := cell wv hbr
          obtain ⟨y1r, y2r, y3r⟩ := xc wv hbr
          go_wp2_with (at_builtin; refine wpList_app3 _ rfl (.tmp 41) (.tmp 47) rfl W0.heap.size (.slice A' xs.length c') xs.length xs rfl rfl (own3_keep hownr fun k hk => Below.heap_alloc _ _ _ (own3_lt hownr k hk)) _ x rfl (Blk.new _ _ _) (by (try simp only [List.length_append, List.length_cons, List.length_nil]); omega) (by have := hbr.size; simp; omega) ?_; intro A5 c5 w5 hown5 hg5; have hb5 := (hbr.alloc hbr.size _).grown hg5 (by have := hbr.size; simp; omega) (own3_blk hownr))
          exact ⟨⟨i + 1, xs ++ [x], _, A5, c5, by omega, by simp, rfl, by simp, HP.out.s4 HX.out HE.out, by (try simp only [List.length_append, List.length_cons, List.length_nil]); omega, by simpa using hown5, hb5⟩, by simp [intOf]; omega⟩
    · have hcN : ¬ (i : Int) < fs.length := by omega
      have fin : ∀ V, Below W0.heap.size W0 V → V.cell? ⟨w.heap.size, 0, none⟩ = some (.slice A fs.length c) ∧ V.cell? ⟨w.heap.size, 1, none⟩ = some (.int .i64 st) ∧ V.cell? ⟨w.heap.size, 2, none⟩ = some (.bool ar) ∧ V.cell? ⟨w.heap.size, 3, none⟩ = some (.int .i64 lf) ∧ V.frozen? ⟨w.heap.size, 0, none⟩ = false := fun V hV =>
        have D := d1.keep (hV.block _ d1.lt)
        ⟨D.cell rfl, D.cell rfl, D.cell rfl, D.cell rfl, D.frozen 0⟩
      have finr : ∀ V, Below W0.heap.size W0 V → V.cell? ⟨w.heap.size + 1 + 1, 0, none⟩ = some (.slice none 0 0) ∧ V.cell? ⟨w.heap.size + 1 + 1, 1, none⟩ = some (.int .i64 0) ∧ V.cell? ⟨w.heap.size + 1 + 1, 2, none⟩ = some (.bool false) ∧ V.cell? ⟨w.heap.size + 1 + 1, 3, none⟩ = some (.int .i64 0) ∧ V.frozen? ⟨w.heap.size + 1 + 1, 0, none⟩ = false ∧ V.frozen? ⟨w.heap.size + 1 + 1, 1, none⟩ = false ∧ V.frozen? ⟨w.heap.size + 1 + 1, 2, none⟩ = false ∧ V.frozen? ⟨w.heap.size + 1 + 1, 3, none⟩ = false := fun V hV =>
        have D := b3.keep (hV.block _ b3.lt)
        ⟨D.cell rfl, D.cell rfl, D.cell rfl, D.cell rfl, D.frozen 0, D.frozen 1, D.frozen 2, D.frozen 3⟩
      cases p
      · obtain ⟨q0, q1, q2, q3, q4⟩ := fin wr hbw
        obtain ⟨k1, k2, k3, k4⟩ := cell wr hbw
        go_wp2_with (at_builtin; refine wpList_app3 _ rfl (.tmp 51) (.tmp 53) rfl W0.heap.size (.slice A' xs.length c') xs.length xs rfl rfl (own3_keep hown fun k hk => Below.heap_alloc _ _ _ (own3_lt hown k hk)) _ f rfl (Blk.new _ _ _) (by omega) (by have := hbw.size; simp; omega) ?_; intro A5 c5 w5 hown5 hg5; have hb5 := (hbw.alloc hbw.size _).grown hg5 (by have := hbw.size; simp; omega) (own3_blk hown); obtain ⟨q0, q1, q2, q3, q4⟩ := fin w5 hb5; obtain ⟨r0, r1, r2, r3, r4, r5, r6, r7⟩ := finr w5 hb5)
        have he := HP.out.end2 (by omega)
        rw [he] at hown5
        exact set_fin hB0 (Nat.le_refl _) (by omega) d1.lt b3.lt (by omega) b3 hb5 hown5 (by rw [← he]; simp) rfl rfl rfl
      · obtain ⟨q0, q1, q2, q3, q4⟩ := fin wr hbw
        obtain ⟨r0, r1, r2, r3, r4, r5, r6, r7⟩ := finr wr hbw
        go_wp2_with fail
        have he := HP.out.end1 (by omega)
        rw [he] at hown ⊢
        exact set_fin hB0 (Nat.le_refl _) (by omega) d1.lt b3.lt (by omega) b3 hbw hown rfl rfl rfl rfl
end Go.Proofs.YtadkgfhfjagmpaaGreatDoor

namespace Go.Proofs.YtadkgfhfjagmpaaGreatDoor
open Go.RowKit Go.Maps
set_option linter.unusedVariables false

def OPre (s : List UInt8) (fs : List Fm) (i : Nat) (xs : List Fm) : Prop := xs = outK Fm.name s (fs.take i)
theorem OPre.s1 {s : List UInt8} {x : Fm} {fs xs : List Fm} {i : Nat} (h : OPre s fs i xs) (hx : fs[i]? = some x) (hne : x.name ≠ s) : OPre s fs (i + 1) (xs ++ [x]) := by
  unfold OPre at h ⊢
  rw [List.take_add_one, hx, h]
  simp [outK, List.filter_append, hne]
theorem OPre.s2 {s : List UInt8} {x : Fm} {fs xs : List Fm} {i : Nat} (h : OPre s fs i xs) (hx : fs[i]? = some x) (hne : x.name = s) : OPre s fs (i + 1) xs := by
  unfold OPre at h ⊢
  rw [List.take_add_one, hx, h]
  simp [outK, List.filter_append, hne]

set_option maxRecDepth 40000 in
set_option maxHeartbeats 8000000 in
theorem without_any (A : Option Addr) (n c : Nat) (fs : List Fm) (st : Int) (ar : Bool) (lf : Int) (s : List UInt8) (w : World) (h : Fl w A n fs) (hn : n ≤ 400) :
    Calls Tryz.prog 184 #[.agg #[.slice A n c, .int .i64 st, .bool ar, .int .i64 lf], .string (str s)] w (FreshD w (outK Fm.name s fs) st ar lf) := by
  have hnl := h.1
  subst hnl
  have htl : ∀ l, (str l).toList = l := fun l => ByteArray.toList_mk l
  go_enter Tryz.func184, Tryz.ntmps184
  go_wp2_with fail
  have b1 := Blk.new w #[.slice A fs.length c, .int .i64 st, .bool ar, .int .i64 lf] 35
  have b3 := Blk.new (w.alloc (.cells #[.slice A fs.length c, .int .i64 st, .bool ar, .int .i64 lf] 35)) #[.slice none 0 0, .int .i64 0, .bool false, .int .i64 0] 35
  have hB0 : Below w.heap.size w ((w.alloc (.cells #[.slice A fs.length c, .int .i64 st, .bool ar, .int .i64 lf] 35)).alloc (.cells #[.slice none 0 0, .int .i64 0, .bool false, .int .i64 0] 35)) := ((Below.refl _ w).alloc (Nat.le_refl _) _).alloc (by simp) _
  have d1 := b1.keep (Below.heap_alloc _ (.cells #[.slice none 0 0, .int .i64 0, .bool false, .int .i64 0] 35) _ b1.lt)
  have hs0 : ((w.alloc (.cells #[.slice A fs.length c, .int .i64 st, .bool ar, .int .i64 lf] 35)).alloc (.cells #[.slice none 0 0, .int .i64 0, .bool false, .int .i64 0] 35)).heap.size = w.heap.size + 2 := by simp
  clear b1
  rw [World.size_alloc] at b3
  generalize ((w.alloc (.cells #[.slice A fs.length c, .int .i64 st, .bool ar, .int .i64 lf] 35)).alloc (.cells #[.slice none 0 0, .int .i64 0, .bool false, .int .i64 0] 35)) = W0 at b3 hB0 d1 hs0 ⊢
  have HS0 := Lib.hid hs0
  clear hs0
  have h0 := h.below hB0
  go_loopw [5, 6] (fun v j wr => ∃ (i : Nat) (xs : List Fm) (A' : Option Addr) (c' : Nat), i ≤ fs.length ∧ j = .int .i64 i ∧ v = .slice A' xs.length c' ∧ OPre s fs i xs ∧ xs.length ≤ i ∧ wr.ownsRow W0.heap.size 108 3 (.slice A' xs.length c') xs.length (fcs xs) ∧ Below W0.heap.size W0 wr) (fun _ j _ => fs.length - (intOf j).toNat)
  case atStart => exact ⟨0, [], none, 0, Nat.zero_le _, rfl, rfl, rfl, Nat.le_refl _, own3_nil _ _, Below.refl _ _⟩
  case round =>
    obtain ⟨i, xs, A', c', hi, rfl, rfl, hpre, hxl, hown, hbw⟩ := hrel
    have HP := Lib.hid hpre
    clear hpre
    have cell : ∀ V, Below W0.heap.size W0 V → V.cell? ⟨w.heap.size, 0, none⟩ = some (.slice A fs.length c) := fun V hV => (d1.keep (hV.block _ d1.lt)).cell rfl
    by_cases hin : i < fs.length
    · have hcN : (i : Int) < fs.length := by omega
      have k1 := cell wr hbw
      obtain ⟨b, o, x, rfl, hx, x1, x2, x3⟩ := h0.at_ hin
      have hl := World.block_lt_of_cell? _ _ x1
      have y1 : wr.cell? ⟨b, o + i * 3, none⟩ = some (.string (str x.name)) := (World.cell?_of_block (hbw.block b hl)).trans x1
      have y2 : wr.cell? ⟨b, o + i * 3 + 1, none⟩ = some (.string (str x.data)) := (World.cell?_of_block (hbw.block b hl)).trans x2
      have y3 : wr.cell? ⟨b, o + i * 3 + 2, none⟩ = some (.int .i64 x.syn) := (World.cell?_of_block (hbw.block b hl)).trans x3
      have HX := Lib.hid hx
      clear hx x1 x2 x3
      by_cases heq : x.name = s
      · have e1 : (x.name == s) = true := by simp [heq]
        have HE := Lib.hid heq
        clear heq
        go_wp2_with fail
        exact ⟨⟨i + 1, xs, A', c', by omega, by simp, rfl, HP.out.s2 HX.out HE.out, by omega, hown, hbw⟩, by simp [intOf]; omega⟩
      · have e1 : (x.name == s) = false := by simpa using heq
        have HE := Lib.hid heq
        clear heq
        go_wp2_with (at_builtin; refine wpList_app3 _ rfl (.tmp 22) (.tmp 28) rfl W0.heap.size (.slice A' xs.length c') xs.length xs rfl rfl (own3_keep hown fun k hk => Below.heap_alloc _ _ _ (own3_lt hown k hk)) _ x rfl (Blk.new _ _ _) (by omega) (by have := hbw.size; simp; omega) ?_; intro A5 c5 w5 hown5 hg5; have hb5 := (hbw.alloc hbw.size _).grown hg5 (by have := hbw.size; simp; omega) (own3_blk hown))
        exact ⟨⟨i + 1, xs ++ [x], A5, c5, by omega, by simp, by simp, HP.out.s1 HX.out HE.out, by (try simp only [List.length_append, List.length_cons, List.length_nil]); omega, by simpa using hown5, hb5⟩, by simp [intOf]; omega⟩
    · have hcN : ¬ (i : Int) < fs.length := by omega
      have fin : ∀ V, Below W0.heap.size W0 V → V.cell? ⟨w.heap.size, 0, none⟩ = some (.slice A fs.length c) ∧ V.cell? ⟨w.heap.size, 1, none⟩ = some (.int .i64 st) ∧ V.cell? ⟨w.heap.size, 2, none⟩ = some (.bool ar) ∧ V.cell? ⟨w.heap.size, 3, none⟩ = some (.int .i64 lf) ∧ V.frozen? ⟨w.heap.size, 0, none⟩ = false := fun V hV =>
        have D := d1.keep (hV.block _ d1.lt)
        ⟨D.cell rfl, D.cell rfl, D.cell rfl, D.cell rfl, D.frozen 0⟩
      have finr : ∀ V, Below W0.heap.size W0 V → V.cell? ⟨w.heap.size + 1, 0, none⟩ = some (.slice none 0 0) ∧ V.cell? ⟨w.heap.size + 1, 1, none⟩ = some (.int .i64 0) ∧ V.cell? ⟨w.heap.size + 1, 2, none⟩ = some (.bool false) ∧ V.cell? ⟨w.heap.size + 1, 3, none⟩ = some (.int .i64 0) ∧ V.frozen? ⟨w.heap.size + 1, 0, none⟩ = false ∧ V.frozen? ⟨w.heap.size + 1, 1, none⟩ = false ∧ V.frozen? ⟨w.heap.size + 1, 2, none⟩ = false ∧ V.frozen? ⟨w.heap.size + 1, 3, none⟩ = false := fun V hV =>
        have D := b3.keep (hV.block _ b3.lt)
        ⟨D.cell rfl, D.cell rfl, D.cell rfl, D.cell rfl, D.frozen 0, D.frozen 1, D.frozen 2, D.frozen 3⟩
      obtain ⟨q0, q1, q2, q3, q4⟩ := fin wr hbw
      obtain ⟨r0, r1, r2, r3, r4, r5, r6, r7⟩ := finr wr hbw
      go_wp2_with fail
      have he : xs = outK Fm.name s fs := by have := HP.out; unfold OPre at this; rwa [List.take_of_length_le (by omega)] at this
      rw [he] at hown ⊢
      exact set_fin hB0 (Nat.le_refl _) (by omega) d1.lt b3.lt (by omega) b3 hbw hown rfl rfl rfl rfl

set_option maxRecDepth 40000 in
set_option maxHeartbeats 8000000 in
theorem name_any (s : List UInt8) (w : World) (hs : s.length ≤ 140737488355328) : Calls Tryz.prog 52 #[.string (str s)] w fun e w' => e = .returned (.bool (vname s)) ∧ w' = w := by
  have hsz : (str s).size = s.length := str_size s
  go_enter Tryz.func52, Tryz.ntmps52
  go_wp2_with fail
  go_loopw [3] (fun j wr => ∃ k : Nat, k ≤ s.length ∧ j = .int .i64 k ∧ PreV s k ∧ wr = w) (fun j _ => s.length - (intOf j).toNat)
  case atStart => exact ⟨0, Nat.zero_le _, rfl, rfl, rfl⟩
  case round =>
    obtain ⟨k, hk, rfl, hall, rfl⟩ := hrel
    have HA := Lib.hid hall
    clear hall
    by_cases hkn : k < s.length
    · have hcN : (k : Int) < s.length := by omega
      have hix := at_str wr hkn
      have hbad : vbyte s[k] = false → vname s = false := fun hvb => by
        have : ¬ s.all vbyte = true := by
          intro h
          rw [List.all_eq_true] at h
          have := h _ (List.getElem_mem hkn)
          rw [hvb] at this; cases this
        simp only [Bool.not_eq_true] at this
        simp [vname, this]
      have hgood := fun hv => HA.out.step hkn hv
      obtain ⟨n, hn⟩ : ∃ n : Int, n = (s[k].toNat : Int) := ⟨_, rfl⟩
      have hv : vbyte s[k] = decide (97 ≤ n ∧ n ≤ 122 ∨ 48 ≤ n ∧ n ≤ 57 ∨ n = 45 ∨ n = 46) := by rw [hn]; rfl
      rw [hv] at hbad hgood
      rw [← hn] at hix
      have HBAD := Lib.hid hbad
      have HGOOD := Lib.hid hgood
      clear hv hn hbad hgood
      by_cases h1 : 97 ≤ n <;> by_cases h2 : n ≤ 122 <;> by_cases h3 : 48 ≤ n <;> by_cases h4 : n ≤ 57 <;> by_cases h5 : n = 45 <;> by_cases h6 : n = 46 <;> (first | (exfalso; omega) | skip)
      all_goals
        first
          | (have hd : decide (97 ≤ n ∧ n ≤ 122 ∨ 48 ≤ n ∧ n ≤ 57 ∨ n = 45 ∨ n = 46) = true := decide_eq_true (by omega)
             have HG := Lib.hid (HGOOD.out hd)
             clear hd
             go_wp2_with fail
             exact ⟨⟨k + 1, by omega, by simp, HG.out, trivial⟩, by simp [intOf]; omega⟩)
          | (have hd : decide (97 ≤ n ∧ n ≤ 122 ∨ 48 ≤ n ∧ n ≤ 57 ∨ n = 45 ∨ n = 46) = false := decide_eq_false (by omega)
             have HG := Lib.hid (HBAD.out hd)
             clear hd
             go_wp2_with fail
             all_goals first
               | (go_ret; exact ⟨by rw [HG.out]; rfl, rfl⟩)
               | (exfalso; rename_i hx; rcases hx with hx | hx <;> simp at hx <;> omega))
    · have hcN : ¬ (k : Int) < s.length := by omega
      have hall : s.all vbyte = true := by have := HA.out; unfold PreV at this; rwa [List.take_of_length_le (by omega)] at this
      by_cases h1 : (1 : Int) ≤ s.length
      · by_cases h2 : (s.length : Int) ≤ 32
        · have hr : vname s = true := by simp only [vname, hall, Bool.and_true, decide_eq_true_eq]; omega
          have HR := Lib.hid hr
          clear hr hall
          go_wp2_with fail
          go_ret
          exact ⟨by rw [HR.out]; rfl, rfl⟩
        · have hr : vname s = false := by simp only [vname, hall, Bool.and_true, decide_eq_false_iff_not]; omega
          have HR := Lib.hid hr
          clear hr hall
          go_wp2_with fail
          go_ret
          exact ⟨by rw [HR.out]; rfl, rfl⟩
      · have hr : vname s = false := by simp only [vname, hall, Bool.and_true, decide_eq_false_iff_not]; omega
        have HR := Lib.hid hr
        clear hr hall
        go_wp2_with fail
        go_ret
        exact ⟨by rw [HR.out]; rfl, rfl⟩

/-- What is wrong with a step on a file that must be there. -/
def lookF (s : List UInt8) (fs : List Fm) (ar : Bool) (lf : Int) : Int :=
  if vname s = false then 20 else match findK Fm.name s fs with
    | none => 4
    | some _ => code1 ar lf

set_option maxRecDepth 40000 in
set_option maxHeartbeats 8000000 in
theorem look_any (A : Option Addr) (n c : Nat) (fs : List Fm) (st : Int) (ar : Bool) (lf : Int) (s : List UInt8) (w : World) (h : Fl w A n fs) (hn : n ≤ 400) (hs : s.length ≤ 140737488355328) :
    Calls Tryz.prog 150 #[.agg #[.slice A n c, .int .i64 st, .bool ar, .int .i64 lf], .string (str s)] w fun e w' => e = .returned (.int .i64 (lookF s fs ar lf)) ∧ Below w.heap.size w w' := by
  have hb0 : Below w.heap.size w (w.alloc (.cells #[.slice A n c, .int .i64 st, .bool ar, .int .i64 lf] 35)) := (Below.refl _ w).alloc (Nat.le_refl _) _
  have hnm := name_any s (w.alloc (.cells #[.slice A n c, .int .i64 st, .bool ar, .int .i64 lf] 35)) hs
  cases hv : vname s with
  | false =>
    rw [hv] at hnm
    have hE : lookF s fs ar lf = 20 := by simp [lookF, hv]
    rw [hE]
    have HB := Lib.hid hb0
    clear hE hv hb0
    go_enter Tryz.func150, Tryz.ntmps150
    go_wp2_with (go_at_call 52; refine hnm.mono ?_; rintro e w' ⟨rfl, rfl⟩)
    go_ret
    exact ⟨rfl, HB.out⟩
  | true =>
    rw [hv] at hnm
    have hat := at_any A n c fs st ar lf s (w.alloc (.cells #[.slice A n c, .int .i64 st, .bool ar, .int .i64 lf] 35)) (h.alloc _) (by omega)
    have b1 := Blk.new w #[.slice A n c, .int .i64 st, .bool ar, .int .i64 lf] 35
    cases hf : findK Fm.name s fs with
    | none =>
      rw [atK_none hf] at hat
      have hE : lookF s fs ar lf = 4 := by simp [lookF, hv, hf]
      rw [hE]
      have HB := Lib.hid hb0
      clear hE hv hb0 hf
      go_enter Tryz.func150, Tryz.ntmps150
      go_wp2_with (first
        | (go_at_call 52; refine hnm.mono ?_; rintro e w' ⟨rfl, rfl⟩)
        | (go_at_call 53; refine hat.mono ?_; rintro e w2 ⟨rfl, hb2⟩))
      go_ret
      exact ⟨rfl, HB.out.trans (hb2.mono HB.out.size)⟩
    | some f =>
      obtain ⟨i, hi, -, -⟩ := atK_some hf
      rw [hi] at hat
      have hE : lookF s fs ar lf = code1 ar lf := by simp [lookF, hv, hf]
      rw [hE]
      have hi0 : ¬ (i : Int) < 0 := by omega
      have HB := Lib.hid hb0
      have hdd := fun W => rdead_any A n c st ar lf W
      have hcells : ∀ V, Below (w.alloc (.cells #[.slice A n c, .int .i64 st, .bool ar, .int .i64 lf] 35)).heap.size (w.alloc (.cells #[.slice A n c, .int .i64 st, .bool ar, .int .i64 lf] 35)) V → V.cell? ⟨w.heap.size, 0, none⟩ = some (.slice A n c) ∧ V.cell? ⟨w.heap.size, 1, none⟩ = some (.int .i64 st) ∧ V.cell? ⟨w.heap.size, 2, none⟩ = some (.bool ar) ∧ V.cell? ⟨w.heap.size, 3, none⟩ = some (.int .i64 lf) := fun V hV =>
        have D := b1.keep (hV.block _ b1.lt)
        ⟨D.cell rfl, D.cell rfl, D.cell rfl, D.cell rfl⟩
      clear hE hv hb0 hf hi b1
      cases hd : dead ar lf with
      | true =>
        rw [hd] at hdd
        have hc : code1 ar lf = 6 := by simp [code1, hd]
        rw [hc]
        clear hc hd
        go_enter Tryz.func150, Tryz.ntmps150
        go_wp2_with (first
          | (go_at_call 52; refine hnm.mono ?_; rintro e w' ⟨rfl, rfl⟩)
          | (go_at_call 53; refine hat.mono ?_; rintro e w2 ⟨rfl, hb2⟩; obtain ⟨k0, k1, k2, k3⟩ := hcells w2 hb2)
          | (go_at_call 62; refine (hdd _).mono ?_; rintro e w3 ⟨rfl, hb3⟩))
        go_ret
        exact ⟨rfl, HB.out.trans ((hb2.trans (hb3.mono hb2.size)).mono HB.out.size)⟩
      | false =>
        rw [hd] at hdd
        have hc : code1 ar lf = 0 := by simp [code1, hd]
        rw [hc]
        clear hc hd
        go_enter Tryz.func150, Tryz.ntmps150
        go_wp2_with (first
          | (go_at_call 52; refine hnm.mono ?_; rintro e w' ⟨rfl, rfl⟩)
          | (go_at_call 53; refine hat.mono ?_; rintro e w2 ⟨rfl, hb2⟩; obtain ⟨k0, k1, k2, k3⟩ := hcells w2 hb2)
          | (go_at_call 62; refine (hdd _).mono ?_; rintro e w3 ⟨rfl, hb3⟩))
        go_ret
        exact ⟨rfl, HB.out.trans ((hb2.trans (hb3.mono hb2.size)).mono HB.out.size)⟩
end Go.Proofs.YtadkgfhfjagmpaaGreatDoor

namespace Go.Proofs.YtadkgfhfjagmpaaGreatDoor
open Go.RowKit Go.Maps
set_option linter.unusedVariables false

theorem ret_drive2 {fn : Func} {p u : Tmp} (h : fn.results = #[.cell p 35, .tmp u]) {R : Ending → World → Prop} {a : Act} {w : World} {g : Nat} {A : Option Addr} {n c : Nat} {st lf : Int} {ar : Bool} {x : Value} (hd : a.defers = [])
    (hp : a.tmps.getD p undef = .pointer (some ⟨g, 0, none⟩)) (hu : a.tmps.getD u undef = x) (hg : Blk w g #[.slice A n c, .int .i64 st, .bool ar, .int .i64 lf] 35)
    (hR : R (.returned (.tuple #[.agg #[.slice A n c, .int .i64 st, .bool ar, .int .i64 lf], x])) w) : bodyPost Tryz.prog fn R .ret a w := by
  refine bodyPost_ret ?_ hd hR
  rw [results_cell_tmp h, hp, hu]
  have h1 : (asAddr (.pointer (some ⟨g, 0, none⟩))).run Tryz.prog w = .ok ⟨g, 0, none⟩ w := by simp [asAddr]
  rw [h1]
  have h2 := run_loadVar_row (P := Tryz.prog) w g 35 35 _ _ _ hg Tryz.underlying35 rfl (by kernel_rfl)
  simp only [Result.andThen_ok, h2]

/-- A drive and a code; nothing older is written. -/
def RPost (w : World) (lo : Nat) (fs : List Fm) (st : Int) (ar : Bool) (lf : Int) (code : Int) (e : Ending) (w' : World) : Prop :=
  ∃ A c, e = .returned (.tuple #[.agg #[.slice A fs.length c, .int .i64 st, .bool ar, .int .i64 lf], .int .i64 code]) ∧ w'.ownsRow lo 108 3 (.slice A fs.length c) fs.length (fcs fs) ∧ Below w.heap.size w w'

/-- The result's cells stored over a new block. -/
theorem put4 {w V : World} {r : Nat} {z0 z1 z2 z3 v0 v1 v2 v3 : Value} {t : TypeId} (hR : Blk V r #[z0, z1, z2, z3] t) (hr : w.heap.size ≤ r) (hb : Below w.heap.size w V) :
    Blk ((((V.setCell ⟨r, 0, none⟩ v0).setCell ⟨r, 1, none⟩ v1).setCell ⟨r, 2, none⟩ v2).setCell ⟨r, 3, none⟩ v3) r #[v0, v1, v2, v3] t ∧
    Below w.heap.size w ((((V.setCell ⟨r, 0, none⟩ v0).setCell ⟨r, 1, none⟩ v1).setCell ⟨r, 2, none⟩ v2).setCell ⟨r, 3, none⟩ v3) ∧
    ∀ k, k ≠ r → ((((V.setCell ⟨r, 0, none⟩ v0).setCell ⟨r, 1, none⟩ v1).setCell ⟨r, 2, none⟩ v2).setCell ⟨r, 3, none⟩ v3).heap[k]? = V.heap[k]? := by
  have hR3 := (((hR.set 0 v0).set 1 v1).set 2 v2).set 3 v3
  have hk : ∀ k, k ≠ r → ((((V.setCell ⟨r, 0, none⟩ v0).setCell ⟨r, 1, none⟩ v1).setCell ⟨r, 2, none⟩ v2).setCell ⟨r, 3, none⟩ v3).heap[k]? = V.heap[k]? := fun k h2 =>
    (setCell_other _ _ _ h2).trans ((setCell_other _ _ _ h2).trans ((setCell_other _ _ _ h2).trans (setCell_other _ _ _ h2)))
  refine ⟨hR3, ⟨?_, ?_, ?_, ?_, fun k hk' => ?_⟩, hk⟩
  · simp only [setCell_os]; exact hb.os
  · simp only [setCell_tape]; exact hb.tape
  · simp only [setCell_output]; exact hb.output
  · simp only [setCell_size]; exact hb.size
  · rw [hk k (by omega)]; exact hb.block k hk'

abbrev dcs (A : Option Addr) (n c : Nat) (st : Int) (ar : Bool) (lf : Int) : Array Value := #[.slice A n c, .int .i64 st, .bool ar, .int .i64 lf]
abbrev zcs : Array Value := #[.slice none 0 0, .int .i64 0, .bool false, .int .i64 0]
abbrev dobj (cs : Array Value) : Obj := .cells cs 35
theorem two_blk {w V : World} {A : Option Addr} {n c : Nat} {st lf : Int} {ar : Bool} (h : Below ((w.alloc (dobj (dcs A n c st ar lf))).alloc (dobj zcs)).heap.size ((w.alloc (dobj (dcs A n c st ar lf))).alloc (dobj zcs)) V) :
    Blk V w.heap.size (dcs A n c st ar lf) 35 ∧ Blk V (w.heap.size + 1) zcs 35 ∧ Below w.heap.size w V ∧ w.heap.size + 2 ≤ V.heap.size := by
  have b1 := Blk.new w (dcs A n c st ar lf) 35
  have b2 := Blk.new (w.alloc (dobj (dcs A n c st ar lf))) zcs 35
  rw [World.size_alloc] at b2
  have hs : ((w.alloc (dobj (dcs A n c st ar lf))).alloc (dobj zcs)).heap.size = w.heap.size + 2 := by simp
  refine ⟨b1.keep ?_, b2.keep (h.block _ (by rw [hs]; omega)), (((Below.refl _ w).alloc (Nat.le_refl _) _).alloc (by simp) _).trans (h.mono (by rw [hs]; omega)), by rw [← hs]; exact h.size⟩
  rw [h.block _ (by rw [hs]; omega)]
  exact Below.heap_alloc _ _ _ b1.lt
/-- The cells of the two blocks, for the walk. -/
theorem two_cells {w V : World} {A : Option Addr} {n c : Nat} {st lf : Int} {ar : Bool} (h : Below ((w.alloc (dobj (dcs A n c st ar lf))).alloc (dobj zcs)).heap.size ((w.alloc (dobj (dcs A n c st ar lf))).alloc (dobj zcs)) V) :
    (V.cell? ⟨w.heap.size, 0, none⟩ = some (.slice A n c) ∧ V.cell? ⟨w.heap.size, 1, none⟩ = some (.int .i64 st) ∧ V.cell? ⟨w.heap.size, 2, none⟩ = some (.bool ar) ∧ V.cell? ⟨w.heap.size, 3, none⟩ = some (.int .i64 lf)) ∧
    (V.cell? ⟨w.heap.size + 1, 0, none⟩ = some (.slice none 0 0) ∧ V.cell? ⟨w.heap.size + 1, 1, none⟩ = some (.int .i64 0) ∧ V.cell? ⟨w.heap.size + 1, 2, none⟩ = some (.bool false) ∧ V.cell? ⟨w.heap.size + 1, 3, none⟩ = some (.int .i64 0)) ∧
    V.frozen? ⟨w.heap.size + 1, 0, none⟩ = false ∧ V.frozen? ⟨w.heap.size + 1, 1, none⟩ = false ∧ V.frozen? ⟨w.heap.size + 1, 2, none⟩ = false ∧ V.frozen? ⟨w.heap.size + 1, 3, none⟩ = false ∧
    V.frozen? ⟨w.heap.size, 2, none⟩ = false ∧ V.frozen? ⟨w.heap.size, 3, none⟩ = false ∧ V.frozen? ⟨w.heap.size, 0, none⟩ = false ∧ V.frozen? ⟨w.heap.size, 1, none⟩ = false := by
  obtain ⟨h1, h2, -, -⟩ := two_blk h
  exact ⟨⟨h1.cell rfl, h1.cell rfl, h1.cell rfl, h1.cell rfl⟩, ⟨h2.cell rfl, h2.cell rfl, h2.cell rfl, h2.cell rfl⟩, h2.frozen 0, h2.frozen 1, h2.frozen 2, h2.frozen 3, h1.frozen 2, h1.frozen 3, h1.frozen 0, h1.frozen 1⟩

/-- How a function of the reference ends that hands back a drive and a code. -/
theorem end_drive {w V : World} {lo n' c' : Nat} {A' : Option Addr} {st' lf' : Int} {ar' : Bool} {ys : List Fm} {code : Int} {z0 z1 z2 z3 : Value} {r : Nat} (hR : Blk V r #[z0, z1, z2, z3] 35) (hr : w.heap.size ≤ r) (hb : Below w.heap.size w V)
    (hown : V.ownsRow lo 108 3 (.slice A' n' c') n' (fcs ys)) (hn : ys.length = n') (hrow : ∀ k, (Value.slice A' n' c').ownBlock = some k → k ≠ r)
    {fn : Func} {p u : Tmp} (h : fn.results = #[.cell p 35, .tmp u]) {a : Act} (hdf : a.defers = []) (hp : a.tmps.getD p undef = .pointer (some ⟨r, 0, none⟩)) (hu : a.tmps.getD u undef = .int .i64 code) :
    bodyPost Tryz.prog fn (RPost w lo ys st' ar' lf' code) .ret a ((((V.setCell ⟨r, 0, none⟩ (.slice A' n' c')).setCell ⟨r, 1, none⟩ (.int .i64 st')).setCell ⟨r, 2, none⟩ (.bool ar')).setCell ⟨r, 3, none⟩ (.int .i64 lf')) := by
  subst hn
  obtain ⟨h1, h2, h3⟩ := put4 (v0 := .slice A' ys.length c') (v1 := .int .i64 st') (v2 := .bool ar') (v3 := .int .i64 lf') hR hr hb
  exact ret_drive2 h hdf hp hu h1 ⟨A', c', rfl, own3_keep hown fun k hk => h3 k (hrow k hk), h2⟩
theorem row_ne {V : World} {lo n c : Nat} {A : Option Addr} {xs : List Value} {r : Nat} {e : TypeId} {cs : Array Value} {t : TypeId} (h : V.ownsRow lo e 3 (.slice A n c) n xs) (hb : Blk V r cs t) (ht : e ≠ t) : ∀ k, (Value.slice A n c).ownBlock = some k → k ≠ r := by
  rintro k hk rfl
  rcases h.2 with ⟨e1, _⟩ | ⟨g, cap, cur, e1, _, h4, _⟩
  · rw [e1] at hk; cases hk
  · rw [e1] at hk
    cases hk
    unfold Blk at hb
    rw [h4] at hb; injection hb with hb; injection hb with _ h5; exact ht h5

set_option maxRecDepth 40000 in
set_option maxHeartbeats 8000000 in
theorem rarm_any (A : Option Addr) (n c : Nat) (fs : List Fm) (st : Int) (ar : Bool) (lf : Int) (m : Int) (w : World) (lo : Nat) (hown : w.ownsRow lo 108 3 (.slice A n c) n (fcs fs)) (hnl : fs.length = n) :
    Calls Tryz.prog 37 #[.agg #[.slice A n c, .int .i64 st, .bool ar, .int .i64 lf], .int .i64 m] w
      (if armE m ar lf = 0 then RPost w lo fs st true m 0 else RPost w lo fs st ar lf (armE m ar lf)) := by
  have HO := Lib.hid hown
  clear hown
  have tb := fun V h => two_blk (V := V) (w := w) (A := A) (n := n) (c := c) (st := st) (ar := ar) (lf := lf) h
  have tc := fun V h => two_cells (V := V) (w := w) (A := A) (n := n) (c := c) (st := st) (ar := ar) (lf := lf) h
  have t0 := tb _ (Below.refl _ _)
  have HT := Lib.hid t0
  clear t0
  have HTB := Lib.hid tb
  clear tb
  by_cases hm : m < 0
  · have hE : armE m ar lf = 1 := by simp [armE, hm]
    rw [hE, if_neg (by decide)]
    clear hE tc
    go_enter Tryz.func37, Tryz.ntmps37
    go_wp2_with fail
    refine ret_drive2 rfl rfl rfl rfl (heap_alloc2_new w _ _) ⟨A, c, by rw [hnl]; rfl, ?_, ((Below.refl _ w).alloc (Nat.le_refl _) _).alloc (by simp) _⟩
    rw [hnl]
    exact own3_below HO.out ((((Below.refl _ w).alloc (Nat.le_refl _) _).alloc (by simp) _))
  · have hdd := fun W => rdead_any A n c st ar lf W
    cases hd : dead ar lf with
    | true =>
      rw [hd] at hdd
      have hE : armE m ar lf = 6 := by simp [armE, hm, hd]
      rw [hE, if_neg (by decide)]
      clear hE hd
      go_enter Tryz.func37, Tryz.ntmps37
      go_wp2_with (go_at_call 62; refine (hdd _).mono ?_; rintro e w3 ⟨rfl, hb3⟩; obtain ⟨⟨k0, k1, k2, k3⟩, ⟨r0, r1, r2, r3⟩, f0, f1, f2, f3, f4, f5, f6, f7⟩ := tc w3 hb3)
      obtain ⟨g1, g2, g3, g4⟩ := HTB.out w3 hb3
      have ho3 := own3_below HO.out (g3.mono (Nat.le_refl _))
      exact end_drive g2 (by omega) g3 ho3 hnl (row_ne ho3 g2 (by decide)) rfl rfl rfl rfl
    | false =>
      rw [hd] at hdd
      have hE : armE m ar lf = 0 := by simp [armE, hm, hd]
      rw [hE, if_pos rfl]
      clear hE hd
      go_enter Tryz.func37, Tryz.ntmps37
      go_wp2_with (go_at_call 62; refine (hdd _).mono ?_; rintro e w3 ⟨rfl, hb3⟩; obtain ⟨⟨k0, k1, k2, k3⟩, ⟨r0, r1, r2, r3⟩, f0, f1, f2, f3, f4, f5, f6, f7⟩ := tc w3 hb3)
      obtain ⟨g1, g2, g3, g4⟩ := HTB.out w3 hb3
      have ho3 := own3_below HO.out (g3.mono (Nat.le_refl _))
      have hkk : ∀ k, k ≠ w.heap.size → ((w3.setCell ⟨w.heap.size, 2, none⟩ (.bool true)).setCell ⟨w.heap.size, 3, none⟩ (.int .i64 m)).heap[k]? = w3.heap[k]? := fun k hk => (setCell_other _ _ _ hk).trans (setCell_other _ _ _ hk)
      have hbx : Below w.heap.size w ((w3.setCell ⟨w.heap.size, 2, none⟩ (.bool true)).setCell ⟨w.heap.size, 3, none⟩ (.int .i64 m)) := by
        refine ⟨?_, ?_, ?_, ?_, fun k hk => ?_⟩
        · simp only [setCell_os]; exact g3.os
        · simp only [setCell_tape]; exact g3.tape
        · simp only [setCell_output]; exact g3.output
        · simp only [setCell_size]; exact g3.size
        · rw [hkk k (by omega)]; exact g3.block k hk
      have hox := own3_keep ho3 fun k hk => hkk k (row_ne ho3 g1 (by decide) k hk)
      have g2x := g2.keep (hkk _ (by omega))
      exact end_drive g2x (by omega) hbx hox hnl (row_ne hox g2x (by decide)) rfl rfl rfl rfl

set_option maxRecDepth 40000 in
set_option maxHeartbeats 8000000 in
theorem rdelete_any (A : Option Addr) (n c : Nat) (fs : List Fm) (st : Int) (ar : Bool) (lf : Int) (s : List UInt8) (w : World) (lo : Nat) (hown : w.ownsRow lo 108 3 (.slice A n c) n (fcs fs)) (hnl : fs.length = n) (hlo : lo ≤ w.heap.size) (hn : n ≤ 400) (hs : s.length ≤ 140737488355328) :
    Calls Tryz.prog 151 #[.agg #[.slice A n c, .int .i64 st, .bool ar, .int .i64 lf], .string (str s)] w
      (if lookF s fs ar lf = 0 then RPost w lo (outK Fm.name s fs) (wrap64 (st + 1)) ar (lf1 ar lf) 0 else RPost w lo fs st ar lf (lookF s fs ar lf)) := by
  have HO := Lib.hid hown
  clear hown
  have tc := fun V h => two_cells (V := V) (w := w) (A := A) (n := n) (c := c) (st := st) (ar := ar) (lf := lf) h
  have tb := fun V h => two_blk (V := V) (w := w) (A := A) (n := n) (c := c) (st := st) (ar := ar) (lf := lf) h
  have HTB := Lib.hid tb
  clear tb
  have hlk := look_any A n c fs st ar lf s ((w.alloc (dobj (dcs A n c st ar lf))).alloc (dobj zcs)) (((own_fl HO.out).alloc _).alloc _) hn hs
  by_cases hE : lookF s fs ar lf = 0
  · rw [if_pos hE]
    rw [hE] at hlk
    have hlf : (if ar then wrap64 (lf - 1) else lf) = lf1 ar lf := by
      have : dead ar lf = false := by
        cases hd : dead ar lf
        · rfl
        · exfalso; unfold lookF at hE; split at hE
          · cases hE
          · split at hE
            · cases hE
            · simp [code1, hd] at hE
      simp [lf1, this]
    have hst := fun W => rstep_any A n c st ar lf W
    rw [hlf] at hst
    clear hE hlf
    go_enter Tryz.func151, Tryz.ntmps151
    go_wp2_with (first
      | (go_at_call 150; refine hlk.mono ?_; rintro e w3 ⟨rfl, hb3⟩; obtain ⟨⟨k0, k1, k2, k3⟩, ⟨r0, r1, r2, r3⟩, f0, f1, f2, f3, f4, f5, f6, f7⟩ := tc w3 hb3)
      | (go_at_call 121; refine (hst _).mono ?_; rintro e w4 ⟨rfl, hb4⟩)
      | (go_at_call 184; refine (without_any A n c fs _ ar _ s w4 (((own_fl HO.out).below (HTB.out w3 hb3).2.2.1).below hb4) hn).mono ?_; rintro e w5 ⟨A5, c5, rfl, hown5, hb5⟩; have hb35 := hb3.trans ((hb4.trans (hb5.mono hb4.size)).mono hb3.size); obtain ⟨-, ⟨r0, r1, r2, r3⟩, f0, f1, f2, f3, f4, f5, f6, f7⟩ := tc w5 hb35))
    obtain ⟨g1, g2, g3, g4⟩ := HTB.out w5 hb35
    have ho := own3_base hown5 (B' := lo) (by have := hb4.size; have := (HTB.out w3 hb3).2.2.2; omega)
    exact end_drive g2 (by omega) g3 ho rfl (row_ne ho g2 (by decide)) rfl rfl rfl rfl
  · rw [if_neg hE]
    obtain ⟨code, hc⟩ : ∃ code, code = lookF s fs ar lf := ⟨_, rfl⟩
    rw [← hc] at hE hlk ⊢
    clear hc
    go_enter Tryz.func151, Tryz.ntmps151
    go_wp2_with (first
      | (go_at_call 150; refine hlk.mono ?_; rintro e w3 ⟨rfl, hb3⟩; obtain ⟨⟨k0, k1, k2, k3⟩, ⟨r0, r1, r2, r3⟩, f0, f1, f2, f3, f4, f5, f6, f7⟩ := tc w3 hb3))
    obtain ⟨g1, g2, g3, g4⟩ := HTB.out w3 hb3
    have ho3 := own3_below HO.out (g3.mono (Nat.le_refl _))
    exact end_drive g2 (by omega) g3 ho3 hnl (row_ne ho3 g2 (by decide)) rfl rfl rfl rfl
end Go.Proofs.YtadkgfhfjagmpaaGreatDoor
