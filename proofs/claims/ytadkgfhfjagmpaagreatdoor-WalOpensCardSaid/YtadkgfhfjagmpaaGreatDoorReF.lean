/-
  The reference's drive: Sync.
-/
import Derived.Test.YtadkgfhfjagmpaaGreatDoorReE
namespace Go.Proofs.YtadkgfhfjagmpaaGreatDoor
open Go.RowKit Go.Maps
set_option linter.unusedVariables false

/-- As 'St', the file's block wherever it lies. -/
structure StB (w V : World) (bf : Nat) (A : Option Addr) (n c : Nat) (st : Int) (ar : Bool) (lf : Int) (f : Fm) : Prop where
  d : Blk V w.heap.size (dcs A n c st ar lf) 35
  r : Blk V (w.heap.size + 1) zcs 35
  f : Blk V bf #[.string (str f.name), .string (str f.data), .int .i64 f.syn] 108
  lo : w.heap.size + 2 ≤ bf
  bel : Below w.heap.size w V
  size : w.heap.size + 2 ≤ V.heap.size
section
variable {w V V' : World} {A : Option Addr} {n c bf : Nat} {st lf : Int} {ar : Bool} {f : Fm}
theorem StB.below (h : StB w V bf A n c st ar lf f) (hb : Below V.heap.size V V') : StB w V' bf A n c st ar lf f :=
  ⟨h.d.keep (hb.block _ h.d.lt), h.r.keep (hb.block _ h.r.lt), h.f.keep (hb.block _ h.f.lt), h.lo, h.bel.trans (hb.mono (by have := h.size; omega)), by have := h.size; have := hb.size; omega⟩
theorem StB.drew (h : StB w V bf A n c st ar lf f) : StB w V.drew bf A n c st ar lf f := ⟨h.d, h.r, h.f, h.lo, h.bel.drew, h.size⟩
theorem StB.set (h : StB w V bf A n c st ar lf f) (k : Nat) (v : Value) (f' : Fm) (hf : #[Value.string (str f.name), .string (str f.data), .int .i64 f.syn].setIfInBounds k v = #[Value.string (str f'.name), .string (str f'.data), .int .i64 f'.syn]) : StB w (V.setCell ⟨bf, k, none⟩ v) bf A n c st ar lf f' := by
  have hlo := h.lo
  have hk : ∀ i, i ≠ bf → (V.setCell ⟨bf, k, none⟩ v).heap[i]? = V.heap[i]? := fun i hi => setCell_other _ _ _ hi
  have hfb := h.f.set k v
  rw [hf] at hfb
  refine ⟨h.d.keep (hk _ (by omega)), h.r.keep (hk _ (by omega)), hfb, hlo, ⟨?_, ?_, ?_, ?_, fun i hi => ?_⟩, by rw [setCell_size]; exact h.size⟩
  · simp only [setCell_os]; exact h.bel.os
  · simp only [setCell_tape]; exact h.bel.tape
  · simp only [setCell_output]; exact h.bel.output
  · simp only [setCell_size]; exact h.bel.size
  · rw [hk i (by omega)]; exact h.bel.block i hi
/-- The drive's own struct written over. -/
theorem StB.set4 (h : StB w V bf A n c st ar lf f) (A' : Option Addr) (n' c' : Nat) (st' : Int) (ar' : Bool) (lf' : Int) : StB w ((((V.setCell ⟨w.heap.size, 0, none⟩ (.slice A' n' c')).setCell ⟨w.heap.size, 1, none⟩ (.int .i64 st')).setCell ⟨w.heap.size, 2, none⟩ (.bool ar')).setCell ⟨w.heap.size, 3, none⟩ (.int .i64 lf')) bf A' n' c' st' ar' lf' f := by
  obtain ⟨h1, h2, h3⟩ := put4 (w := w) (v0 := .slice A' n' c') (v1 := .int .i64 st') (v2 := .bool ar') (v3 := .int .i64 lf') h.d (Nat.le_refl _) h.bel
  have hlo := h.lo
  exact ⟨h1, h.r.keep (h3 _ (by omega)), h.f.keep (h3 _ (by omega)), hlo, h2, by simp only [setCell_size]; exact h.size⟩
theorem StB.cells (h : StB w V bf A n c st ar lf f) :
    (V.cell? ⟨w.heap.size, 0, none⟩ = some (.slice A n c) ∧ V.cell? ⟨w.heap.size, 1, none⟩ = some (.int .i64 st) ∧ V.cell? ⟨w.heap.size, 2, none⟩ = some (.bool ar) ∧ V.cell? ⟨w.heap.size, 3, none⟩ = some (.int .i64 lf)) ∧
    (V.cell? ⟨w.heap.size + 1, 0, none⟩ = some (.slice none 0 0) ∧ V.cell? ⟨w.heap.size + 1, 1, none⟩ = some (.int .i64 0) ∧ V.cell? ⟨w.heap.size + 1, 2, none⟩ = some (.bool false) ∧ V.cell? ⟨w.heap.size + 1, 3, none⟩ = some (.int .i64 0)) ∧
    (V.frozen? ⟨w.heap.size + 1, 0, none⟩ = false ∧ V.frozen? ⟨w.heap.size + 1, 1, none⟩ = false ∧ V.frozen? ⟨w.heap.size + 1, 2, none⟩ = false ∧ V.frozen? ⟨w.heap.size + 1, 3, none⟩ = false) ∧
    (V.cell? ⟨bf, 0, none⟩ = some (.string (str f.name)) ∧ V.cell? ⟨bf, 1, none⟩ = some (.string (str f.data)) ∧ V.cell? ⟨bf, 2, none⟩ = some (.int .i64 f.syn)) ∧
    (V.frozen? ⟨bf, 0, none⟩ = false ∧ V.frozen? ⟨bf, 1, none⟩ = false ∧ V.frozen? ⟨bf, 2, none⟩ = false) ∧
    (V.frozen? ⟨w.heap.size, 0, none⟩ = false ∧ V.frozen? ⟨w.heap.size, 1, none⟩ = false ∧ V.frozen? ⟨w.heap.size, 2, none⟩ = false ∧ V.frozen? ⟨w.heap.size, 3, none⟩ = false) :=
  ⟨⟨h.d.cell rfl, h.d.cell rfl, h.d.cell rfl, h.d.cell rfl⟩, ⟨h.r.cell rfl, h.r.cell rfl, h.r.cell rfl, h.r.cell rfl⟩, ⟨h.r.frozen 0, h.r.frozen 1, h.r.frozen 2, h.r.frozen 3⟩, ⟨h.f.cell rfl, h.f.cell rfl, h.f.cell rfl⟩, ⟨h.f.frozen 0, h.f.frozen 1, h.f.frozen 2⟩, ⟨h.d.frozen 0, h.d.frozen 1, h.d.frozen 2, h.d.frozen 3⟩⟩
end
theorem Fl.drew1 {w : World} {n : Nat} {A : Option Addr} {fs : List Fm} (h : Fl w A n fs) : Fl w.drew A n fs := h
theorem lookF_ok {s : List UInt8} {fs : List Fm} {ar : Bool} {lf : Int} (h : lookF s fs ar lf = 0) : ∃ f, findK Fm.name s fs = some f ∧ dead ar lf = false := by
  unfold lookF at h
  split at h
  · cases h
  · split at h
    · cases h
    · rename_i f hf
      refine ⟨f, hf, ?_⟩
      cases hd : dead ar lf
      · rfl
      · simp [code1, hd] at h

set_option maxRecDepth 40000 in
set_option maxHeartbeats 8000000 in
theorem rsync_any (A : Option Addr) (n c : Nat) (fs : List Fm) (st : Int) (ar : Bool) (lf : Int) (s : List UInt8) (w : World) (lo : Nat) (hown : w.ownsRow lo 108 3 (.slice A n c) n (fcs fs)) (hnl : fs.length = n) (hlo : lo ≤ w.heap.size) (hn : n ≤ 400) (hs : s.length ≤ 140737488355328) :
    Calls Tryz.prog 97 #[.agg #[.slice A n c, .int .i64 st, .bool ar, .int .i64 lf], .string (str s)] w
      (if lookF s fs ar lf = 0 then RPost w lo (withK Fm.name ⟨s, (oldFm s fs).data, (oldFm s fs).data.length⟩ fs) (wrap64 (st + 1)) ar (lf1 ar lf) 0 else RPost w lo fs st ar lf (lookF s fs ar lf)) := by
  have HO := Lib.hid hown
  clear hown
  have hsz : ∀ l, (str l).size = l.length := str_size
  have tc := fun V h => two_cells (V := V) (w := w) (A := A) (n := n) (c := c) (st := st) (ar := ar) (lf := lf) h
  have tb := fun V h => two_blk (V := V) (w := w) (A := A) (n := n) (c := c) (st := st) (ar := ar) (lf := lf) h
  have HTB := Lib.hid tb
  clear tb
  have hlk := look_any A n c fs st ar lf s ((w.alloc (dobj (dcs A n c st ar lf))).alloc (dobj zcs)) (((own_fl HO.out).alloc _).alloc _) hn hs
  by_cases hE : lookF s fs ar lf = 0
  · rw [if_pos hE]
    rw [hE] at hlk
    obtain ⟨f, hf, hd0⟩ := lookF_ok hE
    have hlf : (if ar then wrap64 (lf - 1) else lf) = lf1 ar lf := by simp [lf1, hd0]
    have hst := fun W => rstep_any A n c st ar lf W
    rw [hlf] at hst
    have hof : oldFm s fs = f := by simp [oldFm, hf]
    rw [hof]
    obtain ⟨i, hi, hfi, hil⟩ := atK_some hf
    have hfn := (find_some hf).2
    have hat := fun W (h : Fl W A n fs) => at_any A n c fs st ar lf s W h (by omega)
    rw [hi] at hat
    have hil2 : (i : Int) < n := by omega
    have hi0 : (0 : Int) ≤ i := by omega
    obtain ⟨b, o, f2, hA, hf2, x1, x2, x3⟩ := (own_fl HO.out).at_ (i := i) (by omega)
    rw [hfi] at hf2
    obtain rfl := Option.some.inj hf2
    have hlb := World.block_lt_of_cell? _ _ x1
    have hx : ∀ V, Below w.heap.size w V → V.cell? ⟨b, o + i * 3, none⟩ = some (.string (str f.name)) ∧ V.cell? ⟨b, o + i * 3 + 1, none⟩ = some (.string (str f.data)) ∧ V.cell? ⟨b, o + i * 3 + 2, none⟩ = some (.int .i64 f.syn) := fun V hV =>
      ⟨(World.cell?_of_block (hV.block b hlb)).trans x1, (World.cell?_of_block (hV.block b hlb)).trans x2, (World.cell?_of_block (hV.block b hlb)).trans x3⟩
    clear x1 x2 x3 hf2 hE hlf hd0 hf hof hi hfi hil
    subst hA
    subst hfn
    go_enter Tryz.func97, Tryz.ntmps97
    go_wp2_with (go_at_call 150; refine hlk.mono ?_; rintro e w3 ⟨rfl, hb3⟩; obtain ⟨⟨k0, k1, k2, k3⟩, ⟨r0, r1, r2, r3⟩, p0, p1, p2, p3, p4, p5, p6, p7⟩ := tc w3 hb3)
    have h3 := HTB.out w3 hb3
    have hFl3 : Fl w3 (some ⟨b, o, none⟩) n fs := (own_fl HO.out).below (h3.2.2.1.mono (Nat.le_refl _))
    have hka := fun o1 => (tc (w3.alloc o1) (hb3.alloc hb3.size o1)).1
    have hkb0 := fun o1 => (hka o1).1
    have hkb1 := fun o1 => (hka o1).2.1
    have hkb2 := fun o1 => (hka o1).2.2.1
    have hkb3 := fun o1 => (hka o1).2.2.2
    clear hka
    go_cut [7] (fun s7 wx => ∃ bf, s7 = .pointer (some ⟨bf, 0, none⟩) ∧ Blk wx bf #[.string (str f.name), .string (str f.data), .int .i64 f.syn] 108 ∧ w3.heap.size ≤ bf ∧ Below w3.heap.size w3 wx)
    case first =>
      go_region_with (first
        | (go_at_call 53; refine (hat _ hFl3.drew1).mono ?_; rintro e w4 ⟨rfl, hb4⟩
           have hb34 : Below w3.heap.size w3 w4 := (Below.refl w3.heap.size w3).drew.trans hb4
           obtain ⟨x1, x2, x3⟩ := hx w4 (h3.2.2.1.trans (hb34.mono (by omega)))
           have hxa := fun o1 => hx (w4.alloc o1) ((h3.2.2.1.trans (hb34.mono (by omega))).alloc (by have := hb34.size; omega) o1)
           have hxb := fun o1 => (hxa o1).1
           have hxc := fun o1 => (hxa o1).2.1
           have hxd := fun o1 => (hxa o1).2.2
           clear hxa
           have hma := fun o1 => (tc (w4.alloc o1) ((hb3.trans (hb34.mono hb3.size)).alloc (by have := hb3.size; have := hb34.size; omega) o1)).1.1
           obtain ⟨⟨m0, m1, m2, m3⟩, -, -⟩ := tc w4 (hb3.trans (hb34.mono hb3.size)))
        | (go_at_call 53; refine (hat _ (hFl3.alloc (.cells #[.string ⟨#[]⟩, .string ⟨#[]⟩, .int .i64 0] 108)).drew1).mono ?_; rintro e w4 ⟨rfl, hb4x⟩
           have hb4 : Below (w3.alloc (.cells #[.string ⟨#[]⟩, .string ⟨#[]⟩, .int .i64 0] 108)).heap.size (w3.alloc (.cells #[.string ⟨#[]⟩, .string ⟨#[]⟩, .int .i64 0] 108)) w4 := (Below.refl _ (w3.alloc (.cells #[.string ⟨#[]⟩, .string ⟨#[]⟩, .int .i64 0] 108))).drew.trans hb4x
           have hb34 : Below w3.heap.size w3 w4 := ((Below.refl w3.heap.size w3).alloc (Nat.le_refl _) _).trans (hb4.mono (by simp))
           have hz4 := (Blk.new w3 #[.string ⟨#[]⟩, .string ⟨#[]⟩, .int .i64 0] 108).keep (hb4.block _ (by simp))
           have z0 := hz4.cell (k := 0) rfl
           have z1 := hz4.cell (k := 1) rfl
           have z2 := hz4.cell (k := 2) rfl
           have zf0 := hz4.frozen 0
           have zf1 := hz4.frozen 1
           have zf2 := hz4.frozen 2
           obtain ⟨x1, x2, x3⟩ := hx w4 (h3.2.2.1.trans (hb34.mono (by omega)))
           have hxa := fun o1 => hx (w4.alloc o1) ((h3.2.2.1.trans (hb34.mono (by omega))).alloc (by have := hb34.size; omega) o1)
           have hxb := fun o1 => (hxa o1).1
           have hxc := fun o1 => (hxa o1).2.1
           have hxd := fun o1 => (hxa o1).2.2
           clear hxa
           have hma := fun o1 => (tc (w4.alloc o1) ((hb3.trans (hb34.mono hb3.size)).alloc (by have := hb3.size; have := hb34.size; omega) o1)).1.1
           obtain ⟨⟨m0, m1, m2, m3⟩, -, -⟩ := tc w4 (hb3.trans (hb34.mono hb3.size))))
      all_goals
        go_wp2_with fail
        go_meet
        first
          | exact ⟨w4.heap.size, rfl, Blk.new _ _ _, hb34.size, hb34.alloc hb34.size _⟩
          | exact ⟨w3.heap.size, rfl, ((hz4.set 0 _).set 1 _).set 2 _, Nat.le_refl _, ((hb34.setCell (p := ⟨w3.heap.size, 0, none⟩) (Nat.le_refl _) _).setCell (p := ⟨w3.heap.size, 1, none⟩) (Nat.le_refl _) _).setCell (p := ⟨w3.heap.size, 2, none⟩) (Nat.le_refl _) _⟩
    case rest =>
      obtain ⟨bf, rfl, hbk, hbf, hbx⟩ := hcut
      obtain ⟨g1, g2, g3, g4⟩ := HTB.out _ (hb3.trans (hbx.mono hb3.size))
      have hS4 : StB w _ bf (some ⟨b, o, none⟩) n c st ar lf f := ⟨g1, g2, hbk, by have := h3.2.2.2; omega, g3, g4⟩
      clear k0 k1 k2 k3 r0 r1 r2 r3 p0 p1 p2 p3 p4 p5 p6 p7 hkb0 hkb1 hkb2 hkb3 g1 g2 g3 g4 hbk
      obtain ⟨⟨k0, k1, k2, k3⟩, ⟨r0, r1, r2, r3⟩, ⟨p0, p1, p2, p3⟩, ⟨y0, y1, y2⟩, ⟨q0, q1, q2⟩, ⟨u0, u1, u2, u3⟩⟩ := hS4.cells
      have HS4 := Lib.hid hS4
      clear hS4
      go_wp2_with fail
      have HS6 := Lib.hid (HS4.out.set 2 (.int .i64 (f.data.length : Int)) (⟨f.name, f.data, f.data.length⟩ : Fm) rfl)
      go_region_with (first
        | (go_at_call 121; refine (hst _).mono ?_; rintro e w7 ⟨rfl, hb7⟩; have hS7 := HS6.out.drew.below hb7; obtain ⟨⟨k0, k1, k2, k3⟩, ⟨r0, r1, r2, r3⟩, ⟨p0, p1, p2, p3⟩, ⟨y0, y1, y2⟩, ⟨q0, q1, q2⟩, ⟨u0, u1, u2, u3⟩⟩ := hS7.cells; have HS7 := Lib.hid hS7; clear hS7; dsimp only at y0 y1 y2)
        | (go_at_call 54; refine (with_any (some ⟨b, o, none⟩) n c fs _ ar _ (⟨f.name, f.data, f.data.length⟩ : Fm) w7 ((own_fl HO.out).below (HS7.out.bel.mono (Nat.le_refl _))) hn).mono ?_; rintro e w8 ⟨A8, c8, rfl, hown8, hb8⟩; have hS8 := HS7.out.below hb8; obtain ⟨⟨k0, k1, k2, k3⟩, ⟨r0, r1, r2, r3⟩, ⟨p0, p1, p2, p3⟩, ⟨y0, y1, y2⟩, ⟨q0, q1, q2⟩, ⟨u0, u1, u2, u3⟩⟩ := hS8.cells; have HS8 := Lib.hid hS8; clear hS8))
      all_goals
        go_wp2_with fail
        have ho8 := own3_base hown8 (B' := lo) (by have := HS7.out.size; omega)
        exact end_drive HS8.out.r (by omega) HS8.out.bel ho8 rfl (row_ne ho8 HS8.out.r (by decide)) rfl rfl rfl rfl
  · rw [if_neg hE]
    obtain ⟨code, hc⟩ : ∃ code, code = lookF s fs ar lf := ⟨_, rfl⟩
    rw [← hc] at hE hlk ⊢
    clear hc
    go_enter Tryz.func97, Tryz.ntmps97
    go_wp2_with (first
      | (go_at_call 150; refine hlk.mono ?_; rintro e w3 ⟨rfl, hb3⟩; obtain ⟨⟨k0, k1, k2, k3⟩, ⟨r0, r1, r2, r3⟩, f0, f1, f2, f3, f4, f5, f6, f7⟩ := tc w3 hb3))
    obtain ⟨g1, g2, g3, g4⟩ := HTB.out w3 hb3
    have ho3 := own3_below HO.out (g3.mono (Nat.le_refl _))
    exact end_drive g2 (by omega) g3 ho3 hnl (row_ne ho3 g2 (by decide)) rfl rfl rfl rfl
end Go.Proofs.YtadkgfhfjagmpaaGreatDoor
