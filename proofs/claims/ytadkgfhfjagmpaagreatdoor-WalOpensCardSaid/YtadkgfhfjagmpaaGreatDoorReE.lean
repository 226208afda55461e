/-
  The reference's drive: Append, Sync, Rename.
-/
import Derived.Test.YtadkgfhfjagmpaaGreatDoorGRe
namespace Go.Proofs.YtadkgfhfjagmpaaGreatDoor
open Go.RowKit Go.Maps
set_option linter.unusedVariables false

def emptyFm (s : List UInt8) : Fm := ⟨s, [], 0⟩
def oldFm (s : List UInt8) (fs : List Fm) : Fm := match findK Fm.name s fs with | some f => f | none => emptyFm s
def appF (s : List UInt8) (n : Nat) (fs : List Fm) (ar : Bool) (lf : Int) : Int :=
  if vname s = false then 20 else if (findK Fm.name s fs = none ∧ 256 ≤ fs.length) ∨ 262144 < (oldFm s fs).data.length + n then 5 else if dead ar lf = true then 6 else 0

/-- Where a function of the reference stands that has a drive, a result and a file in memory. -/
structure St (w V : World) (A : Option Addr) (n c : Nat) (st : Int) (ar : Bool) (lf : Int) (f : Fm) : Prop where
  d : Blk V w.heap.size (dcs A n c st ar lf) 35
  r : Blk V (w.heap.size + 1) zcs 35
  f : Blk V (w.heap.size + 1 + 1) #[.string (str f.name), .string (str f.data), .int .i64 f.syn] 108
  bel : Below w.heap.size w V
  size : w.heap.size + 3 ≤ V.heap.size
section
variable {w V V' : World} {A : Option Addr} {n c : Nat} {st lf : Int} {ar : Bool} {f : Fm}
theorem St.start (w : World) (A : Option Addr) (n c : Nat) (st : Int) (ar : Bool) (lf : Int) (f : Fm) {V : World} (h : Below ((w.alloc (dobj (dcs A n c st ar lf))).alloc (dobj zcs)).heap.size ((w.alloc (dobj (dcs A n c st ar lf))).alloc (dobj zcs)) V) (hs : V.heap.size = w.heap.size + 2) :
    St w (V.alloc (.cells #[.string (str f.name), .string (str f.data), .int .i64 f.syn] 108)) A n c st ar lf f := by
  obtain ⟨h1, h2, h3, h4⟩ := two_blk h
  have b := Blk.new V #[.string (str f.name), .string (str f.data), .int .i64 f.syn] 108
  rw [hs] at b
  exact ⟨h1.keep (Below.heap_alloc _ _ _ h1.lt), h2.keep (Below.heap_alloc _ _ _ h2.lt), b, h3.alloc (by omega) _, by simp; omega⟩
theorem St.below (h : St w V A n c st ar lf f) (hb : Below V.heap.size V V') : St w V' A n c st ar lf f :=
  ⟨h.d.keep (hb.block _ h.d.lt), h.r.keep (hb.block _ h.r.lt), h.f.keep (hb.block _ h.f.lt), h.bel.trans (hb.mono (by have := h.size; omega)), by have := h.size; have := hb.size; omega⟩
theorem St.drew (h : St w V A n c st ar lf f) : St w V.drew A n c st ar lf f := ⟨h.d, h.r, h.f, h.bel.drew, h.size⟩
theorem St.set (h : St w V A n c st ar lf f) (k : Nat) (v : Value) (f' : Fm) (hf : #[Value.string (str f.name), .string (str f.data), .int .i64 f.syn].setIfInBounds k v = #[Value.string (str f'.name), .string (str f'.data), .int .i64 f'.syn]) : St w (V.setCell ⟨w.heap.size + 1 + 1, k, none⟩ v) A n c st ar lf f' := by
  have hk : ∀ i, i ≠ w.heap.size + 1 + 1 → (V.setCell ⟨w.heap.size + 1 + 1, k, none⟩ v).heap[i]? = V.heap[i]? := fun i hi => setCell_other _ _ _ hi
  have hfb := h.f.set k v
  rw [hf] at hfb
  refine ⟨h.d.keep (hk _ (by omega)), h.r.keep (hk _ (by omega)), hfb, ⟨?_, ?_, ?_, ?_, fun i hi => ?_⟩, by rw [setCell_size]; exact h.size⟩
  · simp only [setCell_os]; exact h.bel.os
  · simp only [setCell_tape]; exact h.bel.tape
  · simp only [setCell_output]; exact h.bel.output
  · simp only [setCell_size]; exact h.bel.size
  · rw [hk i (by omega)]; exact h.bel.block i hi
theorem St.set3 (h : St w V A n c st ar lf f) (g : Fm) : St w (((V.setCell ⟨w.heap.size + 1 + 1, 0, none⟩ (.string (str g.name))).setCell ⟨w.heap.size + 1 + 1, 1, none⟩ (.string (str g.data))).setCell ⟨w.heap.size + 1 + 1, 2, none⟩ (.int .i64 g.syn)) A n c st ar lf g :=
  ((h.set 0 (.string (str g.name)) ⟨g.name, f.data, f.syn⟩ rfl).set 1 (.string (str g.data)) ⟨g.name, g.data, f.syn⟩ rfl).set 2 (.int .i64 g.syn) g rfl
theorem St.cells (h : St w V A n c st ar lf f) :
    (V.cell? ⟨w.heap.size, 0, none⟩ = some (.slice A n c) ∧ V.cell? ⟨w.heap.size, 1, none⟩ = some (.int .i64 st) ∧ V.cell? ⟨w.heap.size, 2, none⟩ = some (.bool ar) ∧ V.cell? ⟨w.heap.size, 3, none⟩ = some (.int .i64 lf)) ∧
    (V.cell? ⟨w.heap.size + 1, 0, none⟩ = some (.slice none 0 0) ∧ V.cell? ⟨w.heap.size + 1, 1, none⟩ = some (.int .i64 0) ∧ V.cell? ⟨w.heap.size + 1, 2, none⟩ = some (.bool false) ∧ V.cell? ⟨w.heap.size + 1, 3, none⟩ = some (.int .i64 0)) ∧
    (V.frozen? ⟨w.heap.size + 1, 0, none⟩ = false ∧ V.frozen? ⟨w.heap.size + 1, 1, none⟩ = false ∧ V.frozen? ⟨w.heap.size + 1, 2, none⟩ = false ∧ V.frozen? ⟨w.heap.size + 1, 3, none⟩ = false) ∧
    (V.cell? ⟨w.heap.size + 1 + 1, 0, none⟩ = some (.string (str f.name)) ∧ V.cell? ⟨w.heap.size + 1 + 1, 1, none⟩ = some (.string (str f.data)) ∧ V.cell? ⟨w.heap.size + 1 + 1, 2, none⟩ = some (.int .i64 f.syn)) ∧
    (V.frozen? ⟨w.heap.size + 1 + 1, 0, none⟩ = false ∧ V.frozen? ⟨w.heap.size + 1 + 1, 1, none⟩ = false ∧ V.frozen? ⟨w.heap.size + 1 + 1, 2, none⟩ = false) ∧
    (V.frozen? ⟨w.heap.size, 0, none⟩ = false ∧ V.frozen? ⟨w.heap.size, 1, none⟩ = false ∧ V.frozen? ⟨w.heap.size, 2, none⟩ = false ∧ V.frozen? ⟨w.heap.size, 3, none⟩ = false) :=
  ⟨⟨h.d.cell rfl, h.d.cell rfl, h.d.cell rfl, h.d.cell rfl⟩, ⟨h.r.cell rfl, h.r.cell rfl, h.r.cell rfl, h.r.cell rfl⟩, ⟨h.r.frozen 0, h.r.frozen 1, h.r.frozen 2, h.r.frozen 3⟩, ⟨h.f.cell rfl, h.f.cell rfl, h.f.cell rfl⟩, ⟨h.f.frozen 0, h.f.frozen 1, h.f.frozen 2⟩, ⟨h.d.frozen 0, h.d.frozen 1, h.d.frozen 2, h.d.frozen 3⟩⟩
end
theorem str_app (a b : List UInt8) : str a ++ str b = str (a ++ b) := by
  apply ByteArray.ext
  simp [str]

set_option maxRecDepth 40000 in
set_option maxHeartbeats 8000000 in
theorem rappend_any (A : Option Addr) (n c : Nat) (fs : List Fm) (st : Int) (ar : Bool) (lf : Int) (s l : List UInt8) (w : World) (lo : Nat) (hown : w.ownsRow lo 108 3 (.slice A n c) n (fcs fs)) (hnl : fs.length = n) (hlo : lo ≤ w.heap.size) (hn : n ≤ 400) (hs : s.length ≤ 140737488355328) (hl : l.length ≤ 140737488355328) (hd : ∀ f ∈ fs, f.data.length ≤ 262144) :
    Calls Tryz.prog 74 #[.agg #[.slice A n c, .int .i64 st, .bool ar, .int .i64 lf], .string (str s), .string (str l)] w
      (if appF s l.length fs ar lf = 0 then RPost w lo (withK Fm.name ⟨s, (oldFm s fs).data ++ l, (oldFm s fs).syn⟩ fs) (wrap64 (st + 1)) ar (lf1 ar lf) 0 else RPost w lo fs st ar lf (appF s l.length fs ar lf)) := by
  have HO := Lib.hid hown
  clear hown
  have hsz : ∀ l, (str l).size = l.length := str_size
  have hcat := str_app
  have tc := fun V h => two_cells (V := V) (w := w) (A := A) (n := n) (c := c) (st := st) (ar := ar) (lf := lf) h
  have tb := fun V h => two_blk (V := V) (w := w) (A := A) (n := n) (c := c) (st := st) (ar := ar) (lf := lf) h
  have HTB := Lib.hid tb
  clear tb
  have hnm := name_any s ((w.alloc (dobj (dcs A n c st ar lf))).alloc (dobj zcs)) hs
  cases hv : vname s with
  | false =>
    rw [hv] at hnm
    have hE : appF s l.length fs ar lf = 20 := by simp [appF, hv]
    rw [hE, if_neg (by decide)]
    clear hE hv hd
    go_enter Tryz.func74, Tryz.ntmps74
    go_wp2_with (go_at_call 52; refine hnm.mono ?_; rintro e w' ⟨rfl, rfl⟩)
    refine ret_drive2 rfl rfl rfl rfl (heap_alloc2_new w _ _) ⟨A, c, by rw [hnl]; rfl, ?_, ((Below.refl _ w).alloc (Nat.le_refl _) _).alloc (by simp) _⟩
    rw [hnl]
    exact own3_below HO.out ((((Below.refl _ w).alloc (Nat.le_refl _) _).alloc (by simp) _))
  | true =>
    rw [hv] at hnm
    have hS3 := St.start w A n c st ar lf ⟨s, [], 0⟩ (Below.refl _ _) (by simp)
    have hemp : str [] = ⟨#[]⟩ := rfl
    have hat := at_any A n c fs st ar lf s (((w.alloc (dobj (dcs A n c st ar lf))).alloc (dobj zcs)).alloc (.cells #[.string (str s), .string ⟨#[]⟩, .int .i64 0] 108)) ((((own_fl HO.out).alloc _).alloc _).alloc _) (by omega)
    have HS3 := Lib.hid hS3
    clear hS3
    cases hf : findK Fm.name s fs with
    | none =>
      rw [atK_none hf] at hat
      have hof : oldFm s fs = emptyFm s := by simp [oldFm, hf]
      by_cases hfull : (256 : Int) ≤ n
      · have hE : appF s l.length fs ar lf = 5 := by
          simp only [appF, hv]
          rw [if_neg (by decide), if_pos (.inl ⟨hf, by omega⟩)]
        rw [hE, if_neg (by decide)]
        clear hE hv hf hof
        go_enter Tryz.func74, Tryz.ntmps74
        go_wp2_with (first
          | (go_at_call 52; refine hnm.mono ?_; rintro e w' ⟨rfl, rfl⟩)
          | (go_at_call 53; refine hat.mono ?_; rintro e w4 ⟨rfl, hb4⟩; have hS4 := HS3.out.below hb4; obtain ⟨⟨k0, k1, k2, k3⟩, ⟨r0, r1, r2, r3⟩, ⟨p0, p1, p2, p3⟩, ⟨y0, y1, y2⟩, ⟨q0, q1, q2⟩, ⟨u0, u1, u2, u3⟩⟩ := hS4.cells; have HS4 := Lib.hid hS4; clear hS4; dsimp only at y0 y1 y2))
        have S := HS4.out
        exact end_drive S.r (by omega) S.bel (own3_below HO.out (S.bel.mono (Nat.le_refl _))) hnl (row_ne (own3_below HO.out (S.bel.mono (Nat.le_refl _))) S.r (by decide)) rfl rfl rfl rfl
      · by_cases hbig : (262144 : Int) < l.length
        · have hE : appF s l.length fs ar lf = 5 := by
            simp only [appF, hv]
            rw [if_neg (by decide), if_pos (.inr (by rw [hof]; show 262144 < 0 + l.length; omega))]
          rw [hE, if_neg (by decide)]
          clear hE hv hf hof
          go_enter Tryz.func74, Tryz.ntmps74
          go_wp2_with (first
            | (go_at_call 52; refine hnm.mono ?_; rintro e w' ⟨rfl, rfl⟩)
            | (go_at_call 53; refine hat.mono ?_; rintro e w4 ⟨rfl, hb4⟩; have hS4 := HS3.out.below hb4; obtain ⟨⟨k0, k1, k2, k3⟩, ⟨r0, r1, r2, r3⟩, ⟨p0, p1, p2, p3⟩, ⟨y0, y1, y2⟩, ⟨q0, q1, q2⟩, ⟨u0, u1, u2, u3⟩⟩ := hS4.cells; have HS4 := Lib.hid hS4; clear hS4; dsimp only at y0 y1 y2))
          have S := HS4.out
          exact end_drive S.r (by omega) S.bel (own3_below HO.out (S.bel.mono (Nat.le_refl _))) hnl (row_ne (own3_below HO.out (S.bel.mono (Nat.le_refl _))) S.r (by decide)) rfl rfl rfl rfl
        · have hnf : ¬ ((findK Fm.name s fs = none ∧ 256 ≤ fs.length) ∨ 262144 < (oldFm s fs).data.length + l.length) := by rw [hf, hof]; show ¬ ((none = none ∧ 256 ≤ fs.length) ∨ 262144 < 0 + l.length); omega
          cases hdd0 : dead ar lf with
          | true =>
            have hE : appF s l.length fs ar lf = 6 := by
              simp only [appF, hv]
              rw [if_neg (by decide), if_neg hnf, if_pos hdd0]
            rw [hE, if_neg (by decide)]
            have hdd := fun W => rdead_any A n c st ar lf W
            rw [hdd0] at hdd
            clear hE hv hf hof hnf hdd0
            go_enter Tryz.func74, Tryz.ntmps74
            go_wp2_with (first
              | (go_at_call 52; refine hnm.mono ?_; rintro e w' ⟨rfl, rfl⟩)
              | (go_at_call 53; refine hat.mono ?_; rintro e w4 ⟨rfl, hb4⟩; have hS4 := HS3.out.below hb4; obtain ⟨⟨k0, k1, k2, k3⟩, ⟨r0, r1, r2, r3⟩, ⟨p0, p1, p2, p3⟩, ⟨y0, y1, y2⟩, ⟨q0, q1, q2⟩, ⟨u0, u1, u2, u3⟩⟩ := hS4.cells; have HS4 := Lib.hid hS4; clear hS4; dsimp only at y0 y1 y2)
              | (go_at_call 62; refine (hdd _).mono ?_; rintro e w5 ⟨rfl, hb5⟩; have hS5 := (HS4.out).below hb5; obtain ⟨⟨k0, k1, k2, k3⟩, ⟨r0, r1, r2, r3⟩, ⟨p0, p1, p2, p3⟩, ⟨y0, y1, y2⟩, ⟨q0, q1, q2⟩, ⟨u0, u1, u2, u3⟩⟩ := hS5.cells; have HS5 := Lib.hid hS5; clear hS5; dsimp only at y0 y1 y2))
            exact end_drive HS5.out.r (by omega) HS5.out.bel (own3_below HO.out (HS5.out.bel.mono (Nat.le_refl _))) hnl (row_ne (own3_below HO.out (HS5.out.bel.mono (Nat.le_refl _))) HS5.out.r (by decide)) rfl rfl rfl rfl
          | false =>
            have hE : appF s l.length fs ar lf = 0 := by
              simp only [appF, hv]
              rw [if_neg (by decide), if_neg hnf, hdd0, if_neg (by decide)]
            rw [hE, if_pos rfl, hof]
            have hlf : (if ar then wrap64 (lf - 1) else lf) = lf1 ar lf := by simp [lf1, hdd0]
            have hdd := fun W => rdead_any A n c st ar lf W
            rw [hdd0] at hdd
            have hst := fun W => rstep_any A n c st ar lf W
            rw [hlf] at hst
            rw [show (⟨s, (emptyFm s).data ++ l, (emptyFm s).syn⟩ : Fm) = ⟨s, l, 0⟩ from rfl]
            clear hE hv hf hof hnf hdd0 hlf
            go_enter Tryz.func74, Tryz.ntmps74
            go_wp2_with (first
              | (go_at_call 52; refine hnm.mono ?_; rintro e w' ⟨rfl, rfl⟩)
              | (go_at_call 53; refine hat.mono ?_; rintro e w4 ⟨rfl, hb4⟩; have hS4 := HS3.out.below hb4; obtain ⟨⟨k0, k1, k2, k3⟩, ⟨r0, r1, r2, r3⟩, ⟨p0, p1, p2, p3⟩, ⟨y0, y1, y2⟩, ⟨q0, q1, q2⟩, ⟨u0, u1, u2, u3⟩⟩ := hS4.cells; have HS4 := Lib.hid hS4; clear hS4; dsimp only at y0 y1 y2)
              | (go_at_call 62; refine (hdd _).mono ?_; rintro e w5 ⟨rfl, hb5⟩; have hS5 := (HS4.out).below hb5; obtain ⟨⟨k0, k1, k2, k3⟩, ⟨r0, r1, r2, r3⟩, ⟨p0, p1, p2, p3⟩, ⟨y0, y1, y2⟩, ⟨q0, q1, q2⟩, ⟨u0, u1, u2, u3⟩⟩ := hS5.cells; have HS5 := Lib.hid hS5; clear hS5; dsimp only at y0 y1 y2))
            have HS6 := Lib.hid (HS5.out.set 1 (.string (str l)) (⟨s, l, 0⟩ : Fm) rfl)
            go_region_with (first
              | (go_at_call 121; refine (hst _).mono ?_; rintro e w7 ⟨rfl, hb7⟩; have hS7 := HS6.out.drew.below hb7; obtain ⟨⟨k0, k1, k2, k3⟩, ⟨r0, r1, r2, r3⟩, ⟨p0, p1, p2, p3⟩, ⟨y0, y1, y2⟩, ⟨q0, q1, q2⟩, ⟨u0, u1, u2, u3⟩⟩ := hS7.cells; have HS7 := Lib.hid hS7; clear hS7; dsimp only at y0 y1 y2)
              | (go_at_call 54; refine (with_any A n c fs _ ar _ (⟨s, l, 0⟩ : Fm) w7 ((own_fl HO.out).below (HS7.out.bel.mono (Nat.le_refl _))) hn).mono ?_; rintro e w8 ⟨A8, c8, rfl, hown8, hb8⟩; have hS8 := HS7.out.below hb8; obtain ⟨⟨k0, k1, k2, k3⟩, ⟨r0, r1, r2, r3⟩, ⟨p0, p1, p2, p3⟩, ⟨y0, y1, y2⟩, ⟨q0, q1, q2⟩, ⟨u0, u1, u2, u3⟩⟩ := hS8.cells; have HS8 := Lib.hid hS8; clear hS8))
            all_goals
              go_wp2_with fail
              have ho8 := own3_base hown8 (B' := lo) (by have := HS7.out.size; omega)
              exact end_drive HS8.out.r (by omega) HS8.out.bel ho8 rfl (row_ne ho8 HS8.out.r (by decide)) rfl rfl rfl rfl
    | some f =>
      obtain ⟨i, hi, hfi, hil⟩ := atK_some hf
      rw [hi] at hat
      have hof : oldFm s fs = f := by simp [oldFm, hf]
      have hfd := hd f (find_some hf).1
      have hfn : f.name = s := (find_some hf).2
      have hi0 : (0 : Int) ≤ i := by omega
      have hil2 : (i : Int) < n := by omega
      obtain ⟨b, o, f2, hA, hf2, x1, x2, x3⟩ := (own_fl HO.out).at_ (i := i) (by omega)
      rw [hfi] at hf2
      obtain rfl := Option.some.inj hf2
      have hlb := World.block_lt_of_cell? _ _ x1
      have hx : ∀ V, Below w.heap.size w V → V.cell? ⟨b, o + i * 3, none⟩ = some (.string (str f.name)) ∧ V.cell? ⟨b, o + i * 3 + 1, none⟩ = some (.string (str f.data)) ∧ V.cell? ⟨b, o + i * 3 + 2, none⟩ = some (.int .i64 f.syn) := fun V hV =>
        ⟨(World.cell?_of_block (hV.block b hlb)).trans x1, (World.cell?_of_block (hV.block b hlb)).trans x2, (World.cell?_of_block (hV.block b hlb)).trans x3⟩
      clear x1 x2 x3 hf2
      subst hA
      clear hi hfi hil
      subst hfn
      by_cases hbig : (262144 : Int) < f.data.length + l.length
      · have hE : appF f.name l.length fs ar lf = 5 := by
          simp only [appF, hv]
          rw [if_neg (by decide), if_pos (.inr (by rw [hof]; omega))]
        rw [hE, if_neg (by decide)]
        clear hE hv hf hof
        go_enter Tryz.func74, Tryz.ntmps74
        go_wp2_with (first
          | (go_at_call 52; refine hnm.mono ?_; rintro e w' ⟨rfl, rfl⟩)
          | (go_at_call 53; refine hat.mono ?_; rintro e w4 ⟨rfl, hb4⟩; have hS4 := HS3.out.below hb4; obtain ⟨⟨k0, k1, k2, k3⟩, ⟨r0, r1, r2, r3⟩, ⟨p0, p1, p2, p3⟩, ⟨y0, y1, y2⟩, ⟨q0, q1, q2⟩, ⟨u0, u1, u2, u3⟩⟩ := hS4.cells; have HS4 := Lib.hid hS4; clear hS4; obtain ⟨x1, x2, x3⟩ := hx w4 HS4.out.bel))
        have S := (HS4.out.set3 f)
        exact end_drive S.r (by omega) S.bel (own3_below HO.out (S.bel.mono (Nat.le_refl _))) hnl (row_ne (own3_below HO.out (S.bel.mono (Nat.le_refl _))) S.r (by decide)) rfl rfl rfl rfl
      · have hnf : ¬ ((findK Fm.name f.name fs = none ∧ 256 ≤ fs.length) ∨ 262144 < (oldFm f.name fs).data.length + l.length) := by rw [hf, hof]; rintro (⟨h, _⟩ | h); cases h; omega
        have hlenI : ((f.data.length : Int) + l.length) ≤ 262144 := by omega
        cases hdd0 : dead ar lf with
        | true =>
          have hE : appF f.name l.length fs ar lf = 6 := by
            simp only [appF, hv]
            rw [if_neg (by decide), if_neg hnf, if_pos hdd0]
          rw [hE, if_neg (by decide)]
          have hdd := fun W => rdead_any (some ⟨b, o, none⟩) n c st ar lf W
          rw [hdd0] at hdd
          clear hE hv hf hof hnf hdd0
          go_enter Tryz.func74, Tryz.ntmps74
          go_wp2_with (first
            | (go_at_call 52; refine hnm.mono ?_; rintro e w' ⟨rfl, rfl⟩)
            | (go_at_call 53; refine hat.mono ?_; rintro e w4 ⟨rfl, hb4⟩; have hS4 := HS3.out.below hb4; obtain ⟨⟨k0, k1, k2, k3⟩, ⟨r0, r1, r2, r3⟩, ⟨p0, p1, p2, p3⟩, ⟨y0, y1, y2⟩, ⟨q0, q1, q2⟩, ⟨u0, u1, u2, u3⟩⟩ := hS4.cells; have HS4 := Lib.hid hS4; clear hS4; obtain ⟨x1, x2, x3⟩ := hx w4 HS4.out.bel)
            | (go_at_call 62; refine (hdd _).mono ?_; rintro e w5 ⟨rfl, hb5⟩; have hS5 := (HS4.out.set3 f).below hb5; obtain ⟨⟨k0, k1, k2, k3⟩, ⟨r0, r1, r2, r3⟩, ⟨p0, p1, p2, p3⟩, ⟨y0, y1, y2⟩, ⟨q0, q1, q2⟩, ⟨u0, u1, u2, u3⟩⟩ := hS5.cells; have HS5 := Lib.hid hS5; clear hS5))
          exact end_drive HS5.out.r (by omega) HS5.out.bel (own3_below HO.out (HS5.out.bel.mono (Nat.le_refl _))) hnl (row_ne (own3_below HO.out (HS5.out.bel.mono (Nat.le_refl _))) HS5.out.r (by decide)) rfl rfl rfl rfl
        | false =>
          have hE : appF f.name l.length fs ar lf = 0 := by
            simp only [appF, hv]
            rw [if_neg (by decide), if_neg hnf, hdd0, if_neg (by decide)]
          rw [hE, if_pos rfl, hof]
          have hlf : (if ar then wrap64 (lf - 1) else lf) = lf1 ar lf := by simp [lf1, hdd0]
          have hdd := fun W => rdead_any (some ⟨b, o, none⟩) n c st ar lf W
          rw [hdd0] at hdd
          have hst := fun W => rstep_any (some ⟨b, o, none⟩) n c st ar lf W
          rw [hlf] at hst
          clear hE hv hf hof hnf hdd0 hlf
          go_enter Tryz.func74, Tryz.ntmps74
          go_wp2_with (first
            | (go_at_call 52; refine hnm.mono ?_; rintro e w' ⟨rfl, rfl⟩)
            | (go_at_call 53; refine hat.mono ?_; rintro e w4 ⟨rfl, hb4⟩; have hS4 := HS3.out.below hb4; obtain ⟨⟨k0, k1, k2, k3⟩, ⟨r0, r1, r2, r3⟩, ⟨p0, p1, p2, p3⟩, ⟨y0, y1, y2⟩, ⟨q0, q1, q2⟩, ⟨u0, u1, u2, u3⟩⟩ := hS4.cells; have HS4 := Lib.hid hS4; clear hS4; obtain ⟨x1, x2, x3⟩ := hx w4 HS4.out.bel)
            | (go_at_call 62; refine (hdd _).mono ?_; rintro e w5 ⟨rfl, hb5⟩; have hS5 := (HS4.out.set3 f).below hb5; obtain ⟨⟨k0, k1, k2, k3⟩, ⟨r0, r1, r2, r3⟩, ⟨p0, p1, p2, p3⟩, ⟨y0, y1, y2⟩, ⟨q0, q1, q2⟩, ⟨u0, u1, u2, u3⟩⟩ := hS5.cells; have HS5 := Lib.hid hS5; clear hS5))
          have HS6 := Lib.hid (HS5.out.set 1 (.string (str (f.data ++ l))) (⟨f.name, f.data ++ l, f.syn⟩ : Fm) rfl)
          go_region_with (first
            | (go_at_call 121; refine (hst _).mono ?_; rintro e w7 ⟨rfl, hb7⟩; have hS7 := HS6.out.drew.below hb7; obtain ⟨⟨k0, k1, k2, k3⟩, ⟨r0, r1, r2, r3⟩, ⟨p0, p1, p2, p3⟩, ⟨y0, y1, y2⟩, ⟨q0, q1, q2⟩, ⟨u0, u1, u2, u3⟩⟩ := hS7.cells; have HS7 := Lib.hid hS7; clear hS7; dsimp only at y0 y1 y2)
            | (go_at_call 54; refine (with_any (some ⟨b, o, none⟩) n c fs _ ar _ (⟨f.name, f.data ++ l, f.syn⟩ : Fm) w7 ((own_fl HO.out).below (HS7.out.bel.mono (Nat.le_refl _))) hn).mono ?_; rintro e w8 ⟨A8, c8, rfl, hown8, hb8⟩; have hS8 := HS7.out.below hb8; obtain ⟨⟨k0, k1, k2, k3⟩, ⟨r0, r1, r2, r3⟩, ⟨p0, p1, p2, p3⟩, ⟨y0, y1, y2⟩, ⟨q0, q1, q2⟩, ⟨u0, u1, u2, u3⟩⟩ := hS8.cells; have HS8 := Lib.hid hS8; clear hS8))
          all_goals
            go_wp2_with fail
            have ho8 := own3_base hown8 (B' := lo) (by have := HS7.out.size; omega)
            exact end_drive HS8.out.r (by omega) HS8.out.bel ho8 rfl (row_ne ho8 HS8.out.r (by decide)) rfl rfl rfl rfl
end Go.Proofs.YtadkgfhfjagmpaaGreatDoor
