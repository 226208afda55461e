/-
  The reference's drive: Rename.
-/
import Derived.Test.YtfhlhdpgahbeiaaReF
namespace Go.Proofs.Ytfhlhdpgahbeiaa
open Go.RowKit Go.Maps
set_option linter.unusedVariables false

theorem with_out {α : Type} {key : α → List UInt8} {x : α} : ∀ {l : List α}, Rises key l → withK key x (outK key (key x) l) = withK key x l
  | [], _ => rfl
  | y :: r, hr => by
    obtain ⟨h1, h2⟩ := List.pairwise_cons.1 hr
    by_cases hy : key y = key x
    · have e1 : outK key (key x) (y :: r) = r := by
        unfold outK
        rw [List.filter_cons, if_neg (by simp [hy])]
        exact List.filter_eq_self.2 fun a ha => by have := lt_ne (h1 a ha); rw [hy] at this; simpa using this.symm
      have e2 : withK key x (y :: r) = x :: r := by
        rw [withK, if_pos (by simp [le, hy]), List.filter_cons, if_neg (by simp [hy])]
        rw [List.filter_eq_self.2 fun a ha => by have := lt_ne (h1 a ha); rw [hy] at this; simpa using this.symm]
      rw [e1, e2, with_big fun a ha => by have := h1 a ha; rwa [hy] at this]
    · have e1 : outK key (key x) (y :: r) = y :: outK key (key x) r := by
        unfold outK
        rw [List.filter_cons, if_pos (by simpa using hy)]
      rw [e1]
      unfold withK
      split
      · congr 1
        rw [List.filter_cons, List.filter_cons, if_pos (by simpa using hy)]
        unfold outK
        rw [List.filter_filter]
        simp [hy]
      · rw [with_out h2]
def renF (s tn : List UInt8) (fs : List Fm) (ar : Bool) (lf : Int) : Int := if vname tn = false then 20 else lookF s fs ar lf

set_option maxRecDepth 40000 in
set_option maxHeartbeats 8000000 in
theorem rrename_any (A : Option Addr) (n c : Nat) (fs : List Fm) (st : Int) (ar : Bool) (lf : Int) (s tn : List UInt8) (w : World) (lo : Nat) (hown : w.ownsRow lo 70 3 (.slice A n c) n (fcs fs)) (hnl : fs.length = n) (hlo : lo ≤ w.heap.size) (hn : n ≤ 400) (hs : s.length ≤ 140737488355328) (htn : tn.length ≤ 140737488355328) (hr : Rises Fm.name fs) :
    Calls Try.prog 39 #[.agg #[.slice A n c, .int .i64 st, .bool ar, .int .i64 lf], .string (str s), .string (str tn)] w
      (if renF s tn fs ar lf = 0 then RPost w lo (withK Fm.name ⟨tn, (oldFm s fs).data, (oldFm s fs).syn⟩ (outK Fm.name s fs)) (wrap64 (st + 1)) ar (lf1 ar lf) 0 else RPost w lo fs st ar lf (renF s tn fs ar lf)) := by
  have HO := Lib.hid hown
  clear hown
  have hsz : ∀ l, (str l).size = l.length := str_size
  have tc := fun V h => two_cells (V := V) (w := w) (A := A) (n := n) (c := c) (st := st) (ar := ar) (lf := lf) h
  have tb := fun V h => two_blk (V := V) (w := w) (A := A) (n := n) (c := c) (st := st) (ar := ar) (lf := lf) h
  have HTB := Lib.hid tb
  clear tb
  have hlk := look_any A n c fs st ar lf s ((w.alloc (dobj (dcs A n c st ar lf))).alloc (dobj zcs)) (((own_fl HO.out).alloc _).alloc _) hn hs
  have hnm := name_any tn ((w.alloc (dobj (dcs A n c st ar lf))).alloc (dobj zcs)) htn
  cases hv : vname tn with
  | false =>
    rw [hv] at hnm
    have hE : renF s tn fs ar lf = 20 := by simp [renF, hv]
    rw [hE, if_neg (by decide)]
    clear hE hv
    go_enter Try.func39, Try.ntmps39
    go_wp2_with (go_at_call 32; refine hnm.mono ?_; rintro e w' ⟨rfl, rfl⟩)
    refine ret_drive2 rfl rfl rfl rfl (heap_alloc2_new w _ _) ⟨A, c, by rw [hnl]; rfl, ?_, ((Below.refl _ w).alloc (Nat.le_refl _) _).alloc (by simp) _⟩
    rw [hnl]
    exact own3_below HO.out ((((Below.refl _ w).alloc (Nat.le_refl _) _).alloc (by simp) _))
  | true =>
  rw [hv] at hnm
  have hren : renF s tn fs ar lf = lookF s fs ar lf := by simp [renF, hv]
  rw [hren]
  clear hren hv
  by_cases hE : lookF s fs ar lf = 0
  · rw [if_pos hE]
    rw [hE] at hlk
    obtain ⟨f, hf, hd0⟩ := lookF_ok hE
    have hlf : (if ar then wrap64 (lf - 1) else lf) = lf1 ar lf := by simp [lf1, hd0]
    have hst := fun W => rstep_any A n c st ar lf W
    rw [hlf] at hst
    have hof : oldFm s fs = f := by simp [oldFm, hf]
    rw [hof]
    obtain ⟨i, hi, hfi, hil⟩ := atK_some hf
    have hfn := (find_some hf).2
    have hat := fun W (h : Fl W A n fs) => at_any A n c fs st ar lf s W h (by omega)
    rw [hi] at hat
    have hil2 : (i : Int) < n := by omega
    have hi0 : (0 : Int) ≤ i := by omega
    obtain ⟨b, o, f2, hA, hf2, x1, x2, x3⟩ := (own_fl HO.out).at_ (i := i) (by omega)
    rw [hfi] at hf2
    obtain rfl := Option.some.inj hf2
    have hlb := World.block_lt_of_cell? _ _ x1
    have hx : ∀ V, Below w.heap.size w V → V.cell? ⟨b, o + i * 3, none⟩ = some (.string (str f.name)) ∧ V.cell? ⟨b, o + i * 3 + 1, none⟩ = some (.string (str f.data)) ∧ V.cell? ⟨b, o + i * 3 + 2, none⟩ = some (.int .i64 f.syn) := fun V hV =>
      ⟨(World.cell?_of_block (hV.block b hlb)).trans x1, (World.cell?_of_block (hV.block b hlb)).trans x2, (World.cell?_of_block (hV.block b hlb)).trans x3⟩
    clear x1 x2 x3 hf2 hE hlf hd0 hf hof hi hfi hil
    subst hA
    subst hfn
    go_enter Try.func39, Try.ntmps39
    go_wp2_with (first
      | (go_at_call 32; refine hnm.mono ?_; rintro e w' ⟨rfl, rfl⟩)
      | (go_at_call 58; refine hlk.mono ?_; rintro e w3 ⟨rfl, hb3⟩; obtain ⟨⟨k0, k1, k2, k3⟩, ⟨r0, r1, r2, r3⟩, p0, p1, p2, p3, p4, p5, p6, p7⟩ := tc w3 hb3))
    have h3 := HTB.out w3 hb3
    have hFl3 : Fl w3 (some ⟨b, o, none⟩) n fs := (own_fl HO.out).below (h3.2.2.1.mono (Nat.le_refl _))
    have hka := fun o1 => (tc (w3.alloc o1) (hb3.alloc hb3.size o1)).1
    have hkb0 := fun o1 => (hka o1).1
    have hkb1 := fun o1 => (hka o1).2.1
    have hkb2 := fun o1 => (hka o1).2.2.1
    have hkb3 := fun o1 => (hka o1).2.2.2
    clear hka
    go_cut [9] (fun s9 wx => ∃ bf, s9 = .pointer (some ⟨bf, 0, none⟩) ∧ Blk wx bf #[.string (str f.name), .string (str f.data), .int .i64 f.syn] 70 ∧ w3.heap.size ≤ bf ∧ Below w3.heap.size w3 wx)
    case first =>
      go_region_with (first
        | (go_at_call 33; refine (hat _ hFl3.drew1).mono ?_; rintro e w4 ⟨rfl, hb4⟩
           have hb34 : Below w3.heap.size w3 w4 := (Below.refl w3.heap.size w3).drew.trans hb4
           obtain ⟨x1, x2, x3⟩ := hx w4 (h3.2.2.1.trans (hb34.mono (by omega)))
           have hxa := fun o1 => hx (w4.alloc o1) ((h3.2.2.1.trans (hb34.mono (by omega))).alloc (by have := hb34.size; omega) o1)
           have hxb := fun o1 => (hxa o1).1
           have hxc := fun o1 => (hxa o1).2.1
           have hxd := fun o1 => (hxa o1).2.2
           clear hxa
           have hma := fun o1 => (tc (w4.alloc o1) ((hb3.trans (hb34.mono hb3.size)).alloc (by have := hb3.size; have := hb34.size; omega) o1)).1.1
           obtain ⟨⟨m0, m1, m2, m3⟩, -, -⟩ := tc w4 (hb3.trans (hb34.mono hb3.size)))
        | (go_at_call 33; refine (hat _ (hFl3.alloc (.cells #[.string ⟨#[]⟩, .string ⟨#[]⟩, .int .i64 0] 70)).drew1).mono ?_; rintro e w4 ⟨rfl, hb4x⟩
           have hb4 : Below (w3.alloc (.cells #[.string ⟨#[]⟩, .string ⟨#[]⟩, .int .i64 0] 70)).heap.size (w3.alloc (.cells #[.string ⟨#[]⟩, .string ⟨#[]⟩, .int .i64 0] 70)) w4 := (Below.refl _ (w3.alloc (.cells #[.string ⟨#[]⟩, .string ⟨#[]⟩, .int .i64 0] 70))).drew.trans hb4x
           have hb34 : Below w3.heap.size w3 w4 := ((Below.refl w3.heap.size w3).alloc (Nat.le_refl _) _).trans (hb4.mono (by simp))
           have hz4 := (Blk.new w3 #[.string ⟨#[]⟩, .string ⟨#[]⟩, .int .i64 0] 70).keep (hb4.block _ (by simp))
           have z0 := hz4.cell (k := 0) rfl
           have z1 := hz4.cell (k := 1) rfl
           have z2 := hz4.cell (k := 2) rfl
           have zf0 := hz4.frozen 0
           have zf1 := hz4.frozen 1
           have zf2 := hz4.frozen 2
           obtain ⟨x1, x2, x3⟩ := hx w4 (h3.2.2.1.trans (hb34.mono (by omega)))
           have hxa := fun o1 => hx (w4.alloc o1) ((h3.2.2.1.trans (hb34.mono (by omega))).alloc (by have := hb34.size; omega) o1)
           have hxb := fun o1 => (hxa o1).1
           have hxc := fun o1 => (hxa o1).2.1
           have hxd := fun o1 => (hxa o1).2.2
           clear hxa
           have hma := fun o1 => (tc (w4.alloc o1) ((hb3.trans (hb34.mono hb3.size)).alloc (by have := hb3.size; have := hb34.size; omega) o1)).1.1
           obtain ⟨⟨m0, m1, m2, m3⟩, -, -⟩ := tc w4 (hb3.trans (hb34.mono hb3.size))))
      all_goals
        go_wp2_with fail
        go_meet
        first
          | exact ⟨w4.heap.size, rfl, Blk.new _ _ _, hb34.size, hb34.alloc hb34.size _⟩
          | exact ⟨w3.heap.size, rfl, ((hz4.set 0 _).set 1 _).set 2 _, Nat.le_refl _, ((hb34.setCell (p := ⟨w3.heap.size, 0, none⟩) (Nat.le_refl _) _).setCell (p := ⟨w3.heap.size, 1, none⟩) (Nat.le_refl _) _).setCell (p := ⟨w3.heap.size, 2, none⟩) (Nat.le_refl _) _⟩
    case rest =>
      obtain ⟨bf, rfl, hbk, hbf, hbx⟩ := hcut
      obtain ⟨g1, g2, g3, g4⟩ := HTB.out _ (hb3.trans (hbx.mono hb3.size))
      have hS4 : StB w _ bf (some ⟨b, o, none⟩) n c st ar lf f := ⟨g1, g2, hbk, by have := h3.2.2.2; omega, g3, g4⟩
      clear k0 k1 k2 k3 r0 r1 r2 r3 p0 p1 p2 p3 p4 p5 p6 p7 hkb0 hkb1 hkb2 hkb3 g1 g2 g3 g4 hbk
      obtain ⟨⟨k0, k1, k2, k3⟩, ⟨r0, r1, r2, r3⟩, ⟨p0, p1, p2, p3⟩, ⟨y0, y1, y2⟩, ⟨q0, q1, q2⟩, ⟨u0, u1, u2, u3⟩⟩ := hS4.cells
      have HS4 := Lib.hid hS4
      clear hS4
      have hro := rises_out (key := Fm.name) f.name hr
      go_wp2_with (go_at_call 50; refine (hst _).mono ?_; rintro e w5 ⟨rfl, hb5⟩; have hS5 := HS4.out.below hb5; have HS5 := Lib.hid hS5; clear hS5)
      refine (without_any (some ⟨b, o, none⟩) n c fs _ ar _ f.name w5 ((own_fl HO.out).below (HS5.out.bel.mono (Nat.le_refl _))) hn).mono ?_
      rintro e w6 ⟨A6, c6, rfl, hown6, hb6⟩
      have hS6 := HS5.out.below hb6
      have HS6 := Lib.hid hS6
      clear hS6
      go_wp2_with fail
      refine (without_any A6 _ c6 (outK Fm.name f.name fs) _ ar _ tn w6 (own_fl hown6) (Nat.le_trans (out_length _ _) (by omega))).mono ?_
      rintro e w7 ⟨A7, c7, rfl, hown7, hb7⟩
      have hS7 := HS6.out.below hb7
      obtain ⟨⟨k0, k1, k2, k3⟩, ⟨r0, r1, r2, r3⟩, ⟨p0, p1, p2, p3⟩, ⟨y0, y1, y2⟩, ⟨q0, q1, q2⟩, ⟨u0, u1, u2, u3⟩⟩ := hS7.cells
      have HS7 := Lib.hid hS7
      clear hS7
      go_wp2_with fail
      have hS8 := (HS7.out.set4 A7 (outK Fm.name tn (outK Fm.name f.name fs)).length c7 (wrap64 (st + 1)) ar (lf1 ar lf)).set 0 (.string (str tn)) (⟨tn, f.data, f.syn⟩ : Fm) rfl
      have HS8 := Lib.hid hS8
      clear hS8
      have hbf6 := HS6.out.f.lt
      have hown7x := own3_keep hown7 fun k hk => (setCell_other ((((w7.setCell ⟨w.heap.size, 0, none⟩ (.slice A7 (outK Fm.name tn (outK Fm.name f.name fs)).length c7)).setCell ⟨w.heap.size, 1, none⟩ (.int .i64 (wrap64 (st + 1)))).setCell ⟨w.heap.size, 2, none⟩ (.bool ar)).setCell ⟨w.heap.size, 3, none⟩ (.int .i64 (lf1 ar lf))) ⟨bf, 0, none⟩ (.string (str tn)) (by have := own3_blk hown7 k hk; simp only; omega)).trans ((put4 HS7.out.d (Nat.le_refl _) HS7.out.bel).2.2 k (by have := own3_blk hown7 k hk; have := HS6.out.size; omega))
      have hl7 : (outK Fm.name tn (outK Fm.name f.name fs)).length ≤ 400 := Nat.le_trans (out_length _ _) (Nat.le_trans (out_length _ _) (by omega))
      have he : withK Fm.name (⟨tn, f.data, f.syn⟩ : Fm) (outK Fm.name tn (outK Fm.name f.name fs)) = withK Fm.name (⟨tn, f.data, f.syn⟩ : Fm) (outK Fm.name f.name fs) := with_out (x := (⟨tn, f.data, f.syn⟩ : Fm)) hro
      have hwt := with_any A7 _ c7 (outK Fm.name tn (outK Fm.name f.name fs)) (wrap64 (st + 1)) ar (lf1 ar lf) (⟨tn, f.data, f.syn⟩ : Fm) _ (own_fl hown7x) hl7
      rw [he] at hwt
      refine hwt.mono ?_
      rintro e w8 ⟨A8, c8, rfl, hown8, hb8⟩
      have hS9 := HS8.out.below hb8
      obtain ⟨⟨k0, k1, k2, k3⟩, ⟨r0, r1, r2, r3⟩, ⟨p0, p1, p2, p3⟩, -, -, -⟩ := hS9.cells
      have HS9 := Lib.hid hS9
      clear hS9 hwt he
      have ho8 := own3_base hown8 (B' := lo) (by have := HS8.out.size; omega)
      go_wp2_with fail
      exact end_drive HS9.out.r (by omega) HS9.out.bel ho8 rfl (row_ne ho8 HS9.out.r (by decide)) rfl rfl rfl rfl
  · rw [if_neg hE]
    obtain ⟨code, hc⟩ : ∃ code, code = lookF s fs ar lf := ⟨_, rfl⟩
    rw [← hc] at hE hlk ⊢
    clear hc
    go_enter Try.func39, Try.ntmps39
    go_wp2_with (first
      | (go_at_call 32; refine hnm.mono ?_; rintro e w' ⟨rfl, rfl⟩)
      | (go_at_call 58; refine hlk.mono ?_; rintro e w3 ⟨rfl, hb3⟩; obtain ⟨⟨k0, k1, k2, k3⟩, ⟨r0, r1, r2, r3⟩, f0, f1, f2, f3, f4, f5, f6, f7⟩ := tc w3 hb3))
    obtain ⟨g1, g2, g3, g4⟩ := HTB.out w3 hb3
    have ho3 := own3_below HO.out (g3.mono (Nat.le_refl _))
    exact end_drive g2 (by omega) g3 ho3 hnl (row_ne ho3 g2 (by decide)) rfl rfl rfl rfl
end Go.Proofs.Ytfhlhdpgahbeiaa
