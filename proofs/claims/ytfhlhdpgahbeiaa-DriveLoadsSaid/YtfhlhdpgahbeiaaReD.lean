/-
  The reference's drive: Append, Sync, Delete, Rename, Arm.
-/
import Derived.Test.YtfhlhdpgahbeiaaReC
namespace Go.Proofs.Ytfhlhdpgahbeiaa
open Go.RowKit Go.Maps
set_option linter.unusedVariables false

theorem ret_drive2 {fn : Func} {p u : Tmp} (h : fn.results = #[.cell p 26, .tmp u]) {R : Ending → World → Prop} {a : Act} {w : World} {g : Nat} {A : Option Addr} {n c : Nat} {st lf : Int} {ar : Bool} {x : Value} (hd : a.defers = [])
    (hp : a.tmps.getD p undef = .pointer (some ⟨g, 0, none⟩)) (hu : a.tmps.getD u undef = x) (hg : Blk w g #[.slice A n c, .int .i64 st, .bool ar, .int .i64 lf] 26)
    (hR : R (.returned (.tuple #[.agg #[.slice A n c, .int .i64 st, .bool ar, .int .i64 lf], x])) w) : bodyPost Try.prog fn R .ret a w := by
  refine bodyPost_ret ?_ hd hR
  rw [results_cell_tmp h, hp, hu]
  have h1 : (asAddr (.pointer (some ⟨g, 0, none⟩))).run Try.prog w = .ok ⟨g, 0, none⟩ w := by simp [asAddr]
  rw [h1]
  have h2 := run_loadVar_row (P := Try.prog) w g 26 26 _ _ _ hg Try.underlying26 rfl (by kernel_rfl)
  simp only [Result.andThen_ok, h2]

/-- A drive and a code; nothing older is written. -/
def RPost (w : World) (lo : Nat) (fs : List Fm) (st : Int) (ar : Bool) (lf : Int) (code : Int) (e : Ending) (w' : World) : Prop :=
  ∃ A c, e = .returned (.tuple #[.agg #[.slice A fs.length c, .int .i64 st, .bool ar, .int .i64 lf], .int .i64 code]) ∧ w'.ownsRow lo 70 3 (.slice A fs.length c) fs.length (fcs fs) ∧ Below w.heap.size w w'

/-- The result's cells stored over a new block. -/
theorem put4 {w V : World} {r : Nat} {z0 z1 z2 z3 v0 v1 v2 v3 : Value} {t : TypeId} (hR : Blk V r #[z0, z1, z2, z3] t) (hr : w.heap.size ≤ r) (hb : Below w.heap.size w V) :
    Blk ((((V.setCell ⟨r, 0, none⟩ v0).setCell ⟨r, 1, none⟩ v1).setCell ⟨r, 2, none⟩ v2).setCell ⟨r, 3, none⟩ v3) r #[v0, v1, v2, v3] t ∧
    Below w.heap.size w ((((V.setCell ⟨r, 0, none⟩ v0).setCell ⟨r, 1, none⟩ v1).setCell ⟨r, 2, none⟩ v2).setCell ⟨r, 3, none⟩ v3) ∧
    ∀ k, k ≠ r → ((((V.setCell ⟨r, 0, none⟩ v0).setCell ⟨r, 1, none⟩ v1).setCell ⟨r, 2, none⟩ v2).setCell ⟨r, 3, none⟩ v3).heap[k]? = V.heap[k]? := by
  have hR3 := (((hR.set 0 v0).set 1 v1).set 2 v2).set 3 v3
  have hk : ∀ k, k ≠ r → ((((V.setCell ⟨r, 0, none⟩ v0).setCell ⟨r, 1, none⟩ v1).setCell ⟨r, 2, none⟩ v2).setCell ⟨r, 3, none⟩ v3).heap[k]? = V.heap[k]? := fun k h2 =>
    (setCell_other _ _ _ h2).trans ((setCell_other _ _ _ h2).trans ((setCell_other _ _ _ h2).trans (setCell_other _ _ _ h2)))
  refine ⟨hR3, ⟨?_, ?_, ?_, ?_, fun k hk' => ?_⟩, hk⟩
  · simp only [setCell_os]; exact hb.os
  · simp only [setCell_tape]; exact hb.tape
  · simp only [setCell_output]; exact hb.output
  · simp only [setCell_size]; exact hb.size
  · rw [hk k (by omega)]; exact hb.block k hk'

abbrev dcs (A : Option Addr) (n c : Nat) (st : Int) (ar : Bool) (lf : Int) : Array Value := #[.slice A n c, .int .i64 st, .bool ar, .int .i64 lf]
abbrev zcs : Array Value := #[.slice none 0 0, .int .i64 0, .bool false, .int .i64 0]
abbrev dobj (cs : Array Value) : Obj := .cells cs 26
theorem two_blk {w V : World} {A : Option Addr} {n c : Nat} {st lf : Int} {ar : Bool} (h : Below ((w.alloc (dobj (dcs A n c st ar lf))).alloc (dobj zcs)).heap.size ((w.alloc (dobj (dcs A n c st ar lf))).alloc (dobj zcs)) V) :
    Blk V w.heap.size (dcs A n c st ar lf) 26 ∧ Blk V (w.heap.size + 1) zcs 26 ∧ Below w.heap.size w V ∧ w.heap.size + 2 ≤ V.heap.size := by
  have b1 := Blk.new w (dcs A n c st ar lf) 26
  have b2 := Blk.new (w.alloc (dobj (dcs A n c st ar lf))) zcs 26
  rw [World.size_alloc] at b2
  have hs : ((w.alloc (dobj (dcs A n c st ar lf))).alloc (dobj zcs)).heap.size = w.heap.size + 2 := by simp
  refine ⟨b1.keep ?_, b2.keep (h.block _ (by rw [hs]; omega)), (((Below.refl _ w).alloc (Nat.le_refl _) _).alloc (by simp) _).trans (h.mono (by rw [hs]; omega)), by rw [← hs]; exact h.size⟩
  rw [h.block _ (by rw [hs]; omega)]
  exact Below.heap_alloc _ _ _ b1.lt
/-- The cells of the two blocks, for the walk. -/
theorem two_cells {w V : World} {A : Option Addr} {n c : Nat} {st lf : Int} {ar : Bool} (h : Below ((w.alloc (dobj (dcs A n c st ar lf))).alloc (dobj zcs)).heap.size ((w.alloc (dobj (dcs A n c st ar lf))).alloc (dobj zcs)) V) :
    (V.cell? ⟨w.heap.size, 0, none⟩ = some (.slice A n c) ∧ V.cell? ⟨w.heap.size, 1, none⟩ = some (.int .i64 st) ∧ V.cell? ⟨w.heap.size, 2, none⟩ = some (.bool ar) ∧ V.cell? ⟨w.heap.size, 3, none⟩ = some (.int .i64 lf)) ∧
    (V.cell? ⟨w.heap.size + 1, 0, none⟩ = some (.slice none 0 0) ∧ V.cell? ⟨w.heap.size + 1, 1, none⟩ = some (.int .i64 0) ∧ V.cell? ⟨w.heap.size + 1, 2, none⟩ = some (.bool false) ∧ V.cell? ⟨w.heap.size + 1, 3, none⟩ = some (.int .i64 0)) ∧
    V.frozen? ⟨w.heap.size + 1, 0, none⟩ = false ∧ V.frozen? ⟨w.heap.size + 1, 1, none⟩ = false ∧ V.frozen? ⟨w.heap.size + 1, 2, none⟩ = false ∧ V.frozen? ⟨w.heap.size + 1, 3, none⟩ = false ∧
    V.frozen? ⟨w.heap.size, 2, none⟩ = false ∧ V.frozen? ⟨w.heap.size, 3, none⟩ = false ∧ V.frozen? ⟨w.heap.size, 0, none⟩ = false ∧ V.frozen? ⟨w.heap.size, 1, none⟩ = false := by
  obtain ⟨h1, h2, -, -⟩ := two_blk h
  exact ⟨⟨h1.cell rfl, h1.cell rfl, h1.cell rfl, h1.cell rfl⟩, ⟨h2.cell rfl, h2.cell rfl, h2.cell rfl, h2.cell rfl⟩, h2.frozen 0, h2.frozen 1, h2.frozen 2, h2.frozen 3, h1.frozen 2, h1.frozen 3, h1.frozen 0, h1.frozen 1⟩

/-- How a function of the reference ends that hands back a drive and a code. -/
theorem end_drive {w V : World} {lo n' c' : Nat} {A' : Option Addr} {st' lf' : Int} {ar' : Bool} {ys : List Fm} {code : Int} {z0 z1 z2 z3 : Value} {r : Nat} (hR : Blk V r #[z0, z1, z2, z3] 26) (hr : w.heap.size ≤ r) (hb : Below w.heap.size w V)
    (hown : V.ownsRow lo 70 3 (.slice A' n' c') n' (fcs ys)) (hn : ys.length = n') (hrow : ∀ k, (Value.slice A' n' c').ownBlock = some k → k ≠ r)
    {fn : Func} {p u : Tmp} (h : fn.results = #[.cell p 26, .tmp u]) {a : Act} (hdf : a.defers = []) (hp : a.tmps.getD p undef = .pointer (some ⟨r, 0, none⟩)) (hu : a.tmps.getD u undef = .int .i64 code) :
    bodyPost Try.prog fn (RPost w lo ys st' ar' lf' code) .ret a ((((V.setCell ⟨r, 0, none⟩ (.slice A' n' c')).setCell ⟨r, 1, none⟩ (.int .i64 st')).setCell ⟨r, 2, none⟩ (.bool ar')).setCell ⟨r, 3, none⟩ (.int .i64 lf')) := by
  subst hn
  obtain ⟨h1, h2, h3⟩ := put4 (v0 := .slice A' ys.length c') (v1 := .int .i64 st') (v2 := .bool ar') (v3 := .int .i64 lf') hR hr hb
  exact ret_drive2 h hdf hp hu h1 ⟨A', c', rfl, own3_keep hown fun k hk => h3 k (hrow k hk), h2⟩
theorem row_ne {V : World} {lo n c : Nat} {A : Option Addr} {xs : List Value} {r : Nat} {e : TypeId} {cs : Array Value} {t : TypeId} (h : V.ownsRow lo e 3 (.slice A n c) n xs) (hb : Blk V r cs t) (ht : e ≠ t) : ∀ k, (Value.slice A n c).ownBlock = some k → k ≠ r := by
  rintro k hk rfl
  rcases h.2 with ⟨e1, _⟩ | ⟨g, cap, cur, e1, _, h4, _⟩
  · rw [e1] at hk; cases hk
  · rw [e1] at hk
    cases hk
    unfold Blk at hb
    rw [h4] at hb; injection hb with hb; injection hb with _ h5; exact ht h5

set_option maxRecDepth 40000 in
set_option maxHeartbeats 8000000 in
theorem rarm_any (A : Option Addr) (n c : Nat) (fs : List Fm) (st : Int) (ar : Bool) (lf : Int) (m : Int) (w : World) (lo : Nat) (hown : w.ownsRow lo 70 3 (.slice A n c) n (fcs fs)) (hnl : fs.length = n) :
    Calls Try.prog 42 #[.agg #[.slice A n c, .int .i64 st, .bool ar, .int .i64 lf], .int .i64 m] w
      (if armE m ar lf = 0 then RPost w lo fs st true m 0 else RPost w lo fs st ar lf (armE m ar lf)) := by
  have HO := Lib.hid hown
  clear hown
  have tb := fun V h => two_blk (V := V) (w := w) (A := A) (n := n) (c := c) (st := st) (ar := ar) (lf := lf) h
  have tc := fun V h => two_cells (V := V) (w := w) (A := A) (n := n) (c := c) (st := st) (ar := ar) (lf := lf) h
  have t0 := tb _ (Below.refl _ _)
  have HT := Lib.hid t0
  clear t0
  have HTB := Lib.hid tb
  clear tb
  by_cases hm : m < 0
  · have hE : armE m ar lf = 1 := by simp [armE, hm]
    rw [hE, if_neg (by decide)]
    clear hE tc
    go_enter Try.func42, Try.ntmps42
    go_wp2_with fail
    refine ret_drive2 rfl rfl rfl rfl (heap_alloc2_new w _ _) ⟨A, c, by rw [hnl]; rfl, ?_, ((Below.refl _ w).alloc (Nat.le_refl _) _).alloc (by simp) _⟩
    rw [hnl]
    exact own3_below HO.out ((((Below.refl _ w).alloc (Nat.le_refl _) _).alloc (by simp) _))
  · have hdd := fun W => rdead_any A n c st ar lf W
    cases hd : dead ar lf with
    | true =>
      rw [hd] at hdd
      have hE : armE m ar lf = 6 := by simp [armE, hm, hd]
      rw [hE, if_neg (by decide)]
      clear hE hd
      go_enter Try.func42, Try.ntmps42
      go_wp2_with (go_at_call 36; refine (hdd _).mono ?_; rintro e w3 ⟨rfl, hb3⟩; obtain ⟨⟨k0, k1, k2, k3⟩, ⟨r0, r1, r2, r3⟩, f0, f1, f2, f3, f4, f5, f6, f7⟩ := tc w3 hb3)
      obtain ⟨g1, g2, g3, g4⟩ := HTB.out w3 hb3
      have ho3 := own3_below HO.out (g3.mono (Nat.le_refl _))
      exact end_drive g2 (by omega) g3 ho3 hnl (row_ne ho3 g2 (by decide)) rfl rfl rfl rfl
    | false =>
      rw [hd] at hdd
      have hE : armE m ar lf = 0 := by simp [armE, hm, hd]
      rw [hE, if_pos rfl]
      clear hE hd
      go_enter Try.func42, Try.ntmps42
      go_wp2_with (go_at_call 36; refine (hdd _).mono ?_; rintro e w3 ⟨rfl, hb3⟩; obtain ⟨⟨k0, k1, k2, k3⟩, ⟨r0, r1, r2, r3⟩, f0, f1, f2, f3, f4, f5, f6, f7⟩ := tc w3 hb3)
      obtain ⟨g1, g2, g3, g4⟩ := HTB.out w3 hb3
      have ho3 := own3_below HO.out (g3.mono (Nat.le_refl _))
      have hkk : ∀ k, k ≠ w.heap.size → ((w3.setCell ⟨w.heap.size, 2, none⟩ (.bool true)).setCell ⟨w.heap.size, 3, none⟩ (.int .i64 m)).heap[k]? = w3.heap[k]? := fun k hk => (setCell_other _ _ _ hk).trans (setCell_other _ _ _ hk)
      have hbx : Below w.heap.size w ((w3.setCell ⟨w.heap.size, 2, none⟩ (.bool true)).setCell ⟨w.heap.size, 3, none⟩ (.int .i64 m)) := by
        refine ⟨?_, ?_, ?_, ?_, fun k hk => ?_⟩
        · simp only [setCell_os]; exact g3.os
        · simp only [setCell_tape]; exact g3.tape
        · simp only [setCell_output]; exact g3.output
        · simp only [setCell_size]; exact g3.size
        · rw [hkk k (by omega)]; exact g3.block k hk
      have hox := own3_keep ho3 fun k hk => hkk k (row_ne ho3 g1 (by decide) k hk)
      have g2x := g2.keep (hkk _ (by omega))
      exact end_drive g2x (by omega) hbx hox hnl (row_ne hox g2x (by decide)) rfl rfl rfl rfl

set_option maxRecDepth 40000 in
set_option maxHeartbeats 8000000 in
theorem rdelete_any (A : Option Addr) (n c : Nat) (fs : List Fm) (st : Int) (ar : Bool) (lf : Int) (s : List UInt8) (w : World) (lo : Nat) (hown : w.ownsRow lo 70 3 (.slice A n c) n (fcs fs)) (hnl : fs.length = n) (hlo : lo ≤ w.heap.size) (hn : n ≤ 400) (hs : s.length ≤ 140737488355328) :
    Calls Try.prog 40 #[.agg #[.slice A n c, .int .i64 st, .bool ar, .int .i64 lf], .string (str s)] w
      (if lookF s fs ar lf = 0 then RPost w lo (outK Fm.name s fs) (wrap64 (st + 1)) ar (lf1 ar lf) 0 else RPost w lo fs st ar lf (lookF s fs ar lf)) := by
  have HO := Lib.hid hown
  clear hown
  have tc := fun V h => two_cells (V := V) (w := w) (A := A) (n := n) (c := c) (st := st) (ar := ar) (lf := lf) h
  have tb := fun V h => two_blk (V := V) (w := w) (A := A) (n := n) (c := c) (st := st) (ar := ar) (lf := lf) h
  have HTB := Lib.hid tb
  clear tb
  have hlk := look_any A n c fs st ar lf s ((w.alloc (dobj (dcs A n c st ar lf))).alloc (dobj zcs)) (((own_fl HO.out).alloc _).alloc _) hn hs
  by_cases hE : lookF s fs ar lf = 0
  · rw [if_pos hE]
    rw [hE] at hlk
    have hlf : (if ar then wrap64 (lf - 1) else lf) = lf1 ar lf := by
      have : dead ar lf = false := by
        cases hd : dead ar lf
        · rfl
        · exfalso; unfold lookF at hE; split at hE
          · cases hE
          · split at hE
            · cases hE
            · simp [code1, hd] at hE
      simp [lf1, this]
    have hst := fun W => rstep_any A n c st ar lf W
    rw [hlf] at hst
    clear hE hlf
    go_enter Try.func40, Try.ntmps40
    go_wp2_with (first
      | (go_at_call 58; refine hlk.mono ?_; rintro e w3 ⟨rfl, hb3⟩; obtain ⟨⟨k0, k1, k2, k3⟩, ⟨r0, r1, r2, r3⟩, f0, f1, f2, f3, f4, f5, f6, f7⟩ := tc w3 hb3)
      | (go_at_call 50; refine (hst _).mono ?_; rintro e w4 ⟨rfl, hb4⟩)
      | (go_at_call 59; refine (without_any A n c fs _ ar _ s w4 (((own_fl HO.out).below (HTB.out w3 hb3).2.2.1).below hb4) hn).mono ?_; rintro e w5 ⟨A5, c5, rfl, hown5, hb5⟩; have hb35 := hb3.trans ((hb4.trans (hb5.mono hb4.size)).mono hb3.size); obtain ⟨-, ⟨r0, r1, r2, r3⟩, f0, f1, f2, f3, f4, f5, f6, f7⟩ := tc w5 hb35))
    obtain ⟨g1, g2, g3, g4⟩ := HTB.out w5 hb35
    have ho := own3_base hown5 (B' := lo) (by have := hb4.size; have := (HTB.out w3 hb3).2.2.2; omega)
    exact end_drive g2 (by omega) g3 ho rfl (row_ne ho g2 (by decide)) rfl rfl rfl rfl
  · rw [if_neg hE]
    obtain ⟨code, hc⟩ : ∃ code, code = lookF s fs ar lf := ⟨_, rfl⟩
    rw [← hc] at hE hlk ⊢
    clear hc
    go_enter Try.func40, Try.ntmps40
    go_wp2_with (first
      | (go_at_call 58; refine hlk.mono ?_; rintro e w3 ⟨rfl, hb3⟩; obtain ⟨⟨k0, k1, k2, k3⟩, ⟨r0, r1, r2, r3⟩, f0, f1, f2, f3, f4, f5, f6, f7⟩ := tc w3 hb3))
    obtain ⟨g1, g2, g3, g4⟩ := HTB.out w3 hb3
    have ho3 := own3_below HO.out (g3.mono (Nat.le_refl _))
    exact end_drive g2 (by omega) g3 ho3 hnl (row_ne ho3 g2 (by decide)) rfl rfl rfl rfl
end Go.Proofs.Ytfhlhdpgahbeiaa
