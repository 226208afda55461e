/-
  One call of the wal's script: log and reference side by side; what is known between the calls, without walks.
-/
import Derived.Test.YtadkgfhfjagmpaaGreatDoorWrC
import Derived.Test.YtadkgfhfjagmpaaGreatDoorWrE
import Derived.Test.YtadkgfhfjagmpaaGreatDoorWrI
import Derived.Test.YtadkgfhfjagmpaaGreatDoorGWs
import Derived.Test.YtadkgfhfjagmpaaGreatDoorGRh
namespace Go.Proofs.YtadkgfhfjagmpaaGreatDoor
open Go.RowKit Go.Maps Num Crc
set_option linter.unusedVariables false

/-- A log with its drive, and the reference's files. -/
structure Pw (w0 w : World) (pl pb mb : Nat) (gs : List Gm) (x : Ws) (A : Option Addr) (c : Nat) : Prop where
  wl : Wl w0 w pl pb mb gs x
  own : w.ownsRow w0.heap.size 108 3 (.slice A x.fs.length c) x.fs.length (fcs x.fs)
section
variable {w0 w w' : World} {pl pb mb : Nat} {gs gs' : List Gm} {x : Ws} {A : Option Addr} {c : Nat}
theorem Wl.wx (h : Wl w0 w pl pb mb gs x) : Wx x := by
  refine ⟨by rw [← h.fs, List.length_map]; exact h.dr.few, fun f hf => ?_, fun f hf => ?_, h.seg1⟩
  all_goals
    rw [← h.fs] at hf
    obtain ⟨g, hg, rfl⟩ := List.mem_map.1 hf
  · exact h.vn g hg
  · exact ⟨(h.dr.file g hg).2.2.1, (h.dr.file g hg).2.2.2.1⟩
theorem Wl.nodup (h : Wl w0 w pl pb mb gs x) : (x.fs.map Fm.name).Nodup := by
  have h1 : x.fs.map Fm.name = gs.map Gm.name := by rw [← h.fs, List.map_map]; rfl
  rw [h1]
  refine List.pairwise_map.2 (h.dr.rises.imp fun {a b} hab e => ?_)
  rw [e] at hab
  exact absurd hab (by rw [lt_irrefl]; decide)
theorem Pw.below (h : Pw w0 w pl pb mb gs x A c) (hb : Below w.heap.size w w') : Pw w0 w' pl pb mb gs x A c := ⟨h.wl.below hb, own3_below h.own hb⟩
theorem Pw.fl (h : Pw w0 w pl pb mb gs x A c) : Fl w A x.fs.length x.fs := own_fl h.own
/-- The reference's row is none of the log's blocks. -/
theorem row_footW {n : Nat} {xs : List Value} {lo : Nat} (h : Wl w0 w pl pb mb gs x) (ho : w.ownsRow lo 108 3 (.slice A n c) n xs) : ∀ k, (Value.slice A n c).ownBlock = some k → ¬ wfoot pl pb mb gs k := by
  intro k hk hf
  rcases ho.2 with ⟨e1, _⟩ | ⟨g, cap, cur, e1, _, h4, _⟩
  · rw [e1] at hk; cases hk
  · rw [e1] at hk
    cases hk
    rcases h.kind hf with ⟨es, cl, hm⟩ | ⟨cs, t, hb, ht⟩
    · rw [h4] at hm; cases hm
    · unfold Blk at hb
      rw [h4] at hb; injection hb with hb; injection hb with _ h5
      rcases ht with ht | ht | ht | ht <;> rw [ht] at h5 <;> exact absurd h5 (by decide)
theorem row_stpW {n : Nat} {xs : List Value} {lo : Nat} {S' : Nat → Prop} (h : Wl w0 w pl pb mb gs x) (ho : w.ownsRow lo 108 3 (.slice A n c) n xs) (hS : Stp w w' (wfoot pl pb mb gs) S') : w'.ownsRow lo 108 3 (.slice A n c) n xs :=
  own3_keep ho fun k hk => hS.oth.block k (own3_lt ho k hk) (row_footW h ho k hk)
theorem Pw.tells (h : Pw w0 w pl pb mb gs x A c) : Calls Tryz.prog 16 #[.pointer (some ⟨pb, 0, none⟩), xdr A c x] w fun e w' => e = .returned (.bool true) ∧ Below w.heap.size w w' := by
  have hl : x.fs.length = gs.length := by rw [← h.wl.fs, List.length_map]
  have hf := h.fl
  have h2 := tells_any h.wl.dr A c (by rw [h.wl.fs]; rw [hl] at hf; exact hf) h.wl.vn
  rw [← hl] at h2
  exact h2
theorem Pw.rsegs (h : Pw w0 w pl pb mb gs x A c) : Calls Tryz.prog 58 #[xdr A c x] w fun e w' => ∃ A' c', e = .returned (.slice A' (segs (x.fs.map Fm.name)).length c') ∧
    w'.ownsRow w.heap.size 3 1 (.slice A' (segs (x.fs.map Fm.name)).length c') (segs (x.fs.map Fm.name)).length ((segs (x.fs.map Fm.name)).map (Value.int .i64)) ∧ Below w.heap.size w w' := rsegs_any A x.fs.length c x.fs x.st x.ar x.lf w h.fl (by have := h.wl.wx.few; omega) h.wl.wx.vn
end

abbrev op3 (k : Int) (P : Option Addr) (np cp : Nat) (N : Int) (K : Option Addr) (kn kc : Nat) : Array Value := #[.int .i64 k, .slice P np cp, .int .i64 N, .slice K kn kc]
/-- A world in which one block alone was written. -/
structure Ofb (V V' : World) (b : Nat) : Prop where
  os : V'.os = V.os
  tape : V'.tape = V.tape
  output : V'.output = V.output
  size : V'.heap.size = V.heap.size
  blk : ∀ k, k ≠ b → V'.heap[k]? = V.heap[k]?
theorem Ofb.refl (V : World) (b : Nat) : Ofb V V b := ⟨rfl, rfl, rfl, rfl, fun _ _ => rfl⟩
theorem Ofb.set {V V' : World} {b : Nat} (h : Ofb V V' b) (k : Nat) (v : Value) : Ofb V (V'.setCell ⟨b, k, none⟩ v) b :=
  ⟨by rw [setCell_os]; exact h.os, by rw [setCell_tape]; exact h.tape, by rw [setCell_output]; exact h.output, by rw [setCell_size]; exact h.size, fun i hi => (setCell_other _ _ _ hi).trans (h.blk i hi)⟩
theorem Ofb.below {w V V' : World} {b B : Nat} (h : Ofb V V' b) (hb : Below B w V) (hB : B ≤ b) : Below B w V' :=
  ⟨h.os.trans hb.os, h.tape.trans hb.tape, h.output.trans hb.output, by rw [h.size]; exact hb.size, fun i hi => (h.blk i (by omega)).trans (hb.block i hi)⟩

/-- What stands between the calls: the log as it is now, the row of the reference. -/
structure Mc (w0 w V : World) (S0 : Nat → Prop) (pl pb mb : Nat) (gs : List Gm) (y : Ws) (A : Option Addr) (c : Nat) (x : Ws) : Prop where
  wl : Wl w0 V pl pb mb gs y
  own : V.ownsRow w0.heap.size 108 3 (.slice A x.fs.length c) x.fs.length (fcs x.fs)
  stp : Stp w V S0 (wfoot pl pb mb gs)
  far : ∀ k, wfoot pl pb mb gs k → k < w.heap.size ∨ w.heap.size + 5 ≤ k
  le : w0.heap.size ≤ w.heap.size
  big : w.heap.size + 5 ≤ V.heap.size
section
variable {w0 w V V' : World} {S0 : Nat → Prop} {pl pb mb : Nat} {gs : List Gm} {y y' : Ws} {A A' : Option Addr} {c c' : Nat} {x x' z : Ws} {op : Array Value}
theorem Mc.below (h : Mc w0 w V S0 pl pb mb gs y A c x) (hb : Below V.heap.size V V') : Mc w0 w V' S0 pl pb mb gs y A c x :=
  ⟨h.wl.below hb, own3_below h.own hb, h.stp.trans (Below.stp hb), h.far, h.le, Nat.le_trans h.big hb.size⟩
theorem Mc.row (h : Mc w0 w V S0 pl pb mb gs y A c x) (ho : V.ownsRow w0.heap.size 108 3 (.slice A' x'.fs.length c') x'.fs.length (fcs x'.fs)) : Mc w0 w V S0 pl pb mb gs y A' c' x' := ⟨h.wl, ho, h.stp, h.far, h.le, h.big⟩
theorem Mc.pw (h : Mc w0 w V S0 pl pb mb gs y A c y) : Pw w0 V pl pb mb gs y A c := ⟨h.wl, h.own⟩
/-- A box is written. -/
theorem Mc.ofb (h : Mc w0 w V S0 pl pb mb gs y A c x) {b : Nat} (hf : Ofb V V' b) (h1 : w.heap.size ≤ b) (h2 : b < w.heap.size + 5) {cs : Array Value} {t : TypeId} (hb : Blk V b cs t) (ht : (108 : TypeId) ≠ t) : Mc w0 w V' S0 pl pb mb gs y A c x := by
  have hle := h.le
  refine ⟨h.wl.stay (fun k e => hf.blk k (fun e2 => by have := h.far k e; omega)) (hf.below h.wl.bel (by omega)), own3_keep h.own fun k hk => hf.blk k (row_ne h.own hb ht k hk), ⟨⟨hf.os.trans h.stp.oth.os, hf.tape.trans h.stp.oth.tape, hf.output.trans h.stp.oth.output, by rw [hf.size]; exact h.stp.oth.size, fun i hi hn => (hf.blk i (by omega)).trans (h.stp.oth.block i hi hn)⟩, h.stp.sub⟩, h.far, hle, by rw [hf.size]; exact h.big⟩
end

/-- Arm. -/
def armX (x : Ws) (N : Int) : Ws × Int := if armE N x.ar x.lf = 0 then ({ x with ar := true, lf := N }, 0) else (x, armE N x.ar x.lf)
theorem armX_log (x : Ws) (N : Int) : (armX x N).1.seg = x.seg ∧ (armX x N).1.dd = x.dd := by
  unfold armX
  split <;> exact ⟨rfl, rfl⟩
theorem warm_any {w0 w : World} {pl pb mb : Nat} {gs : List Gm} {x : Ws} (h : Wl w0 w pl pb mb gs x) (N : Int) :
    Calls Tryz.prog 36 #[.pointer (some ⟨pb, 0, none⟩), .int .i64 N] w fun e w' => e = .returned (.int .i64 (armX x N).2) ∧ WlPost w0 w pl pb mb gs (armX x N).1 w' := by
  refine (arm_any h.dr N).mono ?_
  rintro e w' ⟨rfl, hD, hS⟩
  unfold armX
  by_cases hE : armE N x.ar x.lf = 0
  · rw [if_pos hE] at hD ⊢
    exact ⟨by rw [hE], gs, ⟨h.lay, h.belS (Stp.wide hS), hD, h.lg.keep (hS.oth.block _ h.lg.lt h.out), h.fs, h.seg1, h.seg2, h.vn, h.loS (Stp.wide hS)⟩, Stp.wide hS⟩
  · rw [if_neg hE] at hD ⊢
    exact ⟨rfl, gs, ⟨h.lay, h.belS (Stp.wide hS), hD, h.lg.keep (hS.oth.block _ h.lg.lt h.out), h.fs, h.seg1, h.seg2, h.vn, h.loS (Stp.wide hS)⟩, Stp.wide hS⟩
theorem rwarm_any (x : Ws) (N : Int) (A : Option Addr) (c : Nat) (w : World) (lo : Nat) (hown : w.ownsRow lo 108 3 (.slice A x.fs.length c) x.fs.length (fcs x.fs)) :
    Calls Tryz.prog 37 #[xdr A c x, .int .i64 N] w fun e w' => ∃ A3 c3, e = .returned (.tuple #[xdr A3 c3 (armX x N).1, .int .i64 (armX x N).2]) ∧ w'.ownsRow lo 108 3 (.slice A3 (armX x N).1.fs.length c3) (armX x N).1.fs.length (fcs (armX x N).1.fs) ∧ Below w.heap.size w w' := by
  have h := rarm_any A x.fs.length c x.fs x.st x.ar x.lf N w lo hown rfl
  unfold armX
  by_cases hE : armE N x.ar x.lf = 0
  · rw [if_pos hE] at h ⊢
    exact h.mono fun e w' h => h
  · rw [if_neg hE] at h ⊢
    exact h.mono fun e w' h => h

theorem sw1 {B b k : Nat} {v : Value} {V4 V : World} (h : Below B V4 V) (hb : B ≤ b) : Below B V4 (V.setCell ⟨b, k, none⟩ v) := ((Ofb.refl V b).set k v).below h hb
theorem keep6 {W W' : World} {m b : Nat} {a0 a1 a2 a3 a4 a5 : Value} (hf : Ofb W W' b) (hb : m + 2 ≤ b)
    (h : W.cell? ⟨m, 0, none⟩ = some a0 ∧ W.cell? ⟨m, 1, none⟩ = some a1 ∧ W.cell? ⟨m, 2, none⟩ = some a2 ∧ W.cell? ⟨m, 3, none⟩ = some a3 ∧ W.cell? ⟨m + 1, 0, none⟩ = some a4 ∧ W.cell? ⟨m + 1, 1, none⟩ = some a5) :
    W'.cell? ⟨m, 0, none⟩ = some a0 ∧ W'.cell? ⟨m, 1, none⟩ = some a1 ∧ W'.cell? ⟨m, 2, none⟩ = some a2 ∧ W'.cell? ⟨m, 3, none⟩ = some a3 ∧ W'.cell? ⟨m + 1, 0, none⟩ = some a4 ∧ W'.cell? ⟨m + 1, 1, none⟩ = some a5 :=
  have k := fun (i j : Nat) (hi : i ≠ b) => World.cell?_of_block (w := W) (w' := W') (a := ⟨i, j, none⟩) (hf.blk i hi)
  ⟨(k _ _ (by omega)).trans h.1, (k _ _ (by omega)).trans h.2.1, (k _ _ (by omega)).trans h.2.2.1, (k _ _ (by omega)).trans h.2.2.2.1, (k _ _ (by omega)).trans h.2.2.2.2.1, (k _ _ (by omega)).trans h.2.2.2.2.2⟩
theorem keepB {w V4 : World} (A : Option Addr) (c : Nat) (y : Ws) (hz : w.heap.size + 5 ≤ V4.heap.size) (V : World) (hb : Below V4.heap.size V4 V) :
    Below (w.heap.size + 3) V4 V ∧ Below (w.heap.size + 3) V4 ((((V.setCell ⟨w.heap.size + 1 + 1 + 1, 0, none⟩ (.slice A y.fs.length c)).setCell ⟨w.heap.size + 1 + 1 + 1, 1, none⟩ (.int .i64 y.st)).setCell ⟨w.heap.size + 1 + 1 + 1, 2, none⟩ (.bool y.ar)).setCell ⟨w.heap.size + 1 + 1 + 1, 3, none⟩ (.int .i64 y.lf)) ∧ Below (w.heap.size + 3) V4 ((((((V.setCell ⟨w.heap.size + 1 + 1 + 1, 0, none⟩ (.slice A y.fs.length c)).setCell ⟨w.heap.size + 1 + 1 + 1, 1, none⟩ (.int .i64 y.st)).setCell ⟨w.heap.size + 1 + 1 + 1, 2, none⟩ (.bool y.ar)).setCell ⟨w.heap.size + 1 + 1 + 1, 3, none⟩ (.int .i64 y.lf)).setCell ⟨w.heap.size + 1 + 1 + 1 + 1, 0, none⟩ (.int .i64 y.seg)).setCell ⟨w.heap.size + 1 + 1 + 1 + 1, 1, none⟩ (.bool y.dd)) := by
  have k0 : Below (w.heap.size + 3) V4 V := hb.mono (by omega)
  have k1 := (((((Ofb.refl V (w.heap.size + 1 + 1 + 1)).set 0 (.slice A y.fs.length c)).set 1 (.int .i64 y.st)).set 2 (.bool y.ar)).set 3 (.int .i64 y.lf)).below k0 (by omega)
  refine ⟨k0, k1, ?_⟩
  generalize ((((V.setCell ⟨w.heap.size + 1 + 1 + 1, 0, none⟩ (.slice A y.fs.length c)).setCell ⟨w.heap.size + 1 + 1 + 1, 1, none⟩ (.int .i64 y.st)).setCell ⟨w.heap.size + 1 + 1 + 1, 2, none⟩ (.bool y.ar)).setCell ⟨w.heap.size + 1 + 1 + 1, 3, none⟩ (.int .i64 y.lf)) = V6 at *
  exact (((Ofb.refl V6 (w.heap.size + 1 + 1 + 1 + 1)).set 0 (.int .i64 y.seg)).set 1 (.bool y.dd)).below k1 (by omega)
/-- What a call of the script leaves. -/
def PlayW (w0 w : World) (S0 : Nat → Prop) (e : Ending) (w' : World) : Prop :=
  ∃ pl pb mb gs x A c, e = .returned (.tuple #[.pointer (some ⟨pb, 0, none⟩), .pointer (some ⟨pl, 0, none⟩), xdr A c x, xlg x, .bool true]) ∧ Pw w0 w' pl pb mb gs x A c ∧ Stp w w' S0 (wfoot pl pb mb gs)
theorem ret_playW {fn : Func} {p1 p2 p q u : Tmp} (h : fn.results = #[.tmp p1, .tmp p2, .cell p 35, .cell q 42, .tmp u]) {R : Ending → World → Prop} {a : Act} {w : World} {g l : Nat} {v0 v1 v2 v3 u0 u1 : Value} {x1 x2 x : Value} (hd : a.defers = [])
    (h1 : a.tmps.getD p1 undef = x1) (h2 : a.tmps.getD p2 undef = x2) (hp : a.tmps.getD p undef = .pointer (some ⟨g, 0, none⟩)) (hq : a.tmps.getD q undef = .pointer (some ⟨l, 0, none⟩)) (hu : a.tmps.getD u undef = x) (hg : Blk w g #[v0, v1, v2, v3] 35) (hl : Blk w l #[u0, u1] 42)
    (hR : R (.returned (.tuple #[x1, x2, .agg #[v0, v1, v2, v3], .agg #[u0, u1], x])) w) : bodyPost Tryz.prog fn R .ret a w := by
  refine bodyPost_ret ?_ hd hR
  have k1 : ∀ b, (asAddr (.pointer (some ⟨b, 0, none⟩))).run Tryz.prog w = .ok ⟨b, 0, none⟩ w := fun b => by simp [asAddr]
  have k2 := run_loadVar_row (P := Tryz.prog) w g 35 35 _ _ _ hg Tryz.underlying35 rfl (by kernel_rfl)
  have k3 := run_loadVar_row (P := Tryz.prog) w l 42 42 _ _ _ hl Tryz.underlying42 rfl (by kernel_rfl)
  simp only [results, h]
  simp [Sem.run_bind, Result.andThen] at h1 h2 hp hq hu ⊢
  simp [h1, h2, hp, hq, hu, k1, k2, k3]
end Go.Proofs.YtadkgfhfjagmpaaGreatDoor
