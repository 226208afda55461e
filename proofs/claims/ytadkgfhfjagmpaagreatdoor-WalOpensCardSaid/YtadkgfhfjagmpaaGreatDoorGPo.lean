/-
  One call of the wal's script: what is known ahead of an Open, and behind it, without walks.
-/
import Derived.Test.YtadkgfhfjagmpaaGreatDoorPwA
import Derived.Test.YtadkgfhfjagmpaaGreatDoorWrM
namespace Go.Proofs.YtadkgfhfjagmpaaGreatDoor
open Go.RowKit Go.Maps Num Crc
set_option linter.unusedVariables false

theorem segO_bnd : ∀ (ns : List Int) (f : Int), 1 ≤ f → f ≤ 1000000 → (∀ n ∈ ns, 1 ≤ n ∧ n ≤ 999999) → 1 ≤ segO f ns ∧ segO f ns ≤ 1000000
  | [], f, h1, h2, _ => ⟨h1, h2⟩
  | n :: ns, f, h1, h2, h => by
    have hn := h n (List.mem_cons_self ..)
    have e : segO f (n :: ns) = segO (max f (n + 1)) ns := rfl
    rw [e]
    exact segO_bnd ns _ (by omega) (by omega) fun m hm => h m (List.mem_cons_of_mem _ hm)
theorem psF_len {fs : List Fm} (h : ∀ f ∈ fs, f.data.length ≤ 262144) (f : Int) : ∀ ns : List Int, (psF f fs ns).length ≤ ns.length * 262144
  | [] => Nat.zero_le _
  | n :: ns => by
    have ih := psF_len h f ns
    have e : psF f fs (n :: ns) = (if f ≤ n then paysF n fs else []) ++ psF f fs ns := rfl
    have hl := paysF_len h n
    rw [e, List.length_append, List.length_cons, Nat.add_mul, Nat.one_mul, Nat.add_comm]
    refine Nat.add_le_add ih ?_
    split
    · exact hl
    · exact Nat.zero_le _

/-- What stands ahead of an Open: a drive, the row of the reference. -/
structure Oc (w0 w V : World) (S0 : Nat → Prop) (pb mb : Nat) (gs : List Gm) (x : Ws) (A : Option Addr) (c : Nat) : Prop where
  lay : WL w0
  bel : Below w0.heap.size w0 V
  dr : Dr V pb mb gs x.st x.ar x.lf
  fs : gs.map Gm.f = x.fs
  vn : ∀ g ∈ gs, vname g.name = true
  lo : ∀ k, foot pb mb gs k → w0.heap.size ≤ k
  own : V.ownsRow w0.heap.size 108 3 (.slice A x.fs.length c) x.fs.length (fcs x.fs)
  stp : Stp w V S0 (foot pb mb gs)
  far : ∀ k, foot pb mb gs k → k < w.heap.size ∨ w.heap.size + 5 ≤ k
  le : w0.heap.size ≤ w.heap.size
  big : w.heap.size + 5 ≤ V.heap.size
/-- What the program's Open answers. -/
def OpenW (V : World) (pb : Nat) (sg : Int) (ps : List (List UInt8)) (e : Ending) (w' : World) : Prop :=
  ∃ pl A c vs, e = .returned (.tuple #[.pointer (some ⟨pl, 0, none⟩), .slice A ps.length c, .int .i64 0]) ∧ Lg w' pl pb sg false ∧ V.heap.size ≤ pl ∧ w'.ownsRow V.heap.size 28 1 (.slice A ps.length c) ps.length vs ∧ Each w' V.heap.size vs ps ∧ Below V.heap.size V w'
section
variable {w0 w V V' : World} {S0 : Nat → Prop} {pl pb mb : Nat} {gs : List Gm} {x y : Ws} {A : Option Addr} {c : Nat}
theorem Mc.oc (h : Mc w0 w V S0 pl pb mb gs x A c x) : Oc w0 w V S0 pb mb gs x A c :=
  ⟨h.wl.lay, h.wl.bel, h.wl.dr, h.wl.fs, h.wl.vn, fun k hk => h.wl.lo k (.inr hk), h.own, ⟨h.stp.oth, fun k hk => h.stp.sub k (.inr hk)⟩, fun k hk => h.far k (.inr hk), h.le, h.big⟩
theorem Oc.below (h : Oc w0 w V S0 pb mb gs x A c) (hb : Below V.heap.size V V') : Oc w0 w V' S0 pb mb gs x A c :=
  ⟨h.lay, h.bel.trans (hb.mono h.bel.size), h.dr.below hb (Nat.le_refl _), h.fs, h.vn, h.lo, own3_below h.own hb, h.stp.trans (Below.stp hb), h.far, h.le, Nat.le_trans h.big hb.size⟩
theorem Oc.rd (h : Oc w0 w V S0 pb mb gs x A c) : Rd V pb mb gs x.st x.ar x.lf := ⟨h.dr, h.lay.keep h.bel, h.vn⟩
theorem Oc.names (h : Oc w0 w V S0 pb mb gs x A c) : x.fs.length ≤ 256 ∧ (∀ f ∈ x.fs, vname f.name = true) ∧ (∀ f ∈ x.fs, f.data.length ≤ 262144) := by
  refine ⟨by rw [← h.fs, List.length_map]; exact h.dr.few, fun f hf => ?_, fun f hf => ?_⟩
  all_goals
    rw [← h.fs] at hf
    obtain ⟨g, hg, rfl⟩ := List.mem_map.1 hf
  · exact h.vn g hg
  · exact (h.dr.file g hg).2.2.2.1
theorem Oc.open_ (h : Oc w0 w V S0 pb mb gs x A c) (f : Int) (hf1 : 1 ≤ f) (hf2 : f ≤ 999999) :
    Calls Tryz.prog 13 #[.pointer (some ⟨pb, 0, none⟩), .int .i64 f] V (OpenW V pb (segO f (segs (x.fs.map Fm.name))) (psF f x.fs (segs (x.fs.map Fm.name)))) := by
  have hn : gs.map Gm.name = x.fs.map Fm.name := by rw [← h.fs, List.map_map]; rfl
  refine (open_any h.rd f hf1 hf2).mono ?_
  rintro e w' ⟨pl, A, cc, vs, h1, h2, h3, h4, h5, h6⟩
  rw [← psF_gs h.fs, hn] at h1 h4 h5
  rw [hn] at h2
  exact ⟨pl, A, cc, vs, h1, h2, h3, own_base h4 (by omega), h5.mono (by omega), h6⟩
theorem Oc.ropen (h : Oc w0 w V S0 pb mb gs x A c) (f : Int) (hf1 : 1 ≤ f) (hf2 : f ≤ 999999) :
    Calls Tryz.prog 14 #[xdr A c x, .int .i64 f] V (ROpen V (segO f (segs (x.fs.map Fm.name))) (psF f x.fs (segs (x.fs.map Fm.name))) 0) :=
  rlopen_any A c x.fs x.st x.ar x.lf V (own_fl h.own) h.names.1 h.names.2.1 h.names.2.2 f hf1 hf2
/-- The drive with its new log. -/
theorem Oc.opened (h : Oc w0 w V S0 pb mb gs x A c) {pl : Nat} (hl : Lg V' pl pb y.seg y.dd) (hpl : V.heap.size ≤ pl) (hb : Below V.heap.size V V') (e1 : y.fs = x.fs) (e2 : y.st = x.st) (e3 : y.ar = x.ar) (e4 : y.lf = x.lf) (s1 : 1 ≤ y.seg) (s2 : y.seg ≤ 1000000) : Mc w0 w V' S0 pl pb mb gs y A c y := by
  have hbig := h.big
  have hle := h.le
  refine ⟨⟨h.lay, h.bel.trans (hb.mono h.bel.size), by rw [e2, e3, e4]; exact h.dr.below hb (Nat.le_refl _), hl, by rw [e1]; exact h.fs, s1, s2, h.vn, fun k hk => ?_⟩, by rw [e1]; exact own3_below h.own hb, ⟨(h.stp.trans (Below.stp hb)).oth, fun k hk => ?_⟩, fun k hk => ?_, hle, Nat.le_trans hbig hb.size⟩
  · rcases hk with rfl | hk
    · omega
    · exact h.lo k hk
  · rcases hk with rfl | hk
    · exact .inr (by omega)
    · exact h.stp.sub k hk
  · rcases hk with rfl | hk
    · exact .inr (by omega)
    · exact h.far k hk
end
/-- Numbers out of range. -/
theorem wopen_bad (pb : Nat) (f : Int) (hf : f < 1 ∨ 999999 < f) (V : World) : Calls Tryz.prog 13 #[.pointer (some ⟨pb, 0, none⟩), .int .i64 f] V fun e w' => e = .returned (.tuple #[.pointer none, .slice none 0 0, .int .i64 1]) ∧ Below V.heap.size V w' := by
  rcases hf with hf | hf
  · go_enter Tryz.func13, Tryz.ntmps13
    go_wp2_with fail
    go_ret3
    exact ⟨rfl, Below.refl _ _⟩
  · have hf1 : ¬ f < 1 := by omega
    go_enter Tryz.func13, Tryz.ntmps13
    go_wp2_with fail
    go_ret3
    exact ⟨rfl, Below.refl _ _⟩
theorem ropen_bad (A : Option Addr) (n c : Nat) (st : Int) (ar : Bool) (lf : Int) (f : Int) (hf : f < 1 ∨ 999999 < f) (w : World) : Calls Tryz.prog 14 #[.agg #[.slice A n c, .int .i64 st, .bool ar, .int .i64 lf], .int .i64 f] w fun e w' => e = .returned (.tuple #[.agg #[.int .i64 0, .bool false], .slice none 0 0, .int .i64 1]) ∧ Below w.heap.size w w' := by
  have b1 := Blk.new w (dcs A n c st ar lf) 35
  have b2 := Blk.new (w.alloc (dobj (dcs A n c st ar lf))) (lcs 0 false) 42
  simp only [World.size_alloc] at b2
  have hb : Below w.heap.size w ((w.alloc (dobj (dcs A n c st ar lf))).alloc (lobj (lcs 0 false))) := ((Below.refl _ w).alloc (Nat.le_refl _) _).alloc (by simp) _
  have r0 := b2.cell (k := 0) rfl
  have r1 := b2.cell (k := 1) rfl
  have f0 := b2.frozen 0
  have f1 := b2.frozen 1
  have HB := Lib.hid (And.intro b2 hb)
  clear b1 b2 hb
  rcases hf with hf | hf
  · go_enter Tryz.func14, Tryz.ntmps14
    go_wp2_with fail
    refine ret_log3 (u0 := .int .i64 0) (u1 := .bool false) (x := .slice none 0 0) (y := .int .i64 1) rfl rfl rfl rfl rfl HB.out.1 ⟨rfl, HB.out.2⟩
  · have hf1 : ¬ f < 1 := by omega
    go_enter Tryz.func14, Tryz.ntmps14
    go_wp2_with fail
    refine ret_log3 (u0 := .int .i64 0) (u1 := .bool false) (x := .slice none 0 0) (y := .int .i64 1) rfl rfl rfl rfl rfl HB.out.1 ⟨rfl, HB.out.2⟩
end Go.Proofs.YtadkgfhfjagmpaaGreatDoor
