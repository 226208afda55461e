/-
  The law WalOpens: rows of slices that were handed in; drive, reference and boxes behind the loads and the Opens; without walks.
-/
import Derived.Test.YtadkgfhfjagmpaaGreatDoorOpH
import Derived.Test.YtadkgfhfjagmpaaGreatDoorGPo
import Derived.Test.YtadkgfhfjagmpaaGreatDoorLoB
import Derived.Test.YtadkgfhfjagmpaaGreatDoorRLd
import Derived.Test.YtadkgfhfjagmpaaGreatDoorGDa
namespace Go.Proofs.YtadkgfhfjagmpaaGreatDoor
open Go.RowKit Go.Maps Num Crc
set_option linter.unusedVariables false

theorem loadE_zero {ns bs : List (List UInt8)} (h1 : ns.length = bs.length) (h2 : ns.all vname = true) (h3 : ns.Nodup) (h4 : ns.length ≤ 256) (h5 : ∀ l ∈ bs, l.length ≤ 262144) : loadE ns bs = 0 := by
  have h6 : bs.any long = false := by
    cases h : bs.any long
    · rfl
    · obtain ⟨l, hl, h7⟩ := List.any_eq_true.1 h
      have := h5 l hl
      simp [long] at h7
      omega
  unfold loadE
  rw [if_neg (by omega), if_neg (by rw [h2]; decide), if_neg (by simpa using h3), if_neg (by rw [h6]; simp; omega)]

/-- Five zeros. -/
abbrev z5 : List UInt8 := [0, 0, 0, 0, 0]
theorem opens_zero {nm fl : List (List UInt8)} (h : ∀ s ∈ nm, ∃ n, n ≤ 1000000 ∧ s = rname n) (hd : nm.Nodup) (hl : ∀ l ∈ fl, l.length < 20000) (he : fl.length = nm.length) (hn : nm.length ≤ 20) : loadE (nm ++ [n12, n0x]) (fl ++ [z5, z5]) = 0 := by
  obtain ⟨h1, h2⟩ := names_ok h hd
  refine loadE_zero (by simp; omega) h1 h2 (by simp; omega) fun l hl2 => ?_
  rcases List.mem_append.1 hl2 with h3 | h3
  · have := hl l h3; omega
  · simp at h3
    rw [h3]; simp

/-- Drive and reference behind the loads, with the reference's box. -/
structure Ob (w V : World) (M pb mb : Nat) (gs : List Gm) (fs : List Fm) (A : Option Addr) (c : Nat) : Prop where
  lay : WL w
  bel : Below w.heap.size w V
  dr : Dr V pb mb gs 0 false 0
  hf : gs.map Gm.f = fs
  vn : ∀ g ∈ gs, vname g.name = true
  lo : ∀ k, foot pb mb gs k → w.heap.size ≤ k
  own : V.ownsRow w.heap.size 108 3 (.slice A fs.length c) fs.length (fcs fs)
  m : Blk V M (dcs A fs.length c 0 false 0) 35
  far : ∀ k, foot pb mb gs k → k < M
  ge : w.heap.size ≤ M
section
variable {w wL w5 w6 V V' : World} {M pb mb : Nat} {gs : List Gm} {fs : List Fm} {A : Option Addr} {c : Nat}
theorem Ob.start {ns bs : List (List UInt8)} (lay : WL w) (hbL : Below w.heap.size w wL) (hb5 : Below wL.heap.size wL w5) (hD : Dr w5 pb mb gs 0 false 0) (hgf : gs.map Gm.f = foldF (ns.zip bs)) (hfo : ∀ k, foot pb mb gs k → wL.heap.size ≤ k)
    (hb6 : Below w5.heap.size w5 w6) (ho : w6.ownsRow w5.heap.size 108 3 (.slice A (foldF (ns.zip bs)).length c) (foldF (ns.zip bs)).length (fcs (foldF (ns.zip bs)))) (hall : ns.all vname = true) :
    Ob w (w6.alloc (dobj (dcs A (foldF (ns.zip bs)).length c 0 false 0))) w6.heap.size pb mb gs (foldF (ns.zip bs)) A c := by
  have s1 := hbL.size
  have s2 := hb5.size
  have s3 := hb6.size
  have hba : Below w6.heap.size w6 (w6.alloc (dobj (dcs A (foldF (ns.zip bs)).length c 0 false 0))) := (Below.refl _ w6).alloc (Nat.le_refl _) _
  have hb56 := hb6.trans (hba.mono s3)
  refine ⟨lay, hbL.trans ((hb5.trans (hb56.mono s2)).mono s1), hD.below hb56 (Nat.le_refl _), hgf, fun g hg => ?_, fun k hk => Nat.le_trans s1 (hfo k hk), own3_below (own3_base ho (by omega)) hba, Blk.new w6 _ _, fun k hk => by have := hD.foot_lt hk; omega, by omega⟩
  have h1 : ∃ f ∈ foldF (ns.zip bs), f.name = g.name := ⟨g.f, by rw [← hgf]; exact List.mem_map.2 ⟨g, hg, rfl⟩, rfl⟩
  obtain ⟨p, hp, e⟩ := (fold_mem _ _).1 h1
  rw [← e]
  exact List.all_eq_true.1 hall _ (List.of_mem_zip (a := p.1) (b := p.2) hp).1
theorem Ob.below (h : Ob w V M pb mb gs fs A c) (hb : Below V.heap.size V V') : Ob w V' M pb mb gs fs A c :=
  ⟨h.lay, h.bel.trans (hb.mono h.bel.size), h.dr.below hb (Nat.le_refl _), h.hf, h.vn, h.lo, own3_below h.own hb, h.m.keep (hb.block _ h.m.lt), h.far, h.ge⟩
theorem Ob.rd (h : Ob w V M pb mb gs fs A c) : Rd V pb mb gs 0 false 0 := ⟨h.dr, h.lay.keep h.bel, h.vn⟩
theorem Ob.names (h : Ob w V M pb mb gs fs A c) : fs.length ≤ 256 ∧ (∀ f ∈ fs, vname f.name = true) ∧ (∀ f ∈ fs, f.data.length ≤ 262144) := by
  refine ⟨by rw [← h.hf, List.length_map]; exact h.dr.few, fun f hf => ?_, fun f hf => ?_⟩
  all_goals
    rw [← h.hf] at hf
    obtain ⟨g, hg, rfl⟩ := List.mem_map.1 hf
  · exact h.vn g hg
  · exact (h.dr.file g hg).2.2.2.1
theorem Ob.open_ (h : Ob w V M pb mb gs fs A c) (f : Int) (hf1 : 1 ≤ f) (hf2 : f ≤ 999999) :
    Calls Tryz.prog 13 #[.pointer (some ⟨pb, 0, none⟩), .int .i64 f] V (OpenW V pb (segO f (segs (fs.map Fm.name))) (psF f fs (segs (fs.map Fm.name)))) := by
  have hn : gs.map Gm.name = fs.map Fm.name := by rw [← h.hf, List.map_map]; rfl
  refine (open_any h.rd f hf1 hf2).mono ?_
  rintro e w' ⟨pl, A, cc, vs, h1, h2, h3, h4, h5, h6⟩
  rw [← psF_gs h.hf, hn] at h1 h4 h5
  rw [hn] at h2
  exact ⟨pl, A, cc, vs, h1, h2, h3, own_base h4 (by omega), h5.mono (by omega), h6⟩
theorem Ob.ropen (h : Ob w V M pb mb gs fs A c) (f : Int) (hf1 : 1 ≤ f) (hf2 : f ≤ 999999) :
    Calls Tryz.prog 14 #[.agg #[.slice A fs.length c, .int .i64 0, .bool false, .int .i64 0], .int .i64 f] V (ROpen V (segO f (segs (fs.map Fm.name))) (psF f fs (segs (fs.map Fm.name))) 0) :=
  rlopen_any A c fs 0 false 0 V (own_fl h.own) h.names.1 h.names.2.1 h.names.2.2 f hf1 hf2
theorem Ob.tells (h : Ob w V M pb mb gs fs A c) : Calls Tryz.prog 16 #[.pointer (some ⟨pb, 0, none⟩), .agg #[.slice A fs.length c, .int .i64 0, .bool false, .int .i64 0]] V fun e w' => e = .returned (.bool true) ∧ Below V.heap.size V w' := by
  have hl : fs.length = gs.length := by rw [← h.hf, List.length_map]
  have hf := own_fl h.own
  have h2 := tells_any h.dr A c (by rw [h.hf]; rw [hl] at hf; exact hf) h.vn
  rw [← hl] at h2
  exact h2
/-- The number of payloads and the segment. -/
theorem Ob.bnd (h : Ob w V M pb mb gs fs A c) (f : Int) (hf1 : 1 ≤ f) (hf2 : f ≤ 999999) : (psF f fs (segs (fs.map Fm.name))).length ≤ 256 * 262144 ∧ 1 ≤ segO f (segs (fs.map Fm.name)) ∧ segO f (segs (fs.map Fm.name)) ≤ 1000000 := by
  have h1 := segs_len (fs.map Fm.name)
  have h2 := h.names
  rw [List.length_map] at h1
  exact ⟨Nat.le_trans (psF_len h2.2.2 f _) (Nat.mul_le_mul_right _ (by omega)), segO_bnd (segs (fs.map Fm.name)) f hf1 (by omega) (fun n => segs_bound)⟩
end

/-- Log, reference's row and the two boxes. -/
structure Pq (w V : World) (M X pl pb mb : Nat) (gs : List Gm) (y : Ws) (A : Option Addr) (c : Nat) (x z : Ws) : Prop where
  wl : Wl w V pl pb mb gs y
  own : V.ownsRow w.heap.size 108 3 (.slice A x.fs.length c) x.fs.length (fcs x.fs)
  m : Blk V M (dcs A x.fs.length c x.st x.ar x.lf) 35
  l : Blk V X (lcs z.seg z.dd) 42
  far : ∀ k, wfoot pl pb mb gs k → k ≠ M ∧ k ≠ X
  geM : w.heap.size ≤ M
  geX : w.heap.size ≤ X
section
variable {w V V' V2 : World} {M X pl pb mb : Nat} {gs : List Gm} {fs : List Fm} {A A' : Option Addr} {c c' : Nat} {x y y' z : Ws}
theorem Pq.below (h : Pq w V M X pl pb mb gs y A c x z) (hb : Below V.heap.size V V') : Pq w V' M X pl pb mb gs y A c x z :=
  ⟨h.wl.below hb, own3_below h.own hb, h.m.keep (hb.block _ h.m.lt), h.l.keep (hb.block _ h.l.lt), h.far, h.geM, h.geX⟩
theorem Pq.pw (h : Pq w V M X pl pb mb gs y A c y z) : Pw w V pl pb mb gs y A c := ⟨h.wl, h.own⟩
/-- The log is opened, and the reference's in its box. -/
theorem Ob.opened (h : Ob w V M pb mb gs fs A c) {sg : Int} (hl : Lg V' pl pb sg false) (hpl : V.heap.size ≤ pl) (hb : Below V.heap.size V V') (hb2 : Below V'.heap.size V' V2) (s1 : 1 ≤ sg) (s2 : sg ≤ 1000000) :
    Pq w (V2.alloc (lobj (lcs sg false))) M V2.heap.size pl pb mb gs ⟨fs, 0, false, 0, sg, false⟩ A c ⟨fs, 0, false, 0, sg, false⟩ ⟨fs, 0, false, 0, sg, false⟩ := by
  have t1 := h.bel.size
  have t2 := hb.size
  have t3 := hb2.size
  have t4 := h.m.lt
  have t5 := hl.lt
  have hba : Below V2.heap.size V2 (V2.alloc (lobj (lcs sg false))) := (Below.refl _ V2).alloc (Nat.le_refl _) _
  have hb3 : Below V'.heap.size V' (V2.alloc (lobj (lcs sg false))) := hb2.trans (hba.mono t3)
  have hb4 : Below V.heap.size V (V2.alloc (lobj (lcs sg false))) := hb.trans (hb3.mono t2)
  have h4 := h.below hb4
  refine ⟨⟨h.lay, h4.bel, h4.dr, hl.keep (hb3.block _ t5), h.hf, s1, s2, h.vn, fun k hk => ?_⟩, h4.own, h4.m, Blk.new V2 _ _, fun k hk => ?_, h.ge, by omega⟩
  · rcases hk with rfl | hk
    · omega
    · exact h.lo k hk
  · rcases hk with rfl | hk
    · omega
    · have := h.far k hk
      omega
/-- A call of the log's. -/
theorem Pq.call (h : Pq w V M X pl pb mb gs y A c x z) (hp : WlPost w V pl pb mb gs y' V') : ∃ gs', Pq w V' M X pl pb mb gs' y' A c x z := by
  obtain ⟨gs', h1, h2⟩ := hp
  refine ⟨gs', h1, row_stpW h.wl h.own h2, h.m.keep (h2.oth.block _ h.m.lt fun e => (h.far _ e).1 rfl), h.l.keep (h2.oth.block _ h.l.lt fun e => (h.far _ e).2 rfl), fun k hk => ?_, h.geM, h.geX⟩
  rcases h2.sub k hk with e | e
  · exact h.far k e
  · have := h.m.lt
    have := h.l.lt
    omega
/-- The reference's drive and log are stored. -/
theorem Pq.store (h : Pq w V M X pl pb mb gs y A c x z) (hMX : M ≠ X) (ho : V.ownsRow w.heap.size 108 3 (.slice A' y.fs.length c') y.fs.length (fcs y.fs)) :
    Pq w ((((((V.setCell ⟨M, 0, none⟩ (.slice A' y.fs.length c')).setCell ⟨M, 1, none⟩ (.int .i64 y.st)).setCell ⟨M, 2, none⟩ (.bool y.ar)).setCell ⟨M, 3, none⟩ (.int .i64 y.lf)).setCell ⟨X, 0, none⟩ (.int .i64 y.seg)).setCell ⟨X, 1, none⟩ (.bool y.dd)) M X pl pb mb gs y A' c' y y := by
  have f1 := ((((Ofb.refl V M).set 0 (.slice A' y.fs.length c')).set 1 (.int .i64 y.st)).set 2 (.bool y.ar)).set 3 (.int .i64 y.lf)
  have m1 := (((h.m.set 0 (.slice A' y.fs.length c')).set 1 (.int .i64 y.st)).set 2 (.bool y.ar)).set 3 (.int .i64 y.lf)
  generalize (((V.setCell ⟨M, 0, none⟩ (.slice A' y.fs.length c')).setCell ⟨M, 1, none⟩ (.int .i64 y.st)).setCell ⟨M, 2, none⟩ (.bool y.ar)).setCell ⟨M, 3, none⟩ (.int .i64 y.lf) = V1 at f1 m1 ⊢
  have f2 := ((Ofb.refl V1 X).set 0 (.int .i64 y.seg)).set 1 (.bool y.dd)
  have l1 := h.l.keep (f1.blk X (fun e => hMX e.symm))
  have l2 := (l1.set 0 (.int .i64 y.seg)).set 1 (.bool y.dd)
  generalize (V1.setCell ⟨X, 0, none⟩ (.int .i64 y.seg)).setCell ⟨X, 1, none⟩ (.bool y.dd) = V2 at f2 l2 ⊢
  have b2 : Below w.heap.size w V2 := f2.below (f1.below h.wl.bel h.geM) h.geX
  have o1 := own3_keep ho fun k hk => f1.blk k (row_ne ho h.m (by decide) k hk)
  refine ⟨h.wl.stay (fun k e => (f2.blk k (h.far k e).2).trans (f1.blk k (h.far k e).1)) b2, own3_keep o1 fun k hk => f2.blk k (row_ne ho h.l (by decide) k hk), m1.keep (f2.blk M hMX), l2, h.far, h.geM, h.geX⟩
end
end Go.Proofs.YtadkgfhfjagmpaaGreatDoor
