/-
  A log and its drive: what a log's calls make of them, in plain words; Sync.
-/
import Derived.Test.YtnbomifnbhijbaaGreatDoorWaB
namespace Go.Proofs.YtnbomifnbhijbaaGreatDoor
open Go.RowKit Go.Maps
set_option linter.unusedVariables false

/-- What a log and its drive hold. -/
structure Ws where
  fs : List Fm
  st : Int
  ar : Bool
  lf : Int
  seg : Int
  dd : Bool
def wfoot (pl pb mb : Nat) (gs : List Gm) (k : Nat) : Prop := k = pl ∨ foot pb mb gs k
structure Wl (w0 w : World) (pl pb mb : Nat) (gs : List Gm) (x : Ws) : Prop where
  lay : WL w0
  bel : Below w0.heap.size w0 w
  dr : Dr w pb mb gs x.st x.ar x.lf
  lg : Lg w pl pb x.seg x.dd
  fs : gs.map Gm.f = x.fs
  seg1 : 1 ≤ x.seg
  seg2 : x.seg ≤ 1000000
  vn : ∀ g ∈ gs, vname g.name = true
  lo : ∀ k, wfoot pl pb mb gs k → w0.heap.size ≤ k
section
variable {w0 w w' : World} {pl pb mb : Nat} {gs gs' : List Gm} {x : Ws}
theorem Wl.out (h : Wl w0 w pl pb mb gs x) : ¬ foot pb mb gs pl := fun hk => by
  have hl := h.lg
  rcases h.dr.kind hk with ⟨es, c, hm⟩ | ⟨cs, t, hb, ht⟩
  · unfold Lg Blk at hl; rw [hl] at hm; cases hm
  · unfold Lg Blk at hl
    unfold Blk at hb
    rw [hl] at hb
    injection hb with hb
    injection hb with _ hb
    subst hb
    revert ht
    decide
theorem Stp.wide (h : Stp w w' (foot pb mb gs) (foot pb mb gs')) : Stp w w' (wfoot pl pb mb gs) (wfoot pl pb mb gs') :=
  ⟨⟨h.oth.os, h.oth.tape, h.oth.output, h.oth.size, fun k hk hn => h.oth.block k hk fun e => hn (.inr e)⟩, fun k hk => by
    rcases hk with e | e
    · exact .inl (.inl e)
    · rcases h.sub k e with e | e
      · exact .inl (.inr e)
      · exact .inr e⟩
theorem Stp.wideL (h : Stp w w' (fun k => k = pl) (fun k => k = pl)) : Stp w w' (wfoot pl pb mb gs) (wfoot pl pb mb gs) :=
  ⟨⟨h.oth.os, h.oth.tape, h.oth.output, h.oth.size, fun k hk hn => h.oth.block k hk fun e => hn (.inl e)⟩, fun k hk => .inl hk⟩
theorem Wl.belS (h : Wl w0 w pl pb mb gs x) (hS : Stp w w' (wfoot pl pb mb gs) (wfoot pl pb mb gs')) : Below w0.heap.size w0 w' :=
  h.bel.trans (hS.oth.below h.lo h.bel.size)
theorem Wl.loS (h : Wl w0 w pl pb mb gs x) (hS : Stp w w' (wfoot pl pb mb gs) (wfoot pl pb mb gs')) : ∀ k, wfoot pl pb mb gs' k → w0.heap.size ≤ k := fun k hk => by
  rcases hS.sub k hk with e | e
  · exact h.lo k e
  · exact Nat.le_trans h.bel.size e
/-- A call that only makes new memory. -/
theorem Wl.below (h : Wl w0 w pl pb mb gs x) (hb : Below w.heap.size w w') : Wl w0 w' pl pb mb gs x :=
  ⟨h.lay, h.bel.trans (hb.mono h.bel.size), h.dr.below hb (Nat.le_refl _), h.lg.keep (hb.block _ h.lg.lt), h.fs, h.seg1, h.seg2, h.vn, h.lo⟩
theorem Wl.wl (h : Wl w0 w pl pb mb gs x) : WL w := h.lay.keep h.bel
/-- A step of the drive. -/
theorem Wl.drive (h : Wl w0 w pl pb mb gs x) (hS : Stp w w' (foot pb mb gs) (foot pb mb gs')) {st lf : Int} {fs : List Fm} (hD : Dr w' pb mb gs' st x.ar lf) (hf : gs'.map Gm.f = fs) (hv : ∀ g ∈ gs', vname g.name = true) :
    Wl w0 w' pl pb mb gs' { x with fs := fs, st := st, lf := lf } ∧ Stp w w' (wfoot pl pb mb gs) (wfoot pl pb mb gs') :=
  ⟨⟨h.lay, h.belS (Stp.wide hS), hD, h.lg.keep (hS.oth.block _ h.lg.lt h.out), hf, h.seg1, h.seg2, hv, h.loS (Stp.wide hS)⟩, Stp.wide hS⟩
/-- A store into the log. -/
theorem Wl.log (h : Wl w0 w pl pb mb gs x) (hS : Stp w w' (fun k => k = pl) (fun k => k = pl)) {seg : Int} {dd : Bool} (hL : Lg w' pl pb seg dd) (h1 : 1 ≤ seg) (h2 : seg ≤ 1000000) :
    Wl w0 w' pl pb mb gs { x with seg := seg, dd := dd } ∧ Stp w w' (wfoot pl pb mb gs) (wfoot pl pb mb gs) :=
  ⟨⟨h.lay, h.belS (Stp.wideL hS), h.dr.keep fun k hk => hS.oth.block k (h.dr.foot_lt hk) fun e => h.out (e ▸ hk), hL, h.fs, h1, h2, h.vn, h.lo⟩, Stp.wideL hS⟩
end

theorem fname_len (n : Int) : (fname n).length ≤ 10 := by
  unfold fname
  split
  · exact Nat.le_of_eq (wname_len _)
  · simp
theorem vname_wname (k : Nat) : vname (wname k) = true := by
  have hd : ∀ j, vbyte (dg j) = true := fun j => by
    unfold vbyte
    have := dg_nat j
    simp only [decide_eq_true_eq]
    omega
  unfold vname
  rw [wname_len]
  simp only [wname, six, List.all_append, List.all_cons, List.all_nil, hd]
  decide

def stepX (x : Ws) : Ws := { x with st := wrap64 (x.st + 1), lf := lf1 x.ar x.lf }
def syncX (x : Ws) : Ws × Int := if x.dd then (x, 6) else match findK Fm.name (fname x.seg) x.fs with
  | none => (x, 0)
  | some f => if f.data.length - f.syn = 0 then (x, 0) else if dead x.ar x.lf then ({ x with dd := true }, 6) else ({ stepX x with fs := withK Fm.name ⟨f.name, f.data, f.data.length⟩ x.fs }, 0)

def WlPost (w0 w : World) (pl pb mb : Nat) (gs : List Gm) (x : Ws) (w' : World) : Prop := ∃ gs', Wl w0 w' pl pb mb gs' x ∧ Stp w w' (wfoot pl pb mb gs) (wfoot pl pb mb gs')
end Go.Proofs.YtnbomifnbhijbaaGreatDoor
