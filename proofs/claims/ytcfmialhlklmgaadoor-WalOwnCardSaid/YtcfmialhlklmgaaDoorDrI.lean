/-
  What a loss of power leaves of a drive.
-/
import Derived.Test.YtcfmialhlklmgaaDoorDrH
namespace Go.Proofs.YtcfmialhlklmgaaDoor
open Go.RowKit Go.Maps
set_option linter.unusedVariables false

def iv (l : List Int) : List Value := l.map fun k => Value.int .i64 k
def cutF (f : Fm) (m : Nat) : Fm := ⟨f.name, f.data.take (f.syn + m), f.syn + m⟩
def cr1 (f : Fm) (ks : List Int) : Fm × List Int :=
  if f.syn < f.data.length then match ks with
    | k :: r => (cutF f (max 0 (min k ((f.data.length - f.syn : Nat) : Int))).toNat, r)
    | [] => (cutF f 0, [])
  else (cutF f 0, ks)
def crash (fs : List Fm) (ks : List Int) : List Fm × List Int := fs.foldl (fun a f => (a.1 ++ [(cr1 f a.2).1], (cr1 f a.2).2)) ([], ks)
theorem crash_snoc (fs : List Fm) (f : Fm) (ks : List Int) : crash (fs ++ [f]) ks = ((crash fs ks).1 ++ [(cr1 f (crash fs ks).2).1], (cr1 f (crash fs ks).2).2) := by
  simp [crash, List.foldl_append]
theorem cr1_name (f : Fm) (ks : List Int) : (cr1 f ks).1.name = f.name := by
  unfold cr1
  split
  · split <;> rfl
  · rfl
theorem crash_names (ks : List Int) (fs : List Fm) : (crash fs ks).1.map Fm.name = fs.map Fm.name := by
  have key : ∀ (fs : List Fm) (acc : List Fm × List Int), (fs.foldl (fun a f => (a.1 ++ [(cr1 f a.2).1], (cr1 f a.2).2)) acc).1.map Fm.name = acc.1.map Fm.name ++ fs.map Fm.name := by
    intro fs
    induction fs with
    | nil => intro acc; simp
    | cons f r ih => intro acc; rw [List.foldl_cons, ih]; simp [cr1_name]
  simpa [crash] using key fs ([], ks)

/-- Where the loop of Crash stands. -/
structure CrS (w w2 wr : World) (pb2 mb2 : Nat) (gs : List Gm) (ks : List Int) (i : Nat) (A' : Option Addr) (n' : Nat) (hs : List Gm) : Prop where
  sl : Sl w A' n' (iv (crash ((gs.take i).map Gm.f) ks).2)
  fs : hs.map Gm.f = (crash ((gs.take i).map Gm.f) ks).1
  dr : Dr wr pb2 mb2 hs 0 false 0
  stp : Stp w2 wr (foot pb2 mb2 []) (foot pb2 mb2 hs)

theorem CrS.next {w w2 wr wr' : World} {pb2 mb2 i n' m : Nat} {gs hs : List Gm} {ks : List Int} {A' A2 : Option Addr} {g g' : Gm} (h : CrS w w2 wr pb2 mb2 gs ks i A' n' hs) (hg : gs[i]? = some g) (hr : Rises Gm.name gs)
    (hgf : g'.f = (cr1 g.f (crash ((gs.take i).map Gm.f) ks).2).1) (hsl : Sl w A2 m (iv (cr1 g.f (crash ((gs.take i).map Gm.f) ks).2).2))
    (hd : Dr wr' pb2 mb2 (withK Gm.name g' hs) 0 false 0) (hst : Stp wr wr' (foot pb2 mb2 hs) (foot pb2 mb2 (withK Gm.name g' hs))) : CrS w w2 wr' pb2 mb2 gs ks (i + 1) A2 m (withK Gm.name g' hs) := by
  have ht : (gs.take (i + 1)).map Gm.f = (gs.take i).map Gm.f ++ [g.f] := by rw [List.take_add_one, hg]; simp
  have hl : withK Gm.name g' hs = hs ++ [g'] := by
    apply with_last
    intro y hy
    have hn : g'.name = g.name := by rw [Gm.name, hgf, cr1_name]
    rw [hn]
    have h1 : y.name ∈ hs.map Gm.name := List.mem_map.2 ⟨y, hy, rfl⟩
    have h2 : hs.map Gm.name = (gs.take i).map Gm.name := by
      have := congrArg (List.map Fm.name) h.fs
      rw [crash_names] at this
      simpa [List.map_map, Function.comp_def] using this
    rw [h2] at h1
    obtain ⟨z, hz, e⟩ := List.mem_map.1 h1
    rw [← e]
    obtain ⟨j, hj, e2⟩ := List.mem_take_iff_getElem.1 hz
    have hi : i < gs.length := (List.getElem?_eq_some_iff.1 hg).1
    have hge : gs[i] = g := (List.getElem?_eq_some_iff.1 hg).2
    have := List.pairwise_iff_getElem.1 hr j i (by omega) hi (by omega)
    rw [e2, hge] at this
    exact this
  refine ⟨by rw [ht, crash_snoc]; exact hsl, ?_, hd, h.stp.trans hst⟩
  rw [ht, crash_snoc, hl, List.map_append, h.fs]
  simp [hgf]

theorem iv_get {l : List Int} {k : Nat} (h : k < l.length) : (iv l)[k]? = some (Value.int .i64 l[k]) := by simp [iv, h]
theorem iv_len (l : List Int) : (iv l).length = l.length := by simp [iv]

def CrPost (w : World) (gs : List Gm) (ks : List Int) (e : Ending) (w' : World) : Prop :=
  ∃ pb2 mb2 hs, e = .returned (.pointer (some ⟨pb2, 0, none⟩)) ∧ hs.map Gm.f = (crash (gs.map Gm.f) ks).1 ∧ Dr w' pb2 mb2 hs 0 false 0 ∧ Below w.heap.size w w' ∧ ∀ k, foot pb2 mb2 hs k → w.heap.size ≤ k

end Go.Proofs.YtcfmialhlklmgaaDoor
