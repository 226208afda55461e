/-
  A loss of power ahead of an Open, without walks.
-/
import Derived.Test.YtndlmdghnkaobaaGreatDoorGPo
import Derived.Test.YtndlmdghnkaobaaGreatDoorReI
namespace Go.Proofs.YtndlmdghnkaobaaGreatDoor
open Go.RowKit Go.Maps Num Crc
set_option linter.unusedVariables false

section
variable {w0 w V V' : World} {S0 : Nat → Prop} {pl pb mb pb2 mb2 : Nat} {gs hs : List Gm} {x z : Ws} {A A' : Option Addr} {c c' : Nat} {op : Array Value}
/-- A loss of power. -/
theorem Oc.crash (h : Oc w0 w V S0 pb mb gs x A c) (ks : List Int) (hb : Below V.heap.size V V') (hD : Dr V' pb2 mb2 hs 0 false 0) (hf : ∀ k, foot pb2 mb2 hs k → V.heap.size ≤ k) (hh : hs.map Gm.f = (crash (gs.map Gm.f) ks).1) (ho : V'.ownsRow V.heap.size 87 3 (.slice A' (crash x.fs ks).1.length c') (crash x.fs ks).1.length (fcs (crash x.fs ks).1))
    (e1 : z.fs = (crash x.fs ks).1) (e2 : z.st = 0) (e3 : z.ar = false) (e4 : z.lf = 0) : Oc w0 w V' S0 pb2 mb2 hs z A' c' := by
  have hbig := h.big
  have hle := h.le
  have hfs := h.fs
  refine ⟨h.lay, h.bel.trans (hb.mono h.bel.size), by rw [e2, e3, e4]; exact hD, by rw [hh, e1, h.fs], fun y hy => ?_, fun k hk => by have := hf k hk; omega, by rw [e1]; exact own3_base ho (by omega), ⟨(h.stp.trans (Below.stp hb)).oth, fun k hk => .inr (by have := hf k hk; omega)⟩, fun k hk => .inr (by have := hf k hk; omega), hle, Nat.le_trans hbig hb.size⟩
  have h1 := crash_names ks (gs.map Gm.f)
  rw [← hh, List.map_map, List.map_map] at h1
  have h2 : y.name ∈ gs.map (Fm.name ∘ Gm.f) := h1 ▸ List.mem_map.2 ⟨y, hy, rfl⟩
  obtain ⟨g, hg, hgy⟩ := List.mem_map.1 h2
  exact hgy ▸ h.vn g hg
theorem Oc.setD (h : Oc w0 w V S0 pb mb gs z A c) (hx : Bp w V A' c' x x op) :
    Oc w0 w ((((V.setCell ⟨w.heap.size, 0, none⟩ (.slice A z.fs.length c)).setCell ⟨w.heap.size, 1, none⟩ (.int .i64 z.st)).setCell ⟨w.heap.size, 2, none⟩ (.bool z.ar)).setCell ⟨w.heap.size, 3, none⟩ (.int .i64 z.lf)) S0 pb mb gs z A c ∧
    Bp w ((((V.setCell ⟨w.heap.size, 0, none⟩ (.slice A z.fs.length c)).setCell ⟨w.heap.size, 1, none⟩ (.int .i64 z.st)).setCell ⟨w.heap.size, 2, none⟩ (.bool z.ar)).setCell ⟨w.heap.size, 3, none⟩ (.int .i64 z.lf)) A c z x op := by
  have hf := ((((Ofb.refl V w.heap.size).set 0 (.slice A z.fs.length c)).set 1 (.int .i64 z.st)).set 2 (.bool z.ar)).set 3 (.int .i64 z.lf)
  have hle := h.le
  refine ⟨⟨h.lay, hf.below h.bel (by omega), h.dr.keep fun k hk => hf.blk k (fun e => by have := h.far k hk; omega), h.fs, h.vn, h.lo, own3_keep h.own fun k hk => hf.blk k (row_ne h.own hx.d (by decide) k hk), ⟨⟨hf.os.trans h.stp.oth.os, hf.tape.trans h.stp.oth.tape, hf.output.trans h.stp.oth.output, by rw [hf.size]; exact h.stp.oth.size, fun i hi hn => (hf.blk i (by omega)).trans (h.stp.oth.block i hi hn)⟩, h.stp.sub⟩, h.far, hle, by rw [hf.size]; exact h.big⟩, (((hx.d.set 0 _).set 1 _).set 2 _).set 3 _, hx.l.keep (hf.blk _ (by omega)), hx.o.keep (hf.blk _ (by omega)), hx.rd.keep (hf.blk _ (by omega)), hx.rl.keep (hf.blk _ (by omega))⟩
end
end Go.Proofs.YtndlmdghnkaobaaGreatDoor
