/-
  Arguments opened: a script of calls on a table.
-/
import Derived.Test.YtjlebmpgjliacaaMeL
import Derived.Test.YtjlebmpgjliacaaRows
import Derived.OpenShut
import Derived.ShutString
import Derived.ChangeOld
import Derived.Deep.DeepHandedRow
import Derived.SizedLaws
import Derived.Deep.Matrix
import Derived.Deep.Slices
import Derived.Deep.Fields
import Derived.ChangeSame
namespace Go.Proofs.Ytjlebmpgjliacaa
open Go.ChangeShapes Go.WideShapes Go.ChangeAt Go.RowKit Go.Deep
set_option linter.unusedVariables false

theorem ownK : ownKnob Try.prog.godebug = none := by kernel_rfl
theorem laidOutK : laidOutB Try.prog = true := by kernel_rfl
theorem cellsOp : Try.prog.cellsOf 32 = 6 := by kernel_rfl
theorem cellsEnt : Try.prog.cellsOf 30 = 4 := by kernel_rfl
theorem cellsStr : Try.prog.cellsOf 9 = 1 := by kernel_rfl
theorem cellsInt : Try.prog.cellsOf 3 = 1 := by kernel_rfl
theorem cellsBool : Try.prog.cellsOf 4 = 1 := by kernel_rfl
theorem bytesOp : Try.prog.bytesOf 32 = 64 := by kernel_rfl
theorem i64_bounds {x : Int} (h : (Lit.int .i64 x).wf = true) : -9223372036854775808 ≤ x ∧ x ≤ 9223372036854775807 := by
  simp [Lit.wf, IntKind.min, IntKind.max, IntKind.bits, IntKind.signed] at h
  omega
theorem ops_arg {H : Type} {ts : List TypeId} {ds : List (DataW H)} {j : Nat} {t : TypeId} {d : DataW H} (hs : (DataW.weightsEach Try.prog ts ds).all (· ≤ reachBytes) = true) (ht : ts[j]? = some t) (hd : ds[j]? = some d) :
    ∀ m ∈ d.weights Try.prog t, m ≤ reachBytes := fun m hm => by
  have := List.all_eq_true.1 hs _ (DataW.weights_mem_each ht hd m hm)
  simpa using this
theorem fld {H : Type} {enc : TypeId × Value → H} {W : World} {base n' : Nat} {fs : Array Field} {cs : List Value} {xs : List (DataW H × List MemPlace)} (hf : ∀ (i : Nat) (f : Field), fs[i]? = some f → DataW.trod enc Try.prog W base (fun _ => true) true n' f.type ((cs.drop f.offset).take (Try.prog.cellsOf f.type)) = xs[i]?)
    (i t o c : Nat) (h : (fs[i]?).map (fun f => (f.type, f.offset)) = some (t, o)) (hc : Try.prog.cellsOf t = c) : DataW.trod enc Try.prog W base (fun _ => true) true n' t ((cs.drop o).take c) = xs[i]? := by
  cases hx : fs[i]? with
  | none => rw [hx] at h; cases h
  | some f =>
    rw [hx] at h
    simp only [Option.map_some, Option.some.injEq, Prod.mk.injEq] at h
    have := hf i f hx
    rwa [h.1, h.2, hc] at this
/-- An entry, opened. -/
theorem open_ent {H : Type} {enc : TypeId × Value → H} {W : World} {base n : Nat} {cs : List Value} {y : DataW H × List MemPlace}
    (h : DataW.trod enc Try.prog W base (fun _ => true) true n 30 cs = some y) : ∃ e : En, cs = ec e ∧ (-9223372036854775808 ≤ e.seq ∧ e.seq ≤ 9223372036854775807) := by
  obtain ⟨xs, n', _, _, hl, hlen, hf⟩ := DataW.trod_struct Try.underlying30 h
  rw [cellsEnt] at hl
  match cs, hl, xs, hlen, hf with
  | [v0, v1, v2, v3], _, [y0, y1, y2, y3], _, hf =>
    have h0 := fld hf 0 9 0 1 rfl cellsStr
    have h1 := fld hf 1 3 1 1 rfl cellsInt
    have h2 := fld hf 2 4 2 1 rfl cellsBool
    have h3 := fld hf 3 9 3 1 rfl cellsStr
    obtain ⟨s, hs, _, _⟩ := DataW.trod_string Try.underlying9 h0
    obtain ⟨k, hk, _, hw⟩ := DataW.trod_int Try.underlying3 h1
    obtain ⟨d, hd, _⟩ := DataW.trod_bool Try.underlying4 h2
    obtain ⟨t, ht, _, _⟩ := DataW.trod_string Try.underlying9 h3
    simp at hs hk hd ht
    subst hs hk hd ht
    exact ⟨⟨s.data.toList, k, d, t.data.toList⟩, by simp only [ec, ← str_of], i64_bounds hw⟩
/-- A call, opened. -/
theorem open_mo {H : Type} {enc : TypeId × Value → H} {W : World} {base n : Nat} {cs : List Value} {y : DataW H × List MemPlace}
    (h : DataW.trod enc Try.prog W base (fun _ => true) true n 32 cs = some y) : ∃ o : Mo, cs = o.cells ∧ o.Ok := by
  obtain ⟨xs, n', _, _, hl, hlen, hf⟩ := DataW.trod_struct Try.underlying32 h
  rw [cellsOp] at hl
  match cs, hl, xs, hlen, hf with
  | [v0, v1, v2, v3, v4, v5], _, [y0, y1, y2], _, hf =>
    have h0 := fld hf 0 4 0 1 rfl cellsBool
    have h1 := fld hf 1 30 1 4 rfl cellsEnt
    have h2 := fld hf 2 3 5 1 rfl cellsInt
    obtain ⟨a, ha, _⟩ := DataW.trod_bool Try.underlying4 h0
    obtain ⟨e, he, hw1⟩ := open_ent h1
    obtain ⟨k, hk, _, hw⟩ := DataW.trod_int Try.underlying3 h2
    simp [ec] at ha he hk
    obtain ⟨rfl, rfl, rfl, rfl⟩ := he
    subst ha hk
    exact ⟨⟨a, e, k⟩, rfl, i64_bounds hw, hw1⟩
/-- A script, opened. -/
theorem open_mops {H : Type} {enc : TypeId × Value → H} {W : World} {base : Nat} {a : Option Addr} {len cap : Nat} {d : DataW H} {p : List MemPlace}
    (hj : DataW.Trod enc Try.prog W base (fun _ => true) true 22 (Value.slice a len cap) d p) (hw : ∀ m ∈ d.weights Try.prog 22, m ≤ reachBytes) :
    ∃ os, Mls W a len os ∧ len ≤ cap ∧ len ≤ 140737488351232 := by
  obtain ⟨fuel, hf⟩ := hj
  rcases open_slice Try.underlying22 hf with ⟨hcs, hx⟩ | ⟨x, ln, c, m, n, D, Pl, hcs, _, hl, hm, hmm, hx, hr⟩
  · simp [Value.cells] at hcs
    obtain ⟨rfl, rfl, rfl⟩ := hcs
    exact ⟨[], Mls.none_ W, Nat.le_refl _, Nat.zero_le _⟩
  · simp [Value.cells] at hcs
    obtain ⟨rfl, rfl, rfl⟩ := hcs
    injection hx with h1 _
    subst h1
    have hmc : m = cap := by simpa using hmm
    have hcap : len ≤ 140737488351232 := by
      have := hw ((((List.range len).map D).length + ((List.range (m - len)).map fun j => D (len + j)).length) * 64) (by simp only [DataW.weights, Try.underlying22, bytesOp]; simp)
      simp [reachBytes] at this
      omega
    have key : ∀ i, i < len → ∃ o : Mo, o.Ok ∧ ∀ j u, o.cells[j]? = some u → W.cell? (x.add (i * 6 + j)) = some u := fun i hi => by
      obtain ⟨cs', hc, ht'⟩ := hr i (by omega)
      rw [cellsOp] at hc
      obtain ⟨o, rfl, hok⟩ := open_mo ht'
      obtain ⟨_, hcl, hat⟩ := World.cells?_some hc
      refine ⟨o, hok, fun j u hu => ?_⟩
      have hjl : j < 6 := by
        have := (List.getElem?_eq_some_iff.1 hu).1
        simpa [Mo.cells] using this
      rw [← Go.Deep.add_add, hat j hjl]
      exact hu
    obtain ⟨g, hg⟩ : ∃ g : Nat → Mo, ∀ i, i < len → (g i).Ok ∧ ∀ j u, (g i).cells[j]? = some u → W.cell? (x.add (i * 6 + j)) = some u :=
      ⟨fun i => if h : i < len then Classical.choose (key i h) else ⟨false, zE, 0⟩, fun i h => by simp only [dif_pos h]; exact Classical.choose_spec (key i h)⟩
    refine ⟨(List.range len).map g, ⟨by simp, fun o ho => ?_, fun h0 => ?_⟩, hl, hcap⟩
    · obtain ⟨i, hi, rfl⟩ := List.mem_map.1 ho
      exact (hg i (by simpa using hi)).1
    · obtain ⟨b, off, spot⟩ := x
      have hc0 := (hg 0 (by omega)).2 0 _ rfl
      have hspot : spot = none := by simpa [Addr.add] using World.cell?_spot hc0
      subst hspot
      refine ⟨b, off, rfl, fun i o ho j u hu => ?_⟩
      have hi : i < len := by
        have := (List.getElem?_eq_some_iff.1 ho).1
        simpa using this
      simp [hi] at ho
      subst ho
      have := (hg i hi).2 j u hu
      rw [add_plain] at this
      rwa [Nat.add_assoc]
end Go.Proofs.Ytjlebmpgjliacaa
