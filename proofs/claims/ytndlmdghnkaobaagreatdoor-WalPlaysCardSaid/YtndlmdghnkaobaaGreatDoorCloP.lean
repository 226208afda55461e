/-
  A script of the wal's calls, opened (the law WalPlays).
-/
import Derived.Test.YtndlmdghnkaobaaGreatDoorCloW
import Derived.Test.YtndlmdghnkaobaaGreatDoorGPo
import Derived.Deep.Fields
import Derived.Deep.Slices
import Derived.ChangeSame
namespace Go.Proofs.YtndlmdghnkaobaaGreatDoor
open Go.ChangeShapes Go.WideShapes Go.ChangeAt Go.RowKit Go.Deep
set_option linter.unusedVariables false

theorem cellsInt : Tryz.prog.cellsOf 3 = 1 := by kernel_rfl
theorem cellsOp : Tryz.prog.cellsOf 39 = 4 := by kernel_rfl
theorem bytesOp : Tryz.prog.bytesOf 39 = 64 := by kernel_rfl
section
variable {H : Type} {enc : TypeId × Value → H} {P : Program} {w : World} {base : Nat} {spare : Nat → Bool} {held : Bool}
theorem open_slice_fields {t e : TypeId} {fs : Array Field} {fuel : Nat} {cs : List Value} {x : DataW H × List MemPlace} (ht : P.underlying t = some (.slice e)) (he : P.underlying e = some (.struct fs))
    (hone : oneCellFields P fs = true) (hC : P.cellsOf e = fs.size) (h : DataW.trod enc P w base spare held fuel t cs = some x) :
    (cs = [.slice none 0 0] ∧ x = (.nil, [])) ∨
    ∃ (a : Addr) (len cap m : Nat) (D : Nat → DataW H) (Pl : Nat → List MemPlace), cs = [.slice (some a) len cap] ∧ base ≤ a.block ∧ len ≤ cap ∧ cap ≤ maxLen ∧ m = (if spare a.block then cap else len) ∧
      x = (.slice ((List.range len).map D) ((List.range (m - len)).map fun j => D (len + j)), MemPlace.row a (m * fs.size) ++ (List.range m).flatMap Pl) ∧
      ∀ i, i < m → ∃ (ys : List (DataW H × List MemPlace)) (n : Nat), D i = .agg (ys.map (·.1)) ∧ Pl i = ys.flatMap (·.2) ∧ ys.length = fs.size ∧
        ∀ (j : Nat) (f : Field), fs[j]? = some f → ∃ (v : Value) (y : DataW H × List MemPlace), w.cell? (a.add (i * fs.size + j)) = some v ∧ ys[j]? = some y ∧ DataW.trod enc P w base spare held n f.type [v] = some y := by
  rcases open_slice ht h with h0 | ⟨a, len, cap, m, n, D, Pl, hcs, hb, hl, hm, hmm, hx, hi⟩
  · exact .inl h0
  · refine .inr ⟨a, len, cap, m, D, Pl, hcs, hb, hl, hm, hmm, by rw [hC] at hx; exact hx, fun i him => ?_⟩
    obtain ⟨cs', hc, ht'⟩ := hi i him
    rw [hC] at hc
    obtain ⟨ys, n', hn', hy, hlen, hyl, hf⟩ := DataW.trod_struct he ht'
    obtain ⟨_, hcl, hat⟩ := World.cells?_some hc
    simp only [Prod.mk.injEq] at hy
    refine ⟨ys, n', hy.1, hy.2, hyl, fun j f hj => ?_⟩
    obtain ⟨ho, hk⟩ := hone_of hone j f hj
    have hjl : j < fs.size := (Array.getElem?_eq_some_iff.1 hj).1
    have hcell := hat j hjl
    have hv : cs'[j]? = some (cs'[j]'(by omega)) := List.getElem?_eq_getElem (by omega)
    have h1 := hf j f hj
    rw [ho, hk] at h1
    have hone' : (cs'.drop j).take 1 = [cs'[j]'(by omega)] := by
      rw [List.drop_eq_getElem_cons (by omega)]
      rfl
    rw [hone'] at h1
    have hys : ys[j]? = some (ys[j]'(by omega)) := List.getElem?_eq_getElem (by omega)
    refine ⟨_, _, ?_, hys, h1.trans hys⟩
    rw [← Go.Deep.add_add, hcell, hv]
end

/-- A slice of numbers in a cell, opened. -/
theorem ints_of {H : Type} {enc : TypeId × Value → H} {W : World} {base n : Nat} {v : Value} {y : DataW H × List MemPlace}
    (h : DataW.trod enc Tryz.prog W base (fun _ => true) true n 37 [v] = some y) :
    ∃ (A : Option Addr) (l : List Int) (c : Nat), v = .slice A l.length c ∧ Sl W A l.length (iv l) ∧ l.length ≤ c ∧ c ≤ maxLen := by
  rcases open_ints Tryz.underlying37 Tryz.underlying3 cellsInt h with ⟨hcs, hx⟩ | ⟨x, len, cap, zs, hcs, _, hl, hm, hz, hx, hcell, hwz⟩
  · simp at hcs
    subst hcs
    exact ⟨none, [], 0, rfl, ⟨rfl, fun h => by cases h⟩, Nat.le_refl _, Nat.zero_le _⟩
  · simp at hcs
    subst hcs
    have hz' : zs.length = cap := by simpa using hz
    have hll : (zs.take len).length = len := by simp; omega
    refine ⟨some x, zs.take len, cap, by rw [hll], ?_, by omega, hm⟩
    rw [hll]
    refine ⟨by rw [iv_len, hll], fun h0 => ?_⟩
    obtain ⟨b, off, spot⟩ := x
    have hc0 := hcell 0 (by omega)
    have hspot : spot = none := by simpa [Addr.add] using World.cell?_spot hc0
    subst hspot
    refine ⟨b, off, rfl, fun j u hu => ?_⟩
    have hj : j < len := by
      have := (List.getElem?_eq_some_iff.1 hu).1
      rw [iv_len] at this; omega
    have hcj := hcell j (by omega)
    rw [add_plain] at hcj
    have hzj : j < zs.length := by omega
    rw [iv_get (by omega)] at hu
    injection hu with hu
    rw [hcj, ← hu]
    simp [List.getD, hzj]

theorem part_le {H : Type} {P : Program} {t e : TypeId} {fs : Array Field} {len : Nat} {D : Nat → DataW H} {rest : List (DataW H)} {i j : Nat} {ys : List (DataW H × List MemPlace)} {y : DataW H × List MemPlace} {f : Field}
    (ht : P.underlying t = some (.slice e)) (he : P.underlying e = some (.struct fs)) (hw : ∀ m ∈ (DataW.slice ((List.range len).map D) rest).weights P t, m ≤ reachBytes) (hi : i < len) (hD : D i = .agg (ys.map (·.1)))
    (hy : ys[j]? = some y) (hf : fs[j]? = some f) : ∀ m ∈ y.1.weights P f.type, m ≤ reachBytes := fun m hm => by
  refine hw m ?_
  rw [DataW.weights, ht]
  refine List.mem_cons_of_mem _ (List.mem_append_left _ (weights_all (d := D i) (List.mem_map.2 ⟨i, by simpa using hi, rfl⟩) _ ?_))
  rw [hD, DataW.weights, he]
  exact DataW.weights_mem_each (j := j) (t := f.type) (d := y.1) (by simp [hf]) (by simp [hy]) m hm

/-- A script, opened. -/
theorem open_ops {H : Type} {enc : TypeId × Value → H} {W : World} {base : Nat} {a : Option Addr} {len cap : Nat} {d : DataW H} {p : List MemPlace}
    (hj : DataW.Trod enc Tryz.prog W base (fun _ => true) true 22 (Value.slice a len cap) d p) (hw : ∀ m ∈ d.weights Tryz.prog 22, m ≤ reachBytes) :
    ∃ os, Owl W a len os ∧ len ≤ cap ∧ len ≤ 140737488351232 := by
  obtain ⟨fuel, hf⟩ := hj
  rcases open_slice_fields Tryz.underlying22 Tryz.underlying39 (by kernel_rfl) cellsOp hf with ⟨hcs, hx⟩ | ⟨x, ln, c, m, D, Pl, hcs, _, hl, hm, hmm, hx, hr⟩
  · simp [Value.cells] at hcs
    obtain ⟨rfl, rfl, rfl⟩ := hcs
    exact ⟨[], Owl.none_ W, Nat.le_refl _, Nat.zero_le _⟩
  · simp [Value.cells] at hcs
    obtain ⟨rfl, rfl, rfl⟩ := hcs
    injection hx with h1 _
    subst h1
    have hmc : m = cap := by simpa using hmm
    have hcap : len ≤ 140737488351232 := by
      have := hw ((((List.range len).map D).length + ((List.range (m - len)).map fun j => D (len + j)).length) * 64) (by simp only [DataW.weights, Tryz.underlying22, bytesOp]; simp)
      simp [reachBytes] at this
      omega
    have key : ∀ i, i < len → ∃ o : Ow, o.Ok W ∧ ∀ j u, o.cells[j]? = some u → W.cell? (x.add (i * 4 + j)) = some u := fun i hi => by
      obtain ⟨ys, n, hD, _, hyl, hfs⟩ := hr i (by omega)
      obtain ⟨v0, y0, c0, e0, t0⟩ := hfs 0 _ rfl
      obtain ⟨v1, y1, c1, e1, t1⟩ := hfs 1 _ rfl
      obtain ⟨v2, y2, c2, e2, t2⟩ := hfs 2 _ rfl
      obtain ⟨v3, y3, c3, e3, t3⟩ := hfs 3 _ rfl
      have p1 := part_le Tryz.underlying22 Tryz.underlying39 hw hi hD e1 rfl
      obtain ⟨kd, hkd, rfl, wkd⟩ := DataW.trod_int Tryz.underlying3 t0
      obtain ⟨P, l, cp, rfl, hB, hB1, hB2⟩ := bytes_of t1 p1
      obtain ⟨nn, hnn, rfl, wnn⟩ := DataW.trod_int Tryz.underlying3 t2
      obtain ⟨K, ks, kc, rfl, hK, hkc, _⟩ := ints_of t3
      injection hkd with hkd _
      injection hnn with hnn _
      subst hkd hnn
      refine ⟨⟨kd, P, l, cp, nn, K, ks, kc⟩, ⟨hB, hB1, Nat.le_trans (Nat.le_trans hB1 hB2) (by decide), hK, hkc, i64_bounds wnn⟩, fun j u hu => ?_⟩
      rcases j with _ | _ | _ | _ | j <;> simp [Ow.cells] at hu
      · subst hu; exact c0
      · subst hu; exact c1
      · subst hu; exact c2
      · subst hu; exact c3
    obtain ⟨g, hg⟩ : ∃ g : Nat → Ow, ∀ i, i < len → (g i).Ok W ∧ ∀ j u, (g i).cells[j]? = some u → W.cell? (x.add (i * 4 + j)) = some u :=
      ⟨fun i => if h : i < len then Classical.choose (key i h) else ⟨0, none, [], 0, 0, none, [], 0⟩, fun i h => by simp only [dif_pos h]; exact Classical.choose_spec (key i h)⟩
    refine ⟨(List.range len).map g, ⟨by simp, fun o ho => ?_, fun h0 => ?_⟩, hl, hcap⟩
    · obtain ⟨i, hi, rfl⟩ := List.mem_map.1 ho
      exact (hg i (by simpa using hi)).1
    · obtain ⟨b, off, spot⟩ := x
      have hc0 := (hg 0 (by omega)).2 0 _ rfl
      have hspot : spot = none := by simpa [Addr.add] using World.cell?_spot hc0
      subst hspot
      refine ⟨b, off, rfl, fun i o ho j u hu => ?_⟩
      have hi : i < len := by
        have := (List.getElem?_eq_some_iff.1 ho).1
        simpa using this
      simp [hi] at ho
      subst ho
      have := (hg i hi).2 j u hu
      rw [add_plain] at this
      rwa [Nat.add_assoc]
end Go.Proofs.YtndlmdghnkaobaaGreatDoor
