/-
  Arguments opened: slices of bytes and of texts (layer 5's closings).
-/
import Derived.Test.YtnbomifnbhijbaaBlL
import Derived.Test.YtnbomifnbhijbaaRows
import Derived.OpenShut
import Derived.ShutString
import Derived.ChangeOld
import Derived.Deep.DeepHandedRow
import Derived.SizedLaws
import Derived.Deep.Matrix
import Derived.Deep.Slices
import Derived.Deep.Fields
import Derived.ChangeSame
import Derived.SliceStrings
namespace Go.Proofs.Ytnbomifnbhijbaa
open Go.ChangeShapes Go.WideShapes Go.ChangeAt Go.RowKit Go.Deep
set_option linter.unusedVariables false

theorem ownK : ownKnob Try.prog.godebug = none := by kernel_rfl
theorem laidOutK : laidOutB Try.prog = true := by kernel_rfl
theorem cellsU8 : Try.prog.cellsOf 5 = 1 := by kernel_rfl
theorem bytesU8 : Try.prog.bytesOf 5 = 1 := by kernel_rfl
theorem i64_bounds {x : Int} (h : (Lit.int .i64 x).wf = true) : -9223372036854775808 ≤ x ∧ x ≤ 9223372036854775807 := by
  simp [Lit.wf, IntKind.min, IntKind.max, IntKind.bits, IntKind.signed] at h
  omega
theorem ops_arg {H : Type} {ts : List TypeId} {ds : List (DataW H)} {j : Nat} {t : TypeId} {d : DataW H} (hs : (DataW.weightsEach Try.prog ts ds).all (· ≤ reachBytes) = true) (ht : ts[j]? = some t) (hd : ds[j]? = some d) :
    ∀ m ∈ d.weights Try.prog t, m ≤ reachBytes := fun m hm => by
  have := List.all_eq_true.1 hs _ (DataW.weights_mem_each ht hd m hm)
  simpa using this
theorem weights_all {H : Type} {P : Program} {e : TypeId} : ∀ {ds : List (DataW H)} {d : DataW H}, d ∈ ds → ∀ n ∈ d.weights P e, n ∈ DataW.weightsAll P e ds
  | [], d, h, _, _ => by cases h
  | d0 :: ds, d, h, n, hn => by
    simp only [DataW.weightsAll, List.mem_append]
    rcases List.mem_cons.1 h with rfl | h
    · exact .inl hn
    · exact .inr (weights_all h n hn)

/-- A slice of bytes in a cell, opened. -/
theorem bytes_of {H : Type} {enc : TypeId × Value → H} {W : World} {base n : Nat} {v : Value} {y : DataW H × List MemPlace}
    (h : DataW.trod enc Try.prog W base (fun _ => true) true n 50 [v] = some y) (hw : ∀ m ∈ y.1.weights Try.prog 50, m ≤ reachBytes) :
    ∃ (A : Option Addr) (l : List UInt8) (c : Nat), v = .slice A l.length c ∧ Sl W A l.length (bv l) ∧ l.length ≤ c ∧ c ≤ 140737488351232 := by
  rcases open_ints Try.underlying50 Try.underlying5 cellsU8 h with ⟨hcs, hx⟩ | ⟨x, len, cap, zs, hcs, _, hl, hm, hz, hx, hcell, hwz⟩
  · simp at hcs
    subst hcs
    exact ⟨none, [], 0, rfl, Sl.none_ W none, Nat.le_refl _, Nat.zero_le _⟩
  · simp at hcs
    subst hcs
    subst hx
    have hz' : zs.length = cap := by simpa using hz
    have hcap : cap ≤ 140737488351232 := by
      have := hw ((zs.take len).length * 1 + (zs.drop len).length * 1) (by simp [DataW.weights, Try.underlying50, bytesU8, lits])
      simp [reachBytes] at this
      omega
    have hll : ((zs.take len).map fun z => UInt8.ofNat z.toNat).length = len := by simp; omega
    refine ⟨some x, (zs.take len).map fun z => UInt8.ofNat z.toNat, cap, by rw [hll], ?_, by omega, hcap⟩
    rw [hll]
    refine ⟨by rw [bv_len, hll], fun h0 => ?_⟩
    obtain ⟨b, off, spot⟩ := x
    have hc0 := hcell 0 (by omega)
    have hspot : spot = none := by simpa [Addr.add] using World.cell?_spot hc0
    subst hspot
    refine ⟨b, off, rfl, fun j u hu => ?_⟩
    have hj : j < len := by
      have := (List.getElem?_eq_some_iff.1 hu).1
      rw [bv_len] at this; omega
    have hcj := hcell j (by omega)
    rw [add_plain] at hcj
    have hzj : j < zs.length := by omega
    have hw := hwz (zs[j]) (List.getElem_mem hzj)
    have hb : 0 ≤ zs[j] ∧ zs[j] < 256 := by
      simp [Lit.wf, IntKind.min, IntKind.max, IntKind.bits, IntKind.signed] at hw
      omega
    have hlj : j < ((zs.take len).map fun z => UInt8.ofNat z.toNat).length := by omega
    rw [bv_get hlj] at hu
    injection hu with hu
    rw [hcj, ← hu]
    simp [List.getD, hzj, UInt8.toNat_ofNat']
    omega
theorem open_bytes1 {H : Type} {enc : TypeId × Value → H} {W : World} {base : Nat} {a : Option Addr} {len cap : Nat} {d : DataW H} {p : List MemPlace}
    (hj : DataW.Trod enc Try.prog W base (fun _ => true) true 50 (Value.slice a len cap) d p) (hw : ∀ m ∈ d.weights Try.prog 50, m ≤ reachBytes) : ∃ l, Sl W a len (bv l) ∧ len ≤ cap ∧ len ≤ 140737488351232 := by
  obtain ⟨fuel, hf⟩ := hj
  obtain ⟨A, l, c, e, hs, hc, hm⟩ := bytes_of (v := .slice a len cap) (y := (d, p)) hf hw
  injection e with e1 e2 e3
  subst e1 e2 e3
  exact ⟨l, hs, hc, by omega⟩
theorem cellsStr : Try.prog.cellsOf 9 = 1 := by kernel_rfl
theorem bytesStr : Try.prog.bytesOf 9 = 16 := by kernel_rfl
theorem open_strs1 {H : Type} {enc : TypeId × Value → H} {W : World} {base : Nat} {a : Option Addr} {len cap : Nat} {d : DataW H} {p : List MemPlace}
    (hj : DataW.Trod enc Try.prog W base (fun _ => true) true 48 (Value.slice a len cap) d p) (hw : ∀ m ∈ d.weights Try.prog 48, m ≤ reachBytes) :
    ∃ ns : List (List UInt8), Sl W a len (ns.map svB) ∧ len ≤ cap ∧ len ≤ 140737488351232 ∧ ∀ s ∈ ns, s.length ≤ 140737488355328 := by
  obtain ⟨fuel, hf⟩ := hj
  rcases open_strings Try.underlying48 Try.underlying9 cellsStr hf with ⟨hcs, hx⟩ | ⟨x, ln, c, ss, hcs, _, hl, hm, hz, hx, hcell, hsz⟩
  · simp [Value.cells] at hcs
    obtain ⟨rfl, rfl, rfl⟩ := hcs
    exact ⟨[], ⟨rfl, fun h => by cases h⟩, Nat.le_refl _, Nat.zero_le _, by simp⟩
  · simp [Value.cells] at hcs
    obtain ⟨rfl, rfl, rfl⟩ := hcs
    injection hx with h1 _
    subst h1
    have hz' : ss.length = cap := by simpa using hz
    have hcap : len ≤ 140737488351232 := by
      have := hw (((strs (ss.take len) : List (DataW H)).length + (strs (ss.drop len) : List (DataW H)).length) * 16) (by rw [DataW.weights, Try.underlying48]; simp only [bytesStr]; exact List.mem_cons_self)
      simp [reachBytes, strs] at this
      omega
    refine ⟨(ss.take len).map fun s => s.data.toList, ⟨by simp; omega, fun h0 => ?_⟩, hl, hcap, fun s hs => ?_⟩
    · obtain ⟨b, off, spot⟩ := x
      have hc0 := hcell 0 (by omega)
      have hspot : spot = none := by simpa [Addr.add] using World.cell?_spot hc0
      subst hspot
      refine ⟨b, off, rfl, fun j u hu => ?_⟩
      have hj : j < len := by
        have := (List.getElem?_eq_some_iff.1 hu).1
        simp at this; omega
      have hcj := hcell j (by omega)
      rw [add_plain] at hcj
      rw [hcj, ← hu]
      have hjs : j < ss.length := by omega
      simp [hj, hjs, List.getD, svB, ← str_of]
    · obtain ⟨s', hs', rfl⟩ := List.mem_map.1 hs
      have := hw s'.data.toList.length (by
        rw [DataW.weights, Try.underlying48]
        refine List.mem_cons_of_mem _ (List.mem_append_left _ (weights_all (d := .lit (.string s'.data.toList)) ?_ _ ?_))
        · exact List.mem_map.2 ⟨s', hs', rfl⟩
        · simp [DataW.weights])
      simp only [reachBytes] at this
      omega
end Go.Proofs.Ytnbomifnbhijbaa
