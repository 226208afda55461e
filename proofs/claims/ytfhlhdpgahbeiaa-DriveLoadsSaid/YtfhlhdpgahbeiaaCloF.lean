/-
  Slices of texts and of slices of bytes, opened.
-/
import Derived.Test.YtfhlhdpgahbeiaaCloD
import Derived.Test.YtfhlhdpgahbeiaaLoA
import Derived.SliceStrings
namespace Go.Proofs.Ytfhlhdpgahbeiaa
open Go.ChangeShapes Go.WideShapes Go.ChangeAt Go.RowKit
set_option linter.unusedVariables false

theorem cellsRowB : Try.prog.cellsOf 33 = 1 := by kernel_rfl
theorem bytesRowB : Try.prog.bytesOf 33 = 24 := by kernel_rfl
theorem sl_u8 {W : World} {A : Option Addr} {L : Nat} {zs : List Int} (hA : A = none → L = 0) (hL : L ≤ zs.length) (hwz : ∀ n ∈ zs, (Lit.int .u8 n).wf = true)
    (hcell : ∀ a', A = some a' → ∀ c, c < L → W.cell? (a'.add c) = some (.int .u8 (zs.getD c 0))) : Sl W A ((zs.take L).map fun z => UInt8.ofNat z.toNat).length (bv ((zs.take L).map fun z => UInt8.ofNat z.toNat)) := by
  have hlen : ((zs.take L).map fun z => UInt8.ofNat z.toNat).length = L := by simp; omega
  rw [hlen]
  refine ⟨by rw [bv_len, hlen], fun h0 => ?_⟩
  cases A with
  | none => have := hA rfl; omega
  | some x =>
    obtain ⟨b, off, spot⟩ := x
    have hc0 := hcell _ rfl 0 (by omega)
    have hspot : spot = none := by simpa [Addr.add] using World.cell?_spot hc0
    subst hspot
    refine ⟨b, off, rfl, fun j u hu => ?_⟩
    have hj : j < L := by
      have := (List.getElem?_eq_some_iff.1 hu).1
      rw [bv_len] at this; omega
    have hcj := hcell _ rfl j hj
    rw [add_plain] at hcj
    have hzj : j < zs.length := by omega
    have hw := hwz (zs[j]) (List.getElem_mem hzj)
    have hb : 0 ≤ zs[j] ∧ zs[j] < 256 := by
      simp [Lit.wf, IntKind.min, IntKind.max, IntKind.bits, IntKind.signed] at hw
      omega
    have hlj : j < ((zs.take L).map fun z => UInt8.ofNat z.toNat).length := by omega
    rw [bv_get hlj] at hu
    injection hu with hu
    rw [hcj, ← hu]
    simp [List.getD, hzj, UInt8.toNat_ofNat']
    omega
theorem open_rows1 {H : Type} {enc : TypeId × Value → H} {W : World} {base : Nat} {a : Option Addr} {len cap : Nat} {d : DataW H} {p : List MemPlace}
    (hj : DataW.Trod enc Try.prog W base (fun _ => true) true 32 (Value.slice a len cap) d p) (hw : ∀ m ∈ d.weights Try.prog 32, m ≤ reachBytes) :
    ∃ bs, Br W a len bs ∧ len ≤ cap ∧ len ≤ 140737488351232 ∧ ∀ l ∈ bs, l.length ≤ 140737488355328 := by
  obtain ⟨fuel, hf⟩ := hj
  rcases Deep.open_int_rows Try.underlying32 Try.underlying33 Try.underlying5 cellsRowB cellsU8 hf with ⟨hcs, hx⟩ | ⟨x, ln, c, A, L, C, Z, hcs, _, hl, hm, hx, hr⟩
  · simp [Value.cells] at hcs
    obtain ⟨rfl, rfl, rfl⟩ := hcs
    exact ⟨[], Br.none_ W, Nat.le_refl _, Nat.zero_le _, by simp⟩
  · simp [Value.cells] at hcs
    obtain ⟨rfl, rfl, rfl⟩ := hcs
    injection hx with h1 _
    subst h1
    have hcap : len ≤ 140737488351232 := by
      have := hw (cap * 24) (by rw [DataW.weights, Try.underlying32]; simp only [bytesRowB]; refine List.mem_cons.2 (.inl ?_); simp; omega)
      simp [reachBytes] at this
      omega
    have hrow : ∀ r, r < len → (((Z r).take (L r)).map fun z => UInt8.ofNat z.toNat).length = L r := fun r h => by
      obtain ⟨_, h2, _, h3, _⟩ := hr r (by omega)
      simp; omega
    refine ⟨(List.range len).map fun r => ((Z r).take (L r)).map fun z => UInt8.ofNat z.toNat, ⟨by simp, fun h0 => ?_⟩, hl, hcap, ?_⟩
    · obtain ⟨b, off, spot⟩ := x
      have hc0 := (hr 0 (by omega)).1
      have hspot : spot = none := by simpa [Addr.add] using World.cell?_spot hc0
      subst hspot
      refine ⟨b, off, rfl, fun i l hil => ?_⟩
      have hi : i < len := by
        have := (List.getElem?_eq_some_iff.1 hil).1
        simpa using this
      simp [hi] at hil
      subst hil
      obtain ⟨g1, h2, h3, h4, h5, h6, h7⟩ := hr i (by omega)
      have hsl := sl_u8 (A := A i) (L := L i) (zs := Z i) (fun h => by have := h6 h; omega) (by omega) h5 (fun a' ha c hc => (h7 a' ha).2 c (by omega))
      have hrw := hrow i hi
      simp only [List.map_take] at hsl hrw
      refine ⟨A i, C i, ?_, hsl, by omega⟩
      rw [hrw, ← add_plain]
      exact g1
    · intro l hlm
      obtain ⟨r, hrm, rfl⟩ := List.mem_map.1 hlm
      have hlt : r < len := by simpa using hrm
      rw [hrow r hlt]
      obtain ⟨_, h2, h3, h4, h5, h6, h7⟩ := hr r (by omega)
      cases hA : A r with
      | none => have := h6 hA; omega
      | some a' =>
        have hmem : Deep.intRow .u8 (A r) (L r) (Z r) ∈ (List.range len).map fun r => (Deep.intRow .u8 (A r) (L r) (Z r) : DataW H) := List.mem_map.2 ⟨r, hrm, rfl⟩
        have := hw ((Z r).length * 1) (by
          rw [DataW.weights, Try.underlying32]
          refine List.mem_cons_of_mem _ (List.mem_append_left _ (weights_all hmem _ ?_))
          rw [hA]
          simp only [Deep.intRow, DataW.weights, Try.underlying33, bytesU8]
          refine List.mem_cons.2 (.inl ?_)
          simp [lits]; omega)
        simp [reachBytes] at this
        omega
theorem cellsStr : Try.prog.cellsOf 9 = 1 := by kernel_rfl
theorem bytesStr : Try.prog.bytesOf 9 = 16 := by kernel_rfl
theorem open_strs1 {H : Type} {enc : TypeId × Value → H} {W : World} {base : Nat} {a : Option Addr} {len cap : Nat} {d : DataW H} {p : List MemPlace}
    (hj : DataW.Trod enc Try.prog W base (fun _ => true) true 31 (Value.slice a len cap) d p) (hw : ∀ m ∈ d.weights Try.prog 31, m ≤ reachBytes) :
    ∃ ns : List (List UInt8), Sl W a len (ns.map sv) ∧ len ≤ cap ∧ len ≤ 140737488351232 ∧ ∀ s ∈ ns, s.length ≤ 140737488355328 := by
  obtain ⟨fuel, hf⟩ := hj
  rcases open_strings Try.underlying31 Try.underlying9 cellsStr hf with ⟨hcs, hx⟩ | ⟨x, ln, c, ss, hcs, _, hl, hm, hz, hx, hcell, hsz⟩
  · simp [Value.cells] at hcs
    obtain ⟨rfl, rfl, rfl⟩ := hcs
    exact ⟨[], ⟨rfl, fun h => by cases h⟩, Nat.le_refl _, Nat.zero_le _, by simp⟩
  · simp [Value.cells] at hcs
    obtain ⟨rfl, rfl, rfl⟩ := hcs
    injection hx with h1 _
    subst h1
    have hz' : ss.length = cap := by simpa using hz
    have hcap : len ≤ 140737488351232 := by
      have := hw (((strs (ss.take len) : List (DataW H)).length + (strs (ss.drop len) : List (DataW H)).length) * 16) (by rw [DataW.weights, Try.underlying31]; simp only [bytesStr]; exact List.mem_cons_self)
      simp [reachBytes, strs] at this
      omega
    refine ⟨(ss.take len).map fun s => s.data.toList, ⟨by simp; omega, fun h0 => ?_⟩, hl, hcap, fun s hs => ?_⟩
    · obtain ⟨b, off, spot⟩ := x
      have hc0 := hcell 0 (by omega)
      have hspot : spot = none := by simpa [Addr.add] using World.cell?_spot hc0
      subst hspot
      refine ⟨b, off, rfl, fun j u hu => ?_⟩
      have hj : j < len := by
        have := (List.getElem?_eq_some_iff.1 hu).1
        simp at this; omega
      have hcj := hcell j (by omega)
      rw [add_plain] at hcj
      rw [hcj, ← hu]
      have hjs : j < ss.length := by omega
      simp [hj, hjs, List.getD, sv, ← str_of]
    · obtain ⟨s', hs', rfl⟩ := List.mem_map.1 hs
      have := hw s'.data.toList.length (by
        rw [DataW.weights, Try.underlying31]
        refine List.mem_cons_of_mem _ (List.mem_append_left _ (weights_all (d := .lit (.string s'.data.toList)) ?_ _ ?_))
        · exact List.mem_map.2 ⟨s', hs', rfl⟩
        · simp [DataW.weights])
      simp only [reachBytes] at this
      omega
end Go.Proofs.Ytfhlhdpgahbeiaa
