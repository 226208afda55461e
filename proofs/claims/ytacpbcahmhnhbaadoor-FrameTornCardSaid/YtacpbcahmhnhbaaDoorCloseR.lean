/-
  A slice of slices of bytes, opened.
-/
import Derived.Test.YtacpbcahmhnhbaaDoorCloseA
import Derived.Test.YtacpbcahmhnhbaaDoorLawTorn
import Derived.Deep.Matrix
namespace Go.Proofs.YtacpbcahmhnhbaaDoor
open Go.ChangeShapes Go.WideShapes Go.ChangeAt Go.RowKit
set_option linter.unusedVariables false

theorem cellsRow : Tryd.prog.cellsOf 23 = 1 := by kernel_rfl
theorem bytesRow : Tryd.prog.bytesOf 23 = 24 := by kernel_rfl
theorem weights_all {H : Type} {P : Program} {e : TypeId} : ∀ {ds : List (DataW H)} {d : DataW H}, d ∈ ds → ∀ n ∈ d.weights P e, n ∈ DataW.weightsAll P e ds
  | [], d, h, _, _ => by cases h
  | d0 :: ds, d, h, n, hn => by
    simp only [DataW.weightsAll, List.mem_append]
    rcases List.mem_cons.1 h with rfl | h
    · exact .inl hn
    · exact .inr (weights_all h n hn)
theorem EachS.map {w : World} {f : Nat → Value} {g : Nat → List UInt8} : ∀ {rs : List Nat}, (∀ r ∈ rs, ∃ A c, f r = .slice A (g r).length c ∧ Sl w A (g r).length (bv (g r))) → EachS w (rs.map f) (rs.map g)
  | [], _ => trivial
  | r :: rs, h => ⟨h r (by simp), EachS.map fun x hx => h x (by simp [hx])⟩
def u8s (zs : List Int) : List UInt8 := zs.map fun z => UInt8.ofNat z.toNat
theorem sl_u8s {W : World} {A : Option Addr} {L : Nat} {zs : List Int} (hA : A = none → L = 0) (hL : L ≤ zs.length) (hwz : ∀ n ∈ zs, (Lit.int .u8 n).wf = true)
    (hcell : ∀ a', A = some a' → ∀ c, c < L → W.cell? (a'.add c) = some (.int .u8 (zs.getD c 0))) : Sl W A (u8s (zs.take L)).length (bv (u8s (zs.take L))) := by
  have hlen : (u8s (zs.take L)).length = L := by simp [u8s]; omega
  rw [hlen]
  refine ⟨by rw [bv_len, hlen], fun h0 => ?_⟩
  cases A with
  | none => have := hA rfl; omega
  | some x =>
    obtain ⟨b, off, spot⟩ := x
    have hc0 := hcell _ rfl 0 (by omega)
    have hspot : spot = none := by simpa [Addr.add] using World.cell?_spot hc0
    subst hspot
    refine ⟨b, off, rfl, fun j u hu => ?_⟩
    have hj : j < L := by
      have := (List.getElem?_eq_some_iff.1 hu).1
      rw [bv_len] at this; omega
    have hcj := hcell _ rfl j hj
    rw [add_plain] at hcj
    have hzj : j < zs.length := by omega
    have hw := hwz (zs[j]) (List.getElem_mem hzj)
    have hb : 0 ≤ zs[j] ∧ zs[j] < 256 := by
      simp [Lit.wf, IntKind.min, IntKind.max, IntKind.bits, IntKind.signed] at hw
      omega
    have hlj : j < (u8s (zs.take L)).length := by omega
    rw [bv_get hlj] at hu
    injection hu with hu
    rw [hcj, ← hu]
    simp [u8s, List.getD, hzj, UInt8.toNat_ofNat']
    omega
theorem open_rows {H : Type} {enc : TypeId × Value → H} {W : World} {base : Nat} {a : Option Addr} {len cap : Nat} {d : DataW H} {p : List MemPlace} {ts : List TypeId} {ds : List (DataW H)} {j : Nat}
    (hj : DataW.Trod enc Tryd.prog W base (fun _ => true) true 45 (Value.slice a len cap) d p)
    (hs : (DataW.weightsEach Tryd.prog ts ds).all (· ≤ reachBytes) = true) (ht : ts[j]? = some 45) (hd : ds[j]? = some d) :
    ∃ vs ls, Sl W a len vs ∧ EachS W vs ls ∧ len ≤ cap ∧ len ≤ 140737488351232 ∧ ∀ l ∈ ls, l.length ≤ 140737488351232 := by
  obtain ⟨fuel, hf⟩ := hj
  rcases Deep.open_int_rows Tryd.underlying45 Tryd.underlying23 Tryd.underlying5 cellsRow cellsU8 hf with ⟨hcs, hx⟩ | ⟨x, ln, c, A, L, C, Z, hcs, _, hl, hm, hx, hr⟩
  · simp [Value.cells] at hcs
    obtain ⟨rfl, rfl, rfl⟩ := hcs
    exact ⟨[], [], Sl.none_ W none, trivial, Nat.le_refl _, Nat.zero_le _, by simp⟩
  · simp [Value.cells] at hcs
    obtain ⟨rfl, rfl, rfl⟩ := hcs
    injection hx with h1 _
    subst h1
    have hcap : len ≤ 140737488351232 := by
      have := sized_slice hs ht hd Tryd.underlying45
      rw [bytesRow] at this
      simp [reachBytes] at this
      omega
    have hrow : ∀ r, r < len → (u8s ((Z r).take (L r))).length = L r := fun r h => by
      obtain ⟨_, h2, _, h3, _⟩ := hr r (by omega)
      simp [u8s]; omega
    refine ⟨(List.range len).map fun r => .slice (A r) (L r) (C r), (List.range len).map fun r => u8s ((Z r).take (L r)), ⟨by simp, fun h0 => ?_⟩, ?_, hl, hcap, ?_⟩
    · obtain ⟨b, off, spot⟩ := x
      have hc0 := (hr 0 (by omega)).1
      have hspot : spot = none := by simpa [Addr.add] using World.cell?_spot hc0
      subst hspot
      refine ⟨b, off, rfl, fun j u hu => ?_⟩
      have hj : j < len := by
        have := (List.getElem?_eq_some_iff.1 hu).1
        simpa using this
      simp [hj] at hu
      subst hu
      have := (hr j (by omega)).1
      rwa [add_plain] at this
    · refine EachS.map fun r hrm => ?_
      have hlt : r < len := by simpa using hrm
      obtain ⟨_, h2, h3, h4, h5, h6, h7⟩ := hr r (by omega)
      refine ⟨A r, C r, by rw [hrow r hlt], sl_u8s (fun h => by have := h6 h; omega) (by omega) h5 (fun a' ha c hc => (h7 a' ha).2 c (by omega))⟩
    · intro l hlm
      obtain ⟨r, hrm, rfl⟩ := List.mem_map.1 hlm
      have hlt : r < len := by simpa using hrm
      rw [hrow r hlt]
      obtain ⟨_, h2, h3, h4, h5, h6, h7⟩ := hr r (by omega)
      cases hA : A r with
      | none => have := h6 hA; omega
      | some a' =>
        have hmem : Deep.intRow .u8 (A r) (L r) (Z r) ∈ (List.range len).map fun r => (Deep.intRow .u8 (A r) (L r) (Z r) : DataW H) := List.mem_map.2 ⟨r, hrm, rfl⟩
        have := List.all_eq_true.1 hs _ (DataW.weights_mem_each ht hd ((Z r).length * 1) (by
          rw [DataW.weights, Tryd.underlying45]
          refine List.mem_cons_of_mem _ (List.mem_append_left _ (weights_all hmem _ ?_))
          rw [hA]
          simp only [Deep.intRow, DataW.weights, Tryd.underlying23, bytesU8]
          refine List.mem_cons.2 (.inl ?_)
          simp [lits]; omega))
        simp [reachBytes] at this
        omega
end Go.Proofs.YtacpbcahmhnhbaaDoor
