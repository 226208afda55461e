/-
  What all closings of this seat share: the table's cells out of the row's list; a world that holds it; a slice of bytes opened.
-/
import Derived.Test.YtacpbcahmhnhbaaDoorAwake
import Derived.Test.YtacpbcahmhnhbaaDoorCards
import Derived.Test.YtacpbcahmhnhbaaDoorTie
import Derived.OpenShut
import Derived.ShutString
import Derived.ChangeOld
import Derived.Deep.DeepHandedRow
import Derived.Lib.LaidTab
import Derived.SevenTiedAt
import Derived.SizedLaws
namespace Go.Proofs.YtacpbcahmhnhbaaDoor
open Go.ChangeShapes Go.WideShapes Go.ChangeAt Go.RowKit

theorem ownK : ownKnob Tryd.prog.godebug = none := by kernel_rfl
theorem laidOutK : laidOutB Tryd.prog = true := by kernel_rfl
theorem gTab : Tryd.prog.globalNamed "convoy/frame.sums" = some 0 := by kernel_rfl
theorem gTabType : (Tryd.prog.globals[0]?).map (·.type) = some 54 := by kernel_rfl
theorem cellsTab : Tryd.prog.cellsOf 54 = 16 := by kernel_rfl
theorem cellsU32 : Tryd.prog.cellsOf 34 = 1 := by kernel_rfl
theorem cellsU8 : Tryd.prog.cellsOf 5 = 1 := by kernel_rfl
theorem bytesU8 : Tryd.prog.bytesOf 5 = 1 := by kernel_rfl
def tabInts : List Int := [0, 498536548, 997073096, 651767980, 1994146192, 1802195444, 1303535960, 1342533948, 3988292384, 4027552580, 3604390888, 3412177804, 2607071920, 2262029012, 2685067896, 3183342108]
theorem tabInts_is : ∀ i, i < 16 → tabInts.getD i 0 = ((Crc.stepn 4 i : Nat) : Int) := by decide +kernel
theorem laid_of {W : World} (h : laidMetH Tryd.prog [("convoy/frame.sums", Rows.laid_convoy_frame_sums)] W) : Laid W := fun i hi => by
  have ht : Lib.TabIs Tryd.prog W "convoy/frame.sums" .u32 tabInts := Lib.tabIs_of_head (rest := []) gTab gTabType Tryd.underlying54 Tryd.underlying34 cellsU32 cellsTab h
  have := ht.cell gTab i hi
  rw [tabInts_is i hi] at this
  exact this

/-- A world that holds the table. -/
noncomputable def laidWorld (os : Os) : World :=
  { World.holding Tryd.prog os ⟨#[], #[], []⟩ with heap := (World.holding Tryd.prog os ⟨#[], #[], []⟩).heap.modify 0 fun
      | .cells _ t frozen => .cells (tabInts.map (Value.int .u32)).toArray t frozen
      | o => o }

/-- A slice of bytes, opened: nil or not: what it holds, and what it reads as. -/
theorem open_bytes {H : Type} {enc : TypeId × Value → H} {W : World} {base : Nat} {a : Option Addr} {len cap : Nat} {d : DataW H} {p : List MemPlace}
    (hj : DataW.Trod enc Tryd.prog W base (fun _ => true) true 23 (Value.slice a len cap) d p) :
    ∃ (l : List UInt8), Sl W a len (bv l) ∧ len ≤ cap ∧ ((d = .nil ∧ cap = 0) ∨ ∃ es rs : List (DataW H), d = .slice es rs ∧ es.length + rs.length = cap) := by
  obtain ⟨fuel, hf⟩ := hj
  rcases open_ints Tryd.underlying23 Tryd.underlying5 cellsU8 hf with ⟨hcs, hx⟩ | ⟨x, ln, c, zs, hcs, _, hl, hm, hz, hx, hcell, hwz⟩
  · simp [Value.cells] at hcs
    obtain ⟨rfl, rfl, rfl⟩ := hcs
    injection hx with h1 _
    exact ⟨[], Sl.none_ W none, Nat.le_refl _, .inl ⟨h1, rfl⟩⟩
  · simp [Value.cells] at hcs
    obtain ⟨rfl, rfl, rfl⟩ := hcs
    injection hx with h1 _
    have hz' : zs.length = cap := by simpa using hz
    refine ⟨(zs.take len).map fun z => UInt8.ofNat z.toNat, ⟨by rw [bv_len]; simp; omega, fun h0 => ?_⟩, hl, .inr ⟨_, _, h1, by simp [lits]; omega⟩⟩
    obtain ⟨b, off, spot⟩ := x
    have hc0 := hcell 0 (by omega)
    have hspot : spot = none := by simpa [Addr.add] using World.cell?_spot hc0
    subst hspot
    refine ⟨b, off, rfl, fun j u hu => ?_⟩
    have hj : j < len := by
      have := (List.getElem?_eq_some_iff.1 hu).1
      rw [bv_len] at this; simp at this; omega
    have hcj := hcell j (by omega)
    rw [add_plain] at hcj
    have hzj : j < zs.length := by omega
    have hw := hwz (zs[j]) (List.getElem_mem hzj)
    have hb : 0 ≤ zs[j] ∧ zs[j] < 256 := by
      simp [Lit.wf, IntKind.min, IntKind.max, IntKind.bits, IntKind.signed] at hw
      omega
    have hlj : j < ((zs.take len).map fun z => UInt8.ofNat z.toNat).length := by simp; omega
    rw [bv_get hlj] at hu
    injection hu with hu
    rw [hcj, ← hu]
    simp [List.getD, hzj, UInt8.toNat_ofNat']
    omega
/-- Its capacity is within the form's reach. -/
theorem cap_le {H : Type} {ts : List TypeId} {ds : List (DataW H)} (h : (DataW.weightsEach Tryd.prog ts ds).all (· ≤ reachBytes) = true) {j : Nat} {d : DataW H} {cap : Nat} (ht : ts[j]? = some 23) (hd : ds[j]? = some d)
    (hc : (d = .nil ∧ cap = 0) ∨ ∃ es rs : List (DataW H), d = .slice es rs ∧ es.length + rs.length = cap) : cap ≤ 140737488351232 := by
  rcases hc with ⟨_, rfl⟩ | ⟨es, rs, rfl, hl⟩
  · omega
  · have := sized_slice h ht hd Tryd.underlying23
    rw [bytesU8] at this
    simp only [reachBytes] at this
    omega
/-- A uint64, opened. -/
theorem u64_nat {x : Int} (h : (Lit.int .u64 x).wf = true) : ∃ n : Nat, x = (n : Int) ∧ n < 18446744073709551616 := by
  simp [Lit.wf, IntKind.min, IntKind.max, IntKind.bits, IntKind.signed] at h
  exact ⟨x.toNat, by omega, by omega⟩
theorem i64_bounds {x : Int} (h : (Lit.int .i64 x).wf = true) : -9223372036854775808 ≤ x ∧ x ≤ 9223372036854775807 := by
  simp [Lit.wf, IntKind.min, IntKind.max, IntKind.bits, IntKind.signed] at h
  omega
theorem upto_le {H : Type} {ds : List (DataW H)} (h : Rows.uptoSmall H ds = true) : Rows.uptoBulkAll ds ≤ 1048576 := of_decide_eq_true h
theorem bulk_pos {H : Type} (d : DataW H) : 1 ≤ Rows.uptoBulk d := by
  cases d with
  | lit x => cases x <;> simp [Rows.uptoBulk]
  | _ => simp [Rows.uptoBulk]
theorem bulk_len {H : Type} (ds : List (DataW H)) : ds.length ≤ Rows.uptoBulkAll ds := by
  induction ds with
  | nil => simp
  | cons d r ih =>
    have := bulk_pos d
    simp only [List.length_cons, Rows.uptoBulkAll]; omega
theorem cap_bulk {H : Type} {d : DataW H} {cap : Nat} (hc : (d = .nil ∧ cap = 0) ∨ ∃ es rs : List (DataW H), d = .slice es rs ∧ es.length + rs.length = cap) : cap ≤ Rows.uptoBulk d := by
  rcases hc with ⟨_, rfl⟩ | ⟨es, rs, rfl, hl⟩
  · omega
  · have h1 := bulk_len es
    have h2 := bulk_len rs
    simp only [Rows.uptoBulk]; omega
end Go.Proofs.YtacpbcahmhnhbaaDoor
