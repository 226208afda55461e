/-
  What all closings of the log's seats share: the laid variables out of the row's list; a world that holds them; slices of bytes, and of such, opened.
-/
import Derived.Test.YtadkgfhfjagmpaaGreatDoorGWa
import Derived.Test.YtadkgfhfjagmpaaGreatDoorGDa
import Derived.Test.YtadkgfhfjagmpaaGreatDoorCards
import Derived.Test.YtadkgfhfjagmpaaGreatDoorTie
import Derived.OpenShut
import Derived.ShutString
import Derived.ChangeOld
import Derived.Deep.DeepHandedRow
import Derived.Deep.Matrix
import Derived.Lib.LaidTab
import Derived.Stop.LaidErr
import Derived.SevenTiedAt
import Derived.SizedLaws
namespace Go.Proofs.YtadkgfhfjagmpaaGreatDoor
open Go.ChangeShapes Go.WideShapes Go.ChangeAt Go.RowKit
set_option linter.unusedVariables false

theorem ownK : ownKnob Tryz.prog.godebug = none := by kernel_rfl
theorem laidOutK : laidOutB Tryz.prog = true := by kernel_rfl
theorem gTab : Tryz.prog.globalNamed "convoy/frame.sums" = some 0 := by kernel_rfl
theorem gTabType : (Tryz.prog.globals[0]?).map (·.type) = some 218 := by kernel_rfl
theorem cellsTab : Tryz.prog.cellsOf 218 = 16 := by kernel_rfl
theorem cellsU32 : Tryz.prog.cellsOf 173 = 1 := by kernel_rfl
theorem cellsU8 : Tryz.prog.cellsOf 5 = 1 := by kernel_rfl
theorem bytesU8 : Tryz.prog.bytesOf 5 = 1 := by kernel_rfl
def tabInts : List Int := [0, 498536548, 997073096, 651767980, 1994146192, 1802195444, 1303535960, 1342533948, 3988292384, 4027552580, 3604390888, 3412177804, 2607071920, 2262029012, 2685067896, 3183342108]
theorem tabInts_is : ∀ i, i < 16 → tabInts.getD i 0 = ((Crc.stepn 4 i : Nat) : Int) := by decide +kernel
def powInts : List Int := [1, 10, 100, 1000, 10000, 100000, 1000000, 10000000, 100000000, 1000000000, 10000000000, 100000000000, 1000000000000, 10000000000000, 100000000000000, 1000000000000000, 10000000000000000, 100000000000000000, 1000000000000000000, 10000000000000000000]
def d32Ints : List Int := [0, 1, 28, 2, 29, 14, 24, 3, 30, 22, 20, 15, 25, 17, 4, 8, 31, 27, 13, 23, 21, 19, 16, 7, 26, 12, 18, 6, 11, 5, 10, 9]
def d64Ints : List Int := [0, 1, 56, 2, 57, 49, 28, 3, 61, 58, 42, 50, 38, 29, 17, 4, 62, 47, 59, 36, 45, 43, 51, 22, 53, 39, 33, 30, 24, 18, 12, 5, 63, 55, 48, 27, 60, 41, 37, 16, 46, 35, 44, 21, 52, 32, 23, 11, 54, 26, 40, 15, 34, 20, 31, 10, 25, 14, 19, 9, 13, 8, 7, 6]
theorem gPow : Tryz.prog.globalNamed "internal/strconv.uint64pow10" = some 3 := by kernel_rfl
theorem gPowType : (Tryz.prog.globals[3]?).map (·.type) = some 285 := by kernel_rfl
theorem cellsPow : Tryz.prog.cellsOf 285 = 20 := by kernel_rfl
theorem cellsU64 : Tryz.prog.cellsOf 139 = 1 := by kernel_rfl
theorem gES : Tryz.prog.globalNamed "strconv.ErrSyntax" = some 1 := by kernel_rfl
theorem gESType : (Tryz.prog.globals[1]?).map (·.type) = some 199 := by kernel_rfl
theorem gER : Tryz.prog.globalNamed "strconv.ErrRange" = some 2 := by kernel_rfl
theorem gERType : (Tryz.prog.globals[2]?).map (·.type) = some 199 := by kernel_rfl
theorem cellsErr : Tryz.prog.cellsOf 292 = 1 := by kernel_rfl
theorem cellsStr : Tryz.prog.cellsOf 9 = 1 := by kernel_rfl
theorem starErr : "*" ++ "errors.errorString" = "*errors.errorString" := by decide
theorem rowErr (u : TypeId) (h : Tryz.prog.typeName? 3 u = some "*errors.errorString") : u = 290 :=
  typeName_ptr_named (nm := "errors.errorString") (by rw [starErr]; kernel_rfl) (by kernel_rfl) (by decide) u (by rw [starErr]; exact h)
abbrev theLaid : List (String × DataW Unit) := [("math/bits.deBruijn32tab", Rows.laid_math_bits_deBruijn32tab), ("math/bits.deBruijn64tab", Rows.laid_math_bits_deBruijn64tab), ("internal/strconv.uint64pow10", Rows.laid_internal_strconv_uint64pow10), ("strconv.ErrRange", Rows.laid_strconv_ErrRange), ("strconv.ErrSyntax", Rows.laid_strconv_ErrSyntax), ("convoy/frame.sums", Rows.laid_convoy_frame_sums)]
theorem laid_of {W : World} (h0 : laidMetH Tryz.prog theLaid W) : WL W := by
  have h : laidMet Tryz.prog theLaid W := h0
  have h2 := h.tail.tail
  have h3 := h2.tail
  have h4 := h3.tail
  have h5 := h4.tail
  have hp : Lib.TabIs Tryz.prog W "internal/strconv.uint64pow10" .u64 powInts := Lib.tabIs_of_head gPow gPowType Tryz.underlying285 Tryz.underlying139 cellsU64 cellsPow h2
  have ht : Lib.TabIs Tryz.prog W "convoy/frame.sums" .u32 tabInts := Lib.tabIs_of_head gTab gTabType Tryz.underlying218 Tryz.underlying173 cellsU32 cellsTab h5
  obtain ⟨a0, s0, hv0, -, -, -⟩ := laid_sentinel h3 gER gERType Tryz.underlying199 rowErr Tryz.underlying290 Tryz.underlying292 rfl rfl Tryz.underlying9 cellsErr cellsStr
  obtain ⟨a1, s1, hv1, -, -, -⟩ := laid_sentinel h4 gES gESType Tryz.underlying199 rowErr Tryz.underlying290 Tryz.underlying292 rfl rfl Tryz.underlying9 cellsErr cellsStr
  refine ⟨fun i hi => ?_, ?_, ⟨_, _, hv1⟩, ⟨_, _, hv0⟩⟩
  · have := ht.cell gTab i hi
    rw [tabInts_is i hi] at this
    exact this
  · rwa [show Lib.pow10Tab = powInts from by decide +kernel]

/-- A world that holds the laid variables. -/
noncomputable def low : Nat := (World.holding Tryz.prog default ⟨#[], #[], []⟩).heap.size
def setC (v : Array Value) : Obj → Obj
  | .cells _ t frozen => .cells v t frozen
  | o => o
abbrev rangeS : ByteArray := { data := #[118, 97, 108, 117, 101, 32, 111, 117, 116, 32, 111, 102, 32, 114, 97, 110, 103, 101] }
abbrev syntaxS : ByteArray := { data := #[105, 110, 118, 97, 108, 105, 100, 32, 115, 121, 110, 116, 97, 120] }
noncomputable def laidWorld (os : Os) : World :=
  let w0 := World.holding Tryz.prog os ⟨#[.cells #[.string rangeS] 292, .cells #[.string syntaxS] 292], #[], []⟩
  { w0 with heap := (((((w0.heap.modify 0 (setC (tabInts.map (Value.int .u32)).toArray)).modify 1 (setC #[.iface 290 (.pointer (some ⟨low + 1, 0, none⟩))])).modify 2 (setC #[.iface 290 (.pointer (some ⟨low, 0, none⟩))])).modify 3 (setC (powInts.map (Value.int .u64)).toArray)).modify 4 (setC (d32Ints.map (Value.int .u8)).toArray)).modify 5 (setC (d64Ints.map (Value.int .u8)).toArray) }

/-- A slice of bytes, opened: nil or not: what it holds, and what it reads as. -/
theorem open_bytes {H : Type} {enc : TypeId × Value → H} {W : World} {base : Nat} {a : Option Addr} {len cap : Nat} {d : DataW H} {p : List MemPlace}
    (hj : DataW.Trod enc Tryz.prog W base (fun _ => true) true 28 (Value.slice a len cap) d p) :
    ∃ (l : List UInt8), Sl W a len (bv l) ∧ len ≤ cap ∧ ((d = .nil ∧ cap = 0) ∨ ∃ es rs : List (DataW H), d = .slice es rs ∧ es.length + rs.length = cap) := by
  obtain ⟨fuel, hf⟩ := hj
  rcases open_ints Tryz.underlying28 Tryz.underlying5 cellsU8 hf with ⟨hcs, hx⟩ | ⟨x, ln, c, zs, hcs, _, hl, hm, hz, hx, hcell, hwz⟩
  · simp [Value.cells] at hcs
    obtain ⟨rfl, rfl, rfl⟩ := hcs
    injection hx with h1 _
    exact ⟨[], Sl.none_ W none, Nat.le_refl _, .inl ⟨h1, rfl⟩⟩
  · simp [Value.cells] at hcs
    obtain ⟨rfl, rfl, rfl⟩ := hcs
    injection hx with h1 _
    have hz' : zs.length = cap := by simpa using hz
    refine ⟨(zs.take len).map fun z => UInt8.ofNat z.toNat, ⟨by rw [bv_len]; simp; omega, fun h0 => ?_⟩, hl, .inr ⟨_, _, h1, by simp [lits]; omega⟩⟩
    obtain ⟨b, off, spot⟩ := x
    have hc0 := hcell 0 (by omega)
    have hspot : spot = none := by simpa [Addr.add] using World.cell?_spot hc0
    subst hspot
    refine ⟨b, off, rfl, fun j u hu => ?_⟩
    have hj : j < len := by
      have := (List.getElem?_eq_some_iff.1 hu).1
      rw [bv_len] at this; simp at this; omega
    have hcj := hcell j (by omega)
    rw [add_plain] at hcj
    have hzj : j < zs.length := by omega
    have hw := hwz (zs[j]) (List.getElem_mem hzj)
    have hb : 0 ≤ zs[j] ∧ zs[j] < 256 := by
      simp [Lit.wf, IntKind.min, IntKind.max, IntKind.bits, IntKind.signed] at hw
      omega
    have hlj : j < ((zs.take len).map fun z => UInt8.ofNat z.toNat).length := by simp; omega
    rw [bv_get hlj] at hu
    injection hu with hu
    rw [hcj, ← hu]
    simp [List.getD, hzj, UInt8.toNat_ofNat']
    omega
/-- Its capacity is within the form's reach. -/
theorem cap_le {H : Type} {ts : List TypeId} {ds : List (DataW H)} (h : (DataW.weightsEach Tryz.prog ts ds).all (· ≤ reachBytes) = true) {j : Nat} {d : DataW H} {cap : Nat} (ht : ts[j]? = some 28) (hd : ds[j]? = some d)
    (hc : (d = .nil ∧ cap = 0) ∨ ∃ es rs : List (DataW H), d = .slice es rs ∧ es.length + rs.length = cap) : cap ≤ 140737488351232 := by
  rcases hc with ⟨_, rfl⟩ | ⟨es, rs, rfl, hl⟩
  · omega
  · have := sized_slice h ht hd Tryz.underlying28
    rw [bytesU8] at this
    simp only [reachBytes] at this
    omega
/-- A uint64, opened. -/
theorem u64_nat {x : Int} (h : (Lit.int .u64 x).wf = true) : ∃ n : Nat, x = (n : Int) ∧ n < 18446744073709551616 := by
  simp [Lit.wf, IntKind.min, IntKind.max, IntKind.bits, IntKind.signed] at h
  exact ⟨x.toNat, by omega, by omega⟩
theorem i64_bounds {x : Int} (h : (Lit.int .i64 x).wf = true) : -9223372036854775808 ≤ x ∧ x ≤ 9223372036854775807 := by
  simp [Lit.wf, IntKind.min, IntKind.max, IntKind.bits, IntKind.signed] at h
  omega
theorem upto_le {H : Type} {ds : List (DataW H)} (h : Rows.uptoSmall H ds = true) : Rows.uptoBulkAll ds ≤ 1048576 := of_decide_eq_true h
theorem bulk_pos {H : Type} (d : DataW H) : 1 ≤ Rows.uptoBulk d := by
  cases d with
  | lit x => cases x <;> simp [Rows.uptoBulk]
  | _ => simp [Rows.uptoBulk]
theorem bulk_len {H : Type} (ds : List (DataW H)) : ds.length ≤ Rows.uptoBulkAll ds := by
  induction ds with
  | nil => simp
  | cons d r ih =>
    have := bulk_pos d
    simp only [List.length_cons, Rows.uptoBulkAll]; omega
theorem cap_bulk {H : Type} {d : DataW H} {cap : Nat} (hc : (d = .nil ∧ cap = 0) ∨ ∃ es rs : List (DataW H), d = .slice es rs ∧ es.length + rs.length = cap) : cap ≤ Rows.uptoBulk d := by
  rcases hc with ⟨_, rfl⟩ | ⟨es, rs, rfl, hl⟩
  · omega
  · have h1 := bulk_len es
    have h2 := bulk_len rs
    simp only [Rows.uptoBulk]; omega
theorem ops_arg {H : Type} {ts : List TypeId} {ds : List (DataW H)} {j : Nat} {t : TypeId} {d : DataW H} (hs : (DataW.weightsEach Tryz.prog ts ds).all (· ≤ reachBytes) = true) (ht : ts[j]? = some t) (hd : ds[j]? = some d) :
    ∀ m ∈ d.weights Tryz.prog t, m ≤ reachBytes := fun m hm => by
  have := List.all_eq_true.1 hs _ (DataW.weights_mem_each ht hd m hm)
  simpa using this
theorem weights_all {H : Type} {P : Program} {e : TypeId} : ∀ {ds : List (DataW H)} {d : DataW H}, d ∈ ds → ∀ n ∈ d.weights P e, n ∈ DataW.weightsAll P e ds
  | [], d, h, _, _ => by cases h
  | d0 :: ds, d, h, n, hn => by
    simp only [DataW.weightsAll, List.mem_append]
    rcases List.mem_cons.1 h with rfl | h
    · exact .inl hn
    · exact .inr (weights_all h n hn)
theorem cellsRowB : Tryz.prog.cellsOf 28 = 1 := by kernel_rfl
theorem bytesRowB : Tryz.prog.bytesOf 28 = 24 := by kernel_rfl
theorem sl_u8 {W : World} {A : Option Addr} {L : Nat} {zs : List Int} (hA : A = none → L = 0) (hL : L ≤ zs.length) (hwz : ∀ n ∈ zs, (Lit.int .u8 n).wf = true)
    (hcell : ∀ a', A = some a' → ∀ c, c < L → W.cell? (a'.add c) = some (.int .u8 (zs.getD c 0))) : Sl W A ((zs.take L).map fun z => UInt8.ofNat z.toNat).length (bv ((zs.take L).map fun z => UInt8.ofNat z.toNat)) := by
  have hlen : ((zs.take L).map fun z => UInt8.ofNat z.toNat).length = L := by simp; omega
  rw [hlen]
  refine ⟨by rw [bv_len, hlen], fun h0 => ?_⟩
  cases A with
  | none => have := hA rfl; omega
  | some x =>
    obtain ⟨b, off, spot⟩ := x
    have hc0 := hcell _ rfl 0 (by omega)
    have hspot : spot = none := by simpa [Addr.add] using World.cell?_spot hc0
    subst hspot
    refine ⟨b, off, rfl, fun j u hu => ?_⟩
    have hj : j < L := by
      have := (List.getElem?_eq_some_iff.1 hu).1
      rw [bv_len] at this; omega
    have hcj := hcell _ rfl j hj
    rw [add_plain] at hcj
    have hzj : j < zs.length := by omega
    have hw := hwz (zs[j]) (List.getElem_mem hzj)
    have hb : 0 ≤ zs[j] ∧ zs[j] < 256 := by
      simp [Lit.wf, IntKind.min, IntKind.max, IntKind.bits, IntKind.signed] at hw
      omega
    have hlj : j < ((zs.take L).map fun z => UInt8.ofNat z.toNat).length := by omega
    rw [bv_get hlj] at hu
    injection hu with hu
    rw [hcj, ← hu]
    simp [List.getD, hzj, UInt8.toNat_ofNat']
    omega
/-- A slice of bytes in a cell, opened. -/
theorem bytes_of {H : Type} {enc : TypeId × Value → H} {W : World} {base n : Nat} {v : Value} {y : DataW H × List MemPlace}
    (h : DataW.trod enc Tryz.prog W base (fun _ => true) true n 28 [v] = some y) (hw : ∀ m ∈ y.1.weights Tryz.prog 28, m ≤ reachBytes) :
    ∃ (A : Option Addr) (l : List UInt8) (c : Nat), v = .slice A l.length c ∧ Sl W A l.length (bv l) ∧ l.length ≤ c ∧ c ≤ 140737488351232 := by
  rcases open_ints Tryz.underlying28 Tryz.underlying5 cellsU8 h with ⟨hcs, hx⟩ | ⟨x, len, cap, zs, hcs, _, hl, hm, hz, hx, hcell, hwz⟩
  · simp at hcs
    subst hcs
    exact ⟨none, [], 0, rfl, Sl.none_ W none, Nat.le_refl _, Nat.zero_le _⟩
  · simp at hcs
    subst hcs
    subst hx
    have hz' : zs.length = cap := by simpa using hz
    have hcap : cap ≤ 140737488351232 := by
      have := hw ((zs.take len).length * 1 + (zs.drop len).length * 1) (by simp [DataW.weights, Tryz.underlying28, bytesU8, lits])
      simp [reachBytes] at this
      omega
    have hll : ((zs.take len).map fun z => UInt8.ofNat z.toNat).length = len := by simp; omega
    refine ⟨some x, (zs.take len).map fun z => UInt8.ofNat z.toNat, cap, by rw [hll], ?_, by omega, hcap⟩
    rw [hll]
    refine ⟨by rw [bv_len, hll], fun h0 => ?_⟩
    obtain ⟨b, off, spot⟩ := x
    have hc0 := hcell 0 (by omega)
    have hspot : spot = none := by simpa [Addr.add] using World.cell?_spot hc0
    subst hspot
    refine ⟨b, off, rfl, fun j u hu => ?_⟩
    have hj : j < len := by
      have := (List.getElem?_eq_some_iff.1 hu).1
      rw [bv_len] at this; omega
    have hcj := hcell j (by omega)
    rw [add_plain] at hcj
    have hzj : j < zs.length := by omega
    have hw := hwz (zs[j]) (List.getElem_mem hzj)
    have hb : 0 ≤ zs[j] ∧ zs[j] < 256 := by
      simp [Lit.wf, IntKind.min, IntKind.max, IntKind.bits, IntKind.signed] at hw
      omega
    have hlj : j < ((zs.take len).map fun z => UInt8.ofNat z.toNat).length := by omega
    rw [bv_get hlj] at hu
    injection hu with hu
    rw [hcj, ← hu]
    simp [List.getD, hzj, UInt8.toNat_ofNat']
    omega
theorem open_bytes1 {H : Type} {enc : TypeId × Value → H} {W : World} {base : Nat} {a : Option Addr} {len cap : Nat} {d : DataW H} {p : List MemPlace}
    (hj : DataW.Trod enc Tryz.prog W base (fun _ => true) true 28 (Value.slice a len cap) d p) (hw : ∀ m ∈ d.weights Tryz.prog 28, m ≤ reachBytes) : ∃ l, Sl W a len (bv l) ∧ len ≤ cap ∧ len ≤ 140737488351232 := by
  obtain ⟨fuel, hf⟩ := hj
  obtain ⟨A, l, c, e, hs, hc, hm⟩ := bytes_of (v := .slice a len cap) (y := (d, p)) hf hw
  injection e with e1 e2 e3
  subst e1 e2 e3
  exact ⟨l, hs, hc, by omega⟩
theorem open_rows1 {H : Type} {enc : TypeId × Value → H} {W : World} {base : Nat} {a : Option Addr} {len cap : Nat} {d : DataW H} {p : List MemPlace}
    (hj : DataW.Trod enc Tryz.prog W base (fun _ => true) true 23 (Value.slice a len cap) d p) (hw : ∀ m ∈ d.weights Tryz.prog 23, m ≤ reachBytes) :
    ∃ bs, Br W a len bs ∧ len ≤ cap ∧ len ≤ 140737488351232 ∧ ∀ l ∈ bs, l.length ≤ 140737488355328 := by
  obtain ⟨fuel, hf⟩ := hj
  rcases Deep.open_int_rows Tryz.underlying23 Tryz.underlying28 Tryz.underlying5 cellsRowB cellsU8 hf with ⟨hcs, hx⟩ | ⟨x, ln, c, A, L, C, Z, hcs, _, hl, hm, hx, hr⟩
  · simp [Value.cells] at hcs
    obtain ⟨rfl, rfl, rfl⟩ := hcs
    exact ⟨[], Br.none_ W, Nat.le_refl _, Nat.zero_le _, by simp⟩
  · simp [Value.cells] at hcs
    obtain ⟨rfl, rfl, rfl⟩ := hcs
    injection hx with h1 _
    subst h1
    have hcap : len ≤ 140737488351232 := by
      have := hw (cap * 24) (by rw [DataW.weights, Tryz.underlying23]; simp only [bytesRowB]; refine List.mem_cons.2 (.inl ?_); simp; omega)
      simp [reachBytes] at this
      omega
    have hrow : ∀ r, r < len → (((Z r).take (L r)).map fun z => UInt8.ofNat z.toNat).length = L r := fun r h => by
      obtain ⟨_, h2, _, h3, _⟩ := hr r (by omega)
      simp; omega
    refine ⟨(List.range len).map fun r => ((Z r).take (L r)).map fun z => UInt8.ofNat z.toNat, ⟨by simp, fun h0 => ?_⟩, hl, hcap, ?_⟩
    · obtain ⟨b, off, spot⟩ := x
      have hc0 := (hr 0 (by omega)).1
      have hspot : spot = none := by simpa [Addr.add] using World.cell?_spot hc0
      subst hspot
      refine ⟨b, off, rfl, fun i l hil => ?_⟩
      have hi : i < len := by
        have := (List.getElem?_eq_some_iff.1 hil).1
        simpa using this
      simp [hi] at hil
      subst hil
      obtain ⟨g1, h2, h3, h4, h5, h6, h7⟩ := hr i (by omega)
      have hsl := sl_u8 (A := A i) (L := L i) (zs := Z i) (fun h => by have := h6 h; omega) (by omega) h5 (fun a' ha c hc => (h7 a' ha).2 c (by omega))
      have hrw := hrow i hi
      simp only [List.map_take] at hsl hrw
      refine ⟨A i, C i, ?_, hsl, by omega⟩
      rw [hrw, ← add_plain]
      exact g1
    · intro l hlm
      obtain ⟨r, hrm, rfl⟩ := List.mem_map.1 hlm
      have hlt : r < len := by simpa using hrm
      rw [hrow r hlt]
      obtain ⟨_, h2, h3, h4, h5, h6, h7⟩ := hr r (by omega)
      cases hA : A r with
      | none => have := h6 hA; omega
      | some a' =>
        have hmem : Deep.intRow .u8 (A r) (L r) (Z r) ∈ (List.range len).map fun r => (Deep.intRow .u8 (A r) (L r) (Z r) : DataW H) := List.mem_map.2 ⟨r, hrm, rfl⟩
        have := hw ((Z r).length * 1) (by
          rw [DataW.weights, Tryz.underlying23]
          refine List.mem_cons_of_mem _ (List.mem_append_left _ (weights_all hmem _ ?_))
          rw [hA]
          simp only [Deep.intRow, DataW.weights, Tryz.underlying28, bytesU8]
          refine List.mem_cons.2 (.inl ?_)
          simp [lits]; omega)
        simp [reachBytes] at this
        omega
end Go.Proofs.YtadkgfhfjagmpaaGreatDoor
