/-
  The contract of the library on a copy of a text, at this program (laid by the kit's own program).
-/
import Derived.Test.YtjlebmpgjliacaaProg
import Derived.Shelf.Pu.Clone
import Derived.Ground.MpProg
import Derived.WalkKit
import Derived.ProofKit
namespace Go.Proofs.Ytjlebmpgjliacaa
open Go.Shelf Go.RowKit
def Try.clone27_ren : Go.Shelf.Ren := ⟨fun | 25 => 27 | n => n, fun | 9 => 9 | 3 => 3 | 4 => 4 | 37 => 66 | 0 => 0 | 47 => 67 | 5 => 5 | n => n, fun | n => n⟩
theorem Try.clone27 : Go.Proofs.LaysPu.n25 Try.prog Try.clone27_ren := {
  mixed := by kernel_rfl
  f25 := Try.func27.trans (congrArg some (by kernel_rfl))
  t0 := Try.underlying0
  a0 := Try.isAgg0
  z0 := Try.sizeOf0
  v0 := Try.zeroValue0
  i0 := by kernel_rfl
  t3 := Try.underlying3
  a3 := Try.isAgg3
  z3 := Try.sizeOf3
  v3 := Try.zeroValue3
  i3 := by kernel_rfl
  t4 := Try.underlying4
  a4 := Try.isAgg4
  z4 := Try.sizeOf4
  v4 := Try.zeroValue4
  i4 := by kernel_rfl
  t5 := Try.underlying5
  a5 := Try.isAgg5
  z5 := Try.sizeOf5
  v5 := Try.zeroValue5
  i5 := by kernel_rfl
  t9 := Try.underlying9
  a9 := Try.isAgg9
  z9 := Try.sizeOf9
  v9 := Try.zeroValue9
  i9 := by kernel_rfl
  t37 := Try.underlying66
  a37 := Try.isAgg66
  z37 := Try.sizeOf66
  v37 := Try.zeroValue66
  i37 := by kernel_rfl
  t47 := Try.underlying67
  a47 := Try.isAgg67
  z47 := Try.sizeOf67
  v47 := Try.zeroValue67
  i47 := by kernel_rfl }
/-- A text's copy is the text. -/
theorem str_clone (s : ByteArray) (w : World) (hlim : s.size ≤ 281474976710656) : Calls Try.prog 27 #[.string s] w fun e w' => e = .returned (.string s) ∧ Below w.heap.size w w' :=
  AnyPu.stringslite_Clone Try.clone27 s w hlim

end Go.Proofs.Ytjlebmpgjliacaa
