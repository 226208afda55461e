/-
  The fixed fact that each statement of layer 1 begins with: 'awake' answers true.
-/
import Derived.Test.YtadkgfhfjagmpaaGreatDoorFrameE
import Derived.Lib.SlBytesConst
namespace Go.Proofs.YtadkgfhfjagmpaaGreatDoor
open Go.RowKit Num Crc

theorem aw_tu : tu [172, 2, 9] = (300, 2) := by decide +kernel
theorem aw_sum : Crc.sum [49, 50, 51, 52, 53, 54, 55, 56, 57] = 3421780262 := by decide +kernel
theorem aw_seal : seal_ [] = [0, 0, 0, 0, 0] := by
  have h : Crc.sum [] = 0 := by decide +kernel
  unfold seal_
  rw [h, show ([] : List UInt8).length = 0 from rfl, vint_small (by omega)]
  rfl
theorem aw_text : vint 2 ++ [97, 98] = [2, 97, 98] := by rw [vint_small (by omega)]; rfl

end Go.Proofs.YtadkgfhfjagmpaaGreatDoor
