/-
  Contracts of the readers of texts.
-/
import Derived.Test.YtnbomifnbhijbaaGreatDoorFrameB
namespace Go.Proofs.YtnbomifnbhijbaaGreatDoor
open Go.RowKit Num

theorem take_bv (l : List UInt8) (k : Nat) : (bv l).take k = bv (l.take k) := by simp [bv]
theorem drop_bv (l : List UInt8) (k : Nat) : (bv l).drop k = bv (l.drop k) := by simp [bv]

/-- A window of a slice of bytes. -/
theorem Sl.win {w : World} {b o n : Nat} {l : List UInt8} (h : Sl w (some ⟨b, o, none⟩) n (bv l)) {i j : Nat} (hij : i ≤ j) (hj : j ≤ n) : Sl w (some ⟨b, o + i, none⟩) (j - i) (bv ((l.drop i).take (j - i))) := by
  have h1 := (h.drop (k := i) (by omega) (some ⟨b, o + i, none⟩) (by rintro _ b' o' e; injection e with e; injection e with e1 e2; subst e1 e2; rfl)).take (k := j - i) (by omega)
  rwa [drop_bv, take_bv] at h1

end Go.Proofs.YtnbomifnbhijbaaGreatDoor
