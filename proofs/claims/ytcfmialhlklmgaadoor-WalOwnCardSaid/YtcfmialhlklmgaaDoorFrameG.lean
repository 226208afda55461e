/-
  Contract of the reference's Take.
-/
import Derived.Test.YtcfmialhlklmgaaDoorFrameF
namespace Go.Proofs.YtcfmialhlklmgaaDoor
open Go.RowKit Num Crc

theorem take_three (l : List UInt8) (K N : Nat) : l.take (K + 4 + N) = l.take K ++ ((l.drop K).take 4 ++ (l.drop (K + 4)).take N) := by
  rw [Nat.add_assoc, List.take_add, List.take_add, List.drop_drop]
theorem seal_front {l : List UInt8} {K N : Nat} (hv : vint N = l.take K) (hl : K + 4 + N ≤ l.length) :
    (seal_ ((l.drop (K + 4)).take N) = l.take (K + 4 + N)) ↔ (l.drop K).take 4 = sumle (Crc.sum ((l.drop (K + 4)).take N)) := by
  have hp : ((l.drop (K + 4)).take N).length = N := by rw [List.length_take, List.length_drop]; omega
  unfold seal_
  rw [hp, hv, take_three]
  constructor
  · intro h
    have h2 := List.append_cancel_left h
    exact (List.append_cancel_right h2).symm
  · intro h
    rw [h]

theorem Sl.zero {w : World} {A : Option Addr} {m : Nat} {p : List UInt8} (hm : m = 0) (hp : p = []) : Sl w A m (bv p) := by
  subst hm hp; exact Sl.none_ w A

/-- What the reference's Take answers. -/
def RefTakePost (w : World) (q : List UInt8) (n : Nat) (e : Ending) (w' : World) : Prop :=
  ∃ A c, e = .returned (.tuple #[.slice A q.length c, .int .i64 n]) ∧ w'.ownsRow w.heap.size 5 1 (.slice A q.length c) q.length (bv q) ∧ Below w.heap.size w w'
theorem RefTakePost.no {w w' : World} (h : Below w.heap.size w w') : RefTakePost w [] 0 (.returned (.tuple #[.slice none 0 0, .int .i64 0])) w' :=
  ⟨none, 0, rfl, World.ownsRow_nil _ _ _ _, h⟩

end Go.Proofs.YtcfmialhlklmgaaDoor
