/-
  Rows beside a log: what a log's calls leave of them, and what is stored into them leaves the log.
-/
import Derived.Test.YtnbomifnbhijbaaGreatDoorWaS
import Derived.Test.YtnbomifnbhijbaaGreatDoorBr
namespace Go.Proofs.YtnbomifnbhijbaaGreatDoor
open Go.RowKit Go.Maps Num Crc
set_option linter.unusedVariables false

section
variable {w0 w w' : World} {pl pb mb : Nat} {gs gs' : List Gm} {x : Ws}
theorem Wl.foot_lt (h : Wl w0 w pl pb mb gs x) {k : Nat} (hk : wfoot pl pb mb gs k) : k < w.heap.size := by
  rcases hk with rfl | hk
  · exact h.lg.lt
  · exact h.dr.foot_lt hk
/-- What kind of block a log's blocks are. -/
theorem Wl.kind (h : Wl w0 w pl pb mb gs x) {k : Nat} (hk : wfoot pl pb mb gs k) : (∃ es c, w.heap[k]? = some (.map es c)) ∨ ∃ cs t, Blk w k cs t ∧ (t = 73 ∨ t = 70 ∨ t = 111 ∨ t = 5) := by
  rcases hk with rfl | hk
  · exact .inr ⟨_, _, h.lg, .inl rfl⟩
  · rcases h.dr.kind hk with e | ⟨cs, t, h1, h2⟩
    · exact .inl e
    · exact .inr ⟨cs, t, h1, .inr h2⟩
def plainT (e : Nat) : Prop := e ≠ 73 ∧ e ≠ 70 ∧ e ≠ 111 ∧ e ≠ 5
theorem Wl.apart (h : Wl w0 w pl pb mb gs x) {k : Nat} {cs : Array Value} {e : TypeId} (hb : Blk w k cs e) (he : plainT e) : ¬ wfoot pl pb mb gs k := fun hk => by
  unfold Blk at hb
  rcases h.kind hk with ⟨es, c, hm⟩ | ⟨cs', t, hb', ht⟩
  · rw [hb] at hm; cases hm
  · unfold Blk at hb'
    rw [hb] at hb'; injection hb' with hb'; injection hb' with _ h5
    rcases ht with ht | ht | ht | ht <;> rw [ht] at h5
    · exact he.1 h5
    · exact he.2.1 h5
    · exact he.2.2.1 h5
    · exact he.2.2.2 h5
/-- A row of another type than a log's blocks stays. -/
theorem Wl.row {B e n : Nat} {v : Value} {xs : List Value} (h : Wl w0 w pl pb mb gs x) (ho : w.ownsRow B e 1 v n xs) (he : plainT e) (hS : Stp w w' (wfoot pl pb mb gs) (wfoot pl pb mb gs')) : w'.ownsRow B e 1 v n xs :=
  own_at ho fun k hk => by
    obtain ⟨cur, hb⟩ := own_blk_type ho hk
    exact hS.oth.block k hb.lt (h.apart hb he)
/-- A log stays where its blocks do. -/
theorem Wl.stay (h : Wl w0 w pl pb mb gs x) (hk : ∀ k, wfoot pl pb mb gs k → w'.heap[k]? = w.heap[k]?) (hb : Below w0.heap.size w0 w') : Wl w0 w' pl pb mb gs x :=
  ⟨h.lay, hb, h.dr.keep fun k e => hk k (.inr e), h.lg.keep (hk _ (.inl rfl)), h.fs, h.seg1, h.seg2, h.vn, h.lo⟩
/-- An append onto a row that isn't the log's. -/
theorem Wl.grown {B e n : Nat} {v : Value} {xs : List Value} (h : Wl w0 w pl pb mb gs x) (ho : w.ownsRow B e 1 v n xs) (he : plainT e) (hB : w0.heap.size ≤ B) (hg : w.grownBy w' v.ownBlock) : Wl w0 w' pl pb mb gs x := by
  refine h.stay (fun k hk => hg.block k (h.foot_lt hk) fun e => ?_) (h.bel.grown hg h.bel.size fun k e => Nat.le_trans hB (own_blk ho k e))
  obtain ⟨cur, hb⟩ := own_blk_type ho e.symm
  exact h.apart hb he hk
end
theorem plain_int : plainT 3 := by unfold plainT; decide
theorem plain_rows : plainT 36 := by unfold plainT; decide
end Go.Proofs.YtnbomifnbhijbaaGreatDoor
