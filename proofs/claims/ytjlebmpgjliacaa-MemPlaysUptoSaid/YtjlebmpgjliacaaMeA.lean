/-
  A skip list in memory: a table's struct and its nodes'; where a search stands.
-/
import Derived.Test.YtjlebmpgjliacaaDrA
import Derived.Deep.RegionHeldLaw
namespace Go.Proofs.Ytjlebmpgjliacaa
open Go.RowKit
set_option linter.unusedVariables false

structure En where
  key : List UInt8
  seq : Int
  del : Bool
  val : List UInt8
structure Nd where
  e : En
  num : Int
  blk : Nat
  h : Nat
/-- Does an entry come ahead of this key and number? -/
def En.ahead (e : En) (key : List UInt8) (seq : Int) : Bool := bytesBefore e.key key || (e.key == key && decide (seq < e.seq))
theorem bless_eq : ∀ (a b : List UInt8), Op.bytesLess a b = bytesBefore a b
  | [], [] => rfl
  | [], _ :: _ => rfl
  | _ :: _, [] => rfl
  | a :: r, b :: s => by
    have := bless_eq r s
    simp only [bytesBefore]
    unfold Op.bytesLess
    first
      | rw [this]
      | (simp only [this])
def ec (e : En) : List Value := [.string (str e.key), .int .i64 e.seq, .bool e.del, .string (str e.val)]
def pnt : Option Nd → Value
  | some n => .pointer (some ⟨n.blk, 0, none⟩)
  | none => .pointer none
/-- The height of the tower at a position; 0 is the head's. -/
def hp (N : List Nd) : Nat → Nat
  | 0 => 12
  | i + 1 => match N[i]? with | some n => n.h | none => 0
/-- The next node in a level. -/
def nxN (N : List Nd) (i L : Nat) : Option Nd := if L < hp N i then (N.drop i).find? fun n => decide (L < n.h) else none
def nxs (N : List Nd) (i : Nat) : List Value := (List.range 12).map fun L => pnt (nxN N i L)
theorem nxs_len (N : List Nd) (i : Nat) : (nxs N i).length = 12 := by simp [nxs]
def ba (tb : Nat) (N : List Nd) : Nat → Nat
  | 0 => tb
  | i + 1 => match N[i]? with | some n => n.blk | none => 0
def zE : En := ⟨[], 0, false, []⟩
def ndc (N : List Nd) (i : Nat) (n : Nd) : Array Value := (ec n.e ++ [Value.int .i64 n.num] ++ nxs N (i + 1)).toArray
def tbc (N : List Nd) (cnt byt : Int) : Array Value := (ec zE ++ [Value.int .i64 0] ++ nxs N 0 ++ [Value.int .i64 cnt, Value.int .i64 byt]).toArray
structure Tb (w : World) (tb : Nat) (N : List Nd) (cnt byt : Int) : Prop where
  hd : Blk w tb (tbc N cnt byt) 50
  nd : ∀ i n, N[i]? = some n → Blk w n.blk (ndc N i n) 48
  nodup : (N.map Nd.blk).Nodup
  hts : ∀ n ∈ N, n.h ≤ 12
section
variable {w w' : World} {tb : Nat} {N : List Nd} {cnt byt : Int}
def tfoot (tb : Nat) (N : List Nd) (k : Nat) : Prop := k = tb ∨ ∃ n ∈ N, k = n.blk
theorem Tb.foot_lt (h : Tb w tb N cnt byt) {k : Nat} (hk : tfoot tb N k) : k < w.heap.size := by
  rcases hk with rfl | ⟨n, hn, rfl⟩
  · exact h.hd.lt
  · obtain ⟨i, hi, e⟩ := List.getElem_of_mem hn
    exact (h.nd i n (by rw [List.getElem?_eq_getElem hi, e])).lt
theorem Tb.keep (h : Tb w tb N cnt byt) (hk : ∀ k, tfoot tb N k → w'.heap[k]? = w.heap[k]?) : Tb w' tb N cnt byt :=
  ⟨h.hd.keep (hk _ (.inl rfl)), fun i n hn => (h.nd i n hn).keep (hk _ (.inr ⟨n, List.mem_of_getElem? hn, rfl⟩)), h.nodup, h.hts⟩
theorem Tb.below {B : Nat} (h : Tb w tb N cnt byt) (hb : Below B w w') (hB : w.heap.size ≤ B) : Tb w' tb N cnt byt :=
  h.keep fun k hk => hb.block k (Nat.lt_of_lt_of_le (h.foot_lt hk) hB)
theorem tbc_get {N : List Nd} {cnt byt : Int} {L : Nat} (hL : L < 12) : (tbc N cnt byt)[5 + L]? = some (pnt (nxN N 0 L)) := by
  unfold tbc ec
  have e : ([Value.string (str zE.key), .int .i64 zE.seq, .bool zE.del, .string (str zE.val)] ++ [.int .i64 0] ++ nxs N 0 ++ [.int .i64 cnt, .int .i64 byt] : List Value)[5 + L]? = some (pnt (nxN N 0 L)) := by
    rw [List.getElem?_append_left (by simp [nxs_len]; omega), List.getElem?_append_right (by simp)]
    simp [nxs, hL]
  simpa using e
theorem ndc_get {N : List Nd} {i : Nat} {n : Nd} {L : Nat} (hL : L < 12) : (ndc N i n)[5 + L]? = some (pnt (nxN N (i + 1) L)) := by
  unfold ndc ec
  have e : ([Value.string (str n.e.key), .int .i64 n.e.seq, .bool n.e.del, .string (str n.e.val)] ++ [.int .i64 n.num] ++ nxs N (i + 1) : List Value)[5 + L]? = some (pnt (nxN N (i + 1) L)) := by
    rw [List.getElem?_append_right (by simp)]
    simp [nxs, hL]
  simpa using e
theorem Tb.next (h : Tb w tb N cnt byt) {i L : Nat} (hi : i ≤ N.length) (hL : L < 12) : w.cell? ⟨ba tb N i, 5 + L, none⟩ = some (pnt (nxN N i L)) := by
  cases i with
  | zero => exact h.hd.cell (tbc_get hL)
  | succ i =>
    have hl : N[i]? = some N[i] := List.getElem?_eq_getElem hi
    have := (h.nd i _ hl).cell (ndc_get hL)
    have e : ba tb N (i + 1) = N[i].blk := by simp only [ba, hl]
    rw [e]
    exact this
end

/-! ### where a search stands -/
theorem nx_some {N : List Nd} {i L : Nat} {n : Nd} (h : nxN N i L = some n) : ∃ k, i ≤ k ∧ N[k]? = some n ∧ L < n.h ∧ ∀ j, i ≤ j → j < k → ∀ m, N[j]? = some m → ¬ L < m.h := by
  unfold nxN at h
  split at h
  · have hp := List.find?_some h
    obtain ⟨l1, l2, e, h3⟩ := (List.find?_eq_some_iff_append.1 h).2
    refine ⟨i + l1.length, by omega, ?_, by simpa using hp, fun j h1 h2 m hm => ?_⟩
    · have : (N.drop i)[l1.length]? = some n := by rw [e]; simp
      rwa [List.getElem?_drop] at this
    · have h4 : (N.drop i)[j - i]? = some m := by rw [List.getElem?_drop, show i + (j - i) = j from by omega]; exact hm
      rw [e, List.getElem?_append_left (by omega)] at h4
      have := h3 m (List.mem_of_getElem? h4)
      simpa using this
  · cases h
theorem nx_none {N : List Nd} {i L : Nat} (h : nxN N i L = none) (hl : L < hp N i) : ∀ j, i ≤ j → ∀ m, N[j]? = some m → ¬ L < m.h := by
  unfold nxN at h
  rw [if_pos hl, List.find?_eq_none] at h
  intro j hj m hm
  have h4 : (N.drop i)[j - i]? = some m := by rw [List.getElem?_drop, show i + (j - i) = j from by omega]; exact hm
  simpa using h m (List.mem_of_getElem? h4)
/-- The last position up to p whose tower reaches above L. -/
def lastP (N : List Nd) (L : Nat) : Nat → Nat
  | 0 => 0
  | p + 1 => if L < hp N (p + 1) then p + 1 else lastP N L p
theorem hp_get {N : List Nd} {j : Nat} {m : Nd} (h : N[j]? = some m) : hp N (j + 1) = m.h := by simp [hp, h]
theorem lastP_eq {N : List Nd} {L i : Nat} (hi : L < hp N i) : ∀ {p : Nat}, i ≤ p → p ≤ N.length → (∀ j, i ≤ j → j < p → ∀ m, N[j]? = some m → ¬ L < m.h) → lastP N L p = i
  | 0, h1, _, _ => by unfold lastP; omega
  | p + 1, h1, h2, h3 => by
    unfold lastP
    by_cases e : i = p + 1
    · subst e; rw [if_pos hi]
    · have hl : N[p]? = some N[p] := List.getElem?_eq_getElem (by omega)
      rw [if_neg (by rw [hp_get hl]; exact h3 p (by omega) (by omega) _ hl)]
      exact lastP_eq hi (by omega) (by omega) fun j h4 h5 => h3 j h4 (by omega)
theorem lastP_le (N : List Nd) (L : Nat) : ∀ p, lastP N L p ≤ p
  | 0 => Nat.le_refl _
  | p + 1 => by
    unfold lastP
    split
    · exact Nat.le_refl _
    · exact Nat.le_succ_of_le (lastP_le N L p)
theorem lastP_hp {N : List Nd} {L : Nat} (hL : L < 12) : ∀ p, L < hp N (lastP N L p)
  | 0 => hL
  | p + 1 => by
    unfold lastP
    split
    · assumption
    · exact lastP_hp hL p
theorem lastP_after {N : List Nd} {L : Nat} : ∀ p, ∀ j, lastP N L p ≤ j → j < p → ∀ m, N[j]? = some m → ¬ L < m.h
  | 0, j, _, h, _, _ => absurd h (by omega)
  | p + 1, j, h1, h2, m, hm => by
    unfold lastP at h1
    split at h1
    · omega
    · rename_i hn
      by_cases e : j = p
      · subst e; rw [hp_get hm] at hn; exact hn
      · exact lastP_after p j h1 (by omega) m hm
/-- Where entries cease to come ahead of a key and a number. -/
structure Split (N : List Nd) (key : List UInt8) (seq : Int) (p : Nat) : Prop where
  le : p ≤ N.length
  yes : ∀ j, j < p → ∀ m, N[j]? = some m → m.e.ahead key seq = true
  no : ∀ j, p ≤ j → ∀ m, N[j]? = some m → m.e.ahead key seq = false
end Go.Proofs.Ytjlebmpgjliacaa
