/-
  The law MemHeights as a walk.
-/
import Derived.Test.YtjlebmpgjliacaaMeQ
namespace Go.Proofs.Ytjlebmpgjliacaa
open Go.RowKit
set_option linter.unusedVariables false

/-- Every node's number is one of those that the table has given. -/
def Num (N : List Nd) : Prop := ∀ n ∈ N, n.num ≤ (N.length : Int)
theorem Num.ins {N : List Nd} (h : Num N) {p : Nat} (hp1 : p ≤ N.length) {e : En} {b ht : Nat} : Num (ins N p ⟨e, ((N.length + 1 : Nat) : Int), b, ht⟩) := by
  intro n hn
  rw [ins_len hp1]
  rcases List.mem_append.1 hn with hm | hm
  · have := h n (List.mem_of_mem_take hm); omega
  · rcases List.mem_cons.1 hm with rfl | hm
    · exact Int.le_refl _
    · have := h n (List.mem_of_mem_drop hm); omega
noncomputable def putL (es : List En) (e : En) : List En := if putC es e = 0 then insE es e else es
theorem put_step {w0 V V' : World} {t u : Nat} {N M : List Nd} {e : En} {r : Ending} (h1 : TbW w0 V t N) (h2 : TbW w0 V u M) (ap : ∀ k, tfoot t N k → ¬ tfoot u M k) (hn : Num N) (hp : PutW w0 V t N e r V') :
    r = .returned (.int .i64 (putC (esOf N) e)) ∧ Oth (tfoot t N) V V' ∧ ∃ N', TbW w0 V' t N' ∧ TbW w0 V' u M ∧ Num N' ∧ (∀ k, tfoot t N' k → ¬ tfoot u M k) ∧ esOf N' = putL (esOf N) e ∧ N'.length ≤ N.length + 1 := by
  obtain ⟨hr, ho, N', hT, hfo, hN⟩ := hp
  have hu : TbW w0 V' u M := h2.stay (fun k hk => ho.block k (h2.tbl.tb.foot_lt hk) (fun e => ap k e hk)) hT.bel
  refine ⟨hr, ho, N', hT, hu, ?_, fun k hk hk2 => ?_, ?_, ?_⟩
  · rcases hN with ⟨_, rfl⟩ | ⟨_, _, _, b, ht, rfl⟩
    · exact hn
    · exact hn.ins (by have := posE_le (esOf N) e.key e.seq; simpa [esOf] using this)
  · rcases hfo k hk with h | h
    · exact ap k h hk2
    · have := h2.tbl.tb.foot_lt hk2; omega
  · unfold putL
    rcases hN with ⟨hc, rfl⟩ | ⟨hc, _, he, _⟩
    · rw [if_neg hc]
    · rw [if_pos hc, he]
  · rcases hN with ⟨_, rfl⟩ | ⟨_, hl, _⟩
    · exact Nat.le_succ _
    · rw [hl]; exact Nat.le_refl _
/-- Two tables side by side. -/
structure Hes (w wr : World) (t u i : Nat) (N M : List Nd) : Prop where
  t1 : TbW w wr t N
  t2 : TbW w wr u M
  es : esOf M = esOf N
  len : N.length ≤ i
  n1 : Num N
  n2 : Num M
  ap : ∀ k, tfoot t N k → ¬ tfoot u M k
theorem Hes.below {w wr w' : World} {t u i : Nat} {N M : List Nd} (h : Hes w wr t u i N M) (hb : Below wr.heap.size wr w') : Hes w w' t u i N M := ⟨h.t1.below hb, h.t2.below hb, h.es, h.len, h.n1, h.n2, h.ap⟩
theorem Hes.up {w wr : World} {t u i j : Nat} {N M : List Nd} (h : Hes w wr t u i N M) (hj : i ≤ j) : Hes w wr t u j N M := ⟨h.t1, h.t2, h.es, Nat.le_trans h.len hj, h.n1, h.n2, h.ap⟩
theorem Hes.len2 {w wr : World} {t u i : Nat} {N M : List Nd} (h : Hes w wr t u i N M) : M.length = N.length := by have := congrArg List.length h.es; simpa [esOf] using this
theorem xor_range (a b : Int) : -9223372036854775808 ≤ bits .xor .i64 a b ∧ bits .xor .i64 a b ≤ 9223372036854775807 := by
  unfold bits
  simp only [IntKind.wrap_i64]
  omega
theorem own_cap {w : World} {B e s n c : Nat} {A : Option Addr} {xs : List Value} (h : w.ownsRow B e s (.slice A n c) n xs) : n ≤ c := by
  rcases h.2 with ⟨h1, h2⟩ | ⟨g, cap, cur, h1, _, _, h3, _⟩
  · omega
  · injection h1 with _ _ hc
    omega
end Go.Proofs.Ytjlebmpgjliacaa
