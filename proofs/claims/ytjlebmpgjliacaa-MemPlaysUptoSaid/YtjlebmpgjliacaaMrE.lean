/-
  A region that draws its order, in a round of a range over a function: where none of its operations calls, the lexical order serves, with a store at its end. Program-independent.
-/
import Derived.Test.YtjlebmpgjliacaaMrD
import Derived.StillTailTactics
import Derived.OrdersIn
namespace Go.Proofs.Ytjlebmpgjliacaa
open Go.RowKit
set_option linter.unusedVariables false

/-- Operations that make no call. -/
def calm : Op → Bool
  | .move _ | .assign _ | .load _ _ | .store _ _ _ | .binOp _ _ _ _ _ | .indexAddr _ _ _ | .fieldAddr _ _ _ | .unOp _ _ _ | .pick _ _ _ => true
  | .call c => (match c.callee with | .builtin .len => true | _ => false)
  | _ => false
section
variable {F : Fence} {n : Nat} {P : Program} {Q : Exit → Act → World → Prop}
theorem calm_next {α : Type} (s : Sem α) (f : α → Next) (hf : ∀ x, (∃ v, f x = .value v) ∨ f x = .skip) (w : World) :
    (∃ v w', (s >>= fun x => pure (f x) : Sem Next).run P w = .ok (.value v) w') ∨ (∃ w', (s >>= fun x => pure (f x) : Sem Next).run P w = .ok .skip w') ∨ ∃ x w', (s >>= fun x => pure (f x) : Sem Next).run P w = .halt x w' := by
  rw [Sem.run_bind]
  cases s.run P w with
  | ok x w' =>
    rw [Result.andThen_ok, Sem.run_pure]
    rcases hf x with ⟨v, e⟩ | e
    · exact .inl ⟨v, w', by rw [e]⟩
    · exact .inr (.inl ⟨w', by rw [e]⟩)
  | halt x w' => exact .inr (.inr ⟨x, w', rfl⟩)
theorem calm_len {c : Call} (h : calm (.call c) = true) : c.callee = .builtin .len := by
  unfold calm at h
  cases hc : c.callee with
  | builtin b =>
    simp only [hc] at h
    cases b <;> first | rfl | cases h
  | invoke _ _ => simp only [hc] at h; cases h
  | value _ => simp only [hc] at h; cases h
theorem calm_res {o : Oper} (h : calm o.op = true) (ρ : Operand → Value) (w : World) :
    (∃ v w', (execOp ρ o).run P w = .ok (.value v) w') ∨ (∃ w', (execOp ρ o).run P w = .ok .skip w') ∨ ∃ x w', (execOp ρ o).run P w = .halt x w' := by
  unfold execOp
  cases ho : o.op <;> rw [ho] at h
  case call c =>
    have hc := calm_len h
    simp only [resolve, hc, Sem.run_bind, Sem.run_pure, Result.andThen_ok, invoke, builtin]
    cases hr : (Builtin.len_ c.argTypes o.type (c.args.map ρ)).run P w with
    | ok x w' => exact .inl ⟨x, w', by simp⟩
    | halt x w' => exact .inr (.inr ⟨x, w', by simp⟩)
  all_goals first
    | exact .inl ⟨_, _, rfl⟩
    | exact calm_next _ _ (fun x => .inl ⟨_, rfl⟩) w
    | exact calm_next _ _ (fun x => .inr rfl) w
    | exact absurd h (by simp [calm])
theorem calm_about {o : Oper} (h : calm o.op = true) (ρ : Operand → Value) (w : World) : o.about P w ρ = none := by
  unfold Oper.about
  cases ho : o.op <;> rw [ho] at h
  case call c =>
    have hc := calm_len h
    simp only [resolve, hc, Sem.run_pure]
    rfl
  all_goals rfl
theorem calm_in {o : Oper} (h : calm o.op = true) {a : Act} {w : World} {K : Act → World → Prop} (hw : o.wp P a w K Q) : o.wpIn F n P a w K Q := by
  refine ⟨fun f hf => by rw [calm_about h] at hf; (cases hf), ?_⟩
  rw [Oper.semAt_eq _ _ _ (fun c e => by rw [e] at h; cases h)]
  unfold Oper.wp at hw
  rcases calm_res (P := P) h a.eval w with ⟨v, w', e⟩ | ⟨w', e⟩ | ⟨x, w', e⟩
  · rw [e] at hw ⊢; exact hw
  · rw [e] at hw ⊢; exact hw
  · rw [e] at hw ⊢
    cases x <;> first | exact hw | exact hw.elim
theorem calm_any {ops : Array Oper} (hQ : ¬ LetsOut Q) (hpl : ∀ o ∈ ops.toList, calm o.op = true) : ∀ (f : Nat) (listed : Array Bool) (a : Act) (w : World), wpAny P .any ops Q f listed a w → wpAnyIn F n P .any ops Q f listed a w
  | 0, listed, a, w, h => h
  | f + 1, listed, a, w, h => by
    refine ⟨h.1, fun i hi => ?_⟩
    have h2 := h.2 i hi
    unfold wpOp at h2
    unfold wpOpIn
    cases ho : ops[i]? with
    | none => rw [ho] at h2; exact calm_any hQ hpl f _ a w h2
    | some o =>
      rw [ho] at h2
      have hc := hpl o (Array.mem_toList_iff.2 (Array.mem_of_getElem? ho))
      simp only at h2 ⊢
      split at h2
      · rename_i hw
        rw [if_pos hw]
        rcases h2 with h2 | h2
        · exact Oper.wpIn_mono (fun a w => calm_any hQ hpl f _ a w) (calm_in hc h2)
        · exact absurd h2.2 hQ
      · rename_i hw
        rw [if_neg hw]
        exact ⟨fun g hg => by rw [calm_about hc] at hg; (cases hg), calm_any hQ hpl f _ _ w h2⟩
/-- In a round too the lexical order serves, where all but the last operations read alone and none calls. -/
theorem calm_region_tail {id : Nat} {a : Act} {w : World} {l : List Oper} (k : Nat) (hQ : ¬ LetsOut Q) (hpl : (l.all fun o => calm o.op) = true) (hm : P.follows .mixedOrders = true) (hB : Region.lexTailB .any l.toArray k = true)
    (h : wpStill P l.toArray { w with drawn := w.drawn + 1 } (fun a' => wpList P l.toArray Q (l.drop k) a' { w with drawn := w.drawn + 1 }) (l.take k) a) : (Code.region id l.toArray true).wpIn F n P Q a w := by
  refine wpIn_region_any hm (calm_any hQ (fun o ho => by simpa using List.all_eq_true.1 hpl o (by simpa using ho)) _ _ _ _ ?_)
  simp only [Region.lexTailB, Bool.and_eq_true, decide_eq_true_eq] at hB
  obtain ⟨⟨⟨⟨hsel, hk⟩, hs⟩, hc⟩, hlex⟩ := hB
  have hkl : k < l.length := by simpa using hk
  have e1 : (l.take k).length = k := by rw [List.length_take]; omega
  have e2 : (l.drop k).length = l.toArray.size - k := by simp
  have start : HeadInv .any l.toArray k (Array.replicate l.toArray.size false) :=
    ⟨by simp, fun j oj _ hl => (by rw [getD_replicate_false] at hl; cases hl), fun t _ ht => getD_in (by simpa using ht) (getD_replicate_false _ _)⟩
  have head := wpAnyL_lex (md := .any) (g := l.toArray.size - k) hsel hs hc hk (l.take k) 0 _ a (fun j hj => by
    have : j < k := by omega
    simp [this]) (by omega) start (by rw [e1]; exact hlex) h
  have whole := wpAny_of_head (Q' := Q) (g := l.toArray.size - k) (fun listed a' hL => by
    have := wpAny_of_seq (md := .any) (Q' := Q) (l.drop k) k listed a' { w with drawn := w.drawn + 1 } (fun j => by simp [List.getElem?_drop]) (by rw [e2]; exact hL.1) hL.2
    rwa [e2] at this) _ _ _ head
  rwa [e1, show k + (l.toArray.size - k) = l.toArray.size by omega] at whole
end
end Go.Proofs.Ytjlebmpgjliacaa
