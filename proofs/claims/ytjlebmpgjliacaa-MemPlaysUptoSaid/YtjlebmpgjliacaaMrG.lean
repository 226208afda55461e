/-
  A range over a traversal whose loop variable is boxed; what the law's state abides.
-/
import Derived.Test.YtjlebmpgjliacaaMrF
namespace Go.Proofs.Ytjlebmpgjliacaa
open Go.RowKit Go.Shelf
attribute [local go_sem] Oper.semAt_some
set_option linter.unusedVariables false

theorem Ps.grown9 {w X Y : World} {t R L c D : Nat} {N : List Nd} {A : Option Addr} {row : Option Nat} (h : Ps w X t R L N A c) (hg : X.grownBy Y row) (hr : ∀ r, row = some r → D ≤ r ∧ ∃ o : Obj, X.heap[r]? = some o ∧ o.isCells = false) (hD : w.heap.size ≤ D) : Ps w Y t R L N A c := by
  have hk : ∀ k cs ty, Blk X k cs ty → Y.heap[k]? = X.heap[k]? := fun k cs ty hb => hg.block k hb.lt (fun e => by
    obtain ⟨_, o, ho, hc⟩ := hr _ e.symm
    unfold Blk at hb
    rw [hb] at ho; cases ho; cases hc)
  refine ⟨⟨h.pl.tb.stay (fun k hk' => ?_) (h.pl.tb.bel.grown hg h.pl.tb.bel.size (fun r e => Nat.le_trans hD (hr r e).1)), ownS_keep h.pl.row fun k hk' => ?_, h.pl.num⟩, (hk L _ _ h.lb).trans h.lb, (hk R _ _ h.rb).trans h.rb⟩
  · obtain ⟨cs, ty, hb, hty⟩ := h.pl.tb.kind hk'
    exact hk k cs ty hb
  · obtain ⟨cur, hb⟩ := ownS_type h.pl.row hk'
    exact hk k _ _ hb
theorem boxed9 {X Y : World} {B D : Nat} {t : TypeId} {v : Value} {row : Option Nat} (h : Boxed X B t v) (hg : X.grownBy Y row) (hr : ∀ r, row = some r → D ≤ r ∧ ∃ o : Obj, X.heap[r]? = some o ∧ o.isCells = false) : Boxed Y B t v :=
  h.kept hg fun e => by
    obtain ⟨_, o, ho, hc⟩ := hr _ e.symm
    unfold Boxed at h
    rw [h] at ho; cases ho; cases hc
/-- The range of MemPlays: in a round the entry lies in a block of its own. -/
theorem range9 {F : Fence} {n : Nat} {P : Program} {g : Operand} {assign body : Code} {Q : Exit → Act → World → Prop} {a : Act} {w : World} (e p : Tmp)
    (hro : F.round = none) (h1 : 1 ≤ n) {gf : Nat} {lb : Array Value} (hg : a.eval g = .func (.func gf) #[] lb) (hFg : F.fn gf) (eg : ∀ args w, (callFunc gf args).run P w = .ok (.enter gf args) w)
    {Kp : World → World → Prop} {S Sp : List En → Prop} {N : Nat} {w0 : World} (hseq : SeqStopsK F (n - 1) P gf lb (fun x : En => #[ev x]) Kp S Sp N w0)
    (hKt : ∀ {A B C : World}, Kp A B → Kp B C → Kp A C) (hKb : ∀ (W : World) (l : Nat) (o o' : Obj), w.heap.size ≤ l → W.heap[l]? = some o → o.isCells = false → o.isWalk = false → Kp W (W.putObj l o')) (hb0 : Below w0.heap.size w0 w)
    (I : List En → World → Prop) (Ix : Code → List En → World → Prop) (hI : OwnFrom w.heap.size I) (hIx : ∀ c, OwnFrom w.heap.size (Ix c)) (h0 : I [] w)
    (hassign : ∀ (l : Nat) (pre : List En) (x : En) (W : World) (K : Act → World → Prop), I pre W → (∀ b W', KeepsFrom w.heap.size W W' → Kp W W' → I pre W' → EBlk W' b x → K { tmps := (a.tmps.setIfInBounds p (ev x)).setIfInBounds e (.pointer (some ⟨b, 0, none⟩)), defers := [] } W') →
      assign.wpIn (F.inRound l) (n - 1 - 1) P (Exit.then K (fun _ _ _ => False)) { tmps := a.tmps.setIfInBounds p (ev x), defers := [] } W)
    (hbody : ∀ (l : Nat) (pre : List En) (x : En) (b : Nat) (W : World), I pre W → EBlk W b x → pre.length < N → body.wpIn (F.inRound l) (n - 1 - 1) P (ownPostG w.heap.size Kp I Ix (pre ++ [x]) W) { tmps := (a.tmps.setIfInBounds p (ev x)).setIfInBounds e (.pointer (some ⟨b, 0, none⟩)), defers := [] } W)
    (hdone : ∀ (D : Nat) (xs : List En) (W : World), w.heap.size ≤ D → S xs → I xs W → W.heap[D]? = some (.deferred (some [])) → Q .normal { a with defers := { target := .collected D, args := #[] } :: a.defers } W)
    (hstop : ∀ (D : Nat) (c : Code) (pre : List En) (W : World), w.heap.size ≤ D → Sp pre → Ix c pre W → W.heap[D]? = some (.deferred (some [])) → c.wpIn F n P Q { a with defers := { target := .collected D, args := #[] } :: a.defers } W) :
    (Code.rangeFunc g #[p] assign body).wpIn F n P Q a w :=
  wpIn_rangeFunc_ownH hro h1 hg hFg eg hseq (fun h k => hKt h k) hKb hb0 (fun _ => rfl) I Ix hI hIx h0
    (fun x a' V => ∃ b, EBlk V b x ∧ a' = { tmps := (a.tmps.setIfInBounds p (ev x)).setIfInBounds e (.pointer (some ⟨b, 0, none⟩)), defers := [] })
    (fun x a' _ X Y row hs hg hr => by obtain ⟨b, e1, e2⟩ := hs; exact ⟨b, e1.grown hg (fun r e => (hr r e).2), e2⟩)
    (fun l pre x W K hi hK => by
      have := hassign l pre x W K hi (fun b W' h1 h2 h3 h4 => hK _ W' h1 h2 h3 ⟨b, h4, rfl⟩)
      simpa using this)
    (fun l pre x a' W _ _ hi hax hl => by obtain ⟨b, h2, rfl⟩ := hax; exact hbody l pre x b W hi h2 hl) hdone hstop
end Go.Proofs.Ytjlebmpgjliacaa
