/-
  What the law MemPlays is walked with: the entries below a key, where the law stands between its calls.
-/
import Derived.Test.YtjlebmpgjliacaaMrE
namespace Go.Proofs.Ytjlebmpgjliacaa
open Go.RowKit Go.Shelf
set_option linter.unusedVariables false

theorem fl_drop {N : List Nd} {cnt : Int} (h : ∀ n ∈ N, n.num ≤ cnt) (p : Nat) : fl N cnt p = (esOf N).drop p := by
  unfold fl esOf
  rw [List.filter_eq_self.2 (fun n hn => by simpa using h n (List.mem_of_mem_drop hn)), List.map_drop]
/-- The entries below a key are those ahead of its largest number. -/
theorem lt_pos {es : List En} (hs : Srt es) (ho : ∀ e ∈ es, chk e = 0) (key : List UInt8) {j : Nat} {x : En} (hx : es[j]? = some x) : lt x.key key = decide (j < posE es key 4611686018427387904) := by
  have h1 := (chk_len (ho x (List.mem_of_getElem? hx))).2.2.2
  by_cases h : j < posE es key 4611686018427387904
  · have h2 := posE_yes es key _ j h x hx
    rw [ahead_iff] at h2
    rcases h2 with h2 | ⟨_, h2⟩
    · rw [h2]; simp [h]
    · omega
  · have h2 := posE_no hs key 4611686018427387904 j (by omega) x hx
    cases hl : lt x.key key with
    | false => simp [h]
    | true => rw [(ahead_iff _ _ _).2 (.inl hl)] at h2; cases h2
theorem bsum_take {es : List En} {j : Nat} {x : En} (hx : es[j]? = some x) : bsum (es.take (j + 1)) = bsum (es.take j) + ((x.key.length + x.val.length : Nat) : Int) := by
  rw [List.take_add_one, hx, bsum_app]
  simp [bsum]
/-- Where the law stands between its calls. -/
structure Ps (w wr : World) (t R L : Nat) (N : List Nd) (A : Option Addr) (c : Nat) : Prop where
  pl : Pl w wr t N A c
  lb : Boxed wr L 26 (.slice A N.length c)
  rb : Boxed wr R 4 (.bool false)
theorem Ps.below {w wr w' : World} {t R L c : Nat} {N : List Nd} {A : Option Addr} (h : Ps w wr t R L N A c) (hb : Below wr.heap.size wr w') : Ps w w' t R L N A c :=
  ⟨h.pl.below hb, (hb.block _ h.lb.lt).trans h.lb, (hb.block _ h.rb.lt).trans h.rb⟩
theorem Ps.store {w w5 : World} {t R L c c' : Nat} {N N' : List Nd} {A A' : Option Addr} (hp : Pl w w5 t N' A' c') (hlb : Boxed w5 L 26 (.slice A N.length c)) (hrb : Boxed w5 R 4 (.bool false)) (hL : w.heap.size ≤ L) :
    Ps w (w5.setCell ⟨L, 0, none⟩ (.slice A' N'.length c')) t R L N' A' c' := by
  have hne : ∀ k cs ty, Blk w5 k cs ty → ty ≠ 26 → k ≠ L := fun k cs ty hb h1 e => by
    unfold Blk at hb
    unfold Boxed at hlb
    rw [e, hlb] at hb
    simp at hb
    exact h1 hb.2.symm
  have hk : ∀ k cs ty, Blk w5 k cs ty → ty ≠ 26 → (w5.setCell ⟨L, 0, none⟩ (.slice A' N'.length c')).heap[k]? = w5.heap[k]? := fun k cs ty hb h1 => heap_setCell_other w5 ⟨L, 0, none⟩ k _ (hne k cs ty hb h1)
  refine ⟨⟨hp.tb.stay (fun k hk' => ?_) (hp.tb.bel.setCell (p := ⟨L, 0, none⟩) hL _), ownS_keep hp.row fun k hk' => ?_, hp.num⟩, hlb.set _, ?_⟩
  · obtain ⟨cs, ty, hb, hty⟩ := hp.tb.kind hk'
    exact hk k cs ty hb (by rcases hty with rfl | rfl <;> decide)
  · obtain ⟨cur, hb⟩ := ownS_type hp.row hk'
    exact hk k _ _ hb (by decide)
  · exact (hk R _ _ hrb (by decide)).trans hrb
theorem Ps.storeN {w W : World} {t R L c Nb : Nat} {N : List Nd} {A : Option Addr} {u v : Value} (h : Ps w W t R L N A c) (hn : Boxed W Nb 3 u) (hL : w.heap.size ≤ Nb) :
    Ps w (W.setCell ⟨Nb, 0, none⟩ v) t R L N A c := by
  have hne : ∀ k cs ty, Blk W k cs ty → ty ≠ 3 → k ≠ Nb := fun k cs ty hb h1 e => by
    unfold Blk at hb
    unfold Boxed at hn
    rw [e, hn] at hb
    simp at hb
    exact h1 hb.2.symm
  have hk : ∀ k cs ty, Blk W k cs ty → ty ≠ 3 → (W.setCell ⟨Nb, 0, none⟩ v).heap[k]? = W.heap[k]? := fun k cs ty hb h1 => heap_setCell_other W ⟨Nb, 0, none⟩ k _ (hne k cs ty hb h1)
  refine ⟨⟨h.pl.tb.stay (fun k hk' => ?_) (h.pl.tb.bel.setCell (p := ⟨Nb, 0, none⟩) hL _), ownS_keep h.pl.row fun k hk' => ?_, h.pl.num⟩, (hk L _ _ h.lb (by decide)).trans h.lb, (hk R _ _ h.rb (by decide)).trans h.rb⟩
  · obtain ⟨cs, ty, hb, hty⟩ := h.pl.tb.kind hk'
    exact hk k cs ty hb (by rcases hty with rfl | rfl <;> decide)
  · obtain ⟨cur, hb⟩ := ownS_type h.pl.row hk'
    exact hk k _ _ hb (by decide)
/-- A region ends as such: what it owes elsewhere it needn't be asked. -/
theorem only_normal {P : Program} {c : Code} {Q : Exit → Act → World → Prop} {a : Act} {w : World} (h : c.wp P (Exit.then (fun a w => Q .normal a w) (fun _ _ _ => False)) a w) : c.wp P Q a w :=
  wp_mono h fun e a w hq => by
    cases e <;> first | exact hq | exact hq.elim
end Go.Proofs.Ytjlebmpgjliacaa
