/-
  The law BloomMay as a walk.
-/
import Derived.Test.YtnbomifnbhijbaaBlL
namespace Go.Proofs.Ytnbomifnbhijbaa
open Go.RowKit
set_option linter.unusedVariables false

theorem wpList_appG {P : Program} (w : World) {ops : Array Oper} {rest : List Oper} {o : Oper} {a : Act} {Q : Exit → Act → World → Prop} (hw : Region.wanted o (yielded ops a.tmps) = true) (s x : Operand) (t : TypeId)
    (ho : o.op = .call { callee := .builtin .append, args := #[s, x], argTypes := #[t, t] })
    (base : Nat) {e : TypeId} {z : Value} {bytes : Nat} (E : El P t e z bytes) (hb1 : 1 ≤ bytes)
    (v : Value) (n : Nat) (xs : List Value) (hs : a.eval s = v) (hown : w.ownsRow base e 1 v n xs)
    (A : Option Addr) (m c : Nat) (news : List Value) (hx : a.eval x = .slice A m c) (hr : Sl w A m news) (h1 : ∀ u ∈ news, u.oneCell' = true)
    (hbytes : (n + m) * bytes ≤ 140737488355328) (hbase : base ≤ w.heap.size)
    (h : ∀ A' c' w', w'.ownsRow base e 1 (.slice A' (n + m) c') (n + m) (xs ++ news) → w.grownBy w' v.ownBlock →
      ((Value.slice A' (n + m) c').ownBlock = v.ownBlock ∨ (Value.slice A' (n + m) c').ownBlock = some w.heap.size) → wpList P ops Q rest (a.put o.dst (.slice A' (n + m) c')) w') :
    wpList P ops Q (o :: rest) a w :=
  BigFrame.wpList_want hw fun _ hK => wp_app w s x t ho base E hb1 v n xs hs hown A m c news hx hr h1 hbytes hbase fun A' c' w' h2 h3 h4 => hK _ _ (h A' c' w' h2 h3 h4)
set_option maxRecDepth 20000 in
set_option maxHeartbeats 2000000 in
theorem may_law {w : World} {A0 : Option Addr} {n0 c0 : Nat} {f : List UInt8} (hs : Sl w A0 n0 (bv f)) (hn : n0 ≤ 140737488355328) (hc : n0 ≤ c0) (s : ByteArray) (hl : s.data.toList.length ≤ 140737488355328) :
    Calls Try.prog 7 #[.slice A0 n0 c0, .string s] w fun e w' => e = .returned (.bool true) ∧ Below w.heap.size w w' := by
  rw [str_of s]
  generalize s.data.toList = l at hl ⊢
  have HS := Lib.hid hs
  clear hs
  go_enter Try.func7, Try.ntmps7
  go_wp2_with fail
  refine (awake5_any _).mono ?_
  rintro e w1 ⟨rfl, hb1⟩
  have hs1 := HS.out.below hb1
  go_wp2_with (at_builtin; refine wpList_appG _ rfl (.tmp 7) (.tmp 8) 50 rfl w1.heap.size bytesElB (by decide) _ 0 [] rfl (World.ownsRow_made w1 #[] 0 (Nat.le_refl _) (Nat.zero_le _) rfl) A0 n0 c0 (bv f) rfl (hs1.alloc _) (bv_one _) (by omega) (by simp) ?_; intro A2 c2 w2 hown2 hg2 hat2)
  rw [Nat.zero_add] at hown2
  have hb2 : Below w1.heap.size w1 w2 := ((Below.refl _ w1).alloc (Nat.le_refl _) _).grown hg2 (by simp) (by intro k e; cases e; exact Nat.le_refl _)
  have hbw := hb1.trans (hb2.mono hb1.size)
  have hmy := may_c n0 c2 A2 f l (by omega) w2 (own_sl hown2) (by omega) (own_le hown2)
  have hmr := fun (V : World) (hV : Below w.heap.size w V) => rmay_any n0 c0 A0 f l (by omega) V (HS.out.below hV) (by omega) hc
  refine hmy.mono ?_
  rintro e w3 ⟨rfl, hb3⟩
  have hbw3 := hbw.trans (hb3.mono hbw.size)
  have hmr3 := hmr w3 hbw3
  generalize Bl.may f l = Mx at hmr3 ⊢
  clear hmy hmr hown2 hb2 hs1
  go_wp2_with (go_at_call 28; refine hmr3.mono ?_; rintro e w4 ⟨rfl, hb4⟩)
  go_ret
  refine ⟨?_, hbw3.trans (hb4.mono hbw3.size)⟩
  simp
end Go.Proofs.Ytnbomifnbhijbaa
