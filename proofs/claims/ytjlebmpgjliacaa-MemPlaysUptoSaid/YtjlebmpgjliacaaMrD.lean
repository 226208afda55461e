/-
  The law's play: a call on both sides.
-/
import Derived.Test.YtjlebmpgjliacaaLawHe
import Derived.Test.YtjlebmpgjliacaaMrC
namespace Go.Proofs.Ytjlebmpgjliacaa
open Go.RowKit
set_option linter.unusedVariables false

theorem row_put9 {w0 w w' : World} {tb : Nat} {N : List Nd} {B e s n : Nat} {v : Value} {xs : List Value} (h : TbW w0 w tb N) (ho : w.ownsRow B e s v n xs) (h1 : e ≠ 50) (h2 : e ≠ 48) (hp : Oth (tfoot tb N) w w') : w'.ownsRow B e s v n xs :=
  ownS_keep ho fun k hk => by
    obtain ⟨cur, hb⟩ := ownS_type ho hk
    exact hp.block k hb.lt (h.apart hb h1 h2)
/-- The table, and the list that the reference holds. -/
structure Pl (w w' : World) (t : Nat) (N : List Nd) (A : Option Addr) (c : Nat) : Prop where
  tb : TbW w w' t N
  row : w'.ownsRow w.heap.size 30 4 (.slice A N.length c) N.length (ecs (esOf N))
  num : Num N
theorem Pl.below {w wr w' : World} {t c : Nat} {N : List Nd} {A : Option Addr} (h : Pl w wr t N A c) (hb : Below wr.heap.size wr w') : Pl w w' t N A c := ⟨h.tb.below hb, ownS_below h.row hb, h.num⟩
theorem put_step1 {w0 V V' : World} {t : Nat} {N : List Nd} {e : En} {r : Ending} (h1 : TbW w0 V t N) (hn : Num N) (hp : PutW w0 V t N e r V') :
    r = .returned (.int .i64 (putC (esOf N) e)) ∧ Oth (tfoot t N) V V' ∧ ∃ N', TbW w0 V' t N' ∧ Num N' ∧ esOf N' = putL (esOf N) e ∧ N'.length ≤ N.length + 1 ∧ (putC (esOf N) e = 0 → N'.length = N.length + 1) ∧ (putC (esOf N) e ≠ 0 → N' = N) := by
  obtain ⟨hr, ho, N', hT, hfo, hN⟩ := hp
  refine ⟨hr, ho, N', hT, ?_, ?_, ?_, ?_, ?_⟩
  · rcases hN with ⟨_, rfl⟩ | ⟨_, _, _, b, ht, rfl⟩
    · exact hn
    · exact hn.ins (by have := posE_le (esOf N) e.key e.seq; simpa [esOf] using this)
  · unfold putL
    rcases hN with ⟨hc, rfl⟩ | ⟨hc, _, he, _⟩
    · rw [if_neg hc]
    · rw [if_pos hc, he]
  · rcases hN with ⟨_, rfl⟩ | ⟨_, hl, _⟩
    · exact Nat.le_succ _
    · rw [hl]; exact Nat.le_refl _
  · intro h0
    rcases hN with ⟨hc, _⟩ | ⟨_, hl, _⟩
    · exact absurd h0 hc
    · exact hl
  · intro h0
    rcases hN with ⟨_, hl⟩ | ⟨hc, _⟩
    · exact hl
    · exact absurd hc h0
def Mo.cs (o : Mo) : Array Value := #[.bool o.ask, .string (str o.e.key), .int .i64 o.e.seq, .bool o.e.del, .string (str o.e.val), .int .i64 o.ht]
set_option maxRecDepth 40000 in
set_option maxHeartbeats 8000000 in
theorem play4_any {w w1 : World} {t c : Nat} {N : List Nd} {A : Option Addr} (h : Pl w w1 t N A c) (hN : N.length ≤ 900) (o : Mo) (hok : o.Ok) :
    Calls Try.prog 7 #[.pointer (some ⟨t, 0, none⟩), .slice A N.length c, .agg #[.bool o.ask, .string (str o.e.key), .int .i64 o.e.seq, .bool o.e.del, .string (str o.e.val), .int .i64 o.ht]] w1 fun r w' =>
      ∃ N' A' c', r = .returned (.tuple #[.slice A' N'.length c', .bool true]) ∧ Pl w w' t N' A' c' ∧ N'.length ≤ N.length + 1 ∧ (∀ k cs ty, Blk w1 k cs ty → ty ≠ 50 → ty ≠ 48 → Blk w' k cs ty) := by
  have hcap := own_capE h.row
  have hnI : (N.length : Int) ≤ 900 := by omega
  have hcI : (N.length : Int) ≤ c := by omega
  obtain ⟨V, hV⟩ : ∃ V, V = w1.alloc (.cells o.cs 32) := ⟨_, rfl⟩
  have hBk : Blk V w1.heap.size o.cs 32 := by rw [hV]; exact Blk.new w1 _ _
  have hP : Pl w V t N A c := by rw [hV]; exact h.below ((Below.refl _ w1).alloc (Nat.le_refl _) _)
  have HV := Lib.hid (And.intro hV hBk)
  have HP := Lib.hid hP
  clear hV hBk hP h
  go_enter Try.func7, Try.ntmps7
  cases ha : o.ask with
  | true =>
    have hcs : o.cs = #[.bool true, .string (str o.e.key), .int .i64 o.e.seq, .bool o.e.del, .string (str o.e.val), .int .i64 o.ht] := by unfold Mo.cs; rw [ha]
    rw [hcs] at HV
    have hg1 := fun (W : World) (h : Below V.heap.size V W) => get_w ((HP.out.below h).tb) o.e.key o.e.seq
    have hg2 := fun (W : World) (h : Below V.heap.size V W) => rget_any A N.length c (esOf N) o.e.key o.e.seq W (own_sle (HP.out.below h).row) (by omega) hcap
    simp only [rget_eq o.e.key o.e.seq HP.out.tb.tbl.srt] at hg2
    generalize getL (esOf N) o.e.key o.e.seq = g at hg1 hg2
    obtain ⟨ge, gok⟩ := g
    simp only [ev_lit] at hg1 hg2
    have G1 := Lib.hid hg1
    have G2 := Lib.hid hg2
    clear hg1 hg2 hcs ha
    go_wp2_with fail
    rw [← HV.out.1]
    refine (G1.out V (Below.refl _ _)).mono ?_
    rintro r w4 ⟨rfl, hb4⟩
    have hbk4 : ∀ o', Blk (w4.alloc o') w1.heap.size _ _ := fun o' => (HV.out.2.keep (hb4.block _ HV.out.2.lt)).keep (Below.heap_alloc w4 o' _ (Nat.lt_of_lt_of_le HV.out.2.lt hb4.size))
    have f1 := fun o' => (hbk4 o').cell (k := 1) rfl
    have f2 := fun o' => (hbk4 o').cell (k := 2) rfl
    have B4 : Hid (∀ o', Below V.heap.size V (w4.alloc o')) := fun o' => hb4.alloc hb4.size o'
    clear hbk4 hb4
    go_wp2_with fail
    refine (G2.out _ (B4.out _)).mono ?_
    rintro r w5 ⟨rfl, hb5⟩
    have hbe : ∀ o', Blk (w5.alloc o') w4.heap.size #[.string (str ge.key), .int .i64 ge.seq, .bool ge.del, .string (str ge.val)] 30 := fun o' =>
      ((Blk.new w4 _ _).keep (hb5.block _ (by simp))).keep (Below.heap_alloc w5 o' _ (by have := hb5.size; simp at this; omega))
    have q0 := fun o' => (hbe o').cell (k := 0) rfl
    have q1 := fun o' => (hbe o').cell (k := 1) rfl
    have q2 := fun o' => (hbe o').cell (k := 2) rfl
    have q3 := fun o' => (hbe o').cell (k := 3) rfl
    have B5 : Hid (∀ o', Below V.heap.size V (w5.alloc o')) := fun o' => ((B4.out _).trans (hb5.mono (B4.out _).size)).alloc (Nat.le_trans (B4.out _).size hb5.size) o'
    clear hbe hb5 f1 f2
    go_wp2_with fail
    refine bodyPost_ret (results_tmp2 rfl _ _ _) rfl ?_
    refine ⟨N, A, c, rfl, HP.out.below (B5.out _), Nat.le_succ _, fun k cs ty hb _ _ => ?_⟩
    have hb' : Blk V k cs ty := by rw [HV.out.1]; exact al_o hb _
    exact hb'.keep ((B5.out _).block k hb'.lt)
  | false =>
    have hcs : o.cs = #[.bool false, .string (str o.e.key), .int .i64 o.e.seq, .bool o.e.del, .string (str o.e.val), .int .i64 o.ht] := by unfold Mo.cs; rw [ha]
    rw [hcs] at HV
    obtain ⟨cd, hcd⟩ : ∃ cd, cd = putC (esOf N) o.e := ⟨_, rfl⟩
    have hrp := rput_any A N.length c (esOf N) HP.out.tb.tbl.srt o.e V (own_sle HP.out.row) (by omega) hcap
    unfold RPut at hrp
    rw [← hcd] at hrp
    have hpt := fun (W : World) (h : Below V.heap.size V W) => put_w ((HP.out.below h).tb) (by omega) o.e o.ht hok.1
    simp only [ev_lit] at hpt
    have HRP := Lib.hid hrp
    have HPT := Lib.hid hpt
    have HCD := Lib.hid hcd
    clear hrp hpt hcd hcs ha
    go_wp2_with fail
    rw [← HV.out.1]
    refine HRP.out.mono ?_
    rintro r w4 ⟨v, rfl, hb4, hv⟩
    have hbk4 := HV.out.2.keep (hb4.block _ HV.out.2.lt)
    have f1 : w4.cell? ⟨w1.heap.size, 1, none⟩ = some (.string (str o.e.key)) := hbk4.cell rfl
    have f2 : w4.cell? ⟨w1.heap.size, 2, none⟩ = some (.int .i64 o.e.seq) := hbk4.cell rfl
    have f3 : w4.cell? ⟨w1.heap.size, 3, none⟩ = some (.bool o.e.del) := hbk4.cell rfl
    have f4 : w4.cell? ⟨w1.heap.size, 4, none⟩ = some (.string (str o.e.val)) := hbk4.cell rfl
    have f5 : w4.cell? ⟨w1.heap.size, 5, none⟩ = some (.int .i64 o.ht) := hbk4.cell rfl
    have H4 := Lib.hid (And.intro hb4 hv)
    clear hbk4 hb4 hv
    go_wp2_with fail
    refine (HPT.out w4 H4.out.1).mono ?_
    intro r w5 hq
    obtain ⟨q1, q2, N', q3, q4, q5, q6, q7, q8⟩ := put_step1 ((HP.out.below H4.out.1).tb) HP.out.num hq
    rw [← HCD.out] at q1 q7 q8
    subst q1
    have hw : w.heap.size ≤ V.heap.size := HP.out.tb.bel.size
    have hfin : ∃ A' c', v = .slice A' N'.length c' ∧ Pl w w5 t N' A' c' := by
      rcases H4.out.2 with ⟨h0, rfl⟩ | ⟨h0, hr⟩
      · obtain rfl := q8 h0
        exact ⟨A, c, rfl, q3, row_put9 ((HP.out.below H4.out.1).tb) (HP.out.below H4.out.1).row (by decide) (by decide) q2, q4⟩
      · have hl := q7 h0
        have hr2 := ownS_base (row_put9 ((HP.out.below H4.out.1).tb) hr (by decide) (by decide) q2) hw
        obtain ⟨A', c', rfl⟩ := ownS_form hr2
        refine ⟨A', c', by rw [hl], q3, ?_, q4⟩
        rw [hl, q5]
        unfold putL
        rw [← HCD.out, if_pos h0]
        exact hr2
    have hfr : ∀ k cs ty, Blk w1 k cs ty → ty ≠ 50 → ty ≠ 48 → Blk w5 k cs ty := fun k cs ty hb h1 h2 => by
      have hb' : Blk V k cs ty := by rw [HV.out.1]; exact al_o hb _
      have hb4 := hb'.keep (H4.out.1.block k hb'.lt)
      exact hb4.keep (q2.block k hb4.lt ((HP.out.below H4.out.1).tb.apart hb4 h1 h2))
    have HF := Lib.hid (And.intro hfin (And.intro q6 hfr))
    clear hfr
    clear hfin hq q2 q3 q4 q5 q6 q7 q8 f1 f2 f3 f4 f5
    go_wp2_with fail
    obtain ⟨A', c', hv, hp⟩ := HF.out.1
    refine bodyPost_ret (results_tmp2 rfl _ _ _) rfl ?_
    refine ⟨N', A', c', ?_, hp, HF.out.2.1, HF.out.2.2⟩
    rw [hv]; rfl
end Go.Proofs.Ytjlebmpgjliacaa
