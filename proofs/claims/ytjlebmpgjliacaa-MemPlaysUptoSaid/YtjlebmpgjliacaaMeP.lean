/-
  All.
-/
import Derived.Test.YtjlebmpgjliacaaMeO
namespace Go.Proofs.Ytjlebmpgjliacaa
open Go.RowKit Go.Shelf
set_option linter.unusedVariables false

theorem split_0 {N : List Nd} (h : ∀ e ∈ esOf N, chk e = 0) : Split N [] 4611686018427387904 0 := by
  refine ⟨Nat.zero_le _, fun j hj => absurd hj (Nat.not_lt_zero _), fun j _ m hm => ?_⟩
  have h1 := (chk_len (h m.e (by unfold esOf; exact List.mem_map.2 ⟨m, List.mem_of_getElem? hm, rfl⟩))).2.2.2
  cases hb : m.e.ahead [] 4611686018427387904 with
  | false => rfl
  | true =>
    rw [ahead_iff] at hb
    rcases hb with hb | ⟨_, hb⟩
    · cases hk : m.e.key with
      | nil => rw [hk, lt_irrefl] at hb; cases hb
      | cons a r => rw [hk] at hb; simp [lt, bytesBefore] at hb
    · omega
theorem mk_ents (c : Nat) (hc : c ≤ 1000000) : ∃ MM : Array Value, (∀ W : World, (Instr.makeSlice 26 (.int .i64 0) (.int .i64 (c : Int))).run Try.prog W = .ok (.slice (some ⟨W.heap.size, 0, none⟩) 0 c) (W.alloc (.cells MM 30))) ∧
    ∀ (W : World) (base : Nat), base ≤ W.heap.size → (W.alloc (.cells MM 30)).ownsRow base 30 4 (.slice (some ⟨W.heap.size, 0, none⟩) 0 c) 0 [] := by
  obtain ⟨i, hi, hz0, hz1, hz2⟩ := info_parts entInfo
  obtain ⟨z, hz⟩ : ∃ z, i.zero = some z := ⟨_, hz0⟩
  refine ⟨madeCells z.cells (c * i.size), fun W => ?_, fun W base hb => ?_⟩
  · have hr := run_make (P := Try.prog) W 26 30 i z Try.underlying26 hi hz .i64 .i64 0 (c : Int) (Int.le_refl _) (by omega) (by rw [hz2]; omega) (by omega)
    simp only [Int.toNat_zero, Int.toNat_natCast] at hr
    exact hr
  · rw [hz1]
    exact World.ownsRow_made W _ c hb (by simp only [maxLen]; omega) (by rw [size_madeCells])
set_option maxRecDepth 20000 in
set_option maxHeartbeats 4000000 in
theorem all_any {w : World} {tb : Nat} {N : List Nd} (h : Tbl w tb N) (hnum : ∀ n ∈ N, n.num ≤ (N.length : Int)) (hN : N.length ≤ 1000) :
    Calls Try.prog 11 #[.pointer (some ⟨tb, 0, none⟩)] w fun e w' => ∃ A c, e = .returned (.slice A N.length c) ∧ w'.ownsRow w.heap.size 30 4 (.slice A N.length c) N.length (ecs (esOf N)) ∧ Below w.heap.size w w' := by
  have HF : Hid (∀ V, Below w.heap.size w V → Calls Try.prog 9 #[.pointer (some ⟨tb, 0, none⟩), .string ⟨#[]⟩] V fun e w' => ∃ B1 B2, e = .returned (.func (.func 18) #[] #[.pointer (some ⟨B1, 0, none⟩), .pointer (some ⟨B2, 0, none⟩)]) ∧
      Blk w' B1 #[pnt N[0]?] 45 ∧ Blk w' B2 #[.int .i64 (N.length : Int)] 3 ∧ Below V.heap.size V w') := fun V hV =>
    (from_any (key := []) (h.tb.below hV (Nat.le_refl _)) h.tall (split_0 h.ok)).mono fun e w' hq => by
      obtain ⟨B1, B2, q1, q2, q3, _, _, q6⟩ := hq
      exact ⟨B1, B2, q1, q2, q3, q6⟩
  have hlen : (fl N (N.length : Int) 0).length = N.length := by rw [fl_all hnum]; simp [esOf]
  have HA : Hid (∀ V B1 B2 g, Below w.heap.size w V → Blk V B1 #[pnt N[0]?] 45 → Blk V B2 #[.int .i64 (N.length : Int)] 3 → V.ownsRow w.heap.size 30 4 (.slice (some ⟨g, 0, none⟩) 0 N.length) 0 [] →
      Calls Try.prog 19 #[.slice (some ⟨g, 0, none⟩) 0 N.length, .func (.func 18) #[] #[.pointer (some ⟨B1, 0, none⟩), .pointer (some ⟨B2, 0, none⟩)]] V fun e w' =>
        ∃ A c, e = .returned (.slice A N.length c) ∧ w'.ownsRow w.heap.size 30 4 (.slice A N.length c) N.length (ecs (esOf N)) ∧ Below w.heap.size w w') := fun V B1 B2 g hV b1 b2 hr => by
    have := (callsIn_wide (n := 0 + 5)).1 (appE_any 0 h.tall h.tb.nodup (Nat.zero_le _) (by omega) V ⟨fun i n hn => (h.tb.nd i n hn).keep (hV.block _ (h.tb.nd i n hn).lt), b2⟩ b1 hV.size hr)
    rw [hlen, fl_all hnum] at this
    exact this.mono fun e w' hq => by
      obtain ⟨A, c, q1, q2, q3⟩ := hq
      exact ⟨A, c, q1, q2, hV.trans q3⟩
  obtain ⟨MM, hmk, hown⟩ := mk_ents N.length (by omega)
  have HO := Lib.hid hown
  have kc : ∀ V, Below w.heap.size w V → V.cell? ⟨tb, 17, none⟩ = some (.int .i64 (N.length : Int)) := fun V hV => (h.tb.below hV (Nat.le_refl _)).cnt_.1
  have hb0 : Below w.heap.size w w := Below.refl _ w
  obtain ⟨c, hc⟩ : ∃ c, c = N.length := ⟨_, rfl⟩
  rw [← hc] at HF HA HO hmk kc ⊢
  clear hown h hnum hN hlen hc
  go_enter Try.func11, Try.ntmps11
  go_wp2_with fail
  go_region_held (fun V => Below w.heap.size w V) (first | assumption | exact Below.drew (by assumption) | exact alM (by assumption) _ | exact alM (Below.drew (by assumption)) _) (first
    | (go_at_call 9; refine (HF.out _ (by first | assumption | exact Below.drew (by assumption) | exact alM (Below.drew (by assumption)) _ | exact alM (by assumption) _)).mono ?_; rintro e w1 ⟨B1, B2, rfl, b1, b2, hb1'⟩
       have hb1 : Below w.heap.size w w1 := Below.trans (by first | assumption | exact Below.drew (by assumption) | exact alM (Below.drew (by assumption)) _ | exact alM (by assumption) _) (hb1'.mono (by simp))
       try have hrw := ownS_below (HO.out w.drew w.heap.size (Nat.le_refl _)) hb1'
       try have hrw := ownS_below (HO.out w w.heap.size (Nat.le_refl _)) hb1'
       clear hb1')
    | (go_at_call 19; refine (HA.out _ B1 B2 _ (by first | assumption | exact Below.drew (by assumption) | exact alM (by assumption) _ | exact alM (Below.drew (by assumption)) _)
         (by first | assumption | exact al_o b1 _) (by first | assumption | exact al_o b2 _) (by first | assumption | exact HO.out _ _ hb1.size)).mono ?_; rintro e w2 ⟨A, c2, rfl, hrow, hb2⟩))
  all_goals
    go_wp2_with fail
    go_ret
    exact ⟨A, c2, rfl, hrow, hb2⟩
end Go.Proofs.Ytjlebmpgjliacaa
