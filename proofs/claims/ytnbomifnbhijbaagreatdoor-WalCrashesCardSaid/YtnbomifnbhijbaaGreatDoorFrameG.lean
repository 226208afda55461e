/-
  Contract of the reference's Take.
-/
import Derived.Test.YtnbomifnbhijbaaGreatDoorFrameF
namespace Go.Proofs.YtnbomifnbhijbaaGreatDoor
open Go.RowKit Num Crc

theorem take_three (l : List UInt8) (K N : Nat) : l.take (K + 4 + N) = l.take K ++ ((l.drop K).take 4 ++ (l.drop (K + 4)).take N) := by
  rw [Nat.add_assoc, List.take_add, List.take_add, List.drop_drop]
theorem seal_front {l : List UInt8} {K N : Nat} (hv : vint N = l.take K) (hl : K + 4 + N ≤ l.length) :
    (seal_ ((l.drop (K + 4)).take N) = l.take (K + 4 + N)) ↔ (l.drop K).take 4 = sumle (Crc.sum ((l.drop (K + 4)).take N)) := by
  have hp : ((l.drop (K + 4)).take N).length = N := by rw [List.length_take, List.length_drop]; omega
  unfold seal_
  rw [hp, hv, take_three]
  constructor
  · intro h
    have h2 := List.append_cancel_left h
    exact (List.append_cancel_right h2).symm
  · intro h
    rw [h]

theorem Sl.zero {w : World} {A : Option Addr} {m : Nat} {p : List UInt8} (hm : m = 0) (hp : p = []) : Sl w A m (bv p) := by
  subst hm hp; exact Sl.none_ w A

/-- What the reference's Take answers. -/
def RefTakePost (w : World) (q : List UInt8) (n : Nat) (e : Ending) (w' : World) : Prop :=
  ∃ A c, e = .returned (.tuple #[.slice A q.length c, .int .i64 n]) ∧ w'.ownsRow w.heap.size 5 1 (.slice A q.length c) q.length (bv q) ∧ Below w.heap.size w w'
theorem RefTakePost.no {w w' : World} (h : Below w.heap.size w w') : RefTakePost w [] 0 (.returned (.tuple #[.slice none 0 0, .int .i64 0])) w' :=
  ⟨none, 0, rfl, World.ownsRow_nil _ _ _ _, h⟩

set_option maxRecDepth 20000 in
set_option maxHeartbeats 3200000 in
theorem refTake_any (A : Option Addr) (n c : Nat) (l : List UInt8) (w : World) (hs : Sl w A n (bv l)) (hn : n ≤ 140737488351232) (hnc : n ≤ c) :
    Calls Tryz.prog 72 #[.slice A n c] w (RefTakePost w (tk l).1 (tk l).2) := by
  have hlen := hs.len
  have hcall := refTakeUint_any A n c l w hs (by omega) hnc
  have hN := tu_lt l
  have hK := tu_le l
  have hvp : 0 < (tu l).2 → vint (tu l).1 = l.take (tu l).2 := fun h => (tu_some rfl h).1
  have htk : tk l = if (tu l).2 = 0 ∨ 4096 < (tu l).1 ∨ l.length < (tu l).2 + 4 + (tu l).1 then ([], 0)
    else if (l.drop (tu l).2).take 4 = sumle (Crc.sum ((l.drop ((tu l).2 + 4)).take (tu l).1)) then ((l.drop ((tu l).2 + 4)).take (tu l).1, (tu l).2 + 4 + (tu l).1) else ([], 0) := rfl
  generalize tu l = p at hcall hN hK htk hvp
  obtain ⟨N, K⟩ := p
  simp only at hcall hN hK htk hvp
  have HN := Lib.hid hN
  have HT := Lib.hid htk
  have HC := Lib.hid hcall
  have HV := Lib.hid hvp
  clear hN htk hcall hvp
  by_cases hK0 : K = 0
  · subst hK0
    go_enter Tryz.func72, Tryz.ntmps72
    go_wp2_with (go_at_call 95; refine (HC.out).mono ?_; rintro e w1 ⟨rfl, hb1⟩)
    go_ret2
    rw [HT.out, if_pos (.inl trivial)]
    exact RefTakePost.no hb1
  have hK1 : ((K : Int) == 0) = false := by simp; omega
  by_cases hN4 : (4096 : Int) < N
  · go_enter Tryz.func72, Tryz.ntmps72
    go_wp2_with (go_at_call 95; refine (HC.out).mono ?_; rintro e w1 ⟨rfl, hb1⟩)
    go_ret2
    rw [HT.out, if_pos (.inr (.inl (by omega)))]
    exact RefTakePost.no hb1
  by_cases hnK : (n : Int) < K + 4 + N
  · go_enter Tryz.func72, Tryz.ntmps72
    go_wp2_with (go_at_call 95; refine (HC.out).mono ?_; rintro e w1 ⟨rfl, hb1⟩)
    go_ret2
    rw [HT.out, if_pos (.inr (.inr (by omega)))]
    exact RefTakePost.no hb1
  obtain ⟨b, o, rfl, -⟩ := hs.2 (by omega)
  have hpay := hs.win (i := K + 4) (j := K + 4 + N) (by omega) (by omega)
  have hall := hs.take (k := K + 4 + N) (by omega)
  rw [take_bv] at hall
  have ht := HT.out
  clear HT
  have hsf := seal_front (HV.out (by omega)) (l := l) (by omega)
  rw [if_neg (by omega)] at ht
  simp only [← hsf] at ht
  rw [show K + 4 + N - (K + 4) = N from by omega] at hpay
  clear hsf
  generalize (l.drop (K + 4)).take N = pay at hpay ht
  generalize l.take (K + 4 + N) = front at hall ht
  have hpl := hpay.len
  have hpn : pay.length ≤ 4096 := by omega
  have HT := Lib.hid ht
  clear ht
  have hpayU : Sl w (some ⟨b, o + (K + 4), none⟩) (K + 4 + N - (K + 4)) (bv pay) := by rw [show K + 4 + N - (K + 4) = N from by omega]; exact hpay
  have hz : (K : Int) + 4 ≤ (K : Int) + 4 + N := by omega
  have hz1 : (K : Int) ≤ (K : Int) + 4 := by omega
  have hcvf : ∀ V : World, Below w.heap.size w V → ∀ c', (convert 36 9 (.slice (some ⟨b, o, none⟩) (K + 4 + N) c')).run Tryz.prog V = .ok (.string ⟨front.toArray⟩) V := fun V hV c' =>
    run_str (P := Tryz.prog) (hall.below hV) 36 5 9 Tryz.underlying36 Tryz.underlying5 Tryz.underlying9
  have HF := Lib.hid hcvf
  clear hcvf
  by_cases hcK : c = K + 4
  · have hN0 : N = 0 := by omega
    have HP := Lib.hid (show pay = [] from List.eq_nil_of_length_eq_zero (by omega))
    subst hN0
    have HF0 := Lib.hid (fun V hV c' => HF.out V hV c' : ∀ V : World, Below w.heap.size w V → ∀ c', (convert 36 9 (.slice (some ⟨b, o, none⟩) (K + 4) c')).run Tryz.prog V = .ok (.string ⟨front.toArray⟩) V)
    have hp0 : pay.length = 0 := by omega
    clear hpl HF
    subst hcK
    go_enter Tryz.func72, Tryz.ntmps72
    go_wp2_with (first
      | (go_at_call 95; refine (HC.out).mono ?_; rintro e w1 ⟨rfl, hb1⟩)
      | (at_builtin; refine wpList_app _ rfl (.tmp 28) (.tmp 37) 36 rfl w.heap.size bytesEl (by decide) _ 0 [] rfl (World.ownsRow_made w1 #[] 0 hb1.size (Nat.zero_le _) rfl) _ _ _ (bv pay) rfl (Sl.zero (by omega) HP.out) (bv_one _) (by omega) (by have := hb1.size; simp; omega) ?_; intro A2 c2 w2 hown2 hg2 hat2; simp only [List.nil_append, Nat.add_zero] at hown2; have hb2 : Below w.heap.size w w2 := (hb1.alloc hb1.size _).grown hg2 (by have := hb1.size; simp; omega) (own_blk (World.ownsRow_made (e := 5) (size := 1) w1 #[] 0 hb1.size (Nat.zero_le _) rfl))))
    have hp2 := own_sl hown2
    clear hg2 hat2
    go_cut [50] (fun s50 wx => s50 = .bool (!(seal_ pay == front)) ∧ Below w2.heap.size w2 wx)
    case first =>
      have hb0 : Below w2.heap.size w2 w2.drew := (Below.refl _ _).drew
      have hfc : ∀ V : World, Below w2.heap.size w2 V → ∀ c', (convert 36 9 (.slice (some ⟨b, o, none⟩) (K + 4) c')).run Tryz.prog V = .ok (.string ⟨front.toArray⟩) V := fun V hV c' => HF0.out V (hb2.trans (hV.mono hb2.size)) c'
      have z5 : (K : Int) + 4 ≤ ((K + 4 : Nat) : Int) := by omega
      have z6 : (0 : Int) ≤ (K : Int) + 4 := by omega
      have z3 : ((K : Int) + 4).toNat = K + 4 := by omega
      have z1 : IntKind.i64.wrap 0 = 0 := by decide
      have z2 : IntKind.i64.wrap ((K : Int) + 4) = (K : Int) + 4 := IntWalk.i64_in _ (by omega)
      go_region_held (fun V => Below w2.heap.size w2 V) (first | exact hb0 | exact hb0.trans (by assumption)) (first | (go_at_call 56; refine (refSeal_any _ _ _ pay _ (hp2.below hb0) (by omega)).mono ?_; rintro e w3 ⟨A3, c3, rfl, hown3, hb3⟩; have hcv3 := run_str (P := Tryz.prog) (c := c3) (own_sl hown3) 36 5 9 Tryz.underlying36 Tryz.underlying5 Tryz.underlying9; have hb03 : Below w2.heap.size w2 w3 := hb0.trans hb3))
      all_goals (go_wp2_with fail; go_meet; exact ⟨rfl, by assumption⟩)
    case rest =>
      obtain ⟨rfl, hbx⟩ := hcut
      by_cases he : seal_ pay = front
      · have he' : (seal_ pay == front) = true := by simpa using he
        rw [he']
        have HR := Lib.hid (HT.out.trans (if_pos he))
        clear he he' HT
        go_wp2_with fail
        go_ret2
        rw [HR.out]
        refine ⟨A2, c2, by simp [hp0], ?_, hb2.trans (hbx.mono hb2.size)⟩
        have h := own_keep hown2 hbx
        rw [hp0]
        exact h
      · have he' : (seal_ pay == front) = false := by simpa using he
        rw [he']
        have HR := Lib.hid (HT.out.trans (if_neg he))
        clear he he' HT
        go_wp2_with fail
        go_ret2
        rw [HR.out]
        exact RefTakePost.no (hb2.trans (hbx.mono hb2.size))
  · have hcK2 : ¬ c = K := by omega
    go_enter Tryz.func72, Tryz.ntmps72
    go_wp2_with (first
      | (go_at_call 95; refine (HC.out).mono ?_; rintro e w1 ⟨rfl, hb1⟩)
      | (at_builtin; refine wpList_app _ rfl (.tmp 28) (.tmp 37) 36 rfl w.heap.size bytesEl (by decide) _ 0 [] rfl (World.ownsRow_made w1 #[] 0 hb1.size (Nat.zero_le _) rfl) _ _ _ (bv pay) rfl ((hpayU.below hb1).alloc _) (bv_one _) (by omega) (by have := hb1.size; simp; omega) ?_; intro A2 c2 w2 hown2 hg2 hat2; simp only [Nat.zero_add, List.nil_append, Nat.add_sub_cancel_left] at hown2; have hb2 : Below w.heap.size w w2 := (hb1.alloc hb1.size _).grown hg2 (by have := hb1.size; simp; omega) (own_blk (World.ownsRow_made (e := 5) (size := 1) w1 #[] 0 hb1.size (Nat.zero_le _) rfl))))
    have hp2 := own_sl hown2
    clear hg2 hat2
    go_cut [50] (fun s50 wx => s50 = .bool (!(seal_ pay == front)) ∧ Below w2.heap.size w2 wx)
    case first =>
      have hb0 : Below w2.heap.size w2 w2.drew := (Below.refl _ _).drew
      have hfc : ∀ V : World, Below w2.heap.size w2 V → ∀ c', (convert 36 9 (.slice (some ⟨b, o, none⟩) (K + 4 + N) c')).run Tryz.prog V = .ok (.string ⟨front.toArray⟩) V := fun V hV c' => HF.out V (hb2.trans (hV.mono hb2.size)) c'
      have z5 : (K : Int) + 4 + N ≤ (c : Int) := by omega
      have z6 : (0 : Int) ≤ (K : Int) + 4 + N := by omega
      have z7 : ((K : Int) + 4 + N).toNat = K + 4 + N := by omega
      have z1 : IntKind.i64.wrap (N : Int) = (N : Int) := IntWalk.i64_in _ (by omega)
      have z2 : IntKind.i64.wrap ((K : Int) + 4) = (K : Int) + 4 := IntWalk.i64_in _ (by omega)
      have z3 : IntKind.i64.wrap ((K : Int) + 4 + N) = (K : Int) + 4 + N := IntWalk.i64_in _ (by omega)
      go_region_held (fun V => Below w2.heap.size w2 V) (first | exact hb0 | exact hb0.trans (by assumption)) (first | (go_at_call 56; refine (refSeal_any _ _ _ pay _ (hp2.below hb0) (by omega)).mono ?_; rintro e w3 ⟨A3, c3, rfl, hown3, hb3⟩; have hcv3 := run_str (P := Tryz.prog) (c := c3) (own_sl hown3) 36 5 9 Tryz.underlying36 Tryz.underlying5 Tryz.underlying9; have hb03 : Below w2.heap.size w2 w3 := hb0.trans hb3))
      all_goals (go_wp2_with fail; go_meet; exact ⟨rfl, by assumption⟩)
    case rest =>
      obtain ⟨rfl, hbx⟩ := hcut
      by_cases he : seal_ pay = front
      · have he' : (seal_ pay == front) = true := by simpa using he
        rw [he']
        have HR := Lib.hid (HT.out.trans (if_pos he))
        clear he he' HT
        go_wp2_with fail
        go_ret2
        rw [HR.out]
        refine ⟨A2, c2, by simp [hpl], ?_, hb2.trans (hbx.mono hb2.size)⟩
        have h := own_keep hown2 hbx
        rw [hpl]
        exact h
      · have he' : (seal_ pay == front) = false := by simpa using he
        rw [he']
        have HR := Lib.hid (HT.out.trans (if_neg he))
        clear he he' HT
        go_wp2_with fail
        go_ret2
        rw [HR.out]
        exact RefTakePost.no (hb2.trans (hbx.mono hb2.size))
end Go.Proofs.YtnbomifnbhijbaaGreatDoor
