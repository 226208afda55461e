/-
  Texts put together: FrameF, FrameG, FrameH, FrameI.
-/
import Derived.Test.YtadkgfhfjagmpaaGreatDoorAwake
import Derived.BigGuardPart
namespace Go.Proofs.YtadkgfhfjagmpaaGreatDoor
open Go.RowKit Num Crc

/-- The payload of the frame at the front, and the frame's size; 0: none. -/
def tk (l : List UInt8) : List UInt8 × Nat :=
  if (tu l).2 = 0 ∨ 4096 < (tu l).1 ∨ l.length < (tu l).2 + 4 + (tu l).1 then ([], 0)
  else if (l.drop (tu l).2).take 4 = sumle (Crc.sum ((l.drop ((tu l).2 + 4)).take (tu l).1)) then ((l.drop ((tu l).2 + 4)).take (tu l).1, (tu l).2 + 4 + (tu l).1)
  else ([], 0)

theorem own_mono {w : World} {B B' : Nat} {e : TypeId} {v : Value} {n : Nat} {xs : List Value} (h : w.ownsRow B e 1 v n xs) (hB : B' ≤ B) : w.ownsRow B' e 1 v n xs := by
  refine ⟨h.1, ?_⟩
  rcases h.2 with h0 | ⟨g, cap, cur, h1, h2, h3⟩
  · exact .inl h0
  · exact .inr ⟨g, cap, cur, h1, Nat.le_trans hB h2, h3⟩

/-- What Take answers. -/
def TakePost (w : World) (q : List UInt8) (n : Nat) (e : Ending) (w' : World) : Prop :=
  ∃ A c, e = .returned (.tuple #[.slice A q.length c, .int .i64 n, .int .i64 (if n = 0 then 10 else 0)]) ∧ w'.ownsRow w.heap.size 5 1 (.slice A q.length c) q.length (bv q) ∧ Below w.heap.size w w'
theorem TakePost.no {w w' : World} (h : Below w.heap.size w w') : TakePost w [] 0 (.returned (.tuple #[.slice none 0 0, .int .i64 0, .int .i64 10])) w' :=
  ⟨none, 0, rfl, World.ownsRow_nil _ _ _ _, h⟩

set_option maxRecDepth 20000 in
set_option maxHeartbeats 3200000 in
theorem take_any (A : Option Addr) (n c : Nat) (l : List UInt8) (w : World) (hL : Laid w) (hs : Sl w A n (bv l)) (hn : n ≤ 140737488351232) (hnc : n ≤ c) :
    Calls Tryz.prog 157 #[.slice A n c] w (TakePost w (tk l).1 (tk l).2) := by
  have hlen := hs.len
  have hcall := takeUint_any A n c l w hs (by omega)
  have hN := tu_lt l
  have hK := tu_le l
  have htk : tk l = if (tu l).2 = 0 ∨ 4096 < (tu l).1 ∨ l.length < (tu l).2 + 4 + (tu l).1 then ([], 0)
    else if (l.drop (tu l).2).take 4 = sumle (Crc.sum ((l.drop ((tu l).2 + 4)).take (tu l).1)) then ((l.drop ((tu l).2 + 4)).take (tu l).1, (tu l).2 + 4 + (tu l).1) else ([], 0) := rfl
  generalize tu l = p at hcall hN hK htk
  obtain ⟨N, K⟩ := p
  simp only at hcall hN hK htk
  have HN := Lib.hid hN
  have HT := Lib.hid htk
  have HC := Lib.hid hcall
  have GL := Lib.hid hL
  clear hN htk hcall hL
  by_cases hK0 : K = 0
  · subst hK0
    go_enter Tryz.func157, Tryz.ntmps157
    go_wp2_with (go_at_call 173; refine (HC.out).mono ?_; rintro e w' ⟨rfl, rfl⟩)
    go_ret3
    rw [HT.out, if_pos (.inl trivial)]
    exact TakePost.no (Below.refl _ _)
  have hK1 : ((K : Int) == 0) = false := by simp; omega
  by_cases hN4 : (4096 : Int) < N
  · go_enter Tryz.func157, Tryz.ntmps157
    go_wp2_with (go_at_call 173; refine (HC.out).mono ?_; rintro e w' ⟨rfl, rfl⟩)
    go_ret3
    rw [HT.out, if_pos (.inr (.inl (by omega)))]
    exact TakePost.no (Below.refl _ _)
  by_cases hnK : (n : Int) < K + 4 + N
  · go_enter Tryz.func157, Tryz.ntmps157
    go_wp2_with (go_at_call 173; refine (HC.out).mono ?_; rintro e w' ⟨rfl, rfl⟩)
    go_ret3
    rw [HT.out, if_pos (.inr (.inr (by omega)))]
    exact TakePost.no (Below.refl _ _)
  obtain ⟨b, o, rfl, -⟩ := hs.2 (by omega)
  have hfour := hs.win (i := K) (j := K + 4) (by omega) (by omega)
  have hpay := hs.win (i := K + 4) (j := K + 4 + N) (by omega) (by omega)
  have ht := HT.out
  clear HT
  have e2 : (l.drop (K + 4)).take N = (l.drop (K + 4)).take (K + 4 + N - (K + 4)) := by rw [show K + 4 + N - (K + 4) = N from by omega]
  rw [if_neg (by omega), e2] at ht
  clear e2
  rw [show K + 4 - K = 4 from by omega] at hfour
  generalize (l.drop (K + 4)).take (K + 4 + N - (K + 4)) = pay at hpay ht
  generalize (l.drop K).take 4 = four at hfour ht
  have hpl := hpay.len
  have hpn : pay.length ≤ 4096 := by omega
  have HT := Lib.hid ht
  clear ht
  have hz : (K : Int) + 4 ≤ (K : Int) + 4 + N := by omega
  have hz1 : (K : Int) ≤ (K : Int) + 4 := by omega
  by_cases hcK : c = K + 4
  · have hN0 : N = 0 := by omega
    have hp0 : pay = [] := List.eq_nil_of_length_eq_zero (by omega)
    subst hN0
    replace hpay : Sl w (some ⟨b, o, none⟩) 0 (bv pay) := by rw [hp0]; exact Sl.none_ w _
    clear hp0
    subst hcK
    go_enter Tryz.func157, Tryz.ntmps157
    go_wp2_with (go_at_call 173; refine (HC.out).mono ?_; rintro e w' ⟨rfl, rfl⟩)
    have hb0 : Below w.heap.size w w.drew := (Below.refl _ _).drew
    simp only [Nat.sub_self]
    go_cut [43] (fun s43 wx => s43 = .bool (!(four == sumle (Crc.sum pay))) ∧ Below w.heap.size w wx)
    case first =>
      have z3 : ((K : Int) + 4).toNat = K + 4 := by omega
      go_region_held (fun V => Below w.heap.size w V) (first | exact hb0 | exact hb0.trans (by assumption)) (first | (go_at_call 114; refine (sum_any _ _ _ pay _ (GL.out.keep hb0) (hpay.below hb0) (by omega)).mono ?_; rintro e w' ⟨rfl, rfl⟩) | (go_at_call 113; refine (sumBytes_any _ (sum_lt pay) _).mono ?_; rintro e w3 ⟨A3, c3, rfl, hown3, hb3⟩; have hb03 : Below w.heap.size w w3 := hb0.trans hb3) | (go_at_call 187; refine (equal_any _ _ _ _ _ _ four (sumle (Crc.sum pay)) _ (hfour.below hb03) (own_sl hown3)).mono ?_; rintro e w4 ⟨rfl, rfl⟩))
      all_goals (go_wp2_with fail; go_meet; exact ⟨rfl, by assumption⟩)
    case rest =>
      obtain ⟨rfl, hbx⟩ := hcut
      rename_i wx
      by_cases he : four = sumle (Crc.sum pay)
      · have he' : (four == sumle (Crc.sum pay)) = true := by simpa using he
        rw [he']
        have ht := HT.out.trans (if_pos he)
        have HR := Lib.hid ht
        clear he he' ht HT
        go_wp2_with (go_at_call 105; refine (clone_any _ _ _ pay _ (hpay.below hbx) (by omega)).mono ?_; rintro e w5 ⟨A5, c5, rfl, hown5, hb5⟩)
        go_ret3
        rw [HR.out]
        refine ⟨A5, c5, by simp [hpl], own_mono hown5 hbx.size, hbx.trans (hb5.mono hbx.size)⟩
      · have he' : (four == sumle (Crc.sum pay)) = false := by simpa using he
        rw [he']
        have HR := Lib.hid (HT.out.trans (if_neg he))
        clear he he' HT
        go_wp2_with fail
        go_ret3
        rw [HR.out]
        exact TakePost.no hbx
  · have hcK2 : ¬ c = K := by omega
    go_enter Tryz.func157, Tryz.ntmps157
    go_wp2_with (go_at_call 173; refine (HC.out).mono ?_; rintro e w' ⟨rfl, rfl⟩)
    have hb0 : Below w.heap.size w w.drew := (Below.refl _ _).drew
    generalize hm : K + 4 + N - (K + 4) = m at hpay hpl ⊢
    have HM := Lib.hid hm
    clear hm
    go_cut [43] (fun s43 wx => s43 = .bool (!(four == sumle (Crc.sum pay))) ∧ Below w.heap.size w wx)
    case first =>
      go_region_held (fun V => Below w.heap.size w V) (first | exact hb0 | exact hb0.trans (by assumption)) (first | (go_at_call 114; refine (sum_any _ _ _ pay _ (GL.out.keep hb0) (hpay.below hb0) (by omega)).mono ?_; rintro e w' ⟨rfl, rfl⟩) | (go_at_call 113; refine (sumBytes_any _ (sum_lt pay) _).mono ?_; rintro e w3 ⟨A3, c3, rfl, hown3, hb3⟩; have hb03 : Below w.heap.size w w3 := hb0.trans hb3) | (go_at_call 187; refine (equal_any _ _ _ _ _ _ four (sumle (Crc.sum pay)) _ (hfour.below hb03) (own_sl hown3)).mono ?_; rintro e w4 ⟨rfl, rfl⟩))
      all_goals (go_wp2_with fail; go_meet; exact ⟨rfl, by assumption⟩)
    case rest =>
      obtain ⟨rfl, hbx⟩ := hcut
      rename_i wx
      by_cases he : four = sumle (Crc.sum pay)
      · have he' : (four == sumle (Crc.sum pay)) = true := by simpa using he
        rw [he']
        have ht := HT.out.trans (if_pos he)
        have HR := Lib.hid ht
        clear he he' ht HT
        go_wp2_with (go_at_call 105; refine (clone_any _ _ _ pay _ (hpay.below hbx) (by omega)).mono ?_; rintro e w5 ⟨A5, c5, rfl, hown5, hb5⟩)
        go_ret3
        rw [HR.out]
        refine ⟨A5, c5, by simp [hpl], own_mono hown5 hbx.size, hbx.trans (hb5.mono hbx.size)⟩
      · have he' : (four == sumle (Crc.sum pay)) = false := by simpa using he
        rw [he']
        have HR := Lib.hid (HT.out.trans (if_neg he))
        clear he he' HT
        go_wp2_with fail
        go_ret3
        rw [HR.out]
        exact TakePost.no hbx
end Go.Proofs.YtadkgfhfjagmpaaGreatDoor

namespace Go.Proofs.YtadkgfhfjagmpaaGreatDoor
open Go.RowKit Num Crc

theorem take_three (l : List UInt8) (K N : Nat) : l.take (K + 4 + N) = l.take K ++ ((l.drop K).take 4 ++ (l.drop (K + 4)).take N) := by
  rw [Nat.add_assoc, List.take_add, List.take_add, List.drop_drop]
theorem seal_front {l : List UInt8} {K N : Nat} (hv : vint N = l.take K) (hl : K + 4 + N ≤ l.length) :
    (seal_ ((l.drop (K + 4)).take N) = l.take (K + 4 + N)) ↔ (l.drop K).take 4 = sumle (Crc.sum ((l.drop (K + 4)).take N)) := by
  have hp : ((l.drop (K + 4)).take N).length = N := by rw [List.length_take, List.length_drop]; omega
  unfold seal_
  rw [hp, hv, take_three]
  constructor
  · intro h
    have h2 := List.append_cancel_left h
    exact (List.append_cancel_right h2).symm
  · intro h
    rw [h]

theorem Sl.zero {w : World} {A : Option Addr} {m : Nat} {p : List UInt8} (hm : m = 0) (hp : p = []) : Sl w A m (bv p) := by
  subst hm hp; exact Sl.none_ w A

/-- What the reference's Take answers. -/
def RefTakePost (w : World) (q : List UInt8) (n : Nat) (e : Ending) (w' : World) : Prop :=
  ∃ A c, e = .returned (.tuple #[.slice A q.length c, .int .i64 n]) ∧ w'.ownsRow w.heap.size 5 1 (.slice A q.length c) q.length (bv q) ∧ Below w.heap.size w w'
theorem RefTakePost.no {w w' : World} (h : Below w.heap.size w w') : RefTakePost w [] 0 (.returned (.tuple #[.slice none 0 0, .int .i64 0])) w' :=
  ⟨none, 0, rfl, World.ownsRow_nil _ _ _ _, h⟩

set_option maxRecDepth 20000 in
set_option maxHeartbeats 3200000 in
theorem refTake_any (A : Option Addr) (n c : Nat) (l : List UInt8) (w : World) (hs : Sl w A n (bv l)) (hn : n ≤ 140737488351232) (hnc : n ≤ c) :
    Calls Tryz.prog 108 #[.slice A n c] w (RefTakePost w (tk l).1 (tk l).2) := by
  have hlen := hs.len
  have hcall := refTakeUint_any A n c l w hs (by omega) hnc
  have hN := tu_lt l
  have hK := tu_le l
  have hvp : 0 < (tu l).2 → vint (tu l).1 = l.take (tu l).2 := fun h => (tu_some rfl h).1
  have htk : tk l = if (tu l).2 = 0 ∨ 4096 < (tu l).1 ∨ l.length < (tu l).2 + 4 + (tu l).1 then ([], 0)
    else if (l.drop (tu l).2).take 4 = sumle (Crc.sum ((l.drop ((tu l).2 + 4)).take (tu l).1)) then ((l.drop ((tu l).2 + 4)).take (tu l).1, (tu l).2 + 4 + (tu l).1) else ([], 0) := rfl
  generalize tu l = p at hcall hN hK htk hvp
  obtain ⟨N, K⟩ := p
  simp only at hcall hN hK htk hvp
  have HN := Lib.hid hN
  have HT := Lib.hid htk
  have HC := Lib.hid hcall
  have HV := Lib.hid hvp
  clear hN htk hcall hvp
  by_cases hK0 : K = 0
  · subst hK0
    go_enter Tryz.func108, Tryz.ntmps108
    go_wp2_with (go_at_call 137; refine (HC.out).mono ?_; rintro e w1 ⟨rfl, hb1⟩)
    go_ret2
    rw [HT.out, if_pos (.inl trivial)]
    exact RefTakePost.no hb1
  have hK1 : ((K : Int) == 0) = false := by simp; omega
  by_cases hN4 : (4096 : Int) < N
  · go_enter Tryz.func108, Tryz.ntmps108
    go_wp2_with (go_at_call 137; refine (HC.out).mono ?_; rintro e w1 ⟨rfl, hb1⟩)
    go_ret2
    rw [HT.out, if_pos (.inr (.inl (by omega)))]
    exact RefTakePost.no hb1
  by_cases hnK : (n : Int) < K + 4 + N
  · go_enter Tryz.func108, Tryz.ntmps108
    go_wp2_with (go_at_call 137; refine (HC.out).mono ?_; rintro e w1 ⟨rfl, hb1⟩)
    go_ret2
    rw [HT.out, if_pos (.inr (.inr (by omega)))]
    exact RefTakePost.no hb1
  obtain ⟨b, o, rfl, -⟩ := hs.2 (by omega)
  have hpay := hs.win (i := K + 4) (j := K + 4 + N) (by omega) (by omega)
  have hall := hs.take (k := K + 4 + N) (by omega)
  rw [take_bv] at hall
  have ht := HT.out
  clear HT
  have hsf := seal_front (HV.out (by omega)) (l := l) (by omega)
  rw [if_neg (by omega)] at ht
  simp only [← hsf] at ht
  rw [show K + 4 + N - (K + 4) = N from by omega] at hpay
  clear hsf
  generalize (l.drop (K + 4)).take N = pay at hpay ht
  generalize l.take (K + 4 + N) = front at hall ht
  have hpl := hpay.len
  have hpn : pay.length ≤ 4096 := by omega
  have HT := Lib.hid ht
  clear ht
  have hpayU : Sl w (some ⟨b, o + (K + 4), none⟩) (K + 4 + N - (K + 4)) (bv pay) := by rw [show K + 4 + N - (K + 4) = N from by omega]; exact hpay
  have hz : (K : Int) + 4 ≤ (K : Int) + 4 + N := by omega
  have hz1 : (K : Int) ≤ (K : Int) + 4 := by omega
  have hcvf : ∀ V : World, Below w.heap.size w V → ∀ c', (convert 28 9 (.slice (some ⟨b, o, none⟩) (K + 4 + N) c')).run Tryz.prog V = .ok (.string ⟨front.toArray⟩) V := fun V hV c' =>
    run_str (P := Tryz.prog) (hall.below hV) 28 5 9 Tryz.underlying28 Tryz.underlying5 Tryz.underlying9
  have HF := Lib.hid hcvf
  clear hcvf
  by_cases hcK : c = K + 4
  · have hN0 : N = 0 := by omega
    have HP := Lib.hid (show pay = [] from List.eq_nil_of_length_eq_zero (by omega))
    subst hN0
    have HF0 := Lib.hid (fun V hV c' => HF.out V hV c' : ∀ V : World, Below w.heap.size w V → ∀ c', (convert 28 9 (.slice (some ⟨b, o, none⟩) (K + 4) c')).run Tryz.prog V = .ok (.string ⟨front.toArray⟩) V)
    have hp0 : pay.length = 0 := by omega
    clear hpl HF
    subst hcK
    go_enter Tryz.func108, Tryz.ntmps108
    go_wp2_with (first
      | (go_at_call 137; refine (HC.out).mono ?_; rintro e w1 ⟨rfl, hb1⟩)
      | (at_builtin; refine wpList_app _ rfl (.tmp 28) (.tmp 37) 28 rfl w.heap.size bytesEl (by decide) _ 0 [] rfl (World.ownsRow_made w1 #[] 0 hb1.size (Nat.zero_le _) rfl) _ _ _ (bv pay) rfl (Sl.zero (by omega) HP.out) (bv_one _) (by omega) (by have := hb1.size; simp; omega) ?_; intro A2 c2 w2 hown2 hg2 hat2; simp only [List.nil_append, Nat.add_zero] at hown2; have hb2 : Below w.heap.size w w2 := (hb1.alloc hb1.size _).grown hg2 (by have := hb1.size; simp; omega) (own_blk (World.ownsRow_made (e := 5) (size := 1) w1 #[] 0 hb1.size (Nat.zero_le _) rfl))))
    have hp2 := own_sl hown2
    clear hg2 hat2
    go_cut [50] (fun s50 wx => s50 = .bool (!(seal_ pay == front)) ∧ Below w2.heap.size w2 wx)
    case first =>
      have hb0 : Below w2.heap.size w2 w2.drew := (Below.refl _ _).drew
      have hfc : ∀ V : World, Below w2.heap.size w2 V → ∀ c', (convert 28 9 (.slice (some ⟨b, o, none⟩) (K + 4) c')).run Tryz.prog V = .ok (.string ⟨front.toArray⟩) V := fun V hV c' => HF0.out V (hb2.trans (hV.mono hb2.size)) c'
      have z5 : (K : Int) + 4 ≤ ((K + 4 : Nat) : Int) := by omega
      have z6 : (0 : Int) ≤ (K : Int) + 4 := by omega
      have z3 : ((K : Int) + 4).toNat = K + 4 := by omega
      have z1 : IntKind.i64.wrap 0 = 0 := by decide
      have z2 : IntKind.i64.wrap ((K : Int) + 4) = (K : Int) + 4 := IntWalk.i64_in _ (by omega)
      go_region_held (fun V => Below w2.heap.size w2 V) (first | exact hb0 | exact hb0.trans (by assumption)) (first | (go_at_call 71; refine (refSeal_any _ _ _ pay _ (hp2.below hb0) (by omega)).mono ?_; rintro e w3 ⟨A3, c3, rfl, hown3, hb3⟩; have hcv3 := run_str (P := Tryz.prog) (c := c3) (own_sl hown3) 28 5 9 Tryz.underlying28 Tryz.underlying5 Tryz.underlying9; have hb03 : Below w2.heap.size w2 w3 := hb0.trans hb3))
      all_goals (go_wp2_with fail; go_meet; exact ⟨rfl, by assumption⟩)
    case rest =>
      obtain ⟨rfl, hbx⟩ := hcut
      by_cases he : seal_ pay = front
      · have he' : (seal_ pay == front) = true := by simpa using he
        rw [he']
        have HR := Lib.hid (HT.out.trans (if_pos he))
        clear he he' HT
        go_wp2_with fail
        go_ret2
        rw [HR.out]
        refine ⟨A2, c2, by simp [hp0], ?_, hb2.trans (hbx.mono hb2.size)⟩
        have h := own_keep hown2 hbx
        rw [hp0]
        exact h
      · have he' : (seal_ pay == front) = false := by simpa using he
        rw [he']
        have HR := Lib.hid (HT.out.trans (if_neg he))
        clear he he' HT
        go_wp2_with fail
        go_ret2
        rw [HR.out]
        exact RefTakePost.no (hb2.trans (hbx.mono hb2.size))
  · have hcK2 : ¬ c = K := by omega
    go_enter Tryz.func108, Tryz.ntmps108
    go_wp2_with (first
      | (go_at_call 137; refine (HC.out).mono ?_; rintro e w1 ⟨rfl, hb1⟩)
      | (at_builtin; refine wpList_app _ rfl (.tmp 28) (.tmp 37) 28 rfl w.heap.size bytesEl (by decide) _ 0 [] rfl (World.ownsRow_made w1 #[] 0 hb1.size (Nat.zero_le _) rfl) _ _ _ (bv pay) rfl ((hpayU.below hb1).alloc _) (bv_one _) (by omega) (by have := hb1.size; simp; omega) ?_; intro A2 c2 w2 hown2 hg2 hat2; simp only [Nat.zero_add, List.nil_append, Nat.add_sub_cancel_left] at hown2; have hb2 : Below w.heap.size w w2 := (hb1.alloc hb1.size _).grown hg2 (by have := hb1.size; simp; omega) (own_blk (World.ownsRow_made (e := 5) (size := 1) w1 #[] 0 hb1.size (Nat.zero_le _) rfl))))
    have hp2 := own_sl hown2
    clear hg2 hat2
    go_cut [50] (fun s50 wx => s50 = .bool (!(seal_ pay == front)) ∧ Below w2.heap.size w2 wx)
    case first =>
      have hb0 : Below w2.heap.size w2 w2.drew := (Below.refl _ _).drew
      have hfc : ∀ V : World, Below w2.heap.size w2 V → ∀ c', (convert 28 9 (.slice (some ⟨b, o, none⟩) (K + 4 + N) c')).run Tryz.prog V = .ok (.string ⟨front.toArray⟩) V := fun V hV c' => HF.out V (hb2.trans (hV.mono hb2.size)) c'
      have z5 : (K : Int) + 4 + N ≤ (c : Int) := by omega
      have z6 : (0 : Int) ≤ (K : Int) + 4 + N := by omega
      have z7 : ((K : Int) + 4 + N).toNat = K + 4 + N := by omega
      have z1 : IntKind.i64.wrap (N : Int) = (N : Int) := IntWalk.i64_in _ (by omega)
      have z2 : IntKind.i64.wrap ((K : Int) + 4) = (K : Int) + 4 := IntWalk.i64_in _ (by omega)
      have z3 : IntKind.i64.wrap ((K : Int) + 4 + N) = (K : Int) + 4 + N := IntWalk.i64_in _ (by omega)
      go_region_held (fun V => Below w2.heap.size w2 V) (first | exact hb0 | exact hb0.trans (by assumption)) (first | (go_at_call 71; refine (refSeal_any _ _ _ pay _ (hp2.below hb0) (by omega)).mono ?_; rintro e w3 ⟨A3, c3, rfl, hown3, hb3⟩; have hcv3 := run_str (P := Tryz.prog) (c := c3) (own_sl hown3) 28 5 9 Tryz.underlying28 Tryz.underlying5 Tryz.underlying9; have hb03 : Below w2.heap.size w2 w3 := hb0.trans hb3))
      all_goals (go_wp2_with fail; go_meet; exact ⟨rfl, by assumption⟩)
    case rest =>
      obtain ⟨rfl, hbx⟩ := hcut
      by_cases he : seal_ pay = front
      · have he' : (seal_ pay == front) = true := by simpa using he
        rw [he']
        have HR := Lib.hid (HT.out.trans (if_pos he))
        clear he he' HT
        go_wp2_with fail
        go_ret2
        rw [HR.out]
        refine ⟨A2, c2, by simp [hpl], ?_, hb2.trans (hbx.mono hb2.size)⟩
        have h := own_keep hown2 hbx
        rw [hpl]
        exact h
      · have he' : (seal_ pay == front) = false := by simpa using he
        rw [he']
        have HR := Lib.hid (HT.out.trans (if_neg he))
        clear he he' HT
        go_wp2_with fail
        go_ret2
        rw [HR.out]
        exact RefTakePost.no (hb2.trans (hbx.mono hb2.size))
end Go.Proofs.YtadkgfhfjagmpaaGreatDoor

namespace Go.Proofs.YtadkgfhfjagmpaaGreatDoor
open Go.RowKit Num Crc
set_option linter.unusedVariables false

theorem rowsEl : El Tryz.prog 23 28 (.slice none 0 0) 24 := ⟨Tryz.underlying23, by kernel_rfl, rfl⟩

/-- Each value is a slice of bytes that the call owns and that holds the list's bytes. -/
def Each (w : World) (B : Nat) : List Value → List (List UInt8) → Prop
  | [], [] => True
  | v :: vs, l :: ls => (∃ A c, v = .slice A l.length c ∧ w.ownsRow B 5 1 (.slice A l.length c) l.length (bv l)) ∧ Each w B vs ls
  | _, _ => False
/-- Each value is a slice of bytes that holds the list's bytes. -/
def EachS (w : World) : List Value → List (List UInt8) → Prop
  | [], [] => True
  | v :: vs, l :: ls => (∃ A c, v = .slice A l.length c ∧ Sl w A l.length (bv l)) ∧ EachS w vs ls
  | _, _ => False
theorem Each.len {w : World} {B : Nat} : ∀ {vs : List Value} {ls : List (List UInt8)}, Each w B vs ls → vs.length = ls.length
  | [], [], _ => rfl
  | _ :: vs, _ :: ls, h => by simp [Each.len (vs := vs) (ls := ls) h.2]
  | [], _ :: _, h => h.elim
  | _ :: _, [], h => h.elim
theorem EachS.len {w : World} : ∀ {vs : List Value} {ls : List (List UInt8)}, EachS w vs ls → vs.length = ls.length
  | [], [], _ => rfl
  | _ :: vs, _ :: ls, h => by simp [EachS.len (vs := vs) (ls := ls) h.2]
  | [], _ :: _, h => h.elim
  | _ :: _, [], h => h.elim
theorem Each.toS {w : World} {B : Nat} : ∀ {vs : List Value} {ls : List (List UInt8)}, Each w B vs ls → EachS w vs ls
  | [], [], _ => trivial
  | _ :: vs, _ :: ls, h => by
    obtain ⟨⟨A, c, rfl, ho⟩, h2⟩ := h
    exact ⟨⟨A, c, rfl, own_sl ho⟩, Each.toS h2⟩
  | [], _ :: _, h => h.elim
  | _ :: _, [], h => h.elim
theorem Each.imp {w w' : World} {B B' : Nat} (hk : ∀ A l c, w.ownsRow B 5 1 (.slice A l c) l = w.ownsRow B 5 1 (.slice A l c) l) (hh : ∀ (A : Option Addr) (l c : Nat) (xs : List Value), w.ownsRow B 5 1 (.slice A l c) l xs → w'.ownsRow B' 5 1 (.slice A l c) l xs) :
    ∀ {vs : List Value} {ls : List (List UInt8)}, Each w B vs ls → Each w' B' vs ls
  | [], [], _ => trivial
  | _ :: vs, _ :: ls, h => by
    obtain ⟨⟨A, c, rfl, ho⟩, h2⟩ := h
    exact ⟨⟨A, c, rfl, hh _ _ _ _ ho⟩, Each.imp hk hh h2⟩
  | [], _ :: _, h => h.elim
  | _ :: _, [], h => h.elim
theorem Each.below {w w' : World} {B : Nat} {vs : List Value} {ls : List (List UInt8)} (h : Each w B vs ls) (hb : Below w.heap.size w w') : Each w' B vs ls :=
  h.imp (fun _ _ _ => rfl) fun _ _ _ _ ho => own_keep ho hb
theorem Each.mono {w : World} {B B' : Nat} {vs : List Value} {ls : List (List UInt8)} (h : Each w B vs ls) (hB : B' ≤ B) : Each w B' vs ls :=
  h.imp (fun _ _ _ => rfl) fun _ _ _ _ ho => own_mono ho hB
theorem Each.snoc {w : World} {B : Nat} {A : Option Addr} {c : Nat} {l : List UInt8} (hn : w.ownsRow B 5 1 (.slice A l.length c) l.length (bv l)) :
    ∀ {vs : List Value} {ls : List (List UInt8)}, Each w B vs ls → Each w B (vs ++ [.slice A l.length c]) (ls ++ [l])
  | [], [], _ => ⟨⟨A, c, rfl, hn⟩, trivial⟩
  | _ :: vs, _ :: ls, h => ⟨h.1, Each.snoc hn h.2⟩
  | [], _ :: _, h => h.elim
  | _ :: _, [], h => h.elim
theorem Each.one {w : World} {B : Nat} : ∀ {vs : List Value} {ls : List (List UInt8)}, Each w B vs ls → ∀ u ∈ vs, u.oneCell' = true
  | [], [], _ => by intro u hu; cases hu
  | _ :: vs, _ :: ls, h => by
    intro u hu
    obtain ⟨⟨A, c, rfl, _⟩, h2⟩ := h
    rcases List.mem_cons.1 hu with rfl | hu
    · rfl
    · exact Each.one h2 u hu
  | [], _ :: _, h => h.elim
  | _ :: _, [], h => h.elim
/-- An append onto the outer row leaves the inner ones: their element types differ. -/
theorem Each.grown {w w' : World} {B B2 : Nat} {v : Value} {n : Nat} {xs : List Value} {vs : List Value} {ls : List (List UInt8)} (h : Each w B vs ls) (ho : w.ownsRow B2 28 1 v n xs) (hg : w.grownBy w' v.ownBlock) : Each w' B vs ls := by
  refine h.imp (fun _ _ _ => rfl) fun A l c ys hi => hi.kept hg ?_
  rcases hi.2 with ⟨h1, _⟩ | ⟨g, cap, cur, h1, _, h3, _⟩
  · left; rw [h1]; rfl
  · right
    rw [h1]
    rcases ho.2 with ⟨k1, _⟩ | ⟨g', cap', cur', k1, _, k3, _⟩
    · rw [k1]; simp [Value.ownBlock]
    · rw [k1]
      simp only [Value.ownBlock]
      intro e
      injection e with e
      subst e
      rw [h3] at k3
      injection k3 with k3
      injection k3 with _ k4
      exact absurd k4 (by decide)
theorem EachS.keep {w w' : World} (hk : ∀ k, k < w.heap.size → w'.heap[k]? = w.heap[k]?) : ∀ {vs : List Value} {ls : List (List UInt8)}, EachS w vs ls → EachS w' vs ls
  | [], [], _ => trivial
  | _ :: vs, _ :: ls, h => by
    obtain ⟨⟨A, c, rfl, ho⟩, h2⟩ := h
    exact ⟨⟨A, c, rfl, ho.keep hk⟩, EachS.keep hk h2⟩
  | [], _ :: _, h => h.elim
  | _ :: _, [], h => h.elim
theorem EachS.at_ {w : World} : ∀ {vs : List Value} {ls : List (List UInt8)}, EachS w vs ls → ∀ (k : Nat) (hk : k < ls.length), ∃ A c, vs[k]? = some (.slice A ls[k].length c) ∧ Sl w A ls[k].length (bv ls[k])
  | [], [], _ => by intro k hk; simp at hk
  | v :: vs, l :: ls, h => by
    intro k hk
    obtain ⟨⟨A, c, rfl, ho⟩, h2⟩ := h
    cases k with
    | zero => exact ⟨A, c, rfl, ho⟩
    | succ k =>
      obtain ⟨A', c', h3, h4⟩ := EachS.at_ h2 k (by simpa using hk)
      exact ⟨A', c', by simpa using h3, by simpa using h4⟩
  | [], _ :: _, h => h.elim
  | _ :: _, [], h => h.elim

/-! ### frames one behind the other -/
theorem tk_le (l : List UInt8) : (tk l).2 ≤ l.length := by
  unfold tk
  split
  · simp
  · split <;> simp; omega
theorem tk_zero {l : List UInt8} (h : (tk l).2 = 0) : (tk l).1 = [] := by
  unfold tk at h ⊢
  split
  · rfl
  · rename_i h1
    rw [if_neg h1] at h
    split
    · rename_i h2
      rw [if_pos h2] at h
      simp only at h; omega
    · rfl
theorem tk_short (l : List UInt8) : (tk l).1.length ≤ l.length := by
  unfold tk
  split
  · simp
  · split
    · simp [List.length_take, List.length_drop]; omega
    · simp
def scan (l : List UInt8) : List (List UInt8) × Nat :=
  if h : (tk l).2 = 0 then ([], 0) else ((tk l).1 :: (scan (l.drop (tk l).2)).1, (tk l).2 + (scan (l.drop (tk l).2)).2)
termination_by l.length
decreasing_by all_goals (have := tk_le l; simp only [List.length_drop]; omega)
theorem scan_stop {l : List UInt8} (h : (tk l).2 = 0) : scan l = ([], 0) := by rw [scan, dif_pos h]
theorem scan_step {l : List UInt8} (h : ¬ (tk l).2 = 0) : scan l = ((tk l).1 :: (scan (l.drop (tk l).2)).1, (tk l).2 + (scan (l.drop (tk l).2)).2) := by rw [scan, dif_neg h]

/-- What Scan answers: a new list of new slices, and the place. -/
def ScanPost (w : World) (ls : List (List UInt8)) (n : Nat) (e : Ending) (w' : World) : Prop :=
  ∃ A c vs, e = .returned (.tuple #[.slice A ls.length c, .int .i64 n]) ∧ w'.ownsRow w.heap.size 28 1 (.slice A ls.length c) ls.length vs ∧ Each w' w.heap.size vs ls ∧ Below w.heap.size w w'

theorem Sl.tail {w : World} {A : Option Addr} {n c : Nat} {l : List UInt8} (h : Sl w A n (bv l)) {e : Nat} (he : e ≤ n) (hnc : n ≤ c) : Sl w (if c = e then A else A.map (·.add (e * 1))) (n - e) (bv (l.drop e)) := by
  have h1 := h.drop (k := e) he (if c = e then A else A.map (·.add (e * 1))) (fun hlt b o hA => by
    rw [if_neg (by omega), hA]
    simp [add_plain])
  rwa [drop_bv] at h1

theorem slice_two {A A' : Option Addr} {n n' c c' : Nat} {a a' : Int} (h1 : A = A') (h2 : n = n') (h3 : c = c') (h4 : a = a') : Ending.returned (.tuple #[.slice A n c, .int .i64 a]) = .returned (.tuple #[.slice A' n' c', .int .i64 a']) := by rw [h1, h2, h3, h4]

set_option maxRecDepth 20000 in
set_option maxHeartbeats 6400000 in
theorem scan_any (A : Option Addr) (n c : Nat) (l : List UInt8) (w : World) (hL : Laid w) (hs : Sl w A n (bv l)) (hn : n ≤ 5000000) (hnc : n ≤ c) :
    Calls Tryz.prog 107 #[.slice A n c] w (ScanPost w (scan l).1 (scan l).2) := by
  have hlen := hs.len
  have GL := Lib.hid hL
  clear hL
  go_enter Tryz.func107, Tryz.ntmps107
  go_wp2_with fail
  go_loopw [4, 5] (fun s4 s5 wr => ∃ (e : Nat) (ps : List (List UInt8)) (A2 : Option Addr) (c2 : Nat) (vs : List Value), e ≤ n ∧ ps.length ≤ e ∧ s5 = .int .i64 e ∧ s4 = .slice A2 ps.length c2 ∧ wr.ownsRow w.heap.size 28 1 (.slice A2 ps.length c2) ps.length vs ∧ Each wr w.heap.size vs ps ∧ Below w.heap.size w wr ∧
      (scan l).1 = ps ++ (scan (l.drop e)).1 ∧ (scan l).2 = e + (scan (l.drop e)).2) (fun _ s5 _ => n - (intOf s5).toNat)
  case atStart => exact ⟨0, [], none, 0, [], Nat.zero_le _, Nat.zero_le _, rfl, rfl, World.ownsRow_nil _ _ _ _, trivial, Below.refl _ _, by simp, by simp⟩
  case round =>
    obtain ⟨e, ps, A2, c2, vs, he, hpe, rfl, rfl, hown, heach, hbr, hsc1, hsc2⟩ := hrel
    have HS1 := Lib.hid hsc1
    have HS2 := Lib.hid hsc2
    have htl := tk_le (l.drop e)
    have hsh := tk_short (l.drop e)
    rw [List.length_drop, hlen] at htl hsh
    have hq0 : (tk (l.drop e)).2 = 0 → (tk (l.drop e)).1 = [] := tk_zero
    clear hsc1 hsc2
    by_cases hen : e < n
    · obtain ⟨b, o, rfl, -⟩ := hs.2 (by omega)
      have hce : ¬ c = e := by omega
      have hsl : Sl wr (some ⟨b, o + e, none⟩) (n - e) (bv (l.drop e)) := by
        have h := (hs.below hbr).drop (k := e) he (some ⟨b, o + e, none⟩) (fun _ b' o' h => by injection h with h; injection h with h1 h2; subst h1 h2; rfl)
        rwa [drop_bv] at h
      have hct := take_any (some ⟨b, o + e, none⟩) (n - e) (c - e) (l.drop e) wr (GL.out.keep hbr) hsl (by omega) (by omega)
      by_cases hz : (tk (l.drop e)).2 = 0
      · have HR := Lib.hid (show (scan l).1 = ps ∧ (scan l).2 = e by rw [HS1.out, HS2.out, scan_stop hz]; simp)
        have hq := hq0 hz
        rw [hz, hq] at hct
        have HC := Lib.hid hct
        clear hct hz hq hq0 hsh htl HS1 HS2
        go_wp2_with fail
        refine HC.out.mono ?_
        rintro e3 w3 ⟨A3, c3, rfl, hown3, hb3⟩
        simp only [if_true]
        go_wp2_with fail
        go_ret2
        rw [HR.out.1, HR.out.2]
        exact ⟨A2, c2, vs, rfl, own_keep hown hb3, heach.below hb3, hbr.trans (hb3.mono hbr.size)⟩
      · have HZ := Lib.hid hz
        have HST := Lib.hid (scan_step hz)
        have HC := Lib.hid hct
        generalize hqg : tk (l.drop e) = qm at HC HST htl hsh hz
        obtain ⟨q, m⟩ := qm
        simp only at htl hsh hz
        have hmI : ¬ ((m : Int) = 0) := by omega
        clear hct hq0 hqg HZ
        go_wp2_with fail
        refine HC.out.mono ?_
        rintro e3 w3 ⟨A3, c3, rfl, hown3, hb3⟩
        simp only [hz, if_false]
        have hbr3 := hbr.trans (hb3.mono hbr.size)
        have hown' := own_keep hown hb3
        have heach' := (heach.below hb3).snoc (own_mono hown3 hbr.size)
        go_wp2_with (at_builtin; refine wpList_app _ rfl (.tmp 21) (.tmp 23) 23 rfl w.heap.size rowsEl (by decide) _ _ _ rfl (hown'.alloc _) (some ⟨w3.heap.size, 0, none⟩) 1 1 [.slice A3 q.length c3] rfl (Sl.new _ _ _) (by intro u hu; simp at hu; subst hu; rfl) (by omega) (by have := hbr3.size; simp; omega) ?_; intro A4 c4 w4 hown4 hg4 hat4)
        have heach4 := (heach'.below ((Below.refl _ w3).alloc (Nat.le_refl _) _)).grown (hown'.alloc _) hg4
        have hb4 := (hbr3.alloc hbr3.size _).grown hg4 (by have := hbr3.size; simp; omega) (own_blk hown')
        clear hg4 hat4 heach' hown' hown heach hown3
        go_wp2
        go_roundw
        case rel =>
          refine ⟨e + m, ps ++ [q], A4, c4, vs ++ [.slice A3 q.length c3], by omega, by simp; omega, by go_num, by simp, by simpa using hown4, heach4, hb4, ?_, ?_⟩
          · rw [HS1.out, HST.out, List.drop_drop]; simp
          · rw [HS2.out, HST.out, List.drop_drop]; simp; omega
        case measure => simp [intOf]; omega
    · have hen2 : e = n := by omega
      have hdrop : l.drop e = [] := List.drop_of_length_le (by omega)
      have htk0 : tk (l.drop e) = ([], 0) := by rw [hdrop]; decide +kernel
      have HR := Lib.hid (show (scan l).1 = ps ∧ (scan l).2 = e by rw [HS1.out, HS2.out, scan_stop (by rw [htk0])]; simp)
      have HD := Lib.hid (htk0)
      clear htk0 hq0 hsh htl HS1 HS2
      have HDR := Lib.hid hdrop
      clear hdrop
      subst hen2
      go_wp2_with fail
      all_goals
        refine (take_any _ _ _ (l.drop e) wr (GL.out.keep hbr) (Sl.zero (by omega) HDR.out) (by omega) (by omega)).mono ?_
        rw [HD.out]
        rintro e3 w3 ⟨A3, c3, rfl, hown3, hb3⟩
        simp only [if_true]
        go_wp2_with fail
        go_ret2
        rw [HR.out.1, HR.out.2]
        exact ⟨A2, c2, vs, rfl, own_keep hown hb3, heach.below hb3, hbr.trans (hb3.mono hbr.size)⟩
end Go.Proofs.YtadkgfhfjagmpaaGreatDoor

namespace Go.Proofs.YtadkgfhfjagmpaaGreatDoor
open Go.RowKit Num Crc
set_option linter.unusedVariables false

set_option maxRecDepth 20000 in
set_option maxHeartbeats 6400000 in
theorem refScan_any (A : Option Addr) (n c : Nat) (l : List UInt8) (w : World) (hs : Sl w A n (bv l)) (hn : n ≤ 5000000) (hnc : n ≤ c) :
    Calls Tryz.prog 59 #[.slice A n c] w (ScanPost w (scan l).1 (scan l).2) := by
  have hlen := hs.len
  go_enter Tryz.func59, Tryz.ntmps59
  go_wp2_with fail
  go_loopw [4, 5] (fun s4 s5 wr => ∃ (e : Nat) (ps : List (List UInt8)) (A2 : Option Addr) (c2 : Nat) (vs : List Value), e ≤ n ∧ ps.length ≤ e ∧ s5 = .int .i64 e ∧ s4 = .slice A2 ps.length c2 ∧ wr.ownsRow w.heap.size 28 1 (.slice A2 ps.length c2) ps.length vs ∧ Each wr w.heap.size vs ps ∧ Below w.heap.size w wr ∧
      (scan l).1 = ps ++ (scan (l.drop e)).1 ∧ (scan l).2 = e + (scan (l.drop e)).2) (fun _ s5 _ => n - (intOf s5).toNat)
  case atStart => exact ⟨0, [], none, 0, [], Nat.zero_le _, Nat.zero_le _, rfl, rfl, World.ownsRow_nil _ _ _ _, trivial, Below.refl _ _, by simp, by simp⟩
  case round =>
    obtain ⟨e, ps, A2, c2, vs, he, hpe, rfl, rfl, hown, heach, hbr, hsc1, hsc2⟩ := hrel
    have HS1 := Lib.hid hsc1
    have HS2 := Lib.hid hsc2
    have htl := tk_le (l.drop e)
    have hsh := tk_short (l.drop e)
    rw [List.length_drop, hlen] at htl hsh
    have hq0 : (tk (l.drop e)).2 = 0 → (tk (l.drop e)).1 = [] := tk_zero
    clear hsc1 hsc2
    by_cases hen : e < n
    · obtain ⟨b, o, rfl, -⟩ := hs.2 (by omega)
      have hce : ¬ c = e := by omega
      have hsl : Sl wr (some ⟨b, o + e, none⟩) (n - e) (bv (l.drop e)) := by
        have h := (hs.below hbr).drop (k := e) he (some ⟨b, o + e, none⟩) (fun _ b' o' h => by injection h with h; injection h with h1 h2; subst h1 h2; rfl)
        rwa [drop_bv] at h
      have hct := refTake_any (some ⟨b, o + e, none⟩) (n - e) (c - e) (l.drop e) wr hsl (by omega) (by omega)
      by_cases hz : (tk (l.drop e)).2 = 0
      · have HR := Lib.hid (show (scan l).1 = ps ∧ (scan l).2 = e by rw [HS1.out, HS2.out, scan_stop hz]; simp)
        have hq := hq0 hz
        rw [hz, hq] at hct
        have HC := Lib.hid hct
        clear hct hz hq hq0 hsh htl HS1 HS2
        go_wp2_with fail
        refine HC.out.mono ?_
        rintro e3 w3 ⟨A3, c3, rfl, hown3, hb3⟩
        go_wp2_with fail
        go_ret2
        rw [HR.out.1, HR.out.2]
        exact ⟨A2, c2, vs, rfl, own_keep hown hb3, heach.below hb3, hbr.trans (hb3.mono hbr.size)⟩
      · have HZ := Lib.hid hz
        have HST := Lib.hid (scan_step hz)
        have HC := Lib.hid hct
        generalize hqg : tk (l.drop e) = qm at HC HST htl hsh hz
        obtain ⟨q, m⟩ := qm
        simp only at htl hsh hz
        have hmI : ¬ ((m : Int) = 0) := by omega
        clear hct hq0 hqg HZ
        go_wp2_with fail
        refine HC.out.mono ?_
        rintro e3 w3 ⟨A3, c3, rfl, hown3, hb3⟩
        have hbr3 := hbr.trans (hb3.mono hbr.size)
        have hown' := own_keep hown hb3
        have heach' := (heach.below hb3).snoc (own_mono hown3 hbr.size)
        go_wp2_with (at_builtin; refine wpList_app _ rfl (.tmp 23) (.tmp 25) 23 rfl w.heap.size rowsEl (by decide) _ _ _ rfl (hown'.alloc _) (some ⟨w3.heap.size, 0, none⟩) 1 1 [.slice A3 q.length c3] rfl (Sl.new _ _ _) (by intro u hu; simp at hu; subst hu; rfl) (by omega) (by have := hbr3.size; simp; omega) ?_; intro A4 c4 w4 hown4 hg4 hat4)
        have heach4 := (heach'.below ((Below.refl _ w3).alloc (Nat.le_refl _) _)).grown (hown'.alloc _) hg4
        have hb4 := (hbr3.alloc hbr3.size _).grown hg4 (by have := hbr3.size; simp; omega) (own_blk hown')
        clear hg4 hat4 heach' hown' hown heach hown3
        go_wp2
        go_roundw
        case rel =>
          refine ⟨e + m, ps ++ [q], A4, c4, vs ++ [.slice A3 q.length c3], by omega, by simp; omega, by go_num, by simp, by simpa using hown4, heach4, hb4, ?_, ?_⟩
          · rw [HS1.out, HST.out, List.drop_drop]; simp
          · rw [HS2.out, HST.out, List.drop_drop]; simp; omega
        case measure => simp [intOf]; omega
    · have hen2 : e = n := by omega
      have hdrop : l.drop e = [] := List.drop_of_length_le (by omega)
      have htk0 : tk (l.drop e) = ([], 0) := by rw [hdrop]; decide +kernel
      have HR := Lib.hid (show (scan l).1 = ps ∧ (scan l).2 = e by rw [HS1.out, HS2.out, scan_stop (by rw [htk0])]; simp)
      have HD := Lib.hid (htk0)
      clear htk0 hq0 hsh htl HS1 HS2
      have HDR := Lib.hid hdrop
      clear hdrop
      subst hen2
      go_wp2_with fail
      go_ret2
      rw [HR.out.1, HR.out.2]
      exact ⟨A2, c2, vs, rfl, hown, heach, hbr⟩

set_option maxRecDepth 20000 in
set_option maxHeartbeats 3200000 in
theorem same_any (A B : Option Addr) (n c m d : Nat) (va vb : List Value) (la lb : List (List UInt8)) (w : World) (ha : Sl w A n va) (hb : Sl w B m vb) (ea : EachS w va la) (eb : EachS w vb lb) (hn : n ≤ 140737488351232) (hm : m ≤ 140737488351232) :
    Calls Tryz.prog 15 #[.slice A n c, .slice B m d] w fun e w' => e = .returned (.bool (decide (la = lb))) ∧ Below w.heap.size w w' := by
  have hla : la.length = n := by rw [← ea.len, ha.1]
  have hlb : lb.length = m := by rw [← eb.len, hb.1]
  by_cases hnm : n = m
  · have hnm' : ((n : Int) != m) = false := by simp; omega
    go_enter Tryz.func15, Tryz.ntmps15
    have HNM := Lib.hid hnm
    clear hnm
    go_wp2_with fail
    go_loopw [13] (fun i wr => ∃ k : Nat, k ≤ n ∧ i = .int .i64 k ∧ la.take k = lb.take k ∧ Below w.heap.size w wr) (fun i _ => n - (intOf i).toNat)
    case atStart => exact ⟨0, Nat.zero_le _, rfl, by simp, Below.refl _ _⟩
    case round =>
      obtain ⟨k, hk, rfl, heq, hbr⟩ := hrel
      have HQ := Lib.hid heq
      clear heq
      by_cases hlt : k < n
      · obtain ⟨Aa, ca, hva, hsa⟩ := ea.at_ k (by omega)
        obtain ⟨Ab, cb, hvb, hsb⟩ := eb.at_ k (by have := HNM.out; omega)
        obtain ⟨ba, oa, ua, rfl, hua, hca⟩ := ha.at_ hlt
        obtain ⟨bb, ob, ub, rfl, hub, hcb⟩ := hb.at_ (k := k) (by have := HNM.out; omega)
        rw [hva] at hua
        rw [hvb] at hub
        injection hua with hua
        injection hub with hub
        subst hua hub
        have hkm : (k : Int) < m := by have := HNM.out; omega
        have HD := Lib.hid (show (la.take (k + 1) = lb.take (k + 1)) ↔ la[k] = lb[k] by
          rw [List.take_succ_eq_append_getElem (l := la) (i := k) (by omega), List.take_succ_eq_append_getElem (l := lb) (i := k) (by omega), HQ.out]
          exact ⟨fun h => by have h2 := List.append_cancel_left h; injection h2, fun h => by rw [h]⟩)
        have HNE := Lib.hid (show la[k] ≠ lb[k] → la ≠ lb from fun h e => h (by subst e; rfl))
        generalize la[k] = xa at hsa hca HD HNE hva
        generalize lb[k] = xb at hsb hcb HD HNE hvb
        have hcra : wr.cell? ⟨ba, oa + k, none⟩ = some (.slice Aa xa.length ca) := by
          rw [hbr.cell (World.block_lt_of_cell? w _ hca)]; exact hca
        have hcrb : wr.cell? ⟨bb, ob + k, none⟩ = some (.slice Ab xb.length cb) := by
          rw [hbr.cell (World.block_lt_of_cell? w _ hcb)]; exact hcb
        have hva2 : ∀ q, (convert 28 9 (.slice Aa xa.length ca)).run Tryz.prog (wr.drewN q) = .ok (.string ⟨xa.toArray⟩) (wr.drewN q) := fun q =>
          run_str (P := Tryz.prog) ((hsa.below hbr).drewN q) 28 5 9 Tryz.underlying28 Tryz.underlying5 Tryz.underlying9
        have hvb2 : ∀ q, (convert 28 9 (.slice Ab xb.length cb)).run Tryz.prog (wr.drewN q) = .ok (.string ⟨xb.toArray⟩) (wr.drewN q) := fun q =>
          run_str (P := Tryz.prog) ((hsb.below hbr).drewN q) 28 5 9 Tryz.underlying28 Tryz.underlying5 Tryz.underlying9
        clear hca hcb hva hvb hsa hsb
        by_cases hx : xa = xb
        · have HX := Lib.hid hx
          have hx' : (xa == xb) = true := by simpa using hx
          clear hx
          go_wp2_with fail
          go_quiet (fail)
          have hbq : Below w.heap.size w (wr.drewN nq) := hbr.trans ⟨rfl, rfl, rfl, Nat.le_refl _, fun _ _ => rfl⟩
          clear hva2 hvb2 hcra hcrb hbr hx'
          go_wp2_with fail
          go_roundw
          case rel => exact ⟨k + 1, by omega, by go_num, HD.out.2 HX.out, hbq⟩
          case measure => simp [intOf]; omega
        · have hx' : (xa == xb) = false := by simpa using hx
          have HX := Lib.hid (HNE.out hx)
          clear hx
          go_wp2_with fail
          go_quiet (fail)
          have hbq : Below w.heap.size w (wr.drewN nq) := hbr.trans ⟨rfl, rfl, rfl, Nat.le_refl _, fun _ _ => rfl⟩
          clear hva2 hvb2 hcra hcrb hbr hx'
          go_wp2_with fail
          go_ret
          exact ⟨by simp [HX.out], hbq⟩
      · have hall : la = lb := by
          have h := HQ.out
          rw [List.take_of_length_le (by omega), List.take_of_length_le (by have := HNM.out; omega)] at h
          exact h
        have HA := Lib.hid hall
        clear hall
        go_wp2_with fail
        go_ret
        exact ⟨by simp [HA.out], hbr⟩
  · have hnm' : ((n : Int) != m) = true := by simp; omega
    have hne : ¬ la = lb := fun e => hnm (by rw [← hla, ← hlb, e])
    go_enter Tryz.func15, Tryz.ntmps15
    go_wp2_with fail
    go_ret
    exact ⟨by simp [hne], Below.refl _ _⟩
end Go.Proofs.YtadkgfhfjagmpaaGreatDoor
