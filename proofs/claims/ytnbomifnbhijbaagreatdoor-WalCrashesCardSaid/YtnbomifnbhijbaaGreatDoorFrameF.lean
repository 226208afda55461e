/-
  Contracts of frame.Take and of the reference's Take.
-/
import Derived.Test.YtnbomifnbhijbaaGreatDoorAwake
import Derived.BigGuardPart
namespace Go.Proofs.YtnbomifnbhijbaaGreatDoor
open Go.RowKit Num Crc

/-- The payload of the frame at the front, and the frame's size; 0: none. -/
def tk (l : List UInt8) : List UInt8 × Nat :=
  if (tu l).2 = 0 ∨ 4096 < (tu l).1 ∨ l.length < (tu l).2 + 4 + (tu l).1 then ([], 0)
  else if (l.drop (tu l).2).take 4 = sumle (Crc.sum ((l.drop ((tu l).2 + 4)).take (tu l).1)) then ((l.drop ((tu l).2 + 4)).take (tu l).1, (tu l).2 + 4 + (tu l).1)
  else ([], 0)

theorem own_mono {w : World} {B B' : Nat} {e : TypeId} {v : Value} {n : Nat} {xs : List Value} (h : w.ownsRow B e 1 v n xs) (hB : B' ≤ B) : w.ownsRow B' e 1 v n xs := by
  refine ⟨h.1, ?_⟩
  rcases h.2 with h0 | ⟨g, cap, cur, h1, h2, h3⟩
  · exact .inl h0
  · exact .inr ⟨g, cap, cur, h1, Nat.le_trans hB h2, h3⟩

/-- What Take answers. -/
def TakePost (w : World) (q : List UInt8) (n : Nat) (e : Ending) (w' : World) : Prop :=
  ∃ A c, e = .returned (.tuple #[.slice A q.length c, .int .i64 n, .int .i64 (if n = 0 then 10 else 0)]) ∧ w'.ownsRow w.heap.size 5 1 (.slice A q.length c) q.length (bv q) ∧ Below w.heap.size w w'
theorem TakePost.no {w w' : World} (h : Below w.heap.size w w') : TakePost w [] 0 (.returned (.tuple #[.slice none 0 0, .int .i64 0, .int .i64 10])) w' :=
  ⟨none, 0, rfl, World.ownsRow_nil _ _ _ _, h⟩

set_option maxRecDepth 20000 in
set_option maxHeartbeats 3200000 in
theorem take_any (A : Option Addr) (n c : Nat) (l : List UInt8) (w : World) (hL : Laid w) (hs : Sl w A n (bv l)) (hn : n ≤ 140737488351232) (hnc : n ≤ c) :
    Calls Tryz.prog 87 #[.slice A n c] w (TakePost w (tk l).1 (tk l).2) := by
  have hlen := hs.len
  have hcall := takeUint_any A n c l w hs (by omega)
  have hN := tu_lt l
  have hK := tu_le l
  have htk : tk l = if (tu l).2 = 0 ∨ 4096 < (tu l).1 ∨ l.length < (tu l).2 + 4 + (tu l).1 then ([], 0)
    else if (l.drop (tu l).2).take 4 = sumle (Crc.sum ((l.drop ((tu l).2 + 4)).take (tu l).1)) then ((l.drop ((tu l).2 + 4)).take (tu l).1, (tu l).2 + 4 + (tu l).1) else ([], 0) := rfl
  generalize tu l = p at hcall hN hK htk
  obtain ⟨N, K⟩ := p
  simp only at hcall hN hK htk
  have HN := Lib.hid hN
  have HT := Lib.hid htk
  have HC := Lib.hid hcall
  have GL := Lib.hid hL
  clear hN htk hcall hL
  by_cases hK0 : K = 0
  · subst hK0
    go_enter Tryz.func87, Tryz.ntmps87
    go_wp2_with (go_at_call 104; refine (HC.out).mono ?_; rintro e w' ⟨rfl, rfl⟩)
    go_ret3
    rw [HT.out, if_pos (.inl trivial)]
    exact TakePost.no (Below.refl _ _)
  have hK1 : ((K : Int) == 0) = false := by simp; omega
  by_cases hN4 : (4096 : Int) < N
  · go_enter Tryz.func87, Tryz.ntmps87
    go_wp2_with (go_at_call 104; refine (HC.out).mono ?_; rintro e w' ⟨rfl, rfl⟩)
    go_ret3
    rw [HT.out, if_pos (.inr (.inl (by omega)))]
    exact TakePost.no (Below.refl _ _)
  by_cases hnK : (n : Int) < K + 4 + N
  · go_enter Tryz.func87, Tryz.ntmps87
    go_wp2_with (go_at_call 104; refine (HC.out).mono ?_; rintro e w' ⟨rfl, rfl⟩)
    go_ret3
    rw [HT.out, if_pos (.inr (.inr (by omega)))]
    exact TakePost.no (Below.refl _ _)
  obtain ⟨b, o, rfl, -⟩ := hs.2 (by omega)
  have hfour := hs.win (i := K) (j := K + 4) (by omega) (by omega)
  have hpay := hs.win (i := K + 4) (j := K + 4 + N) (by omega) (by omega)
  have ht := HT.out
  clear HT
  have e2 : (l.drop (K + 4)).take N = (l.drop (K + 4)).take (K + 4 + N - (K + 4)) := by rw [show K + 4 + N - (K + 4) = N from by omega]
  rw [if_neg (by omega), e2] at ht
  clear e2
  rw [show K + 4 - K = 4 from by omega] at hfour
  generalize (l.drop (K + 4)).take (K + 4 + N - (K + 4)) = pay at hpay ht
  generalize (l.drop K).take 4 = four at hfour ht
  have hpl := hpay.len
  have hpn : pay.length ≤ 4096 := by omega
  have HT := Lib.hid ht
  clear ht
  have hz : (K : Int) + 4 ≤ (K : Int) + 4 + N := by omega
  have hz1 : (K : Int) ≤ (K : Int) + 4 := by omega
  by_cases hcK : c = K + 4
  · have hN0 : N = 0 := by omega
    have hp0 : pay = [] := List.eq_nil_of_length_eq_zero (by omega)
    subst hN0
    replace hpay : Sl w (some ⟨b, o, none⟩) 0 (bv pay) := by rw [hp0]; exact Sl.none_ w _
    clear hp0
    subst hcK
    go_enter Tryz.func87, Tryz.ntmps87
    go_wp2_with (go_at_call 104; refine (HC.out).mono ?_; rintro e w' ⟨rfl, rfl⟩)
    have hb0 : Below w.heap.size w w.drew := (Below.refl _ _).drew
    simp only [Nat.sub_self]
    go_cut [43] (fun s43 wx => s43 = .bool (!(four == sumle (Crc.sum pay))) ∧ Below w.heap.size w wx)
    case first =>
      have z3 : ((K : Int) + 4).toNat = K + 4 := by omega
      go_region_held (fun V => Below w.heap.size w V) (first | exact hb0 | exact hb0.trans (by assumption)) (first | (go_at_call 78; refine (sum_any _ _ _ pay _ (GL.out.keep hb0) (hpay.below hb0) (by omega)).mono ?_; rintro e w' ⟨rfl, rfl⟩) | (go_at_call 77; refine (sumBytes_any _ (sum_lt pay) _).mono ?_; rintro e w3 ⟨A3, c3, rfl, hown3, hb3⟩; have hb03 : Below w.heap.size w w3 := hb0.trans hb3) | (go_at_call 105; refine (equal_any _ _ _ _ _ _ four (sumle (Crc.sum pay)) _ (hfour.below hb03) (own_sl hown3)).mono ?_; rintro e w4 ⟨rfl, rfl⟩))
      all_goals (go_wp2_with fail; go_meet; exact ⟨rfl, by assumption⟩)
    case rest =>
      obtain ⟨rfl, hbx⟩ := hcut
      rename_i wx
      by_cases he : four = sumle (Crc.sum pay)
      · have he' : (four == sumle (Crc.sum pay)) = true := by simpa using he
        rw [he']
        have ht := HT.out.trans (if_pos he)
        have HR := Lib.hid ht
        clear he he' ht HT
        go_wp2_with (go_at_call 71; refine (clone_any _ _ _ pay _ (hpay.below hbx) (by omega)).mono ?_; rintro e w5 ⟨A5, c5, rfl, hown5, hb5⟩)
        go_ret3
        rw [HR.out]
        refine ⟨A5, c5, by simp [hpl], own_mono hown5 hbx.size, hbx.trans (hb5.mono hbx.size)⟩
      · have he' : (four == sumle (Crc.sum pay)) = false := by simpa using he
        rw [he']
        have HR := Lib.hid (HT.out.trans (if_neg he))
        clear he he' HT
        go_wp2_with fail
        go_ret3
        rw [HR.out]
        exact TakePost.no hbx
  · have hcK2 : ¬ c = K := by omega
    go_enter Tryz.func87, Tryz.ntmps87
    go_wp2_with (go_at_call 104; refine (HC.out).mono ?_; rintro e w' ⟨rfl, rfl⟩)
    have hb0 : Below w.heap.size w w.drew := (Below.refl _ _).drew
    generalize hm : K + 4 + N - (K + 4) = m at hpay hpl ⊢
    have HM := Lib.hid hm
    clear hm
    go_cut [43] (fun s43 wx => s43 = .bool (!(four == sumle (Crc.sum pay))) ∧ Below w.heap.size w wx)
    case first =>
      go_region_held (fun V => Below w.heap.size w V) (first | exact hb0 | exact hb0.trans (by assumption)) (first | (go_at_call 78; refine (sum_any _ _ _ pay _ (GL.out.keep hb0) (hpay.below hb0) (by omega)).mono ?_; rintro e w' ⟨rfl, rfl⟩) | (go_at_call 77; refine (sumBytes_any _ (sum_lt pay) _).mono ?_; rintro e w3 ⟨A3, c3, rfl, hown3, hb3⟩; have hb03 : Below w.heap.size w w3 := hb0.trans hb3) | (go_at_call 105; refine (equal_any _ _ _ _ _ _ four (sumle (Crc.sum pay)) _ (hfour.below hb03) (own_sl hown3)).mono ?_; rintro e w4 ⟨rfl, rfl⟩))
      all_goals (go_wp2_with fail; go_meet; exact ⟨rfl, by assumption⟩)
    case rest =>
      obtain ⟨rfl, hbx⟩ := hcut
      rename_i wx
      by_cases he : four = sumle (Crc.sum pay)
      · have he' : (four == sumle (Crc.sum pay)) = true := by simpa using he
        rw [he']
        have ht := HT.out.trans (if_pos he)
        have HR := Lib.hid ht
        clear he he' ht HT
        go_wp2_with (go_at_call 71; refine (clone_any _ _ _ pay _ (hpay.below hbx) (by omega)).mono ?_; rintro e w5 ⟨A5, c5, rfl, hown5, hb5⟩)
        go_ret3
        rw [HR.out]
        refine ⟨A5, c5, by simp [hpl], own_mono hown5 hbx.size, hbx.trans (hb5.mono hbx.size)⟩
      · have he' : (four == sumle (Crc.sum pay)) = false := by simpa using he
        rw [he']
        have HR := Lib.hid (HT.out.trans (if_neg he))
        clear he he' HT
        go_wp2_with fail
        go_ret3
        rw [HR.out]
        exact TakePost.no hbx
end Go.Proofs.YtnbomifnbhijbaaGreatDoor
