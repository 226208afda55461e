/-
  The law FrameBursts, as a walk: it answers true and writes nothing that was there.
-/
import Derived.Test.YtacpbcahmhnhbaaDoorBurst
import Derived.StillTailTactics
namespace Go.Proofs.YtacpbcahmhnhbaaDoor
open Go.RowKit Num Crc

/-- The frame with its first i bytes from a on turned. -/
def wd (S : List UInt8) (a : Nat) (t : List UInt8) (i : Nat) : List UInt8 := (List.range i).map fun j => S.getD (a + j) 0 ^^^ t.getD j 0
def tl (S : List UInt8) (a : Nat) (t : List UInt8) (i : Nat) : List UInt8 := S.take a ++ (wd S a t i ++ S.drop (a + i))
theorem wd_len (S : List UInt8) (a : Nat) (t : List UInt8) (i : Nat) : (wd S a t i).length = i := by simp [wd]
theorem tl_zero (S : List UInt8) (a : Nat) (t : List UInt8) : tl S a t 0 = S := by simp [tl, wd]
theorem tl_len {S : List UInt8} {a i : Nat} (t : List UInt8) (h : a + i ≤ S.length) : (tl S a t i).length = S.length := by
  simp only [tl, List.length_append, wd_len, List.length_take, List.length_drop]; omega
theorem tl_get {S : List UInt8} {a i : Nat} (t : List UInt8) (h : a + i < S.length) : (tl S a t i)[a + i]? = some S[a + i] := by
  unfold tl
  rw [List.getElem?_append_right (by rw [List.length_take]; omega), List.getElem?_append_right (by rw [List.length_take, wd_len]; omega), List.length_take, wd_len, List.getElem?_drop]
  rw [show a + i + (a + i - min a S.length - i) = a + i from by omega, List.getElem?_eq_getElem h]
theorem tl_step {S : List UInt8} {a i : Nat} (t : List UInt8) (h : a + i < S.length) : (tl S a t i).set (a + i) (S[a + i] ^^^ t.getD i 0) = tl S a t (i + 1) := by
  unfold tl
  rw [List.set_append_right _ _ (by rw [List.length_take]; omega), List.set_append_right _ _ (by rw [List.length_take, wd_len]; omega), List.length_take, wd_len]
  rw [show a + i - min a S.length - i = 0 from by omega]
  congr 1
  rw [List.drop_eq_getElem_cons h, List.set_cons_zero]
  unfold wd
  rw [List.range_succ, List.map_append, List.append_assoc]
  congr 1
  simp [h, Nat.add_assoc]
def ch (t : List UInt8) (i : Nat) : Bool := (List.range i).any fun j => t.getD j 0 != 0
theorem ch_succ (t : List UInt8) (i : Nat) : ch t (i + 1) = (ch t i || (t.getD i 0 != 0)) := by simp [ch, List.range_succ]
theorem wd_same {S : List UInt8} {a : Nat} {t : List UInt8} {i : Nat} (h : ch t i = false) (hl : a + i ≤ S.length) : wd S a t i = (S.drop a).take i := by
  apply List.ext_getElem
  · rw [wd_len, List.length_take, List.length_drop]; omega
  · intro j h1 h2
    rw [wd_len] at h1
    have h0 : t.getD j 0 = 0 := by
      have := List.any_eq_false.1 h j (List.mem_range.2 h1)
      simpa using this
    have hj : a + j < S.length := by omega
    have h0' : t[j]?.getD 0 = 0 := by simpa using h0
    simp [wd, hj, h0']
theorem wd_other {S : List UInt8} {a : Nat} {t : List UInt8} {i : Nat} (h : ch t i = true) (hl : a + i ≤ S.length) : (S.drop a).take i ≠ wd S a t i := by
  intro e
  obtain ⟨j, hj, hne⟩ := List.any_eq_true.1 h
  have hj := List.mem_range.1 hj
  have hja : a + j < S.length := by omega
  have h1 : ((S.drop a).take i)[j]? = (wd S a t i)[j]? := by rw [e]
  rw [List.getElem?_take, if_pos hj, List.getElem?_drop, List.getElem?_eq_getElem hja] at h1
  simp [wd, hj, hja] at h1
  have h2 : t.getD j 0 = 0 := by
    have := congrArg (S[a + j] ^^^ ·) h1
    simp only [← UInt8.xor_assoc, UInt8.xor_self, UInt8.zero_xor] at this
    simpa using this.symm
  have h2' : t[j]?.getD 0 = 0 := by simpa using h2
  simp [h2'] at hne

theorem tl_same {S : List UInt8} {a : Nat} {t : List UInt8} {i : Nat} (h : ch t i = false) (hl : a + i ≤ S.length) : tl S a t i = S := by
  unfold tl
  rw [wd_same h hl, ← List.drop_drop, List.take_append_drop, List.take_append_drop]
theorem cut3 (l : List UInt8) (r k : Nat) : l = l.take r ++ ((l.drop r).take k ++ l.drop (r + k)) := by
  rw [← List.drop_drop, List.take_append_drop, List.take_append_drop]
/-- A burst in the sum, or in the payload, makes of a frame none. -/
theorem burst_tk {p : List UInt8} (hp : p.length ≤ 4096) {r k : Nat} {t : List UInt8} (hk : k ≤ 4)
    (hE : (vint p.length).length + r + k ≤ if r < 4 then (vint p.length).length + 4 else (seal_ p).length) (hc : ch t k = true) :
    tk (tl (seal_ p) ((vint p.length).length + r) t k) = ([], 0) := by
  have hsl := seal_len p
  have hne := wd_other hc (S := seal_ p) (a := (vint p.length).length + r) (by split at hE <;> omega)
  have hwl := wd_len (seal_ p) ((vint p.length).length + r) t k
  unfold tl
  generalize wd (seal_ p) ((vint p.length).length + r) t k = y at hne hwl
  by_cases hr : r < 4
  · rw [if_pos hr] at hE
    have e1 : (seal_ p).take ((vint p.length).length + r) = vint p.length ++ (sumle (Crc.sum p)).take r := by
      unfold seal_
      rw [List.take_append, List.take_of_length_le (by omega), show (vint p.length).length + r - (vint p.length).length = r from by omega, List.take_append_of_le_length (by rw [sumle_len]; omega)]
    have e2 : ∀ j, j ≤ 4 → (seal_ p).drop ((vint p.length).length + j) = (sumle (Crc.sum p)).drop j ++ p := by
      intro j hj
      unfold seal_
      rw [← List.drop_drop, List.drop_left, List.drop_append_of_le_length (by rw [sumle_len]; omega)]
    rw [e2 r (by omega)] at hne
    rw [List.take_append_of_le_length (by rw [List.length_drop, sumle_len]; omega)] at hne
    rw [e1, Nat.add_assoc, e2 (r + k) (by omega)]
    have e3 : (vint p.length ++ (sumle (Crc.sum p)).take r) ++ (y ++ ((sumle (Crc.sum p)).drop (r + k) ++ p)) = vint p.length ++ (((sumle (Crc.sum p)).take r ++ (y ++ (sumle (Crc.sum p)).drop (r + k))) ++ p) := by simp [List.append_assoc]
    rw [e3]
    refine tk_sum hp ?_ fun h => hne ?_
    · simp only [List.length_append, List.length_take, List.length_drop, sumle_len, hwl]; omega
    · have h2 := h.trans (cut3 (sumle (Crc.sum p)) r k)
      have h3 := List.append_cancel_left h2
      exact (List.append_cancel_right h3).symm
  · rw [if_neg hr] at hE
    obtain ⟨r, rfl⟩ : ∃ r', r = 4 + r' := ⟨r - 4, by omega⟩
    have hl4 : (vint p.length ++ sumle (Crc.sum p)).length = (vint p.length).length + 4 := by rw [List.length_append, sumle_len]
    have e0 : seal_ p = (vint p.length ++ sumle (Crc.sum p)) ++ p := by unfold seal_; rw [List.append_assoc]
    have e1 : (seal_ p).take ((vint p.length).length + (4 + r)) = vint p.length ++ (sumle (Crc.sum p) ++ p.take r) := by
      rw [e0, ← Nat.add_assoc, ← hl4, List.take_append, List.take_of_length_le (by omega), Nat.add_sub_cancel_left, List.append_assoc]
    have e2 : ∀ j, (seal_ p).drop ((vint p.length).length + (4 + j)) = p.drop j := by
      intro j
      rw [e0, ← Nat.add_assoc, ← hl4, ← List.drop_drop, List.drop_left]
    rw [e2 r] at hne
    rw [e1, show (vint p.length).length + (4 + r) + k = (vint p.length).length + (4 + (r + k)) from by omega, e2 (r + k)]
    have hc3 := cut3 p r k
    have hrp : r + k ≤ p.length := by omega
    have hxl : ((p.drop r).take k).length = k := by rw [List.length_take, List.length_drop]; omega
    have h := tk_pay (u := p.take r) (x := (p.drop r).take k) (y := y) (v := p.drop (r + k)) (by rw [← hc3]; exact hp) (by rw [hxl, hwl]) (by omega) hne
    rw [← hc3] at h
    rw [← h]
    simp [List.append_assoc]
theorem bv_set (l : List UInt8) (i : Nat) (a b : UInt8) : (bv l).set i (.int .u8 ((a.toNat ^^^ b.toNat : Nat) : Int)) = bv (l.set i (a ^^^ b)) := by
  unfold bv
  rw [List.map_set, UInt8.toNat_xor]

set_option maxRecDepth 20000 in
set_option maxHeartbeats 6400000 in
theorem bursts_law (A : Option Addr) (n c : Nat) (p : List UInt8) (x : Int) (t0 t1 t2 t3 : UInt8) (w : World) (hL : Laid w) (hs : Sl w A n (bv p)) (hn : n ≤ 140737488351232) :
    Calls Tryd.prog 9 #[.slice A n c, .int .i64 x, .agg #[.int .u8 t0.toNat, .int .u8 t1.toNat, .int .u8 t2.toNat, .int .u8 t3.toNat]] w (Good w) := by
  have hl := hs.len
  subst hl
  have GL := Lib.hid hL
  clear hL
  by_cases hbig : (4096 : Int) < p.length
  · go_enter Tryd.func9, Tryd.ntmps9
    go_wp2_with fail
    refine (awake_any _ (GL.out.keep ?_)).mono ?_
    · exact (Below.refl _ w).alloc (Nat.le_refl _) _
    rintro e w1 ⟨rfl, hb1⟩
    have hb0 : Below w.heap.size w w1 := ((Below.refl _ w).alloc (Nat.le_refl _) _).trans (hb1.mono (by simp))
    go_wp2_with fail
    refine (awake_any _ (GL.out.keep hb0)).mono ?_
    rintro e w2 ⟨rfl, hb2⟩
    go_wp2_with fail
    go_ret
    exact ⟨rfl, hb0.trans (hb2.mono hb0.size)⟩
  · have hp4 : p.length ≤ 4096 := by omega
    obtain ⟨S, hS⟩ : ∃ S, S = seal_ p := ⟨_, rfl⟩
    obtain ⟨K, hK⟩ : ∃ K, K = (vint p.length).length := ⟨_, rfl⟩
    have h10 := vint_len10 (n := p.length) (by omega)
    have hv := vint_pos p.length
    have hSl : S.length = K + 4 + p.length := by rw [hS, seal_len, hK]
    have hK10 : K ≤ 10 := by omega
    have hK0 : 0 < K := by omega
    have htu : tu S = (p.length, K) := by rw [hS, hK]; unfold seal_; exact tu_vint (by omega) _
    obtain ⟨q, hq, hq64⟩ : ∃ q : Nat, IntKind.u64.wrap x = (q : Int) ∧ q < 18446744073709551616 := by
      refine ⟨(IntKind.u64.wrap x).toNat, ?_, ?_⟩ <;> rw [IntKind.wrap_u64] <;> omega
    obtain ⟨r, hr, hr1⟩ : ∃ r : Nat, (q : Int) % ((S.length : Int) - (K : Int)) = (r : Int) ∧ r < S.length - K := by
      have h1 := Int.emod_nonneg (q : Int) (show (S.length : Int) - K ≠ 0 by omega)
      have h2 := Int.emod_lt_of_pos (q : Int) (show (0 : Int) < (S.length : Int) - K by omega)
      exact ⟨((q : Int) % ((S.length : Int) - (K : Int))).toNat, by omega, by omega⟩
    have HS := Lib.hid hS
    have HK := Lib.hid hK
    have HT := Lib.hid htu
    have HL := Lib.hid hSl
    have hSb : S.length ≤ 5000 := by omega
    have hq64' : (q : Int) ≤ 18446744073709551615 := by omega
    clear hS hK htu hSl h10 hv hq64
    have hcall : ∀ V, Sl V A p.length (bv p) → Calls Tryd.prog 25 #[.slice A p.length c] V (Fresh V S) := fun V hV => by
      rw [HS.out]; exact refSeal_any A _ c p V hV (by omega)
    have HC := Lib.hid hcall
    clear hcall
    go_enter Tryd.func9, Tryd.ntmps9
    go_wp2_with fail
    refine (awake_any _ (GL.out.keep ?_)).mono ?_
    · exact (Below.refl _ w).alloc (Nat.le_refl _) _
    rintro e w1 ⟨rfl, hb1⟩
    have hb0 : Below w.heap.size w w1 := ((Below.refl _ w).alloc (Nat.le_refl _) _).trans (hb1.mono (by simp))
    have hT : ∀ k, k < 4 → w1.cell? ⟨w.heap.size, k, none⟩ = some (.int .u8 ((([t0, t1, t2, t3] : List UInt8).getD k 0).toNat : Int)) := by
      intro k hk
      rw [hb1.cell (by simp)]
      rw [cell_of_row _ w.heap.size k _ 52 (0, 0) (heap_alloc_new w _)]
      match k, hk with
      | 0, _ => rfl
      | 1, _ => rfl
      | 2, _ => rfl
      | 3, _ => rfl
    have HTT := Lib.hid hT
    clear hT
    go_wp2_with fail
    refine (HC.out _ (hs.below hb0)).mono ?_
    rintro e w2 ⟨A2, c2, rfl, hown2, hb2⟩
    have hb02 := hb0.trans (hb2.mono hb0.size)
    go_wp2_with fail
    refine (refTakeUint_any A2 _ c2 S _ (own_sl hown2) (by omega) (own_le hown2)).mono ?_
    rintro e w3 ⟨rfl, hb3⟩
    rw [HT.out]
    have hb03 := hb02.trans (hb3.mono hb02.size)
    have hown3 := own_keep hown2 hb3
    go_upto_if 47 with fail
    obtain ⟨E, hE⟩ : ∃ E : Nat, E = if r < 4 then K + 4 else S.length := ⟨_, rfl⟩
    have hE1 : K + r < E := by rw [hE]; split <;> omega
    have hE2 : E ≤ S.length := by rw [hE, HL.out]; split <;> omega
    have HE := Lib.hid hE
    clear hE
    go_cut [11] (fun s11 wx => s11 = .int .i64 (E : Int) ∧ wx = w3)
    case first =>
      by_cases hr4 : (r : Int) < 4
      · have he : ((K : Int) + 4) = (E : Int) := by rw [HE.out, if_pos (by omega)]; omega
        go_wp2_with fail
        go_meet
        exact ⟨rfl, rfl⟩
      · have he : (S.length : Int) = (E : Int) := by rw [HE.out, if_neg (by omega)]
        go_wp2_with fail
        go_meet
        exact ⟨rfl, rfl⟩
    case rest =>
      obtain ⟨rfl, rfl⟩ := hcut
      obtain ⟨g, cap, cur, hv, hg1, -⟩ : ∃ g cap cur, Value.slice A2 S.length c2 = .slice (some ⟨g, 0, none⟩) S.length cap ∧ w1.heap.size ≤ g ∧ cur = cur := by
        rcases hown3.2 with ⟨_, h0⟩ | ⟨g, cap, cur, h1, h2, _⟩
        · omega
        · exact ⟨g, cap, cur, h1, h2, rfl⟩
      injection hv with hv1 _ hv2
      subst hv1 hv2
      have hgb : w.heap.size < g := by
        have := hb1.size
        simp at this; omega
      have HTw : ∀ V, Below w1.heap.size w1 V → ∀ k, k < 4 → V.cell? ⟨w.heap.size, k, none⟩ = some (.int .u8 ((([t0, t1, t2, t3] : List UInt8).getD k 0).toNat : Int)) := fun V hV k hk => by
        rw [hV.cell (by have := hb1.size; simp at this; show w.heap.size < _; omega)]
        exact HTT.out k hk
      generalize ([t0, t1, t2, t3] : List UInt8) = tt at HTw
      have HW := Lib.hid HTw
      have hb13 : Below w1.heap.size w1 wc := hb2.trans (hb3.mono hb2.size)
      clear HTw HTT hb2 hb3 hown2
      go_wp2_with fail
      go_loopw [10, 12] (fun s10 i wr => ∃ k : Nat, k ≤ 4 ∧ K + r + k ≤ E ∧ i = .int .i64 k ∧ s10 = .bool (ch tt k) ∧ wr.ownsRow w1.heap.size 5 1 (.slice (some ⟨g, 0, none⟩) S.length c2) S.length (bv (tl S (K + r) tt k)) ∧ Below w1.heap.size w1 wr) (fun _ i _ => 4 - (intOf i).toNat)
      case atStart => exact ⟨0, by omega, by omega, rfl, rfl, by rw [tl_zero]; exact hown3, hb13⟩
      case round =>
        obtain ⟨k, hk4, hkE, rfl, rfl, hown, hbr⟩ := hrel
        by_cases hgo : k < 4 ∧ K + r + k < E
        · obtain ⟨hk, hkE2⟩ := hgo
          have hkS : K + r + k < S.length := by omega
          have hkE3 : (K : Int) + r + k < E := by omega
          have htc := HW.out wr hbr k hk
          have hbc := hown.cellAt (K + r + k) (by omega)
          have hgt := tl_get tt hkS
          have hbc' : wr.cell? ⟨g, K + r + k, none⟩ = some (.int .u8 (S[K + r + k].toNat : Int)) := by
            rw [hbc]; simp [bv, hgt]
          have hfr := hown.frozenAt (K + r + k)
          have hx8 := u8_xor_nat S[K + r + k].toNat (tt.getD k 0).toNat (S[K + r + k].toNat_lt) ((tt.getD k 0).toNat_lt)
          have hst := tl_step tt hkS
          have HST := Lib.hid hst
          generalize hyv : S[K + r + k] = y at hbc' hx8 HST
          generalize htv : tt.getD k 0 = z at htc hx8 HST
          have HZ := Lib.hid htv
          clear hst hbc hgt hyv htv
          have hkI : (k : Int) < 4 := by omega
          go_wp2_with fail
          go_region
          have hgl : g < wr.heap.size := by
            have := hown.lt g rfl; omega
          have hown' := (hown.stored (K + r + k) (.int .u8 (y.toNat ^^^ z.toNat : Nat))).1
          rw [bv_set, HST.out] at hown'
          have hbn : Below w1.heap.size w1 (wr.setCell ⟨g, K + r + k, none⟩ (.int .u8 ((y.toNat ^^^ z.toNat : Nat) : Int))).drew := (hbr.setCell (p := ⟨g, K + r + k, none⟩) hg1 _).drew
          replace hown' := hown'.drew
          generalize (wr.setCell ⟨g, K + r + k, none⟩ (.int .u8 ((y.toNat ^^^ z.toNat : Nat) : Int))).drew = wn at hown' hbn ⊢
          have htn := HW.out wn hbn k hk
          rw [HZ.out] at htn
          clear htc hbc' hfr hx8 hbr hown hgl
          have hcs := Lib.hid (ch_succ tt k)
          have hz0 := HZ.out
          clear HZ
          have HZ2 := Lib.hid hz0
          clear hz0
          cases hck : ch tt k
          · by_cases hz : z = 0
            · have hcs2 := Lib.hid (show ch tt (k + 1) = false by rw [hcs.out, hck, HZ2.out, hz]; rfl)
              subst hz
              clear hck hcs HZ2
              have htn0 : wn.cell? ⟨w.heap.size, k, none⟩ = some (.int .u8 0) := htn
              clear htn
              go_wp2_with fail
              go_roundw
              case rel => exact ⟨k + 1, by omega, by omega, by go_num, by rw [hcs2.out], hown', hbn⟩
              case measure => simp [intOf]; omega
            · have hcs2 := Lib.hid (show ch tt (k + 1) = true by rw [hcs.out, hck, HZ2.out]; simpa using hz)
              have hzn : ¬ z.toNat = 0 := fun e => hz (UInt8.toNat_inj.1 e)
              clear hck hcs HZ2 hz
              have hz1 : ((z.toNat : Int) == 0) = false := by simp; omega
              have hz2 : ((z.toNat : Int) != 0) = true := by simp; omega
              go_wp2_with fail
              go_roundw
              case rel => exact ⟨k + 1, by omega, by omega, by go_num, by rw [hcs2.out], hown', hbn⟩
              case measure => simp [intOf]; omega
          · have hcs2 := Lib.hid (show ch tt (k + 1) = true by rw [hcs.out, hck]; rfl)
            clear hck hcs HZ2
            go_wp2_with fail
            go_roundw
            case rel => exact ⟨k + 1, by omega, by omega, by go_num, by rw [hcs2.out], hown', hbn⟩
            case measure => simp [intOf]; omega
        · have hkk : K + r + k = E ∨ k = 4 := by omega
          have hEd := HE.out
          have hlen' := tl_len (S := S) (a := K + r) (i := k) tt (by omega)
          have hb0r : Below w.heap.size w wr := hb0.trans (hbr.mono hb0.size)
          have htk : tk (tl S (K + r) tt k) = if ch tt k then ([], 0) else (p, S.length) := by
            cases hck : ch tt k
            · rw [tl_same hck (by omega), HS.out]
              have := tk_seal hp4 []
              rw [List.append_nil] at this
              rw [this]; rfl
            · rw [HS.out, HK.out]
              refine (burst_tk hp4 (by omega) ?_ hck).trans rfl
              rw [← HK.out, ← HS.out, ← hEd]; exact hkE
          have HTK := Lib.hid htk
          have hsr := own_sl hown
          generalize htl : tl S (K + r) tt k = Q at hsr hlen' HTK hown
          have hcT : Calls Tryd.prog 24 #[.slice (some ⟨g, 0, none⟩) S.length c2] wr (TakePost wr (tk Q).1 (tk Q).2) := take_any _ S.length c2 Q wr (GL.out.keep hb0r) hsr (by omega) (own_le hown)
          have HCT := Lib.hid hcT
          have hSp : ¬ S.length = 0 := by omega
          clear hcT htk hEd hown hsr htl
          have hend : ¬ ((k : Int) < 4) ∨ ((k : Int) < 4 ∧ ¬ ((K : Int) + r + k < E)) := by omega
          have hcp : ∀ V : World, Below wr.heap.size wr V → ∀ c', (convert 23 9 (.slice A p.length c')).run Tryd.prog V = .ok (.string ⟨p.toArray⟩) V := fun V hV c' =>
            run_str (P := Tryd.prog) ((hs.below hb0r).below hV) 23 5 9 Tryd.underlying23 Tryd.underlying5 Tryd.underlying9
          have HCP := Lib.hid hcp
          clear hcp
          cases hck : ch tt k
          · have HR := Lib.hid (show tk Q = (p, S.length) by rw [HTK.out, hck]; rfl)
            clear hck HTK
            rcases hend with hend | ⟨hend1, hend2⟩
            all_goals
              go_wp2_with fail
              refine HCT.out.mono ?_
              rintro e w6 ⟨A6, c6, rfl, hown6, hb6⟩
              rw [HR.out] at hown6 ⊢
              simp only [hSp, if_false]
              have hc1 := fun c' => HCP.out w6 hb6 c'
              have hc2 := run_str (P := Tryd.prog) (c := c6) (own_sl hown6) 23 5 9 Tryd.underlying23 Tryd.underlying5 Tryd.underlying9
              go_wp2_with fail
              go_ret
              exact ⟨by simp, hb0r.trans (hb6.mono hb0r.size)⟩
          · have HR := Lib.hid (show tk Q = ([], 0) by rw [HTK.out, hck]; rfl)
            clear hck HTK HCP
            rcases hend with hend | ⟨hend1, hend2⟩
            all_goals
              go_wp2_with fail
              refine HCT.out.mono ?_
              rintro e w6 ⟨A6, c6, rfl, hown6, hb6⟩
              rw [HR.out] at hown6 ⊢
              simp only [if_true]
              go_wp2_with fail
              go_ret
              exact ⟨by simp, hb0r.trans (hb6.mono hb0r.size)⟩
end Go.Proofs.YtacpbcahmhnhbaaDoor
