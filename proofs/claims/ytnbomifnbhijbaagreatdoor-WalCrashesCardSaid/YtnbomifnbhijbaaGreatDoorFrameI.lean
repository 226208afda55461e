/-
  Contracts of the reference's Scan and Same.
-/
import Derived.Test.YtnbomifnbhijbaaGreatDoorFrameH
namespace Go.Proofs.YtnbomifnbhijbaaGreatDoor
open Go.RowKit Num Crc
set_option linter.unusedVariables false

set_option maxRecDepth 20000 in
set_option maxHeartbeats 6400000 in
theorem refScan_any (A : Option Addr) (n c : Nat) (l : List UInt8) (w : World) (hs : Sl w A n (bv l)) (hn : n ≤ 5000000) (hnc : n ≤ c) :
    Calls Tryz.prog 44 #[.slice A n c] w (ScanPost w (scan l).1 (scan l).2) := by
  have hlen := hs.len
  go_enter Tryz.func44, Tryz.ntmps44
  go_wp2_with fail
  go_loopw [4, 5] (fun s4 s5 wr => ∃ (e : Nat) (ps : List (List UInt8)) (A2 : Option Addr) (c2 : Nat) (vs : List Value), e ≤ n ∧ ps.length ≤ e ∧ s5 = .int .i64 e ∧ s4 = .slice A2 ps.length c2 ∧ wr.ownsRow w.heap.size 36 1 (.slice A2 ps.length c2) ps.length vs ∧ Each wr w.heap.size vs ps ∧ Below w.heap.size w wr ∧
      (scan l).1 = ps ++ (scan (l.drop e)).1 ∧ (scan l).2 = e + (scan (l.drop e)).2) (fun _ s5 _ => n - (intOf s5).toNat)
  case atStart => exact ⟨0, [], none, 0, [], Nat.zero_le _, Nat.zero_le _, rfl, rfl, World.ownsRow_nil _ _ _ _, trivial, Below.refl _ _, by simp, by simp⟩
  case round =>
    obtain ⟨e, ps, A2, c2, vs, he, hpe, rfl, rfl, hown, heach, hbr, hsc1, hsc2⟩ := hrel
    have HS1 := Lib.hid hsc1
    have HS2 := Lib.hid hsc2
    have htl := tk_le (l.drop e)
    have hsh := tk_short (l.drop e)
    rw [List.length_drop, hlen] at htl hsh
    have hq0 : (tk (l.drop e)).2 = 0 → (tk (l.drop e)).1 = [] := tk_zero
    clear hsc1 hsc2
    by_cases hen : e < n
    · obtain ⟨b, o, rfl, -⟩ := hs.2 (by omega)
      have hce : ¬ c = e := by omega
      have hsl : Sl wr (some ⟨b, o + e, none⟩) (n - e) (bv (l.drop e)) := by
        have h := (hs.below hbr).drop (k := e) he (some ⟨b, o + e, none⟩) (fun _ b' o' h => by injection h with h; injection h with h1 h2; subst h1 h2; rfl)
        rwa [drop_bv] at h
      have hct := refTake_any (some ⟨b, o + e, none⟩) (n - e) (c - e) (l.drop e) wr hsl (by omega) (by omega)
      by_cases hz : (tk (l.drop e)).2 = 0
      · have HR := Lib.hid (show (scan l).1 = ps ∧ (scan l).2 = e by rw [HS1.out, HS2.out, scan_stop hz]; simp)
        have hq := hq0 hz
        rw [hz, hq] at hct
        have HC := Lib.hid hct
        clear hct hz hq hq0 hsh htl HS1 HS2
        go_wp2_with fail
        refine HC.out.mono ?_
        rintro e3 w3 ⟨A3, c3, rfl, hown3, hb3⟩
        go_wp2_with fail
        go_ret2
        rw [HR.out.1, HR.out.2]
        exact ⟨A2, c2, vs, rfl, own_keep hown hb3, heach.below hb3, hbr.trans (hb3.mono hbr.size)⟩
      · have HZ := Lib.hid hz
        have HST := Lib.hid (scan_step hz)
        have HC := Lib.hid hct
        generalize hqg : tk (l.drop e) = qm at HC HST htl hsh hz
        obtain ⟨q, m⟩ := qm
        simp only at htl hsh hz
        have hmI : ¬ ((m : Int) = 0) := by omega
        clear hct hq0 hqg HZ
        go_wp2_with fail
        refine HC.out.mono ?_
        rintro e3 w3 ⟨A3, c3, rfl, hown3, hb3⟩
        have hbr3 := hbr.trans (hb3.mono hbr.size)
        have hown' := own_keep hown hb3
        have heach' := (heach.below hb3).snoc (own_mono hown3 hbr.size)
        go_wp2_with (at_builtin; refine wpList_app _ rfl (.tmp 23) (.tmp 25) 30 rfl w.heap.size rowsEl (by decide) _ _ _ rfl (hown'.alloc _) (some ⟨w3.heap.size, 0, none⟩) 1 1 [.slice A3 q.length c3] rfl (Sl.new _ _ _) (by intro u hu; simp at hu; subst hu; rfl) (by omega) (by have := hbr3.size; simp; omega) ?_; intro A4 c4 w4 hown4 hg4 hat4)
        have heach4 := (heach'.below ((Below.refl _ w3).alloc (Nat.le_refl _) _)).grown (hown'.alloc _) hg4
        have hb4 := (hbr3.alloc hbr3.size _).grown hg4 (by have := hbr3.size; simp; omega) (own_blk hown')
        clear hg4 hat4 heach' hown' hown heach hown3
        go_wp2
        go_roundw
        case rel =>
          refine ⟨e + m, ps ++ [q], A4, c4, vs ++ [.slice A3 q.length c3], by omega, by simp; omega, by go_num, by simp, by simpa using hown4, heach4, hb4, ?_, ?_⟩
          · rw [HS1.out, HST.out, List.drop_drop]; simp
          · rw [HS2.out, HST.out, List.drop_drop]; simp; omega
        case measure => simp [intOf]; omega
    · have hen2 : e = n := by omega
      have hdrop : l.drop e = [] := List.drop_of_length_le (by omega)
      have htk0 : tk (l.drop e) = ([], 0) := by rw [hdrop]; decide +kernel
      have HR := Lib.hid (show (scan l).1 = ps ∧ (scan l).2 = e by rw [HS1.out, HS2.out, scan_stop (by rw [htk0])]; simp)
      have HD := Lib.hid (htk0)
      clear htk0 hq0 hsh htl HS1 HS2
      have HDR := Lib.hid hdrop
      clear hdrop
      subst hen2
      go_wp2_with fail
      go_ret2
      rw [HR.out.1, HR.out.2]
      exact ⟨A2, c2, vs, rfl, hown, heach, hbr⟩

set_option maxRecDepth 20000 in
set_option maxHeartbeats 3200000 in
theorem same_any (A B : Option Addr) (n c m d : Nat) (va vb : List Value) (la lb : List (List UInt8)) (w : World) (ha : Sl w A n va) (hb : Sl w B m vb) (ea : EachS w va la) (eb : EachS w vb lb) (hn : n ≤ 140737488351232) (hm : m ≤ 140737488351232) :
    Calls Tryz.prog 14 #[.slice A n c, .slice B m d] w fun e w' => e = .returned (.bool (decide (la = lb))) ∧ Below w.heap.size w w' := by
  have hla : la.length = n := by rw [← ea.len, ha.1]
  have hlb : lb.length = m := by rw [← eb.len, hb.1]
  by_cases hnm : n = m
  · have hnm' : ((n : Int) != m) = false := by simp; omega
    go_enter Tryz.func14, Tryz.ntmps14
    have HNM := Lib.hid hnm
    clear hnm
    go_wp2_with fail
    go_loopw [13] (fun i wr => ∃ k : Nat, k ≤ n ∧ i = .int .i64 k ∧ la.take k = lb.take k ∧ Below w.heap.size w wr) (fun i _ => n - (intOf i).toNat)
    case atStart => exact ⟨0, Nat.zero_le _, rfl, by simp, Below.refl _ _⟩
    case round =>
      obtain ⟨k, hk, rfl, heq, hbr⟩ := hrel
      have HQ := Lib.hid heq
      clear heq
      by_cases hlt : k < n
      · obtain ⟨Aa, ca, hva, hsa⟩ := ea.at_ k (by omega)
        obtain ⟨Ab, cb, hvb, hsb⟩ := eb.at_ k (by have := HNM.out; omega)
        obtain ⟨ba, oa, ua, rfl, hua, hca⟩ := ha.at_ hlt
        obtain ⟨bb, ob, ub, rfl, hub, hcb⟩ := hb.at_ (k := k) (by have := HNM.out; omega)
        rw [hva] at hua
        rw [hvb] at hub
        injection hua with hua
        injection hub with hub
        subst hua hub
        have hkm : (k : Int) < m := by have := HNM.out; omega
        have HD := Lib.hid (show (la.take (k + 1) = lb.take (k + 1)) ↔ la[k] = lb[k] by
          rw [List.take_succ_eq_append_getElem (l := la) (i := k) (by omega), List.take_succ_eq_append_getElem (l := lb) (i := k) (by omega), HQ.out]
          exact ⟨fun h => by have h2 := List.append_cancel_left h; injection h2, fun h => by rw [h]⟩)
        have HNE := Lib.hid (show la[k] ≠ lb[k] → la ≠ lb from fun h e => h (by subst e; rfl))
        generalize la[k] = xa at hsa hca HD HNE hva
        generalize lb[k] = xb at hsb hcb HD HNE hvb
        have hcra : wr.cell? ⟨ba, oa + k, none⟩ = some (.slice Aa xa.length ca) := by
          rw [hbr.cell (World.block_lt_of_cell? w _ hca)]; exact hca
        have hcrb : wr.cell? ⟨bb, ob + k, none⟩ = some (.slice Ab xb.length cb) := by
          rw [hbr.cell (World.block_lt_of_cell? w _ hcb)]; exact hcb
        have hva2 : ∀ q, (convert 36 9 (.slice Aa xa.length ca)).run Tryz.prog (wr.drewN q) = .ok (.string ⟨xa.toArray⟩) (wr.drewN q) := fun q =>
          run_str (P := Tryz.prog) ((hsa.below hbr).drewN q) 36 5 9 Tryz.underlying36 Tryz.underlying5 Tryz.underlying9
        have hvb2 : ∀ q, (convert 36 9 (.slice Ab xb.length cb)).run Tryz.prog (wr.drewN q) = .ok (.string ⟨xb.toArray⟩) (wr.drewN q) := fun q =>
          run_str (P := Tryz.prog) ((hsb.below hbr).drewN q) 36 5 9 Tryz.underlying36 Tryz.underlying5 Tryz.underlying9
        clear hca hcb hva hvb hsa hsb
        by_cases hx : xa = xb
        · have HX := Lib.hid hx
          have hx' : (xa == xb) = true := by simpa using hx
          clear hx
          go_wp2_with fail
          go_quiet (fail)
          have hbq : Below w.heap.size w (wr.drewN nq) := hbr.trans ⟨rfl, rfl, rfl, Nat.le_refl _, fun _ _ => rfl⟩
          clear hva2 hvb2 hcra hcrb hbr hx'
          go_wp2_with fail
          go_roundw
          case rel => exact ⟨k + 1, by omega, by go_num, HD.out.2 HX.out, hbq⟩
          case measure => simp [intOf]; omega
        · have hx' : (xa == xb) = false := by simpa using hx
          have HX := Lib.hid (HNE.out hx)
          clear hx
          go_wp2_with fail
          go_quiet (fail)
          have hbq : Below w.heap.size w (wr.drewN nq) := hbr.trans ⟨rfl, rfl, rfl, Nat.le_refl _, fun _ _ => rfl⟩
          clear hva2 hvb2 hcra hcrb hbr hx'
          go_wp2_with fail
          go_ret
          exact ⟨by simp [HX.out], hbq⟩
      · have hall : la = lb := by
          have h := HQ.out
          rw [List.take_of_length_le (by omega), List.take_of_length_le (by have := HNM.out; omega)] at h
          exact h
        have HA := Lib.hid hall
        clear hall
        go_wp2_with fail
        go_ret
        exact ⟨by simp [HA.out], hbr⟩
  · have hnm' : ((n : Int) != m) = true := by simp; omega
    have hne : ¬ la = lb := fun e => hnm (by rw [← hla, ← hlb, e])
    go_enter Tryz.func14, Tryz.ntmps14
    go_wp2_with fail
    go_ret
    exact ⟨by simp [hne], Below.refl _ _⟩
end Go.Proofs.YtnbomifnbhijbaaGreatDoor
