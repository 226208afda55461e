/-
  Contracts of the reference's Scan and Same.
-/
import Derived.Test.YtcfmialhlklmgaaDoorFrameH
namespace Go.Proofs.YtcfmialhlklmgaaDoor
open Go.RowKit Num Crc
set_option linter.unusedVariables false

set_option maxRecDepth 20000 in
set_option maxHeartbeats 3200000 in
theorem same_any (A B : Option Addr) (n c m d : Nat) (va vb : List Value) (la lb : List (List UInt8)) (w : World) (ha : Sl w A n va) (hb : Sl w B m vb) (ea : EachS w va la) (eb : EachS w vb lb) (hn : n ≤ 140737488351232) (hm : m ≤ 140737488351232) :
    Calls Tryd.prog 12 #[.slice A n c, .slice B m d] w fun e w' => e = .returned (.bool (decide (la = lb))) ∧ Below w.heap.size w w' := by
  have hla : la.length = n := by rw [← ea.len, ha.1]
  have hlb : lb.length = m := by rw [← eb.len, hb.1]
  by_cases hnm : n = m
  · have hnm' : ((n : Int) != m) = false := by simp; omega
    go_enter Tryd.func12, Tryd.ntmps12
    have HNM := Lib.hid hnm
    clear hnm
    go_wp2_with fail
    go_loopw [13] (fun i wr => ∃ k : Nat, k ≤ n ∧ i = .int .i64 k ∧ la.take k = lb.take k ∧ Below w.heap.size w wr) (fun i _ => n - (intOf i).toNat)
    case atStart => exact ⟨0, Nat.zero_le _, rfl, by simp, Below.refl _ _⟩
    case round =>
      obtain ⟨k, hk, rfl, heq, hbr⟩ := hrel
      have HQ := Lib.hid heq
      clear heq
      by_cases hlt : k < n
      · obtain ⟨Aa, ca, hva, hsa⟩ := ea.at_ k (by omega)
        obtain ⟨Ab, cb, hvb, hsb⟩ := eb.at_ k (by have := HNM.out; omega)
        obtain ⟨ba, oa, ua, rfl, hua, hca⟩ := ha.at_ hlt
        obtain ⟨bb, ob, ub, rfl, hub, hcb⟩ := hb.at_ (k := k) (by have := HNM.out; omega)
        rw [hva] at hua
        rw [hvb] at hub
        injection hua with hua
        injection hub with hub
        subst hua hub
        have hkm : (k : Int) < m := by have := HNM.out; omega
        have HD := Lib.hid (show (la.take (k + 1) = lb.take (k + 1)) ↔ la[k] = lb[k] by
          rw [List.take_succ_eq_append_getElem (l := la) (i := k) (by omega), List.take_succ_eq_append_getElem (l := lb) (i := k) (by omega), HQ.out]
          exact ⟨fun h => by have h2 := List.append_cancel_left h; injection h2, fun h => by rw [h]⟩)
        have HNE := Lib.hid (show la[k] ≠ lb[k] → la ≠ lb from fun h e => h (by subst e; rfl))
        generalize la[k] = xa at hsa hca HD HNE hva
        generalize lb[k] = xb at hsb hcb HD HNE hvb
        have hcra : wr.cell? ⟨ba, oa + k, none⟩ = some (.slice Aa xa.length ca) := by
          rw [hbr.cell (World.block_lt_of_cell? w _ hca)]; exact hca
        have hcrb : wr.cell? ⟨bb, ob + k, none⟩ = some (.slice Ab xb.length cb) := by
          rw [hbr.cell (World.block_lt_of_cell? w _ hcb)]; exact hcb
        have hva2 : ∀ q, (convert 32 9 (.slice Aa xa.length ca)).run Tryd.prog (wr.drewN q) = .ok (.string ⟨xa.toArray⟩) (wr.drewN q) := fun q =>
          run_str (P := Tryd.prog) ((hsa.below hbr).drewN q) 32 5 9 Tryd.underlying32 Tryd.underlying5 Tryd.underlying9
        have hvb2 : ∀ q, (convert 32 9 (.slice Ab xb.length cb)).run Tryd.prog (wr.drewN q) = .ok (.string ⟨xb.toArray⟩) (wr.drewN q) := fun q =>
          run_str (P := Tryd.prog) ((hsb.below hbr).drewN q) 32 5 9 Tryd.underlying32 Tryd.underlying5 Tryd.underlying9
        clear hca hcb hva hvb hsa hsb
        by_cases hx : xa = xb
        · have HX := Lib.hid hx
          have hx' : (xa == xb) = true := by simpa using hx
          clear hx
          go_wp2_with fail
          go_quiet (fail)
          have hbq : Below w.heap.size w (wr.drewN nq) := hbr.trans ⟨rfl, rfl, rfl, Nat.le_refl _, fun _ _ => rfl⟩
          clear hva2 hvb2 hcra hcrb hbr hx'
          go_wp2_with fail
          go_roundw
          case rel => exact ⟨k + 1, by omega, by go_num, HD.out.2 HX.out, hbq⟩
          case measure => simp [intOf]; omega
        · have hx' : (xa == xb) = false := by simpa using hx
          have HX := Lib.hid (HNE.out hx)
          clear hx
          go_wp2_with fail
          go_quiet (fail)
          have hbq : Below w.heap.size w (wr.drewN nq) := hbr.trans ⟨rfl, rfl, rfl, Nat.le_refl _, fun _ _ => rfl⟩
          clear hva2 hvb2 hcra hcrb hbr hx'
          go_wp2_with fail
          go_ret
          exact ⟨by simp [HX.out], hbq⟩
      · have hall : la = lb := by
          have h := HQ.out
          rw [List.take_of_length_le (by omega), List.take_of_length_le (by have := HNM.out; omega)] at h
          exact h
        have HA := Lib.hid hall
        clear hall
        go_wp2_with fail
        go_ret
        exact ⟨by simp [HA.out], hbr⟩
  · have hnm' : ((n : Int) != m) = true := by simp; omega
    have hne : ¬ la = lb := fun e => hnm (by rw [← hla, ← hlb, e])
    go_enter Tryd.func12, Tryd.ntmps12
    go_wp2_with fail
    go_ret
    exact ⟨by simp [hne], Below.refl _ _⟩
end Go.Proofs.YtcfmialhlklmgaaDoor
