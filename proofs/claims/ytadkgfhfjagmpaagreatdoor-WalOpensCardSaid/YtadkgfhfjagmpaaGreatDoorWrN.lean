/-
  The reference of the log: Append.
-/
import Derived.Test.YtadkgfhfjagmpaaGreatDoorWrH
import Derived.Test.YtadkgfhfjagmpaaGreatDoorWrJ
import Derived.Test.YtadkgfhfjagmpaaGreatDoorWrK
import Derived.Test.YtadkgfhfjagmpaaGreatDoorGWo
namespace Go.Proofs.YtadkgfhfjagmpaaGreatDoor
open Go.RowKit Go.Maps Num Crc
set_option linter.unusedVariables false

set_option maxRecDepth 40000 in
set_option maxHeartbeats 40000000 in
theorem rlappend_any (x : Ws) (hx : Wx x) (hs2 : x.seg ≤ 1000000) (P : Option Addr) (np cp : Nat) (p : List UInt8) (A : Option Addr) (c : Nat) (w : World) (lo : Nat) (hp : Sl w P np (bv p)) (hnp : np ≤ 140737488350000) (hown : w.ownsRow lo 108 3 (.slice A x.fs.length c) x.fs.length (fcs x.fs)) (hlo : lo ≤ w.heap.size) :
    Calls Tryz.prog 18 #[xdr A c x, xlg x, .slice P np cp] w (RL w lo (appX x p).1 (appX x p).2) := by
  obtain ⟨fs, st, ar, lf, seg, dd⟩ := x
  have HB0 := Lib.hid (Bx4.start w A c ⟨fs, st, ar, lf, seg, dd⟩)
  have HX := Lib.hid hx
  have HO := Lib.hid hown
  have hnl := hp.len
  have hnI : (np : Int) = p.length := by omega
  by_cases h4096 : 4096 < p.length
  · have he : appX ⟨fs, st, ar, lf, seg, dd⟩ p = (⟨fs, st, ar, lf, seg, dd⟩, 3) := by unfold appX; rw [if_pos h4096]
    rw [he]
    have hcI : (4096 : Int) < np := by omega
    clear he hown hx hp
    have d0 := HB0.out.d.cell (k := 0) rfl
    have d1 := HB0.out.d.cell (k := 1) rfl
    have d2 := HB0.out.d.cell (k := 2) rfl
    have d3 := HB0.out.d.cell (k := 3) rfl
    have l0 := HB0.out.l.cell (k := 0) rfl
    have l1 := HB0.out.l.cell (k := 1) rfl
    have r0 := HB0.out.rd.cell (k := 0) rfl
    have r1 := HB0.out.rd.cell (k := 1) rfl
    have r2 := HB0.out.rd.cell (k := 2) rfl
    have r3 := HB0.out.rd.cell (k := 3) rfl
    have s0 := HB0.out.rl.cell (k := 0) rfl
    have s1 := HB0.out.rl.cell (k := 1) rfl
    have f0 := HB0.out.rd.frozen 0
    have f1 := HB0.out.rd.frozen 1
    have f2 := HB0.out.rd.frozen 2
    have f3 := HB0.out.rd.frozen 3
    have g0 := HB0.out.rl.frozen 0
    have g1 := HB0.out.rl.frozen 1
    have e0 := HB0.out.d.frozen 0
    have e1 := HB0.out.d.frozen 1
    have e2 := HB0.out.d.frozen 2
    have e3 := HB0.out.d.frozen 3
    have h0 := HB0.out.l.frozen 0
    have h1 := HB0.out.l.frozen 1
    go_enter Tryz.func18, Tryz.ntmps18
    generalize hU : w4 w A c ⟨fs, st, ar, lf, seg, dd⟩ = U at *
    go_wp2_with fail
    go_region_with (fail)
    all_goals
      go_wp2_with fail
      exact end_dl (y := ⟨fs, st, ar, lf, seg, dd⟩) HB0.out (own3_below HO.out (HB0.out.bel.mono (Nat.le_refl _))) rfl rfl rfl rfl rfl
  · have hcI : ¬ (4096 : Int) < np := by omega
    cases dd with
    | true =>
      have he : appX ⟨fs, st, ar, lf, seg, true⟩ p = (⟨fs, st, ar, lf, seg, true⟩, 6) := by unfold appX; rw [if_neg h4096]; rfl
      rw [he]
      clear he hown hx hp
      have d0 := HB0.out.d.cell (k := 0) rfl
      have d1 := HB0.out.d.cell (k := 1) rfl
      have d2 := HB0.out.d.cell (k := 2) rfl
      have d3 := HB0.out.d.cell (k := 3) rfl
      have l0 := HB0.out.l.cell (k := 0) rfl
      have l1 := HB0.out.l.cell (k := 1) rfl
      have r0 := HB0.out.rd.cell (k := 0) rfl
      have r1 := HB0.out.rd.cell (k := 1) rfl
      have r2 := HB0.out.rd.cell (k := 2) rfl
      have r3 := HB0.out.rd.cell (k := 3) rfl
      have s0 := HB0.out.rl.cell (k := 0) rfl
      have s1 := HB0.out.rl.cell (k := 1) rfl
      have f0 := HB0.out.rd.frozen 0
      have f1 := HB0.out.rd.frozen 1
      have f2 := HB0.out.rd.frozen 2
      have f3 := HB0.out.rd.frozen 3
      have g0 := HB0.out.rl.frozen 0
      have g1 := HB0.out.rl.frozen 1
      have e0 := HB0.out.d.frozen 0
      have e1 := HB0.out.d.frozen 1
      have e2 := HB0.out.d.frozen 2
      have e3 := HB0.out.d.frozen 3
      have h0 := HB0.out.l.frozen 0
      have h1 := HB0.out.l.frozen 1
      go_enter Tryz.func18, Tryz.ntmps18
      generalize hU : w4 w A c ⟨fs, st, ar, lf, seg, true⟩ = U at *
      go_wp2_with fail
      go_region_with (fail)
      all_goals
        go_wp2_with fail
        exact end_dl (y := ⟨fs, st, ar, lf, seg, true⟩) HB0.out (own3_below HO.out (HB0.out.bel.mono (Nat.le_refl _))) rfl rfl rfl rfl rfl
    | false =>
      have hap : appX ⟨fs, st, ar, lf, seg, false⟩ p = if 0 < (oldL (fname seg) fs).data.length ∧ 1024 < (oldL (fname seg) fs).data.length + (seal_ p).length then (if (rollX ⟨fs, st, ar, lf, seg, false⟩).2.2 = 0 then tailX (rollX ⟨fs, st, ar, lf, seg, false⟩).1 (seal_ p) else ((rollX ⟨fs, st, ar, lf, seg, false⟩).1, (rollX ⟨fs, st, ar, lf, seg, false⟩).2.2)) else tailX ⟨fs, st, ar, lf, seg, false⟩ (seal_ p) := by
        unfold appX
        rw [if_neg h4096]; rfl
      rw [hap]
      by_cases hroll : 0 < (oldL (fname seg) fs).data.length ∧ 1024 < (oldL (fname seg) fs).data.length + (seal_ p).length
      · rw [if_pos hroll]
        by_cases h0 : (rollX ⟨fs, st, ar, lf, seg, false⟩).2.2 = 0
        · rw [if_pos h0]
          by_cases hsg : 999999 < (rollX ⟨fs, st, ar, lf, seg, false⟩).1.seg
          · have ht : tailX (rollX ⟨fs, st, ar, lf, seg, false⟩).1 (seal_ p) = ((rollX ⟨fs, st, ar, lf, seg, false⟩).1, 5) := by unfold tailX; rw [if_pos hsg]
            exact app_r5 fs st ar lf seg hx hs2 P np cp p A c w lo hp h4096 hown hlo hroll.1 hroll.2 h0 hsg
          · exact app_r0 fs st ar lf seg hx hs2 P np cp p A c w lo hp h4096 hown hlo hroll.1 hroll.2 h0 hsg
        · rw [if_neg h0]
          have h6 : (rollX ⟨fs, st, ar, lf, seg, false⟩).2.2 = 6 := by
            rcases (roll_wx hx hs2).2.2.1 with e | e
            · exact absurd e h0
            · exact e
          have := app_r6 fs st ar lf seg hx hs2 P np cp p A c w lo hp h4096 hown hlo hroll.1 hroll.2 h6
          simp only [h6]
          exact this
      · rw [if_neg hroll]
        by_cases hsg : 999999 < seg
        · exact app_n5 fs st ar lf seg hx hsg P np cp p A c w lo hp h4096 hown hlo hroll
        · by_cases hr1 : 0 < (oldL (fname seg) fs).data.length
          · exact app_n2 fs st ar lf seg hx hsg P np cp p A c w lo hp h4096 hown hlo hr1 (fun e => hroll ⟨hr1, e⟩)
          · exact app_n1 fs st ar lf seg hx hsg P np cp p A c w lo hp h4096 hown hlo hr1
end Go.Proofs.YtadkgfhfjagmpaaGreatDoor
