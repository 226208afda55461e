/-
  The search of a skip list: before.
-/
import Derived.Test.YtjlebmpgjliacaaMeB
import Derived.WalkMore
import Derived.Deep.LoopGhost
namespace Go.Proofs.Ytjlebmpgjliacaa
open Go.RowKit
set_option linter.unusedVariables false

theorem arr12 (v0 v1 v2 v3 v4 v5 v6 v7 v8 v9 v10 v11 : Value) : (((((((((((((List.replicate 12 (Value.pointer none)).toArray.setIfInBounds 0 v0).setIfInBounds 1 v1).setIfInBounds 2 v2).setIfInBounds 3 v3).setIfInBounds 4 v4).setIfInBounds 5 v5).setIfInBounds 6 v6).setIfInBounds 7 v7).setIfInBounds 8 v8).setIfInBounds 9 v9).setIfInBounds 10 v10).setIfInBounds 11 v11) = #[v0, v1, v2, v3, v4, v5, v6, v7, v8, v9, v10, v11] := by
  apply Array.ext'
  simp [List.replicate]
theorem set12 {w0 w : World} {b : Nat} {t : TypeId} (h : Blk w b (List.replicate 12 (Value.pointer none)).toArray t) (v0 v1 v2 v3 v4 v5 v6 v7 v8 v9 v10 v11 : Value) {B : Nat} (hB : B ≤ b) (hb : Below B w0 w) :
    ∃ V, ((((((((((((w.setCell ⟨b, 0, none⟩ v0).setCell ⟨b, 1, none⟩ v1).setCell ⟨b, 2, none⟩ v2).setCell ⟨b, 3, none⟩ v3).setCell ⟨b, 4, none⟩ v4).setCell ⟨b, 5, none⟩ v5).setCell ⟨b, 6, none⟩ v6).setCell ⟨b, 7, none⟩ v7).setCell ⟨b, 8, none⟩ v8).setCell ⟨b, 9, none⟩ v9).setCell ⟨b, 10, none⟩ v10).setCell ⟨b, 11, none⟩ v11) = V ∧ Blk V b #[v0, v1, v2, v3, v4, v5, v6, v7, v8, v9, v10, v11] t ∧ Below B w0 V := by
  have e := arr12 v0 v1 v2 v3 v4 v5 v6 v7 v8 v9 v10 v11
  have h0 := h.set 0 v0
  have h1 := h0.set 1 v1
  have h2 := h1.set 2 v2
  have h3 := h2.set 3 v3
  have h4 := h3.set 4 v4
  have h5 := h4.set 5 v5
  have h6 := h5.set 6 v6
  have h7 := h6.set 7 v7
  have h8 := h7.set 8 v8
  have h9 := h8.set 9 v9
  have h10 := h9.set 10 v10
  have h11 := h10.set 11 v11
  rw [e] at h11
  exact ⟨_, rfl, h11, (Below.setCell (Below.setCell (Below.setCell (Below.setCell (Below.setCell (Below.setCell (Below.setCell (Below.setCell (Below.setCell (Below.setCell (Below.setCell (Below.setCell hb hB v0) hB v1) hB v2) hB v3) hB v4) hB v5) hB v6) hB v7) hB v8) hB v9) hB v10) hB v11)⟩
theorem lasts_store {w wr : World} {tb p L i q : Nat} {N : List Nd} (hL : L < 12) (h1 : Blk wr (w.heap.size + 1) (lasts tb N p (L + 1)).toArray 46) (h2 : Blk wr w.heap.size (lasts tb N p 12).toArray 46) (hb : Below w.heap.size w wr) (hi : lastP N L p = i) :
    Blk ((wr.drewN q).setCell ⟨w.heap.size + 1, L, none⟩ (.pointer (some ⟨ba tb N i, 0, none⟩))) (w.heap.size + 1) (lasts tb N p L).toArray 46 ∧ Blk ((wr.drewN q).setCell ⟨w.heap.size + 1, L, none⟩ (.pointer (some ⟨ba tb N i, 0, none⟩))) w.heap.size (lasts tb N p 12).toArray 46 ∧
      Below w.heap.size w ((wr.drewN q).setCell ⟨w.heap.size + 1, L, none⟩ (.pointer (some ⟨ba tb N i, 0, none⟩))) := by
  have g1 : Blk (wr.drewN q) (w.heap.size + 1) (lasts tb N p (L + 1)).toArray 46 := h1
  have g2 : Blk (wr.drewN q) w.heap.size (lasts tb N p 12).toArray 46 := h2
  have g3 : Below w.heap.size w (wr.drewN q) := hb.trans ⟨rfl, rfl, rfl, Nat.le_refl _, fun _ _ => rfl⟩
  have := g1.set L (.pointer (some ⟨ba tb N i, 0, none⟩))
  rw [lasts_set tb N p hL (by rw [hi])] at this
  exact ⟨this, g2.keep (setCell_other _ _ _ (by simp only; omega)), g3.setCell (Nat.le_succ _) _⟩
set_option maxRecDepth 20000 in
set_option maxHeartbeats 4000000 in
theorem before_any {w : World} {tb : Nat} {N : List Nd} {cnt byt : Int} (h : Tb w tb N cnt byt) {key : List UInt8} {seq : Int} {p : Nat} (hs : Split N key seq p) :
    Calls Try.prog 21 #[.pointer (some ⟨tb, 0, none⟩), .string (str key), .int .i64 seq] w fun e w' => e = .returned (.agg (lasts tb N p 0).toArray) ∧ Below w.heap.size w w' := by
  have H := Lib.hid h
  have HS := Lib.hid hs
  clear h hs
  have h0 : (#[Value.pointer none, .pointer none, .pointer none, .pointer none, .pointer none, .pointer none, .pointer none, .pointer none, .pointer none, .pointer none, .pointer none, .pointer none] : Array Value) = (lasts tb N p 12).toArray := by rw [lasts_zero]; rfl
  have H0 := Lib.hid h0
  clear h0
  go_enter Try.func21, Try.ntmps21
  go_wp2_with fail
  go_step3
  go_wp2_with fail
  go_step3
  go_wp2_with fail
  go_loopg [8, 9] 12 (fun j s8 s9 wr => ∃ (i : Nat), j ≤ 12 ∧ s9 = .int .i64 ((j : Int) - 1) ∧ i ≤ p ∧ s8 = .pointer (some ⟨ba tb N i, 0, none⟩) ∧ j ≤ hp N i ∧ Blk wr (w.heap.size + 1) (lasts tb N p j).toArray 46 ∧ Blk wr w.heap.size (lasts tb N p 12).toArray 46 ∧ Below w.heap.size w wr)
  case atStart =>
    have hb1 : Below w.heap.size w (w.alloc (.cells (lasts tb N p 12).toArray 46)) := (Below.refl _ w).alloc (Nat.le_refl _) _
    rw [H0.out]
    refine ⟨0, Nat.le_refl _, rfl, Nat.zero_le _, rfl, Nat.le_refl _, ?_, (Blk.new w _ _).keep (Below.heap_alloc _ _ _ (by simp)), hb1.alloc hb1.size _⟩
    have := Blk.new (w.alloc (.cells (lasts tb N p 12).toArray 46)) (lasts tb N p 12).toArray 46
    simpa using this
  case round =>
    obtain ⟨i, hj, rfl, hi, rfl, hh, hL, hR, hb⟩ := hrel
    cases gk with
    | zero =>
      have hneg : ((0 : Nat) : Int) - 1 = -1 := by decide
      rw [hneg]
      have hl : ∀ L, L < 12 → (lasts tb N p 0)[L]? = some (.pointer (some ⟨ba tb N (lastP N L p), 0, none⟩)) := fun L h => by simp [lasts, h]
      have e0 := fun L h => hL.cell (k := L) (u := .pointer (some ⟨ba tb N (lastP N L p), 0, none⟩)) (by simpa using hl L h)
      have hl2 : ∀ L, L < 12 → (lasts tb N p 12)[L]? = some (.pointer none) := fun L h => by simp [lasts, h]
      have er := fun L h => hR.cell (k := L) (u := .pointer none) (by simpa using hl2 L h)
      have fr := hR.frozen
      have HB := Lib.hid (And.intro hb hR)
      clear hb hR hL hl hl2
      go_wp2_with fail
      rw [Exit.noGoto_ret]
      have hR := HB.out.2
      rw [lasts_zero] at hR
      obtain ⟨V, hV, q1, q2⟩ := set12 hR (.pointer (some ⟨ba tb N (lastP N 0 p), 0, none⟩)) (.pointer (some ⟨ba tb N (lastP N 1 p), 0, none⟩)) (.pointer (some ⟨ba tb N (lastP N 2 p), 0, none⟩)) (.pointer (some ⟨ba tb N (lastP N 3 p), 0, none⟩)) (.pointer (some ⟨ba tb N (lastP N 4 p), 0, none⟩)) (.pointer (some ⟨ba tb N (lastP N 5 p), 0, none⟩)) (.pointer (some ⟨ba tb N (lastP N 6 p), 0, none⟩)) (.pointer (some ⟨ba tb N (lastP N 7 p), 0, none⟩)) (.pointer (some ⟨ba tb N (lastP N 8 p), 0, none⟩)) (.pointer (some ⟨ba tb N (lastP N 9 p), 0, none⟩)) (.pointer (some ⟨ba tb N (lastP N 10 p), 0, none⟩)) (.pointer (some ⟨ba tb N (lastP N 11 p), 0, none⟩)) (Nat.le_refl _) HB.out.1
      clear er fr e0 hR
      rw [hV]
      clear hV
      exact bodyPost_ret (results_cell_row rfl _ _ w.heap.size _ _ _ _ rfl q1 Try.underlying46 rfl (by kernel_rfl)) rfl ⟨rfl, q2⟩
    | succ L =>
      have hL12 : L < 12 := by omega
      have HHL := Lib.hid (And.intro hL (And.intro hR hb))
      rw [show ((L + 1 : Nat) : Int) - 1 = (L : Int) from by omega]
      have hc : ¬ ((L : Int) < 0) := by omega
      have hle : (0 : Int) ≤ L := by omega
      clear hL hR hb
      go_wp2_with fail
      go_loopg [8] (p - i) (fun g s8 wy => ∃ (i q : Nat), i + g = p ∧ s8 = .pointer (some ⟨ba tb N i, 0, none⟩) ∧ L < hp N i ∧ wy = wr.drewN q)
      case atStart => exact ⟨i, 0, by omega, rfl, by omega, rfl⟩
      case round =>
        obtain ⟨i2, q, hig, rfl, hh2, rfl⟩ := hrel
        have hT : Tb (wr.drewN q) tb N cnt byt := (H.out.below HHL.out.2.2 (Nat.le_refl _)).keep fun _ _ => rfl
        have hn : wr.cell? ⟨ba tb N i2, 5 + L, none⟩ = some (pnt (nxN N i2 L)) := hT.next (i := i2) (L := L) (by have := HS.out.le; omega) hL12
        have hLb : Blk wr (w.heap.size + 1) (lasts tb N p (L + 1)).toArray 46 := HHL.out.1
        have hlc : (lasts tb N p (L + 1)).toArray[L]? = some (.pointer none) := by simp [lasts, hL12]
        have x0 := hLb.cell hlc
        have f0 := hLb.frozen L
        have HLB := Lib.hid hLb
        have HT := Lib.hid hT
        clear hlc hLb hT
        cases hx : nxN N i2 L with
        | none =>
          rw [hx] at hn
          change _ = some (Value.pointer none) at hn
          have hla := lastP_eq hh2 (by omega) HS.out.le (fun j h1 h2 m hm => nx_none hx hh2 j h1 m hm)
          have HLA := Lib.hid hla
          clear hla hx
          go_wp2_with fail
          go_roundg L
          case measure => omega
          case rel =>
            obtain ⟨s1, s2, s3⟩ := lasts_store (q := q) hL12 HHL.out.1 HHL.out.2.1 HHL.out.2.2 HLA.out
            exact ⟨i2, by omega, rfl, by omega, rfl, by omega, s1, s2, s3⟩
        | some n =>
          rw [hx] at hn
          change _ = some (Value.pointer (some ⟨n.blk, 0, none⟩)) at hn
          obtain ⟨k, k1, k2, k3, k4⟩ := nx_some hx
          have hah := ahead_any HT.out k2 key seq
          have hbk : ba tb N (k + 1) = n.blk := by simp only [ba, k2]
          have hhk : hp N (k + 1) = n.h := hp_get k2
          by_cases hkp : k < p
          · rw [HS.out.yes k hkp n k2] at hah
            have HK := Lib.hid (And.intro hbk hhk)
            clear hbk hhk hx k4
            go_wp2_with (go_at_call 25; refine hah.mono ?_; rintro e w3 ⟨rfl, q2, rfl⟩)
            go_roundg (p - (k + 1))
            case measure => omega
            case rel => exact ⟨k + 1, q + q2, by omega, by rw [HK.out.1], by rw [HK.out.2]; exact k3, by simp⟩
          · rw [HS.out.no k (by omega) n k2] at hah
            have hla := lastP_eq hh2 (by omega) HS.out.le (fun j h1 h2 m hm => k4 j h1 (by omega) m hm)
            have HLA := Lib.hid hla
            clear hbk hhk hx k4 hla
            go_wp2_with (go_at_call 25; refine hah.mono ?_; rintro e w3 ⟨rfl, q2, rfl⟩)
            go_roundg L
            case measure => omega
            case rel =>
              obtain ⟨s1, s2, s3⟩ := lasts_store (q := q + q2) hL12 HHL.out.1 HHL.out.2.1 HHL.out.2.2 HLA.out
              exact ⟨i2, by omega, rfl, by omega, rfl, by omega, s1, s2, s3⟩
end Go.Proofs.Ytjlebmpgjliacaa

