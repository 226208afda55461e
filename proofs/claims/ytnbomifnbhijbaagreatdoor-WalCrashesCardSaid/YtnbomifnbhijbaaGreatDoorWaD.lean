/-
  A log's Sync.
-/
import Derived.Test.YtnbomifnbhijbaaGreatDoorWaC
namespace Go.Proofs.YtnbomifnbhijbaaGreatDoor
open Go.RowKit Go.Maps
set_option linter.unusedVariables false

theorem find_fs {gs : List Gm} {fs : List Fm} (h : gs.map Gm.f = fs) (s : List UInt8) : findK Fm.name s fs = (findK Gm.name s gs).map Gm.f := by
  rw [← h]; exact (find_map (key := Gm.name) (key' := Fm.name) Gm.f (fun _ => rfl) s gs).symm
theorem with_fs {gs : List Gm} {fs : List Fm} (h : gs.map Gm.f = fs) (g : Gm) : (withK Gm.name g gs).map Gm.f = withK Fm.name g.f fs := by
  rw [← h]; exact with_map (key := Gm.name) (key' := Fm.name) Gm.f (fun _ => rfl) g gs
theorem below_drewN (w : World) (q : Nat) : Below w.heap.size w (w.drewN q) := ⟨rfl, rfl, rfl, Nat.le_refl _, fun _ _ => rfl⟩
set_option maxHeartbeats 4000000 in
theorem lsync_any {w0 w : World} {pl pb mb : Nat} {gs : List Gm} {x : Ws} (h : Wl w0 w pl pb mb gs x) :
    Calls Tryz.prog 26 #[.pointer (some ⟨pl, 0, none⟩)] w fun e w' => e = .returned (.int .i64 (syncX x).2) ∧ WlPost w0 w pl pb mb gs (syncX x).1 w' := by
  have l0 := h.lg.cell (k := 0) rfl
  have l1 := h.lg.cell (k := 1) rfl
  have l2 := h.lg.cell (k := 2) rfl
  have hfn := fileName_any x.seg (by have := h.seg1; have := h.seg2; omega) w h.wl
  have H := Lib.hid h
  cases hd : x.dd with
  | true =>
    have he : syncX x = (x, 6) := by simp [syncX, hd]
    rw [he]
    rw [hd] at l2
    clear h hfn hd he
    go_enter Tryz.func26, Tryz.ntmps26
    go_wp2_with fail
    go_ret
    exact ⟨rfl, gs, H.out, Stp.refl _ _⟩
  | false =>
    rw [hd] at l2
    have hlen := fname_len x.seg
    have hE : ∀ w1, Below w.heap.size w w1 → w1.cell? ⟨pl, 0, none⟩ = some (.pointer (some ⟨pb, 0, none⟩)) := fun w1 hb => (h.below hb).lg.cell (k := 0) rfl
    cases hf : findK Gm.name (fname x.seg) gs with
    | none =>
      have he : syncX x = (x, 0) := by simp [syncX, hd, find_fs h.fs, hf]
      rw [he]
      have hls : ∀ w1, Below w.heap.size w w1 → Calls Tryz.prog 23 #[.pointer (some ⟨pb, 0, none⟩), .string (str (fname x.seg))] w1 fun e w' => e = .returned (.int .i64 0) ∧ ∃ q, w' = w1.drewN q := fun w1 hb => by
        have := loose_any (h.below hb).dr (fname x.seg) (by simp only [maxLen]; omega)
        rwa [show looseG (fname x.seg) gs = 0 from by simp [looseG, hf]] at this
      have HLS := Lib.hid hls
      have HE := Lib.hid hE
      clear h hd he hls hE hf hlen
      generalize fname x.seg = nm at *
      go_enter Tryz.func26, Tryz.ntmps26
      go_wp2_with (first
        | (go_at_call 53; refine hfn.mono ?_; rintro e w1 ⟨rfl, hb⟩; have m0 := HE.out w1 hb)
        | (go_at_call 23; refine (HLS.out w1 hb).mono ?_; rintro e w2 ⟨rfl, q, rfl⟩))
      go_ret
      exact ⟨rfl, gs, (H.out.below hb).below (below_drewN w1 q), Stp.wide (Below.stp (hb.trans ((below_drewN w1 q).mono hb.size)))⟩
    | some g =>
      have hgm := find_some hf
      have hls : ∀ w1, Below w.heap.size w w1 → Calls Tryz.prog 23 #[.pointer (some ⟨pb, 0, none⟩), .string (str (fname x.seg))] w1 fun e w' => e = .returned (.int .i64 ((g.f.data.length - g.f.syn : Nat) : Int)) ∧ ∃ q, w' = w1.drewN q := fun w1 hb => by
        have := loose_any (h.below hb).dr (fname x.seg) (by simp only [maxLen]; omega)
        rwa [show looseG (fname x.seg) gs = g.f.data.length - g.f.syn from by simp [looseG, hf]] at this
      have HLS := Lib.hid hls
      have HE := Lib.hid hE
      by_cases h0 : g.f.data.length - g.f.syn = 0
      · have he : syncX x = (x, 0) := by simp [syncX, hd, find_fs h.fs, hf, h0]
        rw [he]
        rw [h0] at HLS
        clear h hd he hls hE hf hlen h0
        generalize fname x.seg = nm at *
        go_enter Tryz.func26, Tryz.ntmps26
        go_wp2_with (first
          | (go_at_call 53; refine hfn.mono ?_; rintro e w1 ⟨rfl, hb⟩; have m0 := HE.out w1 hb)
          | (go_at_call 23; refine (HLS.out w1 hb).mono ?_; rintro e w2 ⟨rfl, q, rfl⟩))
        go_ret
        exact ⟨rfl, gs, (H.out.below hb).below (below_drewN w1 q), Stp.wide (Below.stp (hb.trans ((below_drewN w1 q).mono hb.size)))⟩
      · have hlk : lookE (fname x.seg) gs x.ar x.lf = code1 x.ar x.lf := by
          have hv : vname (fname x.seg) = true := by rw [← hgm.2]; exact h.vn g hgm.1
          simp [lookE, hv, hf]
        have hsy : ∀ w1, Below w.heap.size w w1 → Calls Tryz.prog 62 #[.pointer (some ⟨pb, 0, none⟩), .string (str (fname x.seg))] w1 fun e w' => e = .returned (.int .i64 (code1 x.ar x.lf)) ∧ WlPost w0 w pl pb mb gs (if dead x.ar x.lf then x else (syncX x).1) w' := fun w1 hb => by
          have H1 := h.below hb
          have hc := sync_any H1.dr (fname x.seg)
          rw [hlk] at hc
          refine hc.mono ?_
          rintro e w2 ⟨rfl, hw⟩
          refine ⟨rfl, ?_⟩
          have hb1 : Stp w w1 (wfoot pl pb mb gs) (wfoot pl pb mb gs) := Stp.wide (Below.stp hb)
          cases hdd : dead x.ar x.lf with
          | true =>
            rw [if_neg (by simp [code1, hdd])] at hw
            have := H1.drive hw.2 hw.1 h.fs h.vn
            exact ⟨gs, this.1, hb1.trans this.2⟩
          | false =>
            rw [if_pos (by simp [code1, hdd])] at hw
            obtain ⟨g', hg', hD, hS⟩ := hw
            have hof : oldF (fname x.seg) gs = g.f := by simp [oldF, hf]
            rw [hof] at hg'
            have := H1.drive hS hD (with_fs h.fs g') (fun y hy => by
              rcases mem_with hy with rfl | hy
              · rw [show y.name = fname x.seg from by rw [show y.name = y.f.name from rfl, hg'], ← hgm.2]; exact h.vn g hgm.1
              · exact h.vn y hy)
            have he : (syncX x).1 = { stepX x with fs := withK Fm.name g'.f x.fs } := by
              rw [hg', ← hgm.2]
              simp [syncX, hd, find_fs h.fs, hf, h0, hdd]
            rw [if_neg (by decide), he]
            exact ⟨_, this.1, hb1.trans this.2⟩
        have he2 : (syncX x).2 = code1 x.ar x.lf := by
          cases hdd : dead x.ar x.lf <;> simp [syncX, hd, find_fs h.fs, hf, h0, hdd, code1]
        have he1 : (syncX x).1 = if dead x.ar x.lf then { x with dd := true } else (syncX x).1 := by
          cases hdd : dead x.ar x.lf
          · rfl
          · simp [syncX, hd, find_fs h.fs, hf, h0, hdd]
        have hxd : (syncX x).1.dd = true ∨ (syncX x).1.dd = false := by cases (syncX x).1.dd <;> simp
        have hsd : dead x.ar x.lf = false → (syncX x).1.dd = false := fun hdd => by simp [syncX, hd, find_fs h.fs, hf, h0, hdd, stepX]
        have hdn : ∀ w2, WlPost w0 w pl pb mb gs (if dead x.ar x.lf then x else (syncX x).1) w2 → Calls Tryz.prog 54 #[.pointer (some ⟨pl, 0, none⟩), .int .i64 (code1 x.ar x.lf)] w2 fun e w' => e = .returned (.int .i64 (code1 x.ar x.lf)) ∧ WlPost w0 w pl pb mb gs (syncX x).1 w' := by
          rintro w2 ⟨gs2, h2, hS2⟩
          refine (done_any h2.lg (code1 x.ar x.lf)).mono ?_
          rintro e w3 ⟨rfl, hL, hS⟩
          refine ⟨rfl, ?_⟩
          have := h2.log hS hL h2.seg1 h2.seg2
          refine ⟨gs2, ?_, hS2.trans this.2⟩
          have h3 := this.1
          rw [he1]
          cases hdd : dead x.ar x.lf with
          | true =>
            rw [hdd] at h3
            simpa [code1, hdd] using h3
          | false =>
            rw [hdd] at h3
            have hq := hsd hdd
            generalize (syncX x).1 = y at h3 hq ⊢
            obtain ⟨y1, y2, y3, y4, y5, y6⟩ := y
            simp only at hq
            subst hq
            simpa [code1, hdd] using h3
        rw [he2]
        have HSY := Lib.hid hsy
        have HDN := Lib.hid hdn
        have hcb : (-9223372036854775808 : Int) ≤ code1 x.ar x.lf ∧ code1 x.ar x.lf ≤ 9223372036854775807 := by unfold code1; split <;> omega
        generalize (syncX x).1 = y at *
        generalize code1 x.ar x.lf = cd at *
        have hlc : ¬ ((g.f.data.length - g.f.syn : Nat) : Int) = 0 := by omega
        clear h hd hls hE hf hlen hlk hsy hdn he2 he1 hxd hsd
        generalize g.f.data.length - g.f.syn = ln at *
        generalize fname x.seg = nm at *
        go_enter Tryz.func26, Tryz.ntmps26
        go_wp2_with (first
          | (go_at_call 53; refine hfn.mono ?_; rintro e w1 ⟨rfl, hb⟩; have m0 := HE.out w1 hb)
          | (go_at_call 23; refine (HLS.out w1 hb).mono ?_; rintro e w2 ⟨rfl, q, rfl⟩; have hbq := hb.trans ((below_drewN w1 q).mono hb.size); have m1 := HE.out _ hbq)
          | (go_at_call 62; refine (HSY.out _ hbq).mono ?_; rintro e w3 ⟨rfl, hw3⟩)
          | (go_at_call 54; refine (HDN.out _ hw3).mono ?_; rintro e w4 ⟨rfl, hw4⟩))
        go_ret
        exact ⟨rfl, hw4⟩
end Go.Proofs.YtnbomifnbhijbaaGreatDoor
