/-
  A log's Drop.
-/
import Derived.Test.YtnbomifnbhijbaaGreatDoorWaG
namespace Go.Proofs.YtnbomifnbhijbaaGreatDoor
open Go.RowKit Go.Maps
set_option linter.unusedVariables false

def ddelX (x : Ws) (s : List UInt8) : Ws × Int :=
  if vname s = false then (x, 20) else if findK Fm.name s x.fs = none then (x, 4) else if dead x.ar x.lf then (x, 6) else ({ stepX x with fs := outK Fm.name s x.fs }, 0)
theorem out_fs {gs : List Gm} {fs : List Fm} (h : gs.map Gm.f = fs) (s : List UInt8) : (outK Gm.name s gs).map Gm.f = outK Fm.name s fs := by
  rw [← h]; exact out_map (key := Gm.name) (key' := Fm.name) Gm.f (fun _ => rfl) s gs
theorem ddel_any {w0 w : World} {pl pb mb : Nat} {gs : List Gm} {x : Ws} (h : Wl w0 w pl pb mb gs x) (s : List UInt8) :
    Calls Tryz.prog 64 #[.pointer (some ⟨pb, 0, none⟩), .string (str s)] w fun e w' => e = .returned (.int .i64 (ddelX x s).2) ∧ WlPost w0 w pl pb mb gs (ddelX x s).1 w' := by
  have hc := delete_any h.dr s
  have he : lookE s gs x.ar x.lf = (ddelX x s).2 := by
    unfold lookE ddelX
    rw [find_fs h.fs]
    cases vname s <;> cases findK Gm.name s gs <;> simp [code1]
    split <;> rfl
  refine hc.mono ?_
  rintro e w1 ⟨rfl, hw⟩
  rw [he] at hw ⊢
  refine ⟨rfl, ?_⟩
  by_cases h0 : (ddelX x s).2 = 0
  · rw [if_pos h0] at hw
    have h1 : (ddelX x s).1 = { stepX x with fs := outK Fm.name s x.fs } := by
      unfold ddelX at h0 ⊢
      split at h0
      · cases h0
      · rename_i hc1
        split at h0
        · cases h0
        · rename_i hc2
          split at h0
          · cases h0
          · rename_i hc3
            rw [if_neg hc1, if_neg hc2, if_neg hc3]
    have := h.drive hw.2 hw.1 (out_fs h.fs s) (fun z hz => h.vn z (List.mem_filter.1 hz).1)
    rw [h1]
    exact ⟨_, this⟩
  · rw [if_neg h0] at hw
    have h1 : (ddelX x s).1 = x := by
      unfold ddelX at h0 ⊢
      split
      · rfl
      · split
        · rfl
        · split
          · rfl
          · rename_i hc1 hc2 hc3
            rw [if_neg hc1, if_neg hc2, if_neg hc3] at h0
            exact absurd rfl h0
    have := h.drive hw.2 hw.1 h.fs h.vn
    rw [h1]
    exact ⟨gs, this⟩
theorem ddel_seg (x : Ws) (s : List UInt8) : (ddelX x s).1.seg = x.seg := by
  unfold ddelX
  split
  · rfl
  · split
    · rfl
    · split <;> rfl
def delX (x : Ws) (n : Int) : Ws × Int := (doneX (ddelX x (fname n)).1 (ddelX x (fname n)).2, (ddelX x (fname n)).2)
def dropL (before : Int) : List Int → Ws → Ws × Int
  | [], x => (x, 0)
  | n :: r, x => if before ≤ n ∨ n = x.seg then dropL before r x else if (delX x n).2 = 0 then dropL before r (delX x n).1 else delX x n
def dropX (x : Ws) (before : Int) : Ws × Int := if x.dd then (x, 6) else dropL before (segs (x.fs.map Fm.name)) x
theorem segs_bound {ns : List (List UInt8)} {n : Int} (h : n ∈ segs ns) : 1 ≤ n ∧ n ≤ 999999 := by
  unfold segs at h
  obtain ⟨h1, h2⟩ := List.mem_filter.1 h
  obtain ⟨s, hs, rfl⟩ := List.mem_map.1 h1
  have h3 : 0 < numI s := by simpa using h2
  exact ⟨by omega, (numI_pos h3).1⟩
theorem lsegs_any {w0 w : World} {pl pb mb : Nat} {gs : List Gm} {x : Ws} (h : Wl w0 w pl pb mb gs x) :
    Calls Tryz.prog 24 #[.pointer (some ⟨pl, 0, none⟩)] w fun e w' => ∃ A c, e = .returned (.slice A (segs (x.fs.map Fm.name)).length c) ∧
      w'.ownsRow w.heap.size 3 1 (.slice A (segs (x.fs.map Fm.name)).length c) (segs (x.fs.map Fm.name)).length ((segs (x.fs.map Fm.name)).map (Value.int .i64)) ∧ Below w.heap.size w w' := by
  have := segments_any h.dr h.lg h.wl
  rwa [show gs.map Gm.name = x.fs.map Fm.name from by rw [← h.fs, List.map_map]; rfl] at this
set_option maxHeartbeats 8000000 in
theorem drop_any {w0 w : World} {pl pb mb : Nat} {gs : List Gm} {x : Ws} (h : Wl w0 w pl pb mb gs x) (before : Int) (hbf : -9223372036854775808 ≤ before ∧ before ≤ 9223372036854775807) :
    Calls Tryz.prog 30 #[.pointer (some ⟨pl, 0, none⟩), .int .i64 before] w fun e w' => e = .returned (.int .i64 (dropX x before).2) ∧ WlPost w0 w pl pb mb gs (dropX x before).1 w' := by
  have l2 := h.c2
  have hsg := lsegs_any h
  have hbd : ∀ n ∈ segs (x.fs.map Fm.name), 1 ≤ n ∧ n ≤ 999999 := fun n => segs_bound
  have hln : (segs (x.fs.map Fm.name)).length ≤ 256 := by
    have := segs_len (x.fs.map Fm.name)
    have hf := h.dr.few
    rw [← h.fs] at this ⊢
    simp only [List.length_map] at this ⊢
    omega
  have H := Lib.hid h
  cases hd : x.dd with
  | true =>
    have he : dropX x before = (x, 6) := by simp [dropX, hd]
    rw [he]
    rw [hd] at l2
    clear h he hsg hbd hln hd
    go_enter Tryz.func30, Tryz.ntmps30
    go_wp2_with fail
    go_ret
    exact ⟨rfl, gs, H.out, Stp.refl _ _⟩
  | false =>
    have he : dropX x before = dropL before (segs (x.fs.map Fm.name)) x := by simp [dropX, hd]
    rw [he]
    rw [hd] at l2
    generalize segs (x.fs.map Fm.name) = ns at *
    have HBD := Lib.hid hbd
    clear h he hbd hd
    go_enter Tryz.func30, Tryz.ntmps30
    go_wp2_with (go_at_call 24; refine hsg.mono ?_; rintro e w1 ⟨A, c, rfl, hr, hb⟩)
    have hsl := own_sl hr
    have hA : ∀ gs2 V, Stp w1 V (wfoot pl pb mb gs) (wfoot pl pb mb gs2) → ∀ k, (Value.slice A ns.length c).ownBlock = some k → ¬ wfoot pl pb mb gs k := fun gs2 V hS k e hk => by
      have h1 := (hr.lt k e).1
      rcases hk with h2 | h2
      · have := H.out.lg.lt; omega
      · have := H.out.dr.foot_lt h2; omega
    have HA := Lib.hid hA
    have HSL := Lib.hid hsl
    have H1 := Lib.hid (H.out.below hb)
    have HB := Lib.hid (below_post (pl := pl) (pb := pb) (mb := mb) (gs := gs) hb)
    clear hA hsl hr hsg l2 hb
    go_loopw [15] (fun j wr => ∃ (i : Nat) (y : Ws) (gs2 : List Gm), i ≤ ns.length ∧ j = .int .i64 i ∧ dropL before ns x = dropL before (ns.drop i) y ∧ Wl w0 wr pl pb mb gs2 y ∧ Stp w1 wr (wfoot pl pb mb gs) (wfoot pl pb mb gs2)) (fun j _ => ns.length - (intOf j).toNat)
    case atStart => exact ⟨0, x, gs, Nat.zero_le _, rfl, rfl, H1.out, Stp.refl _ _⟩
    case round =>
      obtain ⟨i, y, gs2, hi, rfl, hpre, hY, hS⟩ := hrel
      have HY := Lib.hid hY
      have HS := Lib.hid hS
      clear hY hS
      by_cases hin : i < ns.length
      · have hcN : (i : Int) < ns.length := by omega
        obtain ⟨b, o, u, rfl, hu, hcell⟩ := (sl_stp (c := c) HSL.out HS.out (HA.out gs2 _ HS.out)).at_ hin
        obtain ⟨n, hn⟩ : ∃ n, ns[i]? = some n := ⟨_, List.getElem?_eq_getElem hin⟩
        have hu' : u = .int .i64 n := by
          rw [List.getElem?_map, hn] at hu
          exact (Option.some.inj hu).symm
        subst hu'
        have hnb := HBD.out n (List.mem_of_getElem? hn)
        have hdr : ns.drop i = n :: ns.drop (i + 1) := by
          rw [List.drop_eq_getElem_cons hin]
          congr 1
          rw [List.getElem?_eq_getElem hin] at hn
          exact Option.some.inj hn
        rw [hdr] at hpre
        simp only [dropL] at hpre
        have HP := Lib.hid hpre
        have k0 := HY.out.c0
        have k1 := HY.out.c1
        have hy1 := HY.out.seg1
        have hy2 := HY.out.seg2
        clear hu hn hdr hpre
        by_cases hb1 : before ≤ n
        · have hp := HP.out
          rw [if_pos (Or.inl hb1)] at hp
          have HQ := Lib.hid hp
          clear hp HP
          go_wp2_with fail
          exact ⟨⟨i + 1, y, gs2, by omega, by go_num, HQ.out, HY.out, HS.out⟩, by simp only [intOf]; omega⟩
        · by_cases hb2 : n = y.seg
          · have hp := HP.out
            rw [if_pos (Or.inr hb2)] at hp
            have HQ := Lib.hid hp
            clear hp HP
            go_wp2_with fail
            exact ⟨⟨i + 1, y, gs2, by omega, by go_num, HQ.out, HY.out, HS.out⟩, by simp only [intOf]; omega⟩
          · have hp := HP.out
            rw [if_neg (by omega)] at hp
            have hkx : ∀ V z gs3, Wl w0 V pl pb mb gs3 z → V.cell? ⟨pl, 0, none⟩ = some (.pointer (some ⟨pb, 0, none⟩)) := fun V z gs3 h => h.c0
            have HKX := Lib.hid hkx
            have HQ := Lib.hid hp
            have hd1 := drew_wl HY.out
            have hk3 := HKX.out _ _ _ (HY.out.below hd1)
            have HD1 := Lib.hid hd1
            clear hkx hd1 hp HP
            go_wp2_with fail
            by_cases hc : (delX y n).2 = 0
            · have hq := HQ.out
              rw [if_pos hc] at hq
              have HQ0 := Lib.hid hq
              clear hq HQ
              go_cut [7] (fun s7 wx => s7 = .int .i64 0 ∧ WlPost w0 wr pl pb mb gs2 (delX y n).1 wx)
              case first =>
                go_region_held (fun V => V.cell? ⟨pl, 0, none⟩ = some (.pointer (some ⟨pb, 0, none⟩))) (first | assumption) (first
                  | (go_at_call 53; refine (fileName_any n (by omega) _ (HY.out.below HD1.out).wl).mono ?_; rintro e w5 ⟨rfl, hb5⟩; have hb05 := HD1.out.trans (hb5.mono HD1.out.size); have hk5 := HKX.out _ _ _ (HY.out.below hb05))
                  | (go_at_call 64; refine (ddel_any (HY.out.below hb05) (fname n)).mono ?_; rintro e w6 ⟨rfl, gs6, hx6, hs6⟩; have hk6 := HKX.out _ _ _ hx6)
                  | (go_at_call 54; refine (wdone_any hx6 _).mono ?_; rintro e w7 ⟨rfl, gs7, hx7, hs7⟩; have hk7 := HKX.out _ _ _ hx7))
                all_goals (go_wp2_with fail; go_meet; exact ⟨by rw [← hc]; rfl, gs7, hx7, ((below_post hb05).trans hs6).trans hs7⟩)
              case rest =>
                obtain ⟨rfl, gs7, hx7, hs7⟩ := hcut
                have HX7 := Lib.hid hx7
                have HS7 := Lib.hid hs7
                clear hx7 hs7 hcell k0 k1
                go_wp2_with fail
                exact ⟨⟨i + 1, (delX y n).1, gs7, by omega, by go_num, HQ0.out, HX7.out, HS.out.trans HS7.out⟩, by simp only [intOf]; omega⟩
            · have hq := HQ.out
              rw [if_neg hc] at hq
              have HQ0 := Lib.hid hq
              clear hq HQ
              go_cut [7] (fun s7 wx => s7 = .int .i64 (delX y n).2 ∧ WlPost w0 wr pl pb mb gs2 (delX y n).1 wx)
              case first =>
                go_region_held (fun V => V.cell? ⟨pl, 0, none⟩ = some (.pointer (some ⟨pb, 0, none⟩))) (first | assumption) (first
                  | (go_at_call 53; refine (fileName_any n (by omega) _ (HY.out.below HD1.out).wl).mono ?_; rintro e w5 ⟨rfl, hb5⟩; have hb05 := HD1.out.trans (hb5.mono HD1.out.size); have hk5 := HKX.out _ _ _ (HY.out.below hb05))
                  | (go_at_call 64; refine (ddel_any (HY.out.below hb05) (fname n)).mono ?_; rintro e w6 ⟨rfl, gs6, hx6, hs6⟩; have hk6 := HKX.out _ _ _ hx6)
                  | (go_at_call 54; refine (wdone_any hx6 _).mono ?_; rintro e w7 ⟨rfl, gs7, hx7, hs7⟩; have hk7 := HKX.out _ _ _ hx7))
                all_goals (go_wp2_with fail; go_meet; exact ⟨rfl, gs7, hx7, ((below_post hb05).trans hs6).trans hs7⟩)
              case rest =>
                obtain ⟨rfl, gs7, hx7, hs7⟩ := hcut
                have HX7 := Lib.hid hx7
                have HS7 := Lib.hid hs7
                clear hx7 hs7 hcell k0 k1
                go_wp2_with fail
                go_ret
                rw [HQ0.out]
                exact ⟨rfl, gs7, HX7.out, (HB.out.trans HS.out).trans HS7.out⟩
      · have hcN : ¬ (i : Int) < ns.length := by omega
        rw [List.drop_of_length_le (by omega)] at hpre
        have HP := Lib.hid hpre
        clear hpre
        go_wp2_with fail
        go_ret
        rw [HP.out]
        exact ⟨rfl, gs2, HY.out, HB.out.trans HS.out⟩
end Go.Proofs.YtnbomifnbhijbaaGreatDoor
