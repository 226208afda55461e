/-
  A log's Append.
-/
import Derived.Test.YtadkgfhfjagmpaaGreatDoorGWa
namespace Go.Proofs.YtadkgfhfjagmpaaGreatDoor
open Go.RowKit Go.Maps Num Crc
set_option linter.unusedVariables false

def tailX (y : Ws) (b : List UInt8) : Ws × Int := if 999999 < y.seg then (y, 5) else (doneX (dappX y b).1 (dappX y b).2, (dappX y b).2)
def appX (x : Ws) (p : List UInt8) : Ws × Int :=
  if 4096 < p.length then (x, 3) else if x.dd then (x, 6) else
    if 0 < (oldL (fname x.seg) x.fs).data.length ∧ 1024 < (oldL (fname x.seg) x.fs).data.length + (seal_ p).length then
      (if (rollX x).2.2 = 0 then tailX (rollX x).1 (seal_ p) else ((rollX x).1, (rollX x).2.2))
    else tailX x (seal_ p)
theorem lsize_any {w0 w : World} {pl pb mb : Nat} {gs : List Gm} {x : Ws} (h : Wl w0 w pl pb mb gs x) :
    Calls Tryz.prog 64 #[.pointer (some ⟨pb, 0, none⟩), .string (str (fname x.seg))] w fun e w' => e = .returned (.int .i64 ((oldL (fname x.seg) x.fs).data.length)) ∧ w' = w := by
  have := size_any h.dr (fname x.seg) (by have := fname_len x.seg; simp only [maxLen]; omega)
  rwa [show sizeG (fname x.seg) gs = (oldL (fname x.seg) x.fs).data.length from by
    rw [oldL_gs h.fs]
    unfold sizeG oldF
    cases findK Gm.name (fname x.seg) gs <;> rfl] at this
theorem old_le {w0 w : World} {pl pb mb : Nat} {gs : List Gm} {x : Ws} (h : Wl w0 w pl pb mb gs x) (s : List UInt8) : (oldL s x.fs).data.length ≤ 262144 := by
  rw [oldL_gs h.fs]
  unfold oldF
  cases hf : findK Gm.name s gs with
  | none => simp [emptyF]
  | some g => exact (h.dr.file g (find_some hf).1).2.2.2.1
theorem WlPost.to {w0 w w1 w2 : World} {pl pb mb : Nat} {gs gs1 : List Gm} {y : Ws} (h : Stp w w1 (wfoot pl pb mb gs) (wfoot pl pb mb gs1)) (k : WlPost w0 w1 pl pb mb gs1 y w2) : WlPost w0 w pl pb mb gs y w2 := by
  obtain ⟨gs2, k1, k2⟩ := k
  exact ⟨gs2, k1, h.trans k2⟩
theorem Wl.c0 {w0 w : World} {pl pb mb : Nat} {gs : List Gm} {x : Ws} (h : Wl w0 w pl pb mb gs x) : w.cell? ⟨pl, 0, none⟩ = some (.pointer (some ⟨pb, 0, none⟩)) := h.lg.cell rfl
theorem Wl.c1 {w0 w : World} {pl pb mb : Nat} {gs : List Gm} {x : Ws} (h : Wl w0 w pl pb mb gs x) : w.cell? ⟨pl, 1, none⟩ = some (.int .i64 x.seg) := h.lg.cell rfl
theorem Wl.c2 {w0 w : World} {pl pb mb : Nat} {gs : List Gm} {x : Ws} (h : Wl w0 w pl pb mb gs x) : w.cell? ⟨pl, 2, none⟩ = some (.bool x.dd) := h.lg.cell rfl
theorem below_post {w w1 : World} {pl pb mb : Nat} {gs : List Gm} (hb : Below w.heap.size w w1) : Stp w w1 (wfoot pl pb mb gs) (wfoot pl pb mb gs) := Stp.wide (Below.stp hb)

theorem roll_all {w0 w : World} {pl pb mb : Nat} {gs : List Gm} {x : Ws} (h : Wl w0 w pl pb mb gs x) (wc : World) (hb : Below w.heap.size w wc) :
    Calls Tryz.prog 68 #[.pointer (some ⟨pl, 0, none⟩)] wc fun e w' => e = .returned (.tuple #[.int .i64 (rollX x).2.1, .int .i64 (rollX x).2.2]) ∧ WlPost w0 wc pl pb mb gs (rollX x).1 w' := roll_any (h.below hb)
theorem drew_wl {w0 w : World} {pl pb mb : Nat} {gs : List Gm} {x : Ws} (h : Wl w0 w pl pb mb gs x) : Below w.heap.size w w.drew := (Below.refl _ _).drew
theorem dapp_seg (y : Ws) (l : List UInt8) : (dappX y l).1.seg = y.seg := by
  unfold dappX
  split
  · rfl
  · split <;> rfl
theorem dapp_all {w0 w wc : World} {pl pb mb : Nat} {gs gs1 : List Gm} {y : Ws} (HB : Stp w wc (wfoot pl pb mb gs) (wfoot pl pb mb gs1)) (HX : Wl w0 wc pl pb mb gs1 y) (hs : y.seg ≤ 999999) (A1 : Option Addr) (n c1 : Nat) (b : List UInt8) (hsl : Sl wc A1 n (bv b)) (hn : n ≤ 140737488355328)
    (hA : ∀ k, (Value.slice A1 n c1).ownBlock = some k → ¬ foot pb mb gs1 k) (w5 : World) (hb05 : Below wc.heap.size wc w5) :
    Calls Tryz.prog 70 #[.pointer (some ⟨pb, 0, none⟩), .string (str (fname y.seg)), .slice A1 n c1] w5 fun e w' => e = .returned (.int .i64 (dappX y b).2) ∧ WlPost w0 w pl pb mb gs (dappX y b).1 w' := by
  refine (dapp_any (HX.below hb05) hs A1 n c1 b (hsl.below hb05) hn hA).mono ?_
  rintro e w6 ⟨rfl, hw6⟩
  exact ⟨rfl, WlPost.to (HB.trans (below_post hb05)) hw6⟩
set_option maxHeartbeats 8000000 in
theorem lappend_any {w0 w : World} {pl pb mb : Nat} {gs : List Gm} {x : Ws} (h : Wl w0 w pl pb mb gs x) (A : Option Addr) (n c : Nat) (p : List UInt8) (hp : Sl w A n (bv p)) :
    Calls Tryz.prog 17 #[.pointer (some ⟨pl, 0, none⟩), .slice A n c] w fun e w' => e = .returned (.int .i64 (appX x p).2) ∧ WlPost w0 w pl pb mb gs (appX x p).1 w' := by
  have hpl := hp.len
  subst hpl
  by_cases hlong : 4096 < p.length
  · have he : appX x p = (x, 3) := by simp [appX, hlong]
    rw [he]
    have hse := seal_long A p.length c w hlong
    have H := Lib.hid h
    clear he h hp
    go_enter Tryz.func17, Tryz.ntmps17
    go_wp2_with fail
    refine hse.mono ?_
    rintro e w1 ⟨rfl, rfl⟩
    go_wp2_with fail
    go_ret
    exact ⟨rfl, gs, H.out, Stp.refl _ _⟩
  · have hse := seal_any A p.length c p w h.wl.sums hp (by omega)
    have hsl : (seal_ p).length ≤ 4200 := by
      have := vint_len10 (n := p.length) (by omega)
      rw [seal_len]; omega
    cases hd : x.dd with
    | true =>
      have he : appX x p = (x, 6) := by simp [appX, hlong, hd]
      rw [he]
      have H := Lib.hid h
      clear he h hp hlong
      generalize seal_ p = b at *
      go_enter Tryz.func17, Tryz.ntmps17
      go_wp2_with fail
      refine hse.mono ?_
      rintro e w1 ⟨A1, c1, rfl, hr, hb⟩
      have m2 : w1.cell? ⟨pl, 2, none⟩ = some (.bool true) := by rw [← hd]; exact (H.out.below hb).lg.cell rfl
      go_wp2_with fail
      go_ret
      exact ⟨rfl, gs, H.out.below hb, below_post hb⟩
    | false =>
      have hold := old_le h (fname x.seg)
      have hs1 := h.seg1
      have hs2 := h.seg2
      have hroll := roll_all h
      have H := Lib.hid h
      have hz := fun w1 (hb : Below w.heap.size w w1) => lsize_any (h.below hb)
      have he : appX x p = if 0 < (oldL (fname x.seg) x.fs).data.length ∧ 1024 < (oldL (fname x.seg) x.fs).data.length + (seal_ p).length then
          (if (rollX x).2.2 = 0 then tailX (rollX x).1 (seal_ p) else ((rollX x).1, (rollX x).2.2))
        else tailX x (seal_ p) := by simp only [appX]; rw [if_neg hlong, hd, if_neg (by decide)]
      rw [he]
      clear he hp hlong
      generalize seal_ p = b at *
      generalize (oldL (fname x.seg) x.fs).data.length = sz at *
      have HZ := Lib.hid hz
      have HRO := Lib.hid hroll
      clear h hz hroll
      have hpost : ∀ (z : Ws × Int), z = (if 0 < sz ∧ 1024 < sz + b.length then (if (rollX x).2.2 = 0 then tailX (rollX x).1 b else ((rollX x).1, (rollX x).2.2)) else tailX x b) → Calls Tryz.prog 17 #[.pointer (some ⟨pl, 0, none⟩), .slice A p.length c] w fun e w' => e = .returned (.int .i64 z.2) ∧ WlPost w0 w pl pb mb gs z.1 w' := by
        intro z hz
        have HQ := Lib.hid hz
        clear hz
        go_enter Tryz.func17, Tryz.ntmps17
        go_wp2_with fail
        refine hse.mono ?_
        rintro e w1 ⟨A1, c1, rfl, hr, hb⟩
        have H1 := Lib.hid (H.out.below hb)
        have m2 : w1.cell? ⟨pl, 2, none⟩ = some (.bool false) := by rw [← hd]; exact H1.out.lg.cell rfl
        have hk1 : w1.drew.cell? ⟨pl, 0, none⟩ = some (.pointer (some ⟨pb, 0, none⟩)) ∧ w1.drew.cell? ⟨pl, 1, none⟩ = some (.int .i64 x.seg) := ⟨H1.out.lg.cell rfl, H1.out.lg.cell rfl⟩
        have hb1 : Below w.heap.size w w1.drew := hb.drew
        have hz1 : Below w1.heap.size w1 w1.drew := (Below.refl _ _).drew
        go_wp2_with fail
        go_cut [7] (fun s7 wx => s7 = .int .i64 sz ∧ Below w1.heap.size w1 wx)
        case first =>
          go_region_held (fun V => V.cell? ⟨pl, 0, none⟩ = some (.pointer (some ⟨pb, 0, none⟩)) ∧ V.cell? ⟨pl, 1, none⟩ = some (.int .i64 x.seg)) (first | assumption) (first
            | (go_at_call 67; refine (fileName_any x.seg (by omega) _ (H.out.below hb1).wl).mono ?_; rintro e w2 ⟨rfl, hb2⟩; have hb02 := hb1.trans (hb2.mono hb1.size); have hz02 : Below w1.heap.size w1 w2 := hz1.trans (hb2.mono hz1.size); have hk2 : w2.cell? ⟨pl, 0, none⟩ = some (.pointer (some ⟨pb, 0, none⟩)) ∧ w2.cell? ⟨pl, 1, none⟩ = some (.int .i64 x.seg) := ⟨(H.out.below hb02).lg.cell rfl, (H.out.below hb02).lg.cell rfl⟩)
            | (go_at_call 64; refine (HZ.out _ hb02).mono ?_; rintro e w3 ⟨rfl, rfl⟩))
          all_goals (go_wp2_with fail; go_meet; exact ⟨rfl, by assumption⟩)
        case rest =>
          obtain ⟨rfl, hbx⟩ := hcut
          have HX := Lib.hid (H1.out.below hbx)
          have hslx := (own_sl hr).below hbx
          have hlt := hr.lt
          have hwz := hb.size
          have hA0 : ∀ gs2 V, Stp w1 V (wfoot pl pb mb gs) (wfoot pl pb mb gs2) → ∀ k, (Value.slice A1 b.length c1).ownBlock = some k → ¬ wfoot pl pb mb gs2 k := fun gs2 V hS k e hk => by
            have h1 := hlt k e
            rcases hS.sub k hk with h2 | h2
            · rcases h2 with h2 | h2
              · have := H.out.lg.lt; omega
              · have := H.out.dr.foot_lt h2; omega
            · omega
          have HA0 := Lib.hid hA0
          have HSL := Lib.hid hslx
          have kx0 := HX.out.c0
          have kx1 := HX.out.c1
          have hbw := hb.trans (hbx.mono hb.size)
          have HBB := Lib.hid hbw
          have HBX := Lib.hid hbx
          clear hslx hr hse m2 hb hbx hb1 hz1 hbw hk1 hA0 hlt hwz
          by_cases hroll : 0 < sz ∧ 1024 < sz + b.length
          · have hq := HQ.out
            rw [if_pos hroll] at hq
            have q1 : (sz : Int) > 0 := by omega
            have q2 : 0 < sz := by omega
            have q3 : (sz : Int) + b.length > 1024 := by omega
            have hro := HRO.out _ HBB.out
            generalize (rollX x).2.1 = nn at hro
            generalize (rollX x).2.2 = cd at hq hro
            generalize (rollX x).1 = y at hq hro
            by_cases hcd : cd = 0
            · rw [if_pos hcd] at hq
              subst hcd
              go_wp2_with fail
              refine hro.mono ?_
              rintro e w3 ⟨rfl, gs3, hw3, hS3⟩
              have HY := Lib.hid hw3
              have HS3 := Lib.hid hS3
              have hy1 := hw3.seg1
              have hy2 := hw3.seg2
              have ky0 := hw3.c0
              have ky1 := hw3.c1
              clear hw3 hS3
              by_cases hfull : 999999 < y.seg
              · unfold tailX at hq
                rw [if_pos hfull] at hq
                subst hq
                go_wp2_with fail
                go_ret
                exact ⟨rfl, gs3, HY.out, (below_post HBB.out).trans HS3.out⟩
              · unfold tailX at hq
                rw [if_neg hfull] at hq
                subst hq
                have HSL3 := Lib.hid (sl_stp (c := c1) HSL.out HS3.out (fun k e => HA0.out gs _ (below_post HBX.out) k e))
                have HA := Lib.hid (fun k e hf => HA0.out gs3 _ ((below_post HBX.out).trans HS3.out) k e (Or.inr hf))
                have HBW := Lib.hid ((below_post HBB.out).trans HS3.out)
                clear HX HSL
                have HX := HY
                have HSL := HSL3
                go_wp2_with fail
                have hkx : ∀ V z, Wl w0 V pl pb mb gs3 z → z.seg = y.seg → V.cell? ⟨pl, 0, none⟩ = some (.pointer (some ⟨pb, 0, none⟩)) ∧ V.cell? ⟨pl, 1, none⟩ = some (.int .i64 y.seg) := fun V z h e => ⟨h.c0, e ▸ h.c1⟩
                have hky : ∀ V z, WlPost w0 w pl pb mb gs z V → z.seg = y.seg → V.cell? ⟨pl, 0, none⟩ = some (.pointer (some ⟨pb, 0, none⟩)) ∧ V.cell? ⟨pl, 1, none⟩ = some (.int .i64 y.seg) := fun V z ⟨_, h, _⟩ e => ⟨h.c0, e ▸ h.c1⟩
                have HKX := Lib.hid hkx
                have HKY := Lib.hid hky
                have hd1 := drew_wl HX.out
                have hk3 := HKX.out _ y (HX.out.below hd1) rfl
                have HD1 := Lib.hid hd1
                have hap := dapp_all HBW.out HX.out (by omega) A1 b.length c1 b HSL.out (by omega) HA.out
                have HAP := Lib.hid hap
                clear hap hd1 hkx hky
                go_region_held (fun V => V.cell? ⟨pl, 0, none⟩ = some (.pointer (some ⟨pb, 0, none⟩)) ∧ V.cell? ⟨pl, 1, none⟩ = some (.int .i64 y.seg)) (first | assumption) (first
                  | (go_at_call 67; refine (fileName_any y.seg (by omega) _ (HX.out.below HD1.out).wl).mono ?_; rintro e w5 ⟨rfl, hb5⟩; have hb05 := HD1.out.trans (hb5.mono HD1.out.size); have hk5 := HKX.out _ y (HX.out.below hb05) rfl)
                  | (go_at_call 70; refine (HAP.out _ hb05).mono ?_; rintro e w6 ⟨rfl, hp6⟩; have hk6 := HKY.out _ _ hp6 (dapp_seg y b))
                  | (go_at_call 69; obtain ⟨gs6, hx6, hs6⟩ := hp6; refine (wdone_any hx6 _).mono ?_; rintro e w7 ⟨rfl, hw7⟩; have hp7 := WlPost.to hs6 hw7; have hk7 := HKY.out _ _ hp7 (dapp_seg y b)))
                all_goals (go_wp2_with fail)
                all_goals go_ret
                all_goals exact ⟨rfl, by assumption⟩
            · rw [if_neg hcd] at hq
              subst hq
              go_wp2_with fail
              refine hro.mono ?_
              rintro e w3 ⟨rfl, gs3, hw3, hS3⟩
              have HY := Lib.hid hw3
              have HS3 := Lib.hid hS3
              clear hw3 hS3
              go_wp2_with fail
              go_ret
              exact ⟨rfl, gs3, HY.out, (below_post HBB.out).trans HS3.out⟩
          · have hq := HQ.out
            rw [if_neg hroll] at hq
            have hcond : ((sz : Int) > 0 ∧ 0 < sz ∧ (sz : Int) + b.length ≤ 1024) ∨ (¬ (sz : Int) > 0 ∧ ¬ 0 < sz) := by omega
            by_cases hfull : 999999 < x.seg
            · unfold tailX at hq
              rw [if_pos hfull] at hq
              subst hq
              rcases hcond with ⟨q1, q2, q3⟩ | ⟨q1, q2⟩ <;> (go_wp2_with fail; go_ret; exact ⟨rfl, gs, HX.out, below_post HBB.out⟩)
            · unfold tailX at hq
              rw [if_neg hfull] at hq
              subst hq
              have HA := Lib.hid (fun k e hf => HA0.out gs _ (below_post HBX.out) k e (Or.inr hf))
              have HBW := Lib.hid (below_post (pl := pl) (pb := pb) (mb := mb) (gs := gs) HBB.out)
              rcases hcond with ⟨q1, q2, q3⟩ | ⟨q1, q2⟩
              · go_wp2_with fail
                have hkx : ∀ V z, Wl w0 V pl pb mb gs z → z.seg = x.seg → V.cell? ⟨pl, 0, none⟩ = some (.pointer (some ⟨pb, 0, none⟩)) ∧ V.cell? ⟨pl, 1, none⟩ = some (.int .i64 x.seg) := fun V z h e => ⟨h.c0, e ▸ h.c1⟩
                have hky : ∀ V z, WlPost w0 w pl pb mb gs z V → z.seg = x.seg → V.cell? ⟨pl, 0, none⟩ = some (.pointer (some ⟨pb, 0, none⟩)) ∧ V.cell? ⟨pl, 1, none⟩ = some (.int .i64 x.seg) := fun V z ⟨_, h, _⟩ e => ⟨h.c0, e ▸ h.c1⟩
                have HKX := Lib.hid hkx
                have HKY := Lib.hid hky
                have hd1 := drew_wl HX.out
                have hk3 := HKX.out _ x (HX.out.below hd1) rfl
                have HD1 := Lib.hid hd1
                have hap := dapp_all HBW.out HX.out (by omega) A1 b.length c1 b HSL.out (by omega) HA.out
                have HAP := Lib.hid hap
                clear hap hd1 hkx hky
                go_region_held (fun V => V.cell? ⟨pl, 0, none⟩ = some (.pointer (some ⟨pb, 0, none⟩)) ∧ V.cell? ⟨pl, 1, none⟩ = some (.int .i64 x.seg)) (first | assumption) (first
                  | (go_at_call 67; refine (fileName_any x.seg (by omega) _ (HX.out.below HD1.out).wl).mono ?_; rintro e w5 ⟨rfl, hb5⟩; have hb05 := HD1.out.trans (hb5.mono HD1.out.size); have hk5 := HKX.out _ x (HX.out.below hb05) rfl)
                  | (go_at_call 70; refine (HAP.out _ hb05).mono ?_; rintro e w6 ⟨rfl, hp6⟩; have hk6 := HKY.out _ _ hp6 (dapp_seg x b))
                  | (go_at_call 69; obtain ⟨gs6, hx6, hs6⟩ := hp6; refine (wdone_any hx6 _).mono ?_; rintro e w7 ⟨rfl, hw7⟩; have hp7 := WlPost.to hs6 hw7; have hk7 := HKY.out _ _ hp7 (dapp_seg x b)))
                all_goals (go_wp2_with fail)
                all_goals go_ret
                all_goals exact ⟨rfl, by assumption⟩
              · go_wp2_with fail
                have hkx : ∀ V z, Wl w0 V pl pb mb gs z → z.seg = x.seg → V.cell? ⟨pl, 0, none⟩ = some (.pointer (some ⟨pb, 0, none⟩)) ∧ V.cell? ⟨pl, 1, none⟩ = some (.int .i64 x.seg) := fun V z h e => ⟨h.c0, e ▸ h.c1⟩
                have hky : ∀ V z, WlPost w0 w pl pb mb gs z V → z.seg = x.seg → V.cell? ⟨pl, 0, none⟩ = some (.pointer (some ⟨pb, 0, none⟩)) ∧ V.cell? ⟨pl, 1, none⟩ = some (.int .i64 x.seg) := fun V z ⟨_, h, _⟩ e => ⟨h.c0, e ▸ h.c1⟩
                have HKX := Lib.hid hkx
                have HKY := Lib.hid hky
                have hd1 := drew_wl HX.out
                have hk3 := HKX.out _ x (HX.out.below hd1) rfl
                have HD1 := Lib.hid hd1
                have hap := dapp_all HBW.out HX.out (by omega) A1 b.length c1 b HSL.out (by omega) HA.out
                have HAP := Lib.hid hap
                clear hap hd1 hkx hky
                go_region_held (fun V => V.cell? ⟨pl, 0, none⟩ = some (.pointer (some ⟨pb, 0, none⟩)) ∧ V.cell? ⟨pl, 1, none⟩ = some (.int .i64 x.seg)) (first | assumption) (first
                  | (go_at_call 67; refine (fileName_any x.seg (by omega) _ (HX.out.below HD1.out).wl).mono ?_; rintro e w5 ⟨rfl, hb5⟩; have hb05 := HD1.out.trans (hb5.mono HD1.out.size); have hk5 := HKX.out _ x (HX.out.below hb05) rfl)
                  | (go_at_call 70; refine (HAP.out _ hb05).mono ?_; rintro e w6 ⟨rfl, hp6⟩; have hk6 := HKY.out _ _ hp6 (dapp_seg x b))
                  | (go_at_call 69; obtain ⟨gs6, hx6, hs6⟩ := hp6; refine (wdone_any hx6 _).mono ?_; rintro e w7 ⟨rfl, hw7⟩; have hp7 := WlPost.to hs6 hw7; have hk7 := HKY.out _ _ hp7 (dapp_seg x b)))
                all_goals (go_wp2_with fail)
                all_goals go_ret
                all_goals exact ⟨rfl, by assumption⟩
      exact hpost _ rfl
end Go.Proofs.YtadkgfhfjagmpaaGreatDoor
