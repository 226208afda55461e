/-
  The law WalPlays as a walk.
-/
import Derived.Test.YtndlmdghnkaobaaGreatDoorPwK
import Derived.Test.YtndlmdghnkaobaaGreatDoorGWs
namespace Go.Proofs.YtndlmdghnkaobaaGreatDoor
open Go.RowKit Go.Maps Num Crc
set_option linter.unusedVariables false

theorem Pw.ofb {w0 w w' : World} {pl pb mb b : Nat} {gs : List Gm} {x : Ws} {A : Option Addr} {c : Nat} (h : Pw w0 w pl pb mb gs x A c) (hf : Ofb w w' b) {cs : Array Value} {t : TypeId} (hb : Blk w b cs t) (hp : plainT t) (ht : (87 : TypeId) ≠ t) (hB : w0.heap.size ≤ b) : Pw w0 w' pl pb mb gs x A c :=
  ⟨h.wl.stay (fun k hk => hf.blk k (fun e => h.wl.apart hb hp (e ▸ hk))) (hf.below h.wl.bel hB), own3_keep h.own fun k hk => hf.blk k (row_ne h.own hb ht k hk)⟩
theorem plain_dr : plainT 27 := by unfold plainT; decide
theorem plain_lg : plainT 35 := by unfold plainT; decide

/-- Where the loop over the script stands. -/
structure Lw (w wr : World) (M X : Nat) (pl pb mb : Nat) (gs : List Gm) (x : Ws) (A : Option Addr) (c : Nat) : Prop where
  pw : Pw w wr pl pb mb gs x A c
  m : Blk wr M (dcs A x.fs.length c x.st x.ar x.lf) 27
  l : Blk wr X (lcs x.seg x.dd) 35
  hM : w.heap.size ≤ M
  hX : w.heap.size ≤ X
  ne : X ≠ M
theorem Lw.below {w wr V : World} {M X pl pb mb : Nat} {gs : List Gm} {x : Ws} {A : Option Addr} {c : Nat} (h : Lw w wr M X pl pb mb gs x A c) (hb : Below wr.heap.size wr V) : Lw w V M X pl pb mb gs x A c :=
  ⟨h.pw.below hb, h.m.keep (hb.block _ h.m.lt), h.l.keep (hb.block _ h.l.lt), h.hM, h.hX, h.ne⟩
/-- A call of the script: what it leaves of the boxes, and what stands when its answer has been stored. -/
theorem Lw.next {w wr V : World} {M X pl pb mb pl2 pb2 mb2 : Nat} {gs gs2 : List Gm} {x y : Ws} {A A2 : Option Addr} {c c2 : Nat} (h : Lw w wr M X pl pb mb gs x A c) (hp : Pw w V pl2 pb2 mb2 gs2 y A2 c2) (hS : Stp wr V (wfoot pl pb mb gs) (wfoot pl2 pb2 mb2 gs2)) :
    (Blk V M (dcs A x.fs.length c x.st x.ar x.lf) 27 ∧ Blk V X (lcs x.seg x.dd) 35) ∧
    Lw w ((((((V.setCell ⟨M, 0, none⟩ (.slice A2 y.fs.length c2)).setCell ⟨M, 1, none⟩ (.int .i64 y.st)).setCell ⟨M, 2, none⟩ (.bool y.ar)).setCell ⟨M, 3, none⟩ (.int .i64 y.lf)).setCell ⟨X, 0, none⟩ (.int .i64 y.seg)).setCell ⟨X, 1, none⟩ (.bool y.dd)) M X pl2 pb2 mb2 gs2 y A2 c2 := by
  have m1 : Blk V M (dcs A x.fs.length c x.st x.ar x.lf) 27 := h.m.keep (hS.oth.block M h.m.lt (h.pw.wl.apart h.m plain_dr))
  have l1 : Blk V X (lcs x.seg x.dd) 35 := h.l.keep (hS.oth.block X h.l.lt (h.pw.wl.apart h.l plain_lg))
  refine ⟨⟨m1, l1⟩, ?_⟩
  have hne := h.ne
  have f1 := ((((Ofb.refl V M).set 0 (.slice A2 y.fs.length c2)).set 1 (.int .i64 y.st)).set 2 (.bool y.ar)).set 3 (.int .i64 y.lf)
  have p1 := hp.ofb f1 m1 plain_dr (by decide) h.hM
  have m2 := (((m1.set 0 (.slice A2 y.fs.length c2)).set 1 (.int .i64 y.st)).set 2 (.bool y.ar)).set 3 (.int .i64 y.lf)
  have l2 := l1.keep (f1.blk X hne)
  generalize (((V.setCell ⟨M, 0, none⟩ (.slice A2 y.fs.length c2)).setCell ⟨M, 1, none⟩ (.int .i64 y.st)).setCell ⟨M, 2, none⟩ (.bool y.ar)).setCell ⟨M, 3, none⟩ (.int .i64 y.lf) = V1 at *
  have f2 := ((Ofb.refl V1 X).set 0 (.int .i64 y.seg)).set 1 (.bool y.dd)
  exact ⟨p1.ofb f2 l2 plain_lg (by decide) h.hX, m2.keep (f2.blk M (fun e => hne e.symm)), (l2.set 0 (.int .i64 y.seg)).set 1 (.bool y.dd), h.hM, h.hX, hne⟩

set_option maxRecDepth 40000 in
set_option maxHeartbeats 40000000 in
theorem wplays_law {w : World} (hW : WL w) {A0 : Option Addr} {n0 c0 : Nat} {os : List Ow} (hR : Owl w A0 n0 os) :
    Calls Tryz.prog 3 #[.slice A0 n0 c0] w fun e w' => e = .returned (.bool true) ∧ Below w.heap.size w w' := by
  have HW := Lib.hid hW
  have HR := Lib.hid hR
  clear hW hR
  go_enter Tryz.func3, Tryz.ntmps3
  go_wp2_with fail
  refine (new_any _).mono ?_
  rintro e w1 ⟨rfl, hD1, hb1⟩
  have haw := fun (V : World) (hV : Below w1.heap.size w1 V) => awake3_any V (HW.out.keep (hb1.trans (hV.mono hb1.size)))
  have hM1 := Blk.new w1 zcs 27
  have hb1a : Below w1.heap.size w1 (w1.alloc (dobj zcs)) := (Below.refl _ _).alloc (Nat.le_refl _) _
  have HAW := Lib.hid (haw _ hb1a)
  have H1 := Lib.hid (And.intro (hD1.below hb1a (Nat.le_refl _)) (And.intro hM1 (And.intro (hb1.trans (hb1a.mono hb1.size)) hb1.size)))
  clear hD1 hb1 haw hM1 hb1a
  go_wp2_with fail
  refine HAW.out.mono ?_
  rintro e w2 ⟨rfl, hb2⟩
  have hop := open_any (w := w2) (⟨H1.out.1.below hb2 (Nat.le_refl _), HW.out.keep (H1.out.2.2.1.trans (hb2.mono H1.out.2.2.1.size)), by simp⟩ : Rd w2 (w.heap.size + 1) w.heap.size [] 0 false 0) 1 (by omega) (by omega)
  have H2 := Lib.hid (And.intro (H1.out.1.below hb2 (Nat.le_refl _)) (And.intro (H1.out.2.1.keep (hb2.block _ H1.out.2.1.lt)) (And.intro (H1.out.2.2.1.trans (hb2.mono H1.out.2.2.1.size)) H1.out.2.2.2)))
  clear HAW hb2
  go_wp2_with fail
  refine hop.mono ?_
  rintro e w3 ⟨pl, A3, c3, vs3, rfl, hlg, hpl, -, -, hb3⟩
  have hb3a : Below w3.heap.size w3 (w3.alloc (lobj (lcs 1 false))) := (Below.refl _ _).alloc (Nat.le_refl _) _
  have hb23 : Below w2.heap.size w2 (w3.alloc (lobj (lcs 1 false))) := hb3.trans (hb3a.mono hb3.size)
  have hs1 := H2.out.2.2.2
  have hs2 := H2.out.2.2.1.size
  have hs3 := hb3.size
  have hm1lt := H2.out.2.1.lt
  have hstart : Lw w (w3.alloc (lobj (lcs 1 false))) w1.heap.size w3.heap.size pl (w.heap.size + 1) w.heap.size [] ⟨[], 0, false, 0, 1, false⟩ none 0 := by
    refine ⟨⟨⟨HW.out, H2.out.2.2.1.trans (hb23.mono hs2), H2.out.1.below hb23 (Nat.le_refl _), hlg.keep (hb3a.block _ hlg.lt), rfl, by simp, by simp, by simp, fun k hk => ?_⟩, own3_nil _ _⟩, H2.out.2.1.keep (hb23.block _ hm1lt), Blk.new w3 (lcs 1 false) 35, hs1, by omega, by omega⟩
    rcases hk with rfl | hk | hk | ⟨g, hg, _⟩
    · omega
    · omega
    · omega
    · cases hg
  have HS := Lib.hid hstart
  clear hop hlg hb3 hb3a hb23 hstart H1 H2 hpl
  go_wp2_with fail
  have hX1 : w.heap.size ≤ w1.heap.size := hs1
  generalize hMM : w1.heap.size = M at HS ⊢
  generalize hXX : w3.heap.size = X at HS ⊢
  generalize w3.alloc (lobj (lcs 1 false)) = U at HS ⊢
  clear hMM hXX hX1 hs1 hs2 hs3 hm1lt
  go_loopw [3, 5, 9, 10] (fun s3 s5 s9 s10 wr => ∃ (i pl pb mb : Nat) (gs : List Gm) (x : Ws) (A : Option Addr) (c : Nat), i ≤ n0 ∧ s10 = .int .i64 i ∧ s9 = .bool true ∧ s3 = .pointer (some ⟨pb, 0, none⟩) ∧ s5 = .pointer (some ⟨pl, 0, none⟩) ∧ Lw w wr M X pl pb mb gs x A c) (fun _ _ _ j _ => n0 - (intOf j).toNat)
  case atStart => exact ⟨0, _, _, _, _, _, none, 0, Nat.zero_le _, rfl, rfl, rfl, rfl, HS.out⟩
  case round =>
    obtain ⟨i, pl, pb, mb, gs, x, A, c, hi, rfl, rfl, rfl, rfl, hL⟩ := hrel
    have HL := Lib.hid hL
    clear hL HS
    by_cases hgo : i < n0 ∧ i < 50
    · obtain ⟨hin, hi5⟩ := hgo
      have hcN : (i : Int) < n0 := by omega
      have hcM : (i : Int) < 50 := by omega
      obtain ⟨bA, off, o, rfl, ho, hok, k0, k1, k2, k3⟩ := (HR.out.keep HL.out.pw.wl.bel).at_ hin
      have hok0 := HR.out.2.1 o (List.mem_of_getElem? ho)
      have hbN := hok0.bN
      have HOK := Lib.hid hok0
      clear hok ho hok0
      obtain ⟨wB, rfl⟩ : ∃ wB : World, wB = wr := ⟨_, rfl⟩
      have hpw := fun (N : Int) (h1 : -9223372036854775808 ≤ N ∧ N ≤ 9223372036854775807) (h5 : o.k = 5 → 1 ≤ N ∧ N ≤ 999999) (V : World) (hV : Below wB.heap.size wB V) => pw_any (HL.out.below hV).pw o HOK.out N h1 h5
      obtain ⟨ok, oP, op, ocp, oN, oK, oks, okc⟩ := o
      simp only at k0 k1 k2 k3 hpw hbN
      have HPW := Lib.hid hpw
      clear hpw
      have hcase : ok ≠ 5 ∨ (ok = 5 ∧ oN < 1) ∨ (ok = 5 ∧ ¬ oN < 1 ∧ 999999 < oN) ∨ (ok = 5 ∧ ¬ oN < 1 ∧ ¬ 999999 < oN) := by omega
      rcases hcase with hk | ⟨rfl, hk1⟩ | ⟨rfl, hk1, hk2⟩ | ⟨rfl, hk1, hk2⟩
      · obtain ⟨W1, hW1⟩ : ∃ W1, W1 = wB.alloc (oobj3 (op3 ok oP op.length ocp oN oK oks.length okc)) := ⟨_, rfl⟩
        have hbW : Below wB.heap.size wB W1 := by rw [hW1]; exact (Below.refl _ _).alloc (Nat.le_refl _) _
        have hL1 := HL.out.below hbW
        have d0 := hL1.m.cell (k := 0) rfl
        have d1 := hL1.m.cell (k := 1) rfl
        have d2 := hL1.m.cell (k := 2) rfl
        have d3 := hL1.m.cell (k := 3) rfl
        have l0 := hL1.l.cell (k := 0) rfl
        have l1 := hL1.l.cell (k := 1) rfl
        rw [hW1] at d0 d1 d2 d3 l0 l1
        have hct := HPW.out oN (by omega) (by intro e; exact absurd e hk) W1 hbW
        rw [hW1] at hct hbW
        have HCT := Lib.hid hct
        clear hct hL1 hW1 HPW
        go_wp2_with fail
        refine HCT.out.mono ?_
        rintro e w5 ⟨pl2, pb2, mb2, gs2, y, A2, c2, rfl, hP2, hS2⟩
        obtain ⟨⟨hm5, hl5⟩, hL6⟩ := HL.out.next hP2 ((Below.stp hbW).trans hS2)
        have HL6 := Lib.hid hL6
        clear d0 d1 d2 d3 l0 l1
        have d0 := hm5.cell (k := 0) rfl
        have d1 := hm5.cell (k := 1) rfl
        have d2 := hm5.cell (k := 2) rfl
        have d3 := hm5.cell (k := 3) rfl
        have l0 := hl5.cell (k := 0) rfl
        have l1 := hl5.cell (k := 1) rfl
        have f0 := hm5.frozen 0
        have f1 := hm5.frozen 1
        have f2 := hm5.frozen 2
        have f3 := hm5.frozen 3
        have g0 := hl5.frozen 0
        have g1 := hl5.frozen 1
        have hne1 := HL.out.ne
        clear hm5 hl5 hL6 hP2 hS2 HCT hbW HL
        go_wp2_with fail
        exact ⟨⟨i + 1, pl2, pb2, mb2, gs2, y, A2, c2, by omega, by go_num, rfl, rfl, rfl, HL6.out⟩, by simp only [intOf]; omega⟩
      · obtain ⟨W1, hW1⟩ : ∃ W1, W1 = wB.alloc (oobj3 (op3 5 oP op.length ocp 1 oK oks.length okc)) := ⟨_, rfl⟩
        have hbW : Below wB.heap.size wB W1 := by rw [hW1]; exact (Below.refl _ _).alloc (Nat.le_refl _) _
        have hL1 := HL.out.below hbW
        have d0 := hL1.m.cell (k := 0) rfl
        have d1 := hL1.m.cell (k := 1) rfl
        have d2 := hL1.m.cell (k := 2) rfl
        have d3 := hL1.m.cell (k := 3) rfl
        have l0 := hL1.l.cell (k := 0) rfl
        have l1 := hL1.l.cell (k := 1) rfl
        rw [hW1] at d0 d1 d2 d3 l0 l1
        have hct := HPW.out 1 (by omega) (by intro e; omega) W1 hbW
        rw [hW1] at hct hbW
        have HCT := Lib.hid hct
        clear hct hL1 hW1 HPW
        go_wp2_with fail
        refine HCT.out.mono ?_
        rintro e w5 ⟨pl2, pb2, mb2, gs2, y, A2, c2, rfl, hP2, hS2⟩
        obtain ⟨⟨hm5, hl5⟩, hL6⟩ := HL.out.next hP2 ((Below.stp hbW).trans hS2)
        have HL6 := Lib.hid hL6
        clear d0 d1 d2 d3 l0 l1
        have d0 := hm5.cell (k := 0) rfl
        have d1 := hm5.cell (k := 1) rfl
        have d2 := hm5.cell (k := 2) rfl
        have d3 := hm5.cell (k := 3) rfl
        have l0 := hl5.cell (k := 0) rfl
        have l1 := hl5.cell (k := 1) rfl
        have f0 := hm5.frozen 0
        have f1 := hm5.frozen 1
        have f2 := hm5.frozen 2
        have f3 := hm5.frozen 3
        have g0 := hl5.frozen 0
        have g1 := hl5.frozen 1
        have hne1 := HL.out.ne
        clear hm5 hl5 hL6 hP2 hS2 HCT hbW HL
        go_wp2_with fail
        exact ⟨⟨i + 1, pl2, pb2, mb2, gs2, y, A2, c2, by omega, by go_num, rfl, rfl, rfl, HL6.out⟩, by simp only [intOf]; omega⟩
      · obtain ⟨W1, hW1⟩ : ∃ W1, W1 = wB.alloc (oobj3 (op3 5 oP op.length ocp 1 oK oks.length okc)) := ⟨_, rfl⟩
        have hbW : Below wB.heap.size wB W1 := by rw [hW1]; exact (Below.refl _ _).alloc (Nat.le_refl _) _
        have hL1 := HL.out.below hbW
        have d0 := hL1.m.cell (k := 0) rfl
        have d1 := hL1.m.cell (k := 1) rfl
        have d2 := hL1.m.cell (k := 2) rfl
        have d3 := hL1.m.cell (k := 3) rfl
        have l0 := hL1.l.cell (k := 0) rfl
        have l1 := hL1.l.cell (k := 1) rfl
        rw [hW1] at d0 d1 d2 d3 l0 l1
        have hct := HPW.out 1 (by omega) (by intro e; omega) W1 hbW
        rw [hW1] at hct hbW
        have HCT := Lib.hid hct
        clear hct hL1 hW1 HPW
        go_wp2_with fail
        refine HCT.out.mono ?_
        rintro e w5 ⟨pl2, pb2, mb2, gs2, y, A2, c2, rfl, hP2, hS2⟩
        obtain ⟨⟨hm5, hl5⟩, hL6⟩ := HL.out.next hP2 ((Below.stp hbW).trans hS2)
        have HL6 := Lib.hid hL6
        clear d0 d1 d2 d3 l0 l1
        have d0 := hm5.cell (k := 0) rfl
        have d1 := hm5.cell (k := 1) rfl
        have d2 := hm5.cell (k := 2) rfl
        have d3 := hm5.cell (k := 3) rfl
        have l0 := hl5.cell (k := 0) rfl
        have l1 := hl5.cell (k := 1) rfl
        have f0 := hm5.frozen 0
        have f1 := hm5.frozen 1
        have f2 := hm5.frozen 2
        have f3 := hm5.frozen 3
        have g0 := hl5.frozen 0
        have g1 := hl5.frozen 1
        have hne1 := HL.out.ne
        clear hm5 hl5 hL6 hP2 hS2 HCT hbW HL
        go_wp2_with fail
        exact ⟨⟨i + 1, pl2, pb2, mb2, gs2, y, A2, c2, by omega, by go_num, rfl, rfl, rfl, HL6.out⟩, by simp only [intOf]; omega⟩
      · obtain ⟨W1, hW1⟩ : ∃ W1, W1 = wB.alloc (oobj3 (op3 5 oP op.length ocp oN oK oks.length okc)) := ⟨_, rfl⟩
        have hbW : Below wB.heap.size wB W1 := by rw [hW1]; exact (Below.refl _ _).alloc (Nat.le_refl _) _
        have hL1 := HL.out.below hbW
        have d0 := hL1.m.cell (k := 0) rfl
        have d1 := hL1.m.cell (k := 1) rfl
        have d2 := hL1.m.cell (k := 2) rfl
        have d3 := hL1.m.cell (k := 3) rfl
        have l0 := hL1.l.cell (k := 0) rfl
        have l1 := hL1.l.cell (k := 1) rfl
        rw [hW1] at d0 d1 d2 d3 l0 l1
        have hct := HPW.out oN (by omega) (by intro e; omega) W1 hbW
        rw [hW1] at hct hbW
        have HCT := Lib.hid hct
        clear hct hL1 hW1 HPW
        go_wp2_with fail
        refine HCT.out.mono ?_
        rintro e w5 ⟨pl2, pb2, mb2, gs2, y, A2, c2, rfl, hP2, hS2⟩
        obtain ⟨⟨hm5, hl5⟩, hL6⟩ := HL.out.next hP2 ((Below.stp hbW).trans hS2)
        have HL6 := Lib.hid hL6
        clear d0 d1 d2 d3 l0 l1
        have d0 := hm5.cell (k := 0) rfl
        have d1 := hm5.cell (k := 1) rfl
        have d2 := hm5.cell (k := 2) rfl
        have d3 := hm5.cell (k := 3) rfl
        have l0 := hl5.cell (k := 0) rfl
        have l1 := hl5.cell (k := 1) rfl
        have f0 := hm5.frozen 0
        have f1 := hm5.frozen 1
        have f2 := hm5.frozen 2
        have f3 := hm5.frozen 3
        have g0 := hl5.frozen 0
        have g1 := hl5.frozen 1
        have hne1 := HL.out.ne
        clear hm5 hl5 hL6 hP2 hS2 HCT hbW HL
        go_wp2_with fail
        exact ⟨⟨i + 1, pl2, pb2, mb2, gs2, y, A2, c2, by omega, by go_num, rfl, rfl, rfl, HL6.out⟩, by simp only [intOf]; omega⟩
    · have hend : ¬ ((i : Int) < n0) ∨ ((i : Int) < n0 ∧ ¬ ((i : Int) < 50)) := by omega
      have hbe := HL.out.pw.wl.bel
      clear hgo HL
      rcases hend with hend | ⟨hend1, hend2⟩
      · go_wp2_with fail
        go_ret
        exact ⟨rfl, hbe⟩
      · go_wp2_with fail
        go_ret
        exact ⟨rfl, hbe⟩
end Go.Proofs.YtndlmdghnkaobaaGreatDoor
