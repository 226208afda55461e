/-
  The law WalFull as a walk.
-/
import Derived.Test.YtcfmialhlklmgaaGreatDoorWaT
import Derived.Test.YtcfmialhlklmgaaGreatDoorLoB
import Derived.Deep.OwnRows
namespace Go.Proofs.YtcfmialhlklmgaaGreatDoor
open Go.RowKit Go.Maps Num Crc
set_option linter.unusedVariables false

def n8 : List UInt8 := [119, 97, 108, 45, 57, 57, 57, 57, 57, 56]
theorem n8_name : n8 = wname 999998 := by decide
theorem seg8 : Segs 999999 [⟨999998, [0, 0, 0, 0, 0], 5⟩] := ⟨by simp, by simp⟩
/-- Behind the last number. -/
def Last (x : Ws) : Prop := x.seg = 1000000 ∧ x.dd = false
section
variable {w0 w : World} {pl pb mb : Nat} {gs : List Gm} {x : Ws}
theorem Wl.none_ (h : Wl w0 w pl pb mb gs x) : findK Fm.name [] x.fs = none := by
  rw [← h.fs]
  cases hf : findK Fm.name [] (gs.map Gm.f) with
  | none => rfl
  | some f =>
    obtain ⟨h1, h2⟩ := find_some hf
    obtain ⟨g, hg, rfl⟩ := List.mem_map.1 h1
    have := h.vn g hg
    rw [Gm.name, h2] at this
    exact absurd this (by decide)
theorem last_sync (h : Wl w0 w pl pb mb gs x) (hl : Last x) : syncX x = (x, 0) := by
  have hf : fname x.seg = [] := by unfold fname; rw [hl.1]; rfl
  simp [syncX, hl.2, hf, h.none_]
theorem last_roll (h : Wl w0 w pl pb mb gs x) (hl : Last x) : rollX x = (x, 1000000, 0) := by
  obtain ⟨l1, l2⟩ := hl
  unfold rollX
  rw [last_sync h ⟨l1, l2⟩, if_pos rfl]
  obtain ⟨a, b, c, d, e, f⟩ := x
  simp only at l1
  subst l1
  rfl
theorem last_app (h : Wl w0 w pl pb mb gs x) (hl : Last x) {q : List UInt8} (hq : q.length ≤ 700) : appX x q = (x, 5) := by
  have hf : fname x.seg = [] := by unfold fname; rw [hl.1]; rfl
  have ho : (oldL [] x.fs).data = [] := by unfold oldL; rw [h.none_]; rfl
  unfold appX tailX
  rw [if_neg (by omega), hl.2, if_neg (by decide), hf, ho, if_neg (by simp), if_pos (by rw [hl.1]; decide)]
theorem last_long (x : Ws) {q : List UInt8} (hq : 4096 < q.length) : appX x q = (x, 3) := by unfold appX; rw [if_pos hq]
/-- The first Append. -/
theorem full_app {q : List UInt8} (hq : q.length ≤ 700) (x : Ws) (hx : x = ⟨[⟨wname 999998, [0, 0, 0, 0, 0], 5⟩], 0, false, 0, 999999, false⟩) : (appX x q).2 = 0 ∧ (appX x q).1.dd = false ∧ (appX x q).1.ar = false ∧ (appX x q).1.seg = 999999 := by
  subst hx
  have hsl := seal_700 hq
  have hf : fname 999999 = wname 999999 := by unfold fname; rw [if_pos (by omega)]; rfl
  have hn : findK Fm.name (wname 999999) [(⟨wname 999998, [0, 0, 0, 0, 0], 5⟩ : Fm)] = none := find_last seg8 (by decide)
  have ho : (oldL (wname 999999) [(⟨wname 999998, [0, 0, 0, 0, 0], 5⟩ : Fm)]).data = [] := by unfold oldL; rw [hn]; rfl
  unfold appX tailX
  simp only
  rw [if_neg (by omega), if_neg (by decide), hf, ho, if_neg (by simp), if_neg (by decide)]
  have hd : dappX ⟨[⟨wname 999998, [0, 0, 0, 0, 0], 5⟩], 0, false, 0, 999999, false⟩ (seal_ q) = ({ stepX ⟨[⟨wname 999998, [0, 0, 0, 0, 0], 5⟩], 0, false, 0, 999999, false⟩ with fs := withK Fm.name ⟨fname 999999, (oldL (fname 999999) [⟨wname 999998, [0, 0, 0, 0, 0], 5⟩]).data ++ seal_ q, (oldL (fname 999999) [⟨wname 999998, [0, 0, 0, 0, 0], 5⟩]).syn⟩ [⟨wname 999998, [0, 0, 0, 0, 0], 5⟩] }, 0) := by
    unfold dappX
    simp only
    rw [if_neg (by rw [hf, ho]; simp; omega), if_neg (by decide)]
  rw [hd]
  exact ⟨rfl, rfl, rfl, rfl⟩
/-- A Roll of a log that isn't armed. -/
theorem full_roll (x : Ws) (hd : x.dd = false) (ha : x.ar = false) (hs : x.seg = 999999) : (rollX x).2 = (1000000, 0) ∧ Last (rollX x).1 := by
  have key : (syncX x).2 = 0 ∧ (syncX x).1.dd = false ∧ (syncX x).1.seg = 999999 := by
    have hdead : dead x.ar x.lf = false := by rw [ha]; rfl
    unfold syncX
    rw [hd, if_neg (by decide)]
    split
    · exact ⟨rfl, hd, hs⟩
    · split
      · exact ⟨rfl, hd, hs⟩
      · rw [hdead, if_neg (by decide)]
        exact ⟨rfl, hd, hs⟩
  unfold rollX
  rw [if_pos key.1, key.2.2]
  exact ⟨rfl, rfl, key.2.1⟩
end
theorem u8Info : (Tryz.prog.info? 5).map (fun i => (i.zero, i.size, i.bytes)) = some (some (.int .u8 0), 1, 1) := by kernel_rfl
theorem zeros_at (n : Nat) {j : Nat} {u : Value} (hu : (bv (List.replicate n 0))[j]? = some u) : u = .int .u8 0 := by
  obtain ⟨b, hb, rfl⟩ := List.mem_map.1 (List.mem_of_getElem? hu)
  rw [List.eq_of_mem_replicate hb]
  rfl
/-- 4097 zeros. -/
theorem made_long : ∃ cs : Array Value, (∀ V, (Instr.makeSlice 36 (.int .i64 4097) (.int .i64 4097)).run Tryz.prog V = .ok (.slice (some ⟨V.heap.size, 0, none⟩) 4097 4097) (V.alloc (.cells cs 5))) ∧
    ∀ V : World, Sl (V.alloc (.cells cs 5)) (some ⟨V.heap.size, 0, none⟩) 4097 (bv (List.replicate 4097 0)) := by
  refine ⟨madeCells #[.int .u8 0] 4097, fun V => run_make_row' 36 5 (.int .u8 0) 1 Tryz.underlying36 u8Info rfl .i64 .i64 4097 (by decide) (by decide) V, fun V => ⟨by rw [bv_len, List.length_replicate], fun _ => ⟨_, 0, rfl, fun j u hu => ?_⟩⟩⟩
  have hj : j < 4097 := by
    have := (List.getElem?_eq_some_iff.1 hu).1
    rwa [bv_len, List.length_replicate] at this
  have h1 := (World.rowIs_made V (.int .u8 0) 4097 5).cell hj
  have h2 : u = .int .u8 0 := zeros_at 4097 hu
  rw [h2, Nat.zero_add]
  exact h1
theorem le_alloc (w : World) (o : Obj) : Below w.heap.size w (w.alloc o) := (Below.refl _ w).alloc (Nat.le_refl _) o
/-- Open on the drive of the one segment. -/
theorem open_last {w0 w : World} {pb mb : Nat} {gs : List Gm} (lay : WL w0) (bel : Below w0.heap.size w0 w) (hD : Dr w pb mb gs 0 false 0) (lo : ∀ k, foot pb mb gs k → w0.heap.size ≤ k) (hf : gs.map Gm.f = [⟨wname 999998, [0, 0, 0, 0, 0], 5⟩]) :
    Calls Tryz.prog 9 #[.pointer (some ⟨pb, 0, none⟩), .int .i64 999999] w fun e w' => ∃ (pl : Nat) (A : Option Addr) (c : Nat), e = .returned (.tuple #[.pointer (some ⟨pl, 0, none⟩), .slice A 0 c, .int .i64 0]) ∧
      Wl w0 w' pl pb mb gs ⟨[⟨wname 999998, [0, 0, 0, 0, 0], 5⟩], 0, false, 0, 999999, false⟩ := by
  have hf2 : gs.map Gm.f = [(⟨999998, [0, 0, 0, 0, 0], 5⟩ : Sg)].map Sg.f := hf
  have hR : Rd w pb mb gs 0 false 0 := ⟨hD, lay.keep bel, vn_segs hf2⟩
  have hsg : segs (gs.map Gm.name) = [999998] := by
    rw [show gs.map Gm.name = ([(⟨999998, [0, 0, 0, 0, 0], 5⟩ : Sg)].map Sg.f).map Fm.name from by rw [← hf2, List.map_map]; rfl, segs_of seg8 (by decide)]
    rfl
  refine (open_any hR 999999 (by omega) (by omega)).mono ?_
  rintro e w' ⟨pl, A, c, vs, rfl, hL, hpl, ho, he, hbw⟩
  have hps : psO 999999 gs [999998] = [] := by simp [psO]
  have hso : segO 999999 [999998] = 999999 := by decide
  rw [hsg, hps] at ho ⊢
  rw [hsg, hso] at hL
  refine ⟨pl, A, c, rfl, lay, bel.trans (hbw.mono bel.size), hD.below hbw (Nat.le_refl _), hL, hf, by simp only; omega, by simp only; omega, vn_segs hf2, ?_⟩
  rintro k (rfl | hk)
  · exact Nat.le_trans bel.size hpl
  · exact lo k hk
set_option maxRecDepth 40000 in
set_option maxHeartbeats 8000000 in
theorem full_law {w : World} (hW : WL w) {A0 : Option Addr} {n0 c0 : Nat} {p : List UInt8} (hp : Sl w A0 n0 (bv p)) (hn : n0 ≤ 140737488355328) (hnc : n0 ≤ c0) :
    Calls Tryz.prog 6 #[.slice A0 n0 c0] w fun e w' => e = .returned (.bool true) ∧ Below w.heap.size w w' := by
  obtain ⟨W, hWd⟩ : ∃ W, W = ((w.alloc (.cells #[.string ⟨#[119, 97, 108, 45, 57, 57, 57, 57, 57, 56]⟩] 9)).alloc (.cells #[.int .u8 0, .int .u8 0, .int .u8 0, .int .u8 0, .int .u8 0] 5)).alloc (.cells #[.slice (some ⟨w.heap.size + 1, 0, none⟩) 5 5] 36) := ⟨_, rfl⟩
  have hs1 : Sl W (some ⟨w.heap.size, 0, none⟩) 1 ([n8].map sv) := by
    rw [hWd]
    exact ((Sl.new w (.string ⟨#[119, 97, 108, 45, 57, 57, 57, 57, 57, 56]⟩) 9).alloc _).alloc _
  have hb1 : Br W (some ⟨w.heap.size + 2, 0, none⟩) 1 [[0, 0, 0, 0, 0]] := by
    rw [hWd]
    refine ⟨rfl, fun _ => ⟨_, 0, rfl, fun i l hl => ?_⟩⟩
    cases i with
    | succ i => simp at hl
    | zero =>
      obtain rfl := Option.some.inj hl
      refine ⟨some ⟨w.heap.size + 1, 0, none⟩, 5, ?_, ?_, Nat.le_refl _⟩
      · have := (Blk.new ((w.alloc (.cells #[.string ⟨#[119, 97, 108, 45, 57, 57, 57, 57, 57, 56]⟩] 9)).alloc (.cells #[.int .u8 0, .int .u8 0, .int .u8 0, .int .u8 0, .int .u8 0] 5)) #[.slice (some ⟨w.heap.size + 1, 0, none⟩) 5 5] 36).cell (k := 0) rfl
        simpa using this
      · have := (Sl.lit (w.alloc (.cells #[.string ⟨#[119, 97, 108, 45, 57, 57, 57, 57, 57, 56]⟩] 9)) 5 (bv [0, 0, 0, 0, 0])).alloc (.cells #[.slice (some ⟨w.heap.size + 1, 0, none⟩) 5 5] 36)
        simpa [bv] using this
  have hbW : Below w.heap.size w W := by
    rw [hWd]
    exact ((le_alloc w _).alloc (le_alloc w _).size _).alloc ((le_alloc w _).alloc (le_alloc w _).size _).size _
  have hld := load_any (some ⟨w.heap.size, 0, none⟩) 1 1 [n8] (some ⟨w.heap.size + 2, 0, none⟩) 1 1 [[0, 0, 0, 0, 0]] W hs1 (by decide) hb1 (by decide) (by simp)
  unfold LoadPost at hld
  have hE : loadE [n8] [[0, 0, 0, 0, 0]] = 0 := by decide
  have hF : foldF ([n8].zip [[0, 0, 0, 0, 0]]) = [⟨wname 999998, [0, 0, 0, 0, 0], 5⟩] := by rw [n8_name]; rfl
  simp only [hE, if_true, hF] at hld
  rw [hWd] at hld hbW
  have HW := Lib.hid hW
  have HP := Lib.hid hp
  have HBW := Lib.hid hbW
  have hpl := hp.len
  obtain ⟨q, hq⟩ : ∃ q, q = p.take 700 := ⟨_, rfl⟩
  have hql : q.length ≤ 700 := by rw [hq, List.length_take]; omega
  have hct := fun V (hV : Below w.heap.size w V) => cut_any A0 n0 c0 p V (hp.below hV) hn hnc
  rw [← hq] at hct
  have HCT := Lib.hid hct
  have HE := Lib.hid (And.intro hE hF)
  clear hW hp hWd hs1 hb1 hE hF hq hct
  go_enter Tryz.func6, Tryz.ntmps6
  go_wp2_with fail
  refine hld.mono ?_
  rintro e w1 ⟨hb1, pb, mb, gs, rfl, hD1, hf1, hfo1⟩
  have hb01 := HBW.out.trans (hb1.mono HBW.out.size)
  have hlo : ∀ k, foot pb mb gs k → w.heap.size ≤ k := fun k hk => Nat.le_trans HBW.out.size (hfo1 k hk)
  have haw := awake3_any w1 (HW.out.keep hb01)
  have H1 := Lib.hid (And.intro hb01 (And.intro hD1 (And.intro hf1 hlo)))
  clear hld hb1 hD1 hf1 hfo1 hb01 hlo hbW
  go_wp2_with fail
  refine haw.mono ?_
  rintro e w2 ⟨rfl, hb2⟩
  have hop := open_last HW.out (H1.out.1.trans (hb2.mono H1.out.1.size)) (H1.out.2.1.below hb2 (Nat.le_refl _)) H1.out.2.2.2 H1.out.2.2.1
  clear haw hb2
  go_wp2_with fail
  refine hop.mono ?_
  rintro e w3 ⟨pl, A3, c3, rfl, hW3⟩
  obtain ⟨x0, hx0⟩ : ∃ x0 : Ws, x0 = ⟨[⟨wname 999998, [0, 0, 0, 0, 0], 5⟩], 0, false, 0, 999999, false⟩ := ⟨_, rfl⟩
  have hx0s : x0.seg = 999999 := by rw [hx0]
  obtain ⟨a1, a2, a3, a4⟩ := full_app hql x0 hx0
  rw [← hx0] at hW3
  have hsg := lseg_any hW3
  rw [hx0s] at hsg
  have HW3 := Lib.hid hW3
  have HA := Lib.hid (And.intro a1 (And.intro a2 (And.intro a3 a4)))
  have hc3 := HCT.out w3 hW3.bel
  clear hop hW3 hx0 a1 a2 a3 a4
  go_wp2_with fail
  refine hsg.mono ?_
  rintro e w4 ⟨rfl, rfl⟩
  go_wp2_with fail
  refine hc3.mono ?_
  rintro e w5 ⟨A5, c5, rfl, hr5, hb5⟩
  have hap := lappend_any (HW3.out.below hb5) A5 q.length c5 q (own_sl hr5)
  rw [HA.out.1] at hap
  clear hc3 hsg hr5 hb5
  go_wp2_with fail
  refine hap.mono ?_
  rintro e w6 ⟨rfl, gs6, hW6, -⟩
  obtain ⟨r1, r2⟩ := full_roll (appX x0 q).1 HA.out.2.1 HA.out.2.2.1 HA.out.2.2.2
  generalize (appX x0 q).1 = y at hW6 r1 r2
  have hro := roll_any hW6
  rw [r1] at hro
  have HR := Lib.hid r2
  clear hap hW6 r1 r2
  go_wp2_with fail
  refine hro.mono ?_
  rintro e w7 ⟨rfl, gs7, hW7, -⟩
  generalize (rollX y).1 = z at hW7 HR
  have hst := steps_any hW7.dr
  have hr2 := roll_any hW7
  rw [last_roll hW7 HR.out] at hr2
  clear hro hW7
  go_wp2_with fail
  refine hst.mono ?_
  rintro e w8 ⟨rfl, rfl⟩
  go_wp2_with fail
  refine hr2.mono ?_
  rintro e w9 ⟨rfl, gs9, hW9, -⟩
  have HW9 := Lib.hid hW9
  have hc9 := HCT.out w9 hW9.bel
  clear hst hr2 hW9
  go_wp2_with fail
  refine hc9.mono ?_
  rintro e w10 ⟨A10, c10, rfl, hr10, hb10⟩
  have hW10 := HW9.out.below hb10
  have hap := lappend_any hW10 A10 q.length c10 q (own_sl hr10)
  rw [last_app hW10 HR.out hql] at hap
  clear hc9 hr10 hb10 hW10
  go_wp2_with fail
  refine hap.mono ?_
  rintro e w11 ⟨rfl, gs11, hW11, -⟩
  have hsy := lsync_any hW11
  rw [last_sync hW11 HR.out] at hsy
  clear hap hW11
  go_wp2_with fail
  refine hsy.mono ?_
  rintro e w12 ⟨rfl, gs12, hW12, -⟩
  have hst := steps_any hW12.dr
  have HW12 := Lib.hid hW12
  obtain ⟨cs, hmk, hsl⟩ := made_long
  have HSL := Lib.hid hsl
  clear hsy hW12 hsl
  go_wp2_with fail
  refine hst.mono ?_
  rintro e w13 ⟨rfl, rfl⟩
  have hW14 := HW12.out.alloc (.cells cs 5)
  have hap := lappend_any hW14 (some ⟨w13.heap.size, 0, none⟩) 4097 4097 (List.replicate 4097 0) (HSL.out w13)
  rw [last_long z (by rw [List.length_replicate]; decide)] at hap
  clear hst hW14
  go_wp2_with fail
  refine hap.mono ?_
  rintro e w15 ⟨rfl, gs15, hW15, -⟩
  have hbe := hW15.bel
  clear hap hmk hW15
  go_wp2_with fail
  go_ret
  exact ⟨rfl, hbe⟩
end Go.Proofs.YtcfmialhlklmgaaGreatDoor
