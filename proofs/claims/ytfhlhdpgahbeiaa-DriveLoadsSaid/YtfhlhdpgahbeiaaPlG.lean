/-
  One call of the law's script: Append.
-/
import Derived.Test.YtfhlhdpgahbeiaaPlay
import Derived.Deep.RegionHeldLaw
namespace Go.Proofs.Ytfhlhdpgahbeiaa
open Go.RowKit Go.Maps
set_option linter.unusedVariables false

theorem step_app1 {P : Program} {w : World} {ops : Array Oper} {o : Oper} {a : Act} {K : Act → World → Prop} {Q : Exit → Act → World → Prop} {E : Prop} (hg : o.guard = none) (s x : Operand) (t : TypeId)
    (ho : o.op = .call { callee := .builtin .append, args := #[s, x], argTypes := #[t, t] })
    (base : Nat) {e : TypeId} {z : Value} {bytes : Nat} (El0 : El P t e z bytes) (hb1 : 1 ≤ bytes)
    (v : Value) (n : Nat) (xs : List Value) (hs : a.eval s = v) (hown : w.ownsRow base e 1 v n xs)
    (A : Option Addr) (m c : Nat) (news : List Value) (hx : a.eval x = .slice A m c) (hr : Sl w A m news) (h1 : ∀ u ∈ news, u.oneCell' = true)
    (hbytes : (n + m) * bytes ≤ 140737488355328) (hbase : base ≤ w.heap.size)
    (h : ∀ A' c' w', w'.ownsRow base e 1 (.slice A' (n + m) c') (n + m) (xs ++ news) → w.grownBy w' v.ownBlock →
      ((Value.slice A' (n + m) c').ownBlock = v.ownBlock ∨ (Value.slice A' (n + m) c').ownBlock = some w.heap.size) → K (a.put o.dst (.slice A' (n + m) c')) w') :
    if Region.wanted o (yielded ops a.tmps) = true then Oper.wp P o a w K Q else E := by
  have hw : Region.wanted o (yielded ops a.tmps) = true := by simp [Region.wanted, hg]
  rw [if_pos hw]
  exact wp_app w s x t ho base El0 hb1 v n xs hs hown A m c news hx hr h1 hbytes hbase h

/-- As 'mid', where the drive's call begins behind further blocks. -/
theorem mid2 {w W0 w2 : World} {lo pb mb : Nat} {gs gs2 : List Gm} {st lf st2 lf2 : Int} {ar ar2 : Bool} {A : Option Addr} {c : Nat} {op : Array Value} (h : Rel w lo pb mb gs st ar lf A c) (hb0 : Below w.heap.size w W0) (hW : w.heap.size + 3 ≤ W0.heap.size) (hx : Bx w W0 A gs.length c st ar lf op)
    (hd : Dr w2 pb mb gs2 st2 ar2 lf2) (hS : Stp W0 w2 (foot pb mb gs) (foot pb mb gs2)) :
    w2.ownsRow lo 70 3 (.slice A gs.length c) gs.length (fcs (gs.map Gm.f)) ∧ Bx w w2 A gs.length c st ar lf op ∧ (∀ k, foot pb mb gs2 k → lo ≤ k) ∧ Stp w w2 (foot pb mb gs) (foot pb mb gs2) ∧ w.heap.size + 3 ≤ w2.heap.size ∧ (∀ k, foot pb mb gs2 k → k < w.heap.size ∨ w.heap.size + 3 ≤ k) := by
  have hlt := fun k => h.dr.foot_lt (k := k)
  have hD0 := h.dr.below hb0 (Nat.le_refl _)
  have ho0 := own3_below h.own hb0
  refine ⟨row_stp hD0 ho0 hS, hx.keep fun k h1 h2 => hS.oth.block k (by omega) (fun e => by have := hlt k e; omega), fun k hk => ?_, ?_, by have := hS.oth.size; omega, fun k hk => ?_⟩
  · rcases hS.sub k hk with e | e
    · exact h.flo k e
    · have := h.le; omega
  · exact (Below.stp hb0).trans hS
  · rcases hS.sub k hk with e | e
    · exact .inl (hlt k e)
    · exact .inr (by omega)

set_option maxRecDepth 40000 in
set_option maxHeartbeats 8000000 in
theorem play_k1 {w : World} {lo pb mb : Nat} {gs : List Gm} {st lf : Int} {ar : Bool} {A : Option Addr} {c : Nat} (h : Rel w lo pb mb gs st ar lf A c) (s tn : List UInt8) (B : Option Addr) (l : List UInt8) (bc : Nat) (N : Int) (K : Option Addr) (kn kc : Nat) (code : Int)
    (hB : Sl w B l.length (bv l)) (hBlo : ∀ V, Below lo w V → Sl V B l.length (bv l)) (hl : l.length ≤ 140737488355328)
    (hct : ∀ W0 A1 c1, Dr W0 pb mb gs st ar lf → Sl W0 A1 l.length (bv l) → (∀ k, (Value.slice A1 l.length c1).ownBlock = some k → ¬ foot pb mb gs k) → Calls Try.prog 24 #[.pointer (some ⟨pb, 0, none⟩), .string (str s), .slice A1 l.length c1] W0 (Out W0 lo pb mb gs A c code 28 #[.agg #[.slice A gs.length c, .int .i64 st, .bool ar, .int .i64 lf], .string (str s), .string (str l)])) :
    Calls Try.prog 14 #[.pointer (some ⟨pb, 0, none⟩), .agg #[.slice A gs.length c, .int .i64 st, .bool ar, .int .i64 lf], .agg #[.int .i64 1, .string (str s), .string (str tn), .slice B l.length bc, .int .i64 N, .slice K kn kc]] w (PlayPost w lo (foot pb mb gs)) := by
  have hfew := h.dr.few
  have hx0 := Bx.start w A gs.length c st ar lf (opcs 1 s tn B l.length bc N K kn kc)
  have hb0 : Below w.heap.size w (((w.alloc (dobj (dcs A gs.length c st ar lf))).alloc (.cells (opcs 1 s tn B l.length bc N K kn kc) 43)).alloc (dobj zcs)) := (((Below.refl _ w).alloc (Nat.le_refl _) _).alloc (by simp) _).alloc (by simp; omega) _
  have hW : (((w.alloc (dobj (dcs A gs.length c st ar lf))).alloc (.cells (opcs 1 s tn B l.length bc N K kn kc) 43)).alloc (dobj zcs)).heap.size = w.heap.size + 3 := by simp
  have H := Lib.hid h
  have HX := Lib.hid hx0
  have HBL := Lib.hid hBlo
  have HCT := Lib.hid hct
  clear h hx0 hct hBlo
  go_enter Try.func14, Try.ntmps14
  go_wp2_with fail
  generalize (((w.alloc (dobj (dcs A gs.length c st ar lf))).alloc (.cells (opcs 1 s tn B l.length bc N K kn kc) 43)).alloc (dobj zcs)) = V0 at HX hb0 hW ⊢
  have o1 : V0.cell? ⟨w.heap.size + 1, 1, none⟩ = some (.string (str s)) := HX.out.o.cell rfl
  have o3 : V0.cell? ⟨w.heap.size + 1, 3, none⟩ = some (.slice B l.length bc) := HX.out.o.cell rfl
  have hsl : Sl V0 B l.length (bv l) := hB.below hb0
  have hbd : Below V0.heap.size V0 V0.drew := (Below.refl _ V0).drew
  have HW := Lib.hid hW
  clear hB hW
  have hap : ∀ A1 c1 w1, w1.ownsRow V0.drew.heap.size 5 1 (.slice A1 (0 + l.length) c1) (0 + l.length) ([] ++ bv l) → (V0.drew.alloc (.cells #[] 5)).grownBy w1 (Value.slice (some ⟨V0.drew.heap.size, 0, none⟩) 0 0).ownBlock → Below V0.heap.size V0 w1 ∧ w1.ownsRow V0.drew.heap.size 5 1 (.slice A1 l.length c1) l.length (bv l) := fun A1 c1 w1 ho hg => by
    refine ⟨?_, by simpa using ho⟩
    exact (hbd.alloc (Nat.le_refl _) _).grown hg (by simp) (own_blk (World.ownsRow_made (e := 5) (size := 1) V0.drew #[] 0 (Nat.le_refl _) (Nat.zero_le _) rfl))
  go_region_held_law (fun V => V.cell? ⟨w.heap.size + 1, 1, none⟩ = some (.string (str s)) ∧ V.cell? ⟨w.heap.size + 1, 3, none⟩ = some (.slice B l.length bc)) (first | exact ⟨o1, o3⟩ | exact ⟨n1, n3⟩ | exact ⟨m1, m3⟩ | go_keep) (first
    | (go_at_call 24; refine hcc.mono ?_; rintro e w2 ⟨rfl, gs2, st2, ar2, lf2, hD, hS, hvn, hrf⟩
       obtain ⟨ho2, hx2, hf2, hb2, hz2, hq2⟩ := mid2 H.out (hb0.trans (hb1.mono (by have := HW.out; omega))) (by have := HW.out; have := hb1.size; omega) HX1.out hD hS
       have m1 : w2.cell? ⟨w.heap.size + 1, 1, none⟩ = some (.string (str s)) := hx2.o.cell rfl
       have m3 : w2.cell? ⟨w.heap.size + 1, 3, none⟩ = some (.slice B l.length bc) := hx2.o.cell rfl
       have d0 : w2.cell? ⟨w.heap.size, 0, none⟩ = some (.slice A gs.length c) := hx2.d.cell rfl
       have d1 : w2.cell? ⟨w.heap.size, 1, none⟩ = some (.int .i64 st) := hx2.d.cell rfl
       have d2 : w2.cell? ⟨w.heap.size, 2, none⟩ = some (.bool ar) := hx2.d.cell rfl
       have d3 : w2.cell? ⟨w.heap.size, 3, none⟩ = some (.int .i64 lf) := hx2.d.cell rfl
       have hrc := hrf ho2 (by have := H.out.le; omega)
       have hcs : (convert 33 9 (.slice B l.length bc)).run Try.prog w2 = .ok (.string (str l)) w2 := run_str (P := Try.prog) (HBL.out w2 (hb2.oth.below H.out.flo H.out.le)) 33 5 9 Try.underlying33 Try.underlying5 Try.underlying9
       have HD := Lib.hid hD
       have HX2 := Lib.hid hx2
       have HV := Lib.hid hvn
       have HQ := Lib.hid hq2
       have HF := Lib.hid hf2
       clear hD hS hx2 ho2 hrf hvn hq2 hf2)
    | (refine step_app1 rfl (.tmp 20) (.tmp 22) 33 rfl V0.drew.heap.size bytesEl (by decide) _ 0 [] (by simp [Act.eval]) (World.ownsRow_made V0.drew #[] 0 (Nat.le_refl _) (Nat.zero_le _) rfl) B l.length bc (bv l) (by simp [Act.eval]) (hsl.below (hbd.alloc (Nat.le_refl _) _)) (bv_one _) (by omega) (by simp) ?_; intro A1 c1 w1 hown1 hg1 hat1
       obtain ⟨hb1, hr1⟩ := hap A1 c1 w1 hown1 hg1
       have hx1 : Bx w w1 A gs.length c st ar lf (opcs 1 s tn B l.length bc N K kn kc) := HX.out.keep fun k h1 h2 => hb1.block k (by have := HW.out; omega)
       have n1 : w1.cell? ⟨w.heap.size + 1, 1, none⟩ = some (.string (str s)) := hx1.o.cell rfl
       have n3 : w1.cell? ⟨w.heap.size + 1, 3, none⟩ = some (.slice B l.length bc) := hx1.o.cell rfl
       have hcc := HCT.out w1 A1 c1 (H.out.dr.below (hb0.trans (hb1.mono (by have := HW.out; omega))) (Nat.le_refl _)) (own_sl hr1) (fun k hk hf => by have h2 := own_blk hr1 k hk; have h3 := H.out.dr.foot_lt hf; have := HW.out; simp at h2; omega)
       have HX1 := Lib.hid hx1
       clear hx1 hown1 hg1 hat1 hr1))
  go_wp2_with fail
  refine hrc.mono ?_
  rintro e w3 ⟨A3, c3, rfl, ho3, hb3⟩
  obtain ⟨hRel, hx4, hb4⟩ := late (gs0 := gs) H.out.le HD.out HX2.out HF.out hb2 hz2 HQ.out HV.out ho3 hb3
  have hx3 : Bx w w3 A gs.length c st ar lf (opcs 1 s tn B l.length bc N K kn kc) := HX2.out.keep fun k h1 h2 => hb3.block k (by omega)
  have d0 : w3.cell? ⟨w.heap.size, 0, none⟩ = some (.slice A gs.length c) := hx3.d.cell rfl
  have d1 : w3.cell? ⟨w.heap.size, 1, none⟩ = some (.int .i64 st) := hx3.d.cell rfl
  have d2 : w3.cell? ⟨w.heap.size, 2, none⟩ = some (.bool ar) := hx3.d.cell rfl
  have d3 : w3.cell? ⟨w.heap.size, 3, none⟩ = some (.int .i64 lf) := hx3.d.cell rfl
  have f0 := hx3.d.frozen 0
  have f1 := hx3.d.frozen 1
  have f2 := hx3.d.frozen 2
  have f3 := hx3.d.frozen 3
  have HR := Lib.hid hRel
  have HX4 := Lib.hid hx4
  clear hRel hx4 hrc hx3 ho3
  go_wp2_with fail
  clear d0 d1 d2 d3 f0 f1 f2 f3
  generalize ((((w3.setCell ⟨w.heap.size, 0, none⟩ (.slice A3 gs2.length c3)).setCell ⟨w.heap.size, 1, none⟩ (.int .i64 st2)).setCell ⟨w.heap.size, 2, none⟩ (.bool ar2)).setCell ⟨w.heap.size, 3, none⟩ (.int .i64 lf2)) = V4 at HR HX4 hb4 ⊢
  have d0 : V4.cell? ⟨w.heap.size, 0, none⟩ = some (.slice A3 gs2.length c3) := HX4.out.d.cell rfl
  have d1 : V4.cell? ⟨w.heap.size, 1, none⟩ = some (.int .i64 st2) := HX4.out.d.cell rfl
  have d2 : V4.cell? ⟨w.heap.size, 2, none⟩ = some (.bool ar2) := HX4.out.d.cell rfl
  have d3 : V4.cell? ⟨w.heap.size, 3, none⟩ = some (.int .i64 lf2) := HX4.out.d.cell rfl
  have hz4 := HX4.out.r.lt
  have hct2 := tells_any (w := V4.drew) (HR.out.dr.keep fun _ _ => rfl) A3 c3 (show Fl V4.drew A3 _ _ from HR.out.fl) HV.out
  have late5 : ∀ w5, Below V4.drew.heap.size V4.drew w5 → Below V4.heap.size V4 w5 ∧ Bx w w5 A3 gs2.length c3 st2 ar2 lf2 (opcs 1 s tn B l.length bc N K kn kc) := fun w5 hb5 => by
    have hb6 := (Below.refl V4.heap.size V4).drew.trans hb5
    exact ⟨hb6, HX4.out.keep fun k h1 h2 => hb6.block k (by omega)⟩
  go_region_with (go_at_call 13; refine hct2.mono ?_; rintro e w5 ⟨rfl, hb5⟩
                  obtain ⟨hb6, hx5⟩ := late5 w5 hb5
                  have d0 : w5.cell? ⟨w.heap.size, 0, none⟩ = some (.slice A3 gs2.length c3) := hx5.d.cell rfl
                  have d1 : w5.cell? ⟨w.heap.size, 1, none⟩ = some (.int .i64 st2) := hx5.d.cell rfl
                  have d2 : w5.cell? ⟨w.heap.size, 2, none⟩ = some (.bool ar2) := hx5.d.cell rfl
                  have d3 : w5.cell? ⟨w.heap.size, 3, none⟩ = some (.int .i64 lf2) := hx5.d.cell rfl
                  have r0 : w5.cell? ⟨w.heap.size + 1 + 1, 0, none⟩ = some (.slice none 0 0) := hx5.r.cell rfl
                  have r1 : w5.cell? ⟨w.heap.size + 1 + 1, 1, none⟩ = some (.int .i64 0) := hx5.r.cell rfl
                  have r2 : w5.cell? ⟨w.heap.size + 1 + 1, 2, none⟩ = some (.bool false) := hx5.r.cell rfl
                  have r3 : w5.cell? ⟨w.heap.size + 1 + 1, 3, none⟩ = some (.int .i64 0) := hx5.r.cell rfl
                  have f0 := hx5.r.frozen 0
                  have f1 := hx5.r.frozen 1
                  have f2 := hx5.r.frozen 2
                  have f3 := hx5.r.frozen 3
                  have HX5 := Lib.hid hx5
                  clear hx5)
  all_goals
    go_wp2_with fail
    obtain ⟨hbk, hpp⟩ := fin_play H.out.le HR.out hb4 hb6 HX5.out HQ.out
    exact ret_play (x := .pointer (some ⟨pb, 0, none⟩)) (y := .bool true) rfl rfl rfl rfl rfl hbk hpp


theorem play_append {w : World} {lo pb mb : Nat} {gs : List Gm} {st lf : Int} {ar : Bool} {A : Option Addr} {c : Nat} (h : Rel w lo pb mb gs st ar lf A c) (s tn : List UInt8) (B : Option Addr) (l : List UInt8) (bc : Nat) (N : Int) (K : Option Addr) (kn kc : Nat)
    (hB : ∀ V, Below lo w V → Sl V B l.length (bv l)) (hs : s.length ≤ 140737488355328) (hl : l.length ≤ 140737488355328) :
    Calls Try.prog 14 #[.pointer (some ⟨pb, 0, none⟩), .agg #[.slice A gs.length c, .int .i64 st, .bool ar, .int .i64 lf], .agg #[.int .i64 1, .string (str s), .string (str tn), .slice B l.length bc, .int .i64 N, .slice K kn kc]] w (PlayPost w lo (foot pb mb gs)) := by
  have hfew := h.dr.few
  have hdl : ∀ f ∈ gs.map Gm.f, f.data.length ≤ 262144 := fun f hf => by
    obtain ⟨g, hg, rfl⟩ := List.mem_map.1 hf
    exact (h.dr.file g hg).2.2.2.1
  refine play_k1 h s tn B l bc N K kn kc (appE s l.length gs ar lf) (hB w (Below.refl _ w)) hB hl fun W0 A1 c1 hD hsl hfr => (append_any hD s A1 l.length c1 l hsl hl hfr).mono ?_
  rintro e w' ⟨rfl, hp⟩
  have hr : w'.ownsRow lo 70 3 (.slice A gs.length c) gs.length (fcs (gs.map Gm.f)) → lo ≤ w'.heap.size → _ := fun ho hle => rappend_any A gs.length c (gs.map Gm.f) st ar lf s l w' lo ho (by simp) hle (by omega) hs hl hdl
  rw [app_both, old_both] at hr
  by_cases hE : appE s l.length gs ar lf = 0
  · rw [if_pos hE] at hp hr
    obtain ⟨g, hg, hD2, hS⟩ := hp
    rw [← hg, ← with_both] at hr
    have hgn : g.name = s := congrArg Fm.name hg
    exact ⟨rfl, _, _, _, _, hD2, hS, vn_with h.vn (hgn ▸ appE_vn hE), fun ho hle => (hr ho hle).mono fun e w3 hra => by rw [hE]; exact RPost.ans hra⟩
  · rw [if_neg hE] at hp hr
    exact ⟨rfl, _, _, _, _, hp.1, hp.2, h.vn, fun ho hle => (hr ho hle).mono fun e w3 hra => RPost.ans hra⟩
end Go.Proofs.Ytfhlhdpgahbeiaa
