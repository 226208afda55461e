/-
  Bytes put behind a file: Append; a drive's other steps: Sync, Rename, Delete, Arm; a file read.
-/
import Derived.Test.YtnbomifnbhijbaaGreatDoorDrD
namespace Go.Proofs.YtnbomifnbhijbaaGreatDoor
open Go.RowKit Go.Maps
set_option linter.unusedVariables false

theorem blk_type_ne {w : World} {a b : Nat} {cs ds : Array Value} {t u : TypeId} (h : Blk w a cs t) (k : Blk w b ds u) (ht : t ≠ u) : a ≠ b := by
  rintro rfl
  unfold Blk at h k
  rw [h] at k; injection k with k; injection k with _ k; exact ht k

theorem app_fin {w w4 : World} {pb mb : Nat} {gs : List Gm} {st lf : Int} {ar : Bool} (h : Dr w pb mb gs st ar lf) {g : Gm} (hg : g ∈ gs) {l : List UInt8} {v' : Value}
    (hown' : w4.ownsRow 0 5 1 v' (g.f.data.length + l.length) (bv g.f.data ++ bv l)) (hgr : w.grownBy w4 g.v.ownBlock) (hat : v'.ownBlock = g.v.ownBlock ∨ v'.ownBlock = some w.heap.size) (hlen : g.f.data.length + l.length ≤ 262144) :
    Blk w4 g.blk #[g.v, .int .i64 g.f.syn] 111 ∧ Dr (w4.setCell ⟨g.blk, 0, none⟩ v') pb mb (withK Gm.name ⟨⟨g.f.name, g.f.data ++ l, g.f.syn⟩, g.blk, v'⟩ gs) st ar lf ∧
    Stp w (w4.setCell ⟨g.blk, 0, none⟩ v') (foot pb mb gs) (foot pb mb (withK Gm.name ⟨⟨g.f.name, g.f.data ++ l, g.f.syn⟩, g.blk, v'⟩ gs)) := by
  obtain ⟨g1, g2, g3⟩ := h.file g hg
  have hne : ∀ k, g.v.ownBlock = some k → g.blk ≠ k := fun k e => by
    obtain ⟨cur, hB⟩ := own_blk_type g2 e
    exact blk_type_ne g1 hB (by decide)
  have hb4 : Blk w4 g.blk #[g.v, .int .i64 g.f.syn] 111 := g1.keep (hgr.block _ g1.lt fun e => hne _ e.symm rfl)
  have hv : ∀ k, v'.ownBlock = some k → g.v.ownBlock = some k ∨ w.heap.size ≤ k := fun k e => by
    rcases hat with h1 | h1
    · rw [h1] at e; exact .inl e
    · rw [h1] at e; cases e; exact .inr (Nat.le_refl _)
  have hkeep : ∀ k, k ≠ g.blk → g.v.ownBlock ≠ some k → k < w.heap.size → (w4.setCell ⟨g.blk, 0, none⟩ v').heap[k]? = w.heap[k]? := fun k h1 h2 h3 =>
    (setCell_other w4 ⟨g.blk, 0, none⟩ v' h1).trans (hgr.block k h3 fun e => h2 e.symm)
  refine ⟨hb4, ?_, ⟨hgr.os, hgr.tape, hgr.output, by rw [setCell_size]; exact hgr.size, fun k hk hn => hkeep k (fun e => hn (.inr (.inr ⟨g, hg, .inl e⟩))) (fun e => hn (.inr (.inr ⟨g, hg, .inr e⟩))) hk⟩, fun k hk => ?_⟩
  · refine h.turnG hg rfl rfl (hb4.set 0 v') ?_ ?_ hv hkeep
    · simp only [List.length_append, bv_app]
      refine own_at hown' fun k e => setCell_other _ _ _ fun ek => ?_
      obtain ⟨cur, hB⟩ := own_blk_type hown' e
      exact blk_type_ne hb4 hB (by decide) ek.symm
    · simp only [List.length_append]; exact ⟨by omega, hlen⟩
  · rcases foot_with hk with e | e | e
    · exact .inl e
    · exact .inl (.inr (.inr ⟨g, hg, .inl e⟩))
    · rcases hv k e with e | e
      · exact .inl (.inr (.inr ⟨g, hg, .inr e⟩))
      · exact .inr e

def emptyF (s : List UInt8) : Fm := ⟨s, [], 0⟩
def oldF (s : List UInt8) (gs : List Gm) : Fm := match findK Gm.name s gs with | some g => g.f | none => emptyF s
/-- What Append answers. -/
def appE (s : List UInt8) (n : Nat) (gs : List Gm) (ar : Bool) (lf : Int) : Int :=
  if vname s = false then 20 else if (findK Gm.name s gs = none ∧ 256 ≤ gs.length) ∨ 262144 < sizeG s gs + n then 5 else if dead ar lf = true then 6 else 0

theorem map_len {w : World} {pb mb : Nat} {gs : List Gm} {st lf : Int} {ar : Bool} (h : Dr w pb mb gs st ar lf) (ty : TypeId) : (Builtin.len_ #[68] ty #[.map (some mb)]).run Tryz.prog w = .ok (.int .i64 (gs.length : Int)) w := by
  have := h.map.len (t := 68) (e := 109) Tryz.underlying68 ty
  rw [this, ents_size]

theorem wrap64_id {x : Int} (h : -9223372036854775808 ≤ x ∧ x < 9223372036854775808) : wrap64 x = x := by
  unfold wrap64; omega
theorem sl_stp {w w' : World} {S S' : Nat → Prop} {A : Option Addr} {n c : Nat} {xs : List Value} (h : Sl w A n xs) (hS : Stp w w' S S') (hA : ∀ k, (Value.slice A n c).ownBlock = some k → ¬ S k) : Sl w' A n xs := by
  refine ⟨h.1, fun h0 => ?_⟩
  obtain ⟨b, o, rfl, hc⟩ := h.2 h0
  refine ⟨b, o, rfl, fun j u hu => ?_⟩
  have hcj := hc j u hu
  exact (World.cell?_of_block (w := w) (hS.oth.block b (World.block_lt_of_cell? w _ hcj) (hA b rfl))).trans hcj

set_option maxRecDepth 40000 in
set_option maxHeartbeats 4000000 in
theorem append_any {w : World} {pb mb : Nat} {gs : List Gm} {st lf : Int} {ar : Bool} (h : Dr w pb mb gs st ar lf) (s : List UInt8) (A : Option Addr) (n c : Nat) (l : List UInt8) (hl : Sl w A n (bv l)) (hn : n ≤ 140737488355328)
    (hA : ∀ k, (Value.slice A n c).ownBlock = some k → ¬ foot pb mb gs k) :
    Calls Tryz.prog 55 #[.pointer (some ⟨pb, 0, none⟩), .string (str s), .slice A n c] w fun e w' => e = .returned (.int .i64 (appE s n gs ar lf)) ∧
      if appE s n gs ar lf = 0 then ∃ g : Gm, g.f = ⟨s, (oldF s gs).data ++ l, (oldF s gs).syn⟩ ∧ Dr w' pb mb (withK Gm.name g gs) (wrap64 (st + 1)) ar (lf1 ar lf) ∧ Stp w w' (foot pb mb gs) (foot pb mb (withK Gm.name g gs))
      else Dr w' pb mb gs st ar lf ∧ Stp w w' (foot pb mb gs) (foot pb mb gs) := by
  have hll := hl.len
  subst hll
  have hvn := vname_any s w
  cases hv : vname s with
  | false =>
    rw [hv] at hvn
    have he : appE s l.length gs ar lf = 20 := by simp [appE, hv]
    rw [he]
    simp only [show ¬ ((20 : Int) = 0) from by decide, if_false]
    clear hv he
    go_enter Tryz.func55, Tryz.ntmps55
    go_wp2_with (go_at_call 80; refine hvn.mono ?_; rintro e w' ⟨rfl, rfl⟩)
    go_ret
    exact ⟨rfl, h, Stp.refl _ _⟩
  | true =>
    rw [hv] at hvn
    have hsl := (vname_le hv).2
    have hlk := map_look h.map (s := s) (by simp only [maxLen]; omega)
    have hml := map_len h
    have hsz := size_any h s (by simp only [maxLen]; omega)
    have hst := step_any h
    have c0 := h.c0
    have hfew := h.few
    cases hf : findK Gm.name s gs with
    | none =>
      rw [hf] at hlk
      simp only [ptr] at hlk
      have hs0 : sizeG s gs = 0 := by simp [sizeG, hf]
      rw [hs0] at hsz
      have hof : oldF s gs = emptyF s := by simp [oldF, hf]
      by_cases hfull : (256 : Int) ≤ gs.length
      · have he : appE s l.length gs ar lf = 5 := by
          simp only [appE, hv, hf]
          rw [if_neg (by decide), if_pos (.inl ⟨(by first | rfl | trivial), by omega⟩)]
        rw [he]
        simp only [show ¬ ((5 : Int) = 0) from by decide, if_false]
        have H := Lib.hid h
        clear hv he hf hs0 hof h
        go_enter Tryz.func55, Tryz.ntmps55
        go_wp2_with (first
          | (go_at_call 80; refine hvn.mono ?_; rintro e w' ⟨rfl, rfl⟩)
          | (go_at_call 50; refine hsz.mono ?_; rintro e w' ⟨rfl, rfl⟩))
        go_ret
        exact ⟨rfl, H.out, Stp.refl _ _⟩
      · by_cases hbig : (262144 : Int) < l.length
        · have he : appE s l.length gs ar lf = 5 := by
            simp only [appE, hv, hf]
            rw [if_neg (by decide), if_pos (.inr (by rw [hs0]; omega))]
          rw [he]
          simp only [show ¬ ((5 : Int) = 0) from by decide, if_false]
          have H := Lib.hid h
          clear hv he hf hs0 hof h
          go_enter Tryz.func55, Tryz.ntmps55
          go_wp2_with (first
            | (go_at_call 80; refine hvn.mono ?_; rintro e w' ⟨rfl, rfl⟩)
            | (go_at_call 50; refine hsz.mono ?_; rintro e w' ⟨rfl, rfl⟩))
          go_ret
          exact ⟨rfl, H.out, Stp.refl _ _⟩
        · have hnf : ¬ ((findK Gm.name s gs = none ∧ 256 ≤ gs.length) ∨ 262144 < sizeG s gs + l.length) := by rw [hs0]; omega
          have he : appE s l.length gs ar lf = code1 ar lf := by
            simp only [appE, hv, code1]
            rw [if_neg (by decide), if_neg hnf]
          cases hd : dead ar lf with
          | true =>
            have he2 : appE s l.length gs ar lf = 6 := by rw [he]; simp [code1, hd]
            rw [he2]
            simp only [show ¬ ((6 : Int) = 0) from by decide, if_false]
            simp only [code1, st1, lf1, hd, if_true] at hst
            have H := Lib.hid h
            clear hv he he2 hf hs0 hof h hnf hd
            go_enter Tryz.func55, Tryz.ntmps55
            go_wp2_with (first
              | (go_at_call 80; refine hvn.mono ?_; rintro e w' ⟨rfl, rfl⟩)
              | (go_at_call 50; refine hsz.mono ?_; rintro e w' ⟨rfl, rfl⟩)
              | (go_at_call 81; refine hst.mono ?_; rintro e w1 ⟨rfl, hD, hS⟩; have HD := Lib.hid hD; clear hD))
            go_ret
            exact ⟨rfl, HD.out, hS⟩
          | false =>
            have he2 : appE s l.length gs ar lf = 0 := by rw [he]; simp [code1, hd]
            rw [he2, hof]
            simp only [if_true]
            simp only [code1, st1, hd, if_false, Bool.false_eq_true] at hst
            have H := Lib.hid h
            have HFN := Lib.hid hf
            clear hv he he2 hf hs0 hof h hnf hd
            go_enter Tryz.func55, Tryz.ntmps55
            go_wp2_with (first
              | (go_at_call 80; refine hvn.mono ?_; rintro e w' ⟨rfl, rfl⟩)
              | (go_at_call 50; refine hsz.mono ?_; rintro e w' ⟨rfl, rfl⟩)
              | (go_at_call 81; refine hst.mono ?_; rintro e w1 ⟨rfl, hD, hS⟩; have HD := Lib.hid hD; clear hD))
            have hw1 := hS.oth.size
            have h2 := HD.out.alloc (.cells #[.slice none 0 0, .int .i64 0] 111)
            have hbk := Blk.new w1 #[.slice none 0 0, .int .i64 0] 111
            obtain ⟨g0, hg0⟩ : ∃ g : Gm, g = ⟨emptyF s, w1.heap.size, .slice none 0 0⟩ := ⟨_, rfl⟩
            have hg0f : g0.f = emptyF s := by rw [hg0]
            have hg0b : g0.blk = w1.heap.size := by rw [hg0]
            have hg0v : g0.v = .slice none 0 0 := by rw [hg0]
            have hg0n : g0.name = s := by rw [Gm.name, hg0f]; rfl
            have hlt1 := fun k => HD.out.foot_lt (k := k)
            have hct := put_any h2 g0 (by rw [hg0b, hg0v, hg0f]; exact hbk) (by rw [hg0v, hg0f]; exact World.ownsRow_nil _ _ _ _) (by rw [hg0n, hg0f]; exact ⟨Nat.le_refl _, Nat.zero_le _, hsl⟩)
              (fun y hy _ => ⟨by rw [hg0b]; have := hlt1 _ (.inr (.inr ⟨y, hy, .inl rfl⟩)); omega, fun k e _ => by rw [hg0v] at e; cases e⟩)
              (Nat.le_trans (length_with _ _) (by omega))
            rw [hg0n, hg0b] at hct
            have HG := Lib.hid hg0f
            have HGB := Lib.hid hg0b
            have HGV := Lib.hid hg0v
            have HGN := Lib.hid hg0n
            clear hg0 hg0f hg0b hg0v hg0n hbk
            have HH2 := Lib.hid h2
            clear h2
            refine hct.mono ?_
            rintro e w3 ⟨rfl, hD3, hO3⟩
            have HD3 := Lib.hid hD3
            clear hD3 hct
            have hS13 : Stp w1 w3 (foot pb mb gs) (foot pb mb (withK Gm.name g0 gs)) := by
              refine ⟨⟨hO3.os, hO3.tape, hO3.output, ?_, fun k hk hn => ?_⟩, fun k hk => ?_⟩
              · have := hO3.size; rw [World.size_alloc] at this; omega
              · rw [hO3.block k (by rw [World.size_alloc]; omega) (fun e => hn (.inr (.inl e))), Below.heap_alloc _ _ _ hk]
              · rcases foot_with hk with e | e | e
                · exact .inl e
                · rw [HGB.out] at e; exact .inr (by omega)
                · rw [HGV.out] at e; cases e
            have hS03 := hS.trans hS13
            have hmem : g0 ∈ withK Gm.name g0 gs := self_with g0 gs
            have hl3 : Sl w3 A l.length (bv l) := sl_stp hl hS03 hA
            have cf := HD3.out.f0 hmem
            rw [HGB.out, HGV.out] at cf
            have hnw : (withK Gm.name g0 gs).length ≤ 256 := HD3.out.few
            have harm : ∀ (A4 : Option Addr) (c4 : Nat) (w4 : World), w4.ownsRow 0 5 1 (.slice A4 (0 + l.length) c4) (0 + l.length) ([] ++ bv l) → w3.grownBy w4 none → ((Value.slice A4 (0 + l.length) c4).ownBlock = none ∨ (Value.slice A4 (0 + l.length) c4).ownBlock = some w3.heap.size) →
                w4.cell? ⟨w1.heap.size, 0, none⟩ = some (.slice none 0 0) ∧ w4.frozen? ⟨w1.heap.size, 0, none⟩ = false ∧ (∃ g : Gm, g.f = ⟨s, (emptyF s).data ++ l, (emptyF s).syn⟩ ∧ Dr (w4.setCell ⟨w1.heap.size, 0, none⟩ (.slice A4 l.length c4)) pb mb (withK Gm.name g gs) (wrap64 (st + 1)) ar (lf1 ar lf) ∧ Stp w' (w4.setCell ⟨w1.heap.size, 0, none⟩ (.slice A4 l.length c4)) (foot pb mb gs) (foot pb mb (withK Gm.name g gs))) := by
              intro A4 c4 w4 ho hg hat
              rw [Nat.zero_add] at ho hat
              have hfin := app_fin HD3.out hmem (l := l) (v' := .slice A4 l.length c4) (w4 := w4) (by rw [HG.out]; show w4.ownsRow 0 _ 1 _ (0 + l.length) ([] ++ bv l); rw [Nat.zero_add]; exact ho) (by rw [HGV.out]; exact hg) (by rw [HGV.out]; exact hat) (by rw [HG.out]; show 0 + l.length ≤ 262144; omega)
              rw [HGB.out] at hfin
              obtain ⟨q1, q2, q3⟩ := hfin
              refine ⟨?_, q1.frozen 0, ⟨⟨g0.f.name, g0.f.data ++ l, g0.f.syn⟩, w1.heap.size, .slice A4 l.length c4⟩, ?_, ?_, ?_⟩
              · rw [q1.cell (k := 0) rfl, HGV.out]; rfl
              · simp only [HG.out]; rfl
              · rwa [with_twice (by rfl) H.out.rises] at q2
              · rw [with_twice (by rfl) H.out.rises] at q3
                exact hS03.trans q3
            go_wp2_with (at_builtin; refine wpList_app _ rfl (.tmp 54) (.tmp 55) 36 rfl 0 bytesElD (by decide) _ 0 [] rfl (World.ownsRow_nil _ _ _ _) A l.length c (bv l) rfl hl3 (bv_one _) (by omega) (Nat.zero_le _) ?_; intro A4 c4 w4 hown4 hg4 hat4; obtain ⟨cc4, fz4, hz4⟩ := harm A4 c4 w4 hown4 hg4 hat4; have HZ := Lib.hid hz4; clear hz4 hown4)
            go_ret
            exact ⟨rfl, HZ.out⟩
    | some g =>
      rw [hf] at hlk
      simp only [ptr] at hlk
      have hg := find_some hf
      have hs0 : sizeG s gs = g.f.data.length := by simp [sizeG, hf]
      rw [hs0] at hsz
      have hof : oldF s gs = g.f := by simp [oldF, hf]
      obtain ⟨g1, g2, g3⟩ := h.file g hg.1
      have hgd := g3.2.1
      have hfd : g.f.data.length = g.f.data.length := rfl
      by_cases hbig : (262144 : Int) < g.f.data.length + l.length
      · have he : appE s l.length gs ar lf = 5 := by
          simp only [appE, hv, hf]
          rw [if_neg (by decide), if_pos (.inr (by rw [hs0]; omega))]
        rw [he]
        simp only [show ¬ ((5 : Int) = 0) from by decide, if_false]
        have H := Lib.hid h
        have hw : wrap64 ((g.f.data.length : Int) + l.length) = g.f.data.length + l.length := wrap64_id (by omega)
        clear hv he hf hs0 hof h hg g1 g2 g3
        go_enter Tryz.func55, Tryz.ntmps55
        go_wp2_with (first
          | (go_at_call 80; refine hvn.mono ?_; rintro e w' ⟨rfl, rfl⟩)
          | (go_at_call 50; refine hsz.mono ?_; rintro e w' ⟨rfl, rfl⟩))
        go_ret
        exact ⟨rfl, H.out, Stp.refl _ _⟩
      · have hnf : ¬ ((findK Gm.name s gs = none ∧ 256 ≤ gs.length) ∨ 262144 < sizeG s gs + l.length) := by rw [hs0, hf]; rintro (⟨h1, _⟩ | h1); cases h1; omega
        have he : appE s l.length gs ar lf = code1 ar lf := by
          simp only [appE, hv, code1]
          rw [if_neg (by decide), if_neg hnf]
        have hw : wrap64 ((g.f.data.length : Int) + l.length) = g.f.data.length + l.length := wrap64_id (by omega)
        cases hd : dead ar lf with
        | true =>
          have he2 : appE s l.length gs ar lf = 6 := by rw [he]; simp [code1, hd]
          rw [he2]
          simp only [show ¬ ((6 : Int) = 0) from by decide, if_false]
          simp only [code1, st1, lf1, hd, if_true] at hst
          have H := Lib.hid h
          clear hv he he2 hf hs0 hof h hnf hd hg g1 g2 g3
          go_enter Tryz.func55, Tryz.ntmps55
          go_wp2_with (first
            | (go_at_call 80; refine hvn.mono ?_; rintro e w' ⟨rfl, rfl⟩)
            | (go_at_call 50; refine hsz.mono ?_; rintro e w' ⟨rfl, rfl⟩)
            | (go_at_call 81; refine hst.mono ?_; rintro e w1 ⟨rfl, hD, hS⟩; have HD := Lib.hid hD; clear hD))
          go_ret
          exact ⟨rfl, HD.out, hS⟩
        | false =>
          have he2 : appE s l.length gs ar lf = 0 := by rw [he]; simp [code1, hd]
          rw [he2, hof]
          simp only [if_true]
          simp only [code1, st1, hd, if_false, Bool.false_eq_true] at hst
          have H := Lib.hid h
          have HFN := Lib.hid hf
          have HGM := Lib.hid hg
          obtain ⟨Ag, cg, hgv⟩ := own_form g2
          have HGV := Lib.hid hgv
          clear hv he he2 hf hs0 hof h hnf hd hg g1 g2 g3 hgv
          go_enter Tryz.func55, Tryz.ntmps55
          go_wp2_with (first
            | (go_at_call 80; refine hvn.mono ?_; rintro e w' ⟨rfl, rfl⟩)
            | (go_at_call 50; refine hsz.mono ?_; rintro e w' ⟨rfl, rfl⟩)
            | (go_at_call 81; refine hst.mono ?_; rintro e w1 ⟨rfl, hD, hS⟩; have HD := Lib.hid hD; have cf := hD.f0 HGM.out.1; rw [HGV.out] at cf; clear hD
               have hl3 := sl_stp hl hS hA
               have harm : ∀ (A4 : Option Addr) (c4 : Nat) (w4 : World), w4.ownsRow 0 5 1 (.slice A4 (g.f.data.length + l.length) c4) (g.f.data.length + l.length) (bv g.f.data ++ bv l) → w1.grownBy w4 (Value.slice Ag g.f.data.length cg).ownBlock → ((Value.slice A4 (g.f.data.length + l.length) c4).ownBlock = (Value.slice Ag g.f.data.length cg).ownBlock ∨ (Value.slice A4 (g.f.data.length + l.length) c4).ownBlock = some w1.heap.size) →
                   w4.cell? ⟨g.blk, 0, none⟩ = some (.slice Ag g.f.data.length cg) ∧ w4.frozen? ⟨g.blk, 0, none⟩ = false ∧ (∃ g' : Gm, g'.f = ⟨s, g.f.data ++ l, g.f.syn⟩ ∧ Dr (w4.setCell ⟨g.blk, 0, none⟩ (.slice A4 (g.f.data.length + l.length) c4)) pb mb (withK Gm.name g' gs) (wrap64 (st + 1)) ar (lf1 ar lf) ∧ Stp w' (w4.setCell ⟨g.blk, 0, none⟩ (.slice A4 (g.f.data.length + l.length) c4)) (foot pb mb gs) (foot pb mb (withK Gm.name g' gs))) := by
                 intro A4 c4 w4 ho hg hat
                 have hfin := app_fin HD.out HGM.out.1 (l := l) (v' := .slice A4 (g.f.data.length + l.length) c4) (w4 := w4) ho (by rw [HGV.out]; exact hg) (by rw [HGV.out]; exact hat) (by omega)
                 obtain ⟨q1, q2, q3⟩ := hfin
                 refine ⟨by rw [q1.cell (k := 0) rfl, HGV.out]; rfl, q1.frozen 0, _, ?_, q2, hS.trans q3⟩
                 rw [← HGM.out.2])
            | (at_builtin; refine wpList_app _ rfl (.tmp 54) (.tmp 55) 36 rfl 0 bytesElD (by decide) _ g.f.data.length (bv g.f.data) rfl (by rw [← HGV.out]; exact (HD.out.file g HGM.out.1).2.1) A l.length c (bv l) rfl hl3 (bv_one _) (by omega) (Nat.zero_le _) ?_; intro A4 c4 w4 hown4 hg4 hat4; obtain ⟨cc4, fz4, hz4⟩ := harm A4 c4 w4 hown4 hg4 hat4; have HZ := Lib.hid hz4; clear hz4 hown4))
          go_ret
          exact ⟨rfl, HZ.out⟩
end Go.Proofs.YtnbomifnbhijbaaGreatDoor
