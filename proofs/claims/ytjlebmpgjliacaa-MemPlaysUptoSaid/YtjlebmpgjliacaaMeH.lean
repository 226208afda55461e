/-
  Put.
-/
import Derived.Test.YtjlebmpgjliacaaMeG
import Derived.Deep.DeepCutAuto
import Derived.RegionTactic
import Derived.BigRegion
import Derived.ChangeAlike
import Derived.BigGuardPart
import Derived.Deep.RegionWith
import Derived.Deep.RegionHeld3
import Derived.StillTailTactics
namespace Go.Proofs.Ytjlebmpgjliacaa
open Go.RowKit
set_option linter.unusedVariables false

/-- Is it there already? -/
def dupB (N : List Nd) (p : Nat) (e : En) : Bool := match N[p]? with
  | some m => (m.e.key == e.key) && decide (m.e.seq = e.seq)
  | none => false
def putE (N : List Nd) (p : Nat) (e : En) : Int := if chk e ≠ 0 then chk e else if dupB N p e then 2 else 0
/-- How high a tower becomes. -/
def hgt (h : Int) : Nat := (max 1 (min h 12)).toNat
/-- What Put leaves. -/
def PutPost (w : World) (tb : Nat) (N : List Nd) (byt : Int) (p : Nat) (e : En) (height : Int) (r : Ending) (w' : World) : Prop :=
  r = .returned (.int .i64 (putE N p e)) ∧
  if putE N p e = 0 then ∃ b, w.heap.size ≤ b ∧ Tb w' tb (ins N p ⟨e, ((N.length + 1 : Nat) : Int), b, hgt height⟩) ((N.length + 1 : Nat) : Int) (byt + (e.key.length + e.val.length : Nat)) ∧ Oth (tfoot tb N) w w'
  else Tb w' tb N (N.length : Int) byt ∧ Below w.heap.size w w'
theorem tbc_app (N : List Nd) (cnt byt : Int) : ∃ l : List Value, l.length = 17 ∧ ∀ c b, (tbc N c b) = (l ++ [Value.int .i64 c, Value.int .i64 b]).toArray :=
  ⟨ec zE ++ [Value.int .i64 0] ++ nxs N 0, by simp [ec, nxs_len], fun c b => rfl⟩
theorem Tb.setCnt {w : World} {tb : Nat} {N : List Nd} {cnt byt : Int} (h : Tb w tb N cnt byt) (c : Int) : Tb (w.setCell ⟨tb, 17, none⟩ (.int .i64 c)) tb N c byt := by
  obtain ⟨l, hl, he⟩ := tbc_app N cnt byt
  refine ⟨?_, fun i n hn => (h.nd i n hn).keep (setCell_other _ _ _ (blk_ne h.hd (h.nd i n hn) (by decide)).symm), h.nodup, h.hts⟩
  have := h.hd.set 17 (.int .i64 c)
  rw [he] at this ⊢
  rw [show (l ++ [Value.int .i64 cnt, Value.int .i64 byt]).toArray.setIfInBounds 17 (.int .i64 c) = (l ++ [Value.int .i64 c, Value.int .i64 byt]).toArray from by
    apply Array.ext'
    simp [hl]] at this
  exact this
theorem Tb.setByt {w : World} {tb : Nat} {N : List Nd} {cnt byt : Int} (h : Tb w tb N cnt byt) (c : Int) : Tb (w.setCell ⟨tb, 18, none⟩ (.int .i64 c)) tb N cnt c := by
  obtain ⟨l, hl, he⟩ := tbc_app N cnt byt
  refine ⟨?_, fun i n hn => (h.nd i n hn).keep (setCell_other _ _ _ (blk_ne h.hd (h.nd i n hn) (by decide)).symm), h.nodup, h.hts⟩
  have := h.hd.set 18 (.int .i64 c)
  rw [he] at this ⊢
  rw [show (l ++ [Value.int .i64 cnt, Value.int .i64 byt]).toArray.setIfInBounds 18 (.int .i64 c) = (l ++ [Value.int .i64 cnt, Value.int .i64 c]).toArray from by
    apply Array.ext'
    simp [hl]] at this
  exact this
theorem wrap64_id {x : Int} (h : -9223372036854775808 ≤ x ∧ x < 9223372036854775808) : wrap64 x = x := by
  unfold wrap64; omega
theorem chk_len {e : En} (h : chk e = 0) : e.key.length ≤ 64 ∧ e.val.length ≤ 1024 ∧ 1 ≤ e.seq ∧ e.seq ≤ 4611686018427387904 := by
  unfold chk at h
  split at h
  · omega
  · rename_i h1
    split at h
    · omega
    · rename_i h2
      simp only [not_or] at h1 h2
      omega
theorem PutPost.bad {w w' : World} {tb : Nat} {N : List Nd} {byt : Int} {p : Nat} {e : En} {height c : Int} (he : putE N p e = c) (hc : c ≠ 0) (h : Tb w' tb N (N.length : Int) byt) (hb : Below w.heap.size w w') : PutPost w tb N byt p e height (.returned (.int .i64 c)) w' := by
  unfold PutPost
  rw [he, if_neg hc]
  exact ⟨rfl, h, hb⟩
/-- Where Put stands. -/
structure PuS (w V : World) (tb b4 b8 : Nat) (N0 N : List Nd) (cnt byt : Int) (e : En) (p : Nat) : Prop where
  t : Tb V tb N cnt byt
  bx : Blk V b4 #[.string (str e.key), .int .i64 e.seq, .bool e.del, .string (str e.val)] 30
  ar : Blk V b8 (lasts tb N0 p 0).toArray 46
  oth : Oth (tfoot tb N0) w V
theorem PuS.drewN {w V : World} {tb b4 b8 p : Nat} {N0 N : List Nd} {cnt byt : Int} {e : En} (h : PuS w V tb b4 b8 N0 N cnt byt e p) (q : Nat) : PuS w (V.drewN q) tb b4 b8 N0 N cnt byt e p :=
  ⟨h.t.keep fun _ _ => rfl, h.bx, h.ar, ⟨h.oth.os, h.oth.tape, h.oth.output, h.oth.size, h.oth.block⟩⟩
theorem PuS.setCnt {w V : World} {tb b4 b8 p : Nat} {N0 N : List Nd} {cnt byt : Int} {e : En} (h : PuS w V tb b4 b8 N0 N cnt byt e p) (c : Int) : PuS w (V.setCell ⟨tb, 17, none⟩ (.int .i64 c)) tb b4 b8 N0 N c byt e p :=
  ⟨h.t.setCnt c, h.bx.keep (setCell_other _ _ _ (blk_ne h.bx h.t.hd (by decide))), h.ar.keep (setCell_other _ _ _ (blk_ne h.ar h.t.hd (by decide))),
    ⟨h.oth.os, h.oth.tape, h.oth.output, by rw [setCell_size]; exact h.oth.size, fun k hk hn => (setCell_other _ _ _ (fun e => hn (.inl e))).trans (h.oth.block k hk hn)⟩⟩
theorem PuS.setByt {w V : World} {tb b4 b8 p : Nat} {N0 N : List Nd} {cnt byt : Int} {e : En} (h : PuS w V tb b4 b8 N0 N cnt byt e p) (c : Int) : PuS w (V.setCell ⟨tb, 18, none⟩ (.int .i64 c)) tb b4 b8 N0 N cnt c e p :=
  ⟨h.t.setByt c, h.bx.keep (setCell_other _ _ _ (blk_ne h.bx h.t.hd (by decide))), h.ar.keep (setCell_other _ _ _ (blk_ne h.ar h.t.hd (by decide))),
    ⟨h.oth.os, h.oth.tape, h.oth.output, by rw [setCell_size]; exact h.oth.size, fun k hk hn => (setCell_other _ _ _ (fun e => hn (.inl e))).trans (h.oth.block k hk hn)⟩⟩
theorem PuS.below {w V V' : World} {tb b4 b8 p : Nat} {N0 N : List Nd} {cnt byt : Int} {e : En} (h : PuS w V tb b4 b8 N0 N cnt byt e p) (hb : Below V.heap.size V V') : PuS w V' tb b4 b8 N0 N cnt byt e p :=
  ⟨h.t.below hb (Nat.le_refl _), h.bx.keep (hb.block _ h.bx.lt), h.ar.keep (hb.block _ h.ar.lt), ⟨hb.os.trans h.oth.os, hb.tape.trans h.oth.tape, hb.output.trans h.oth.output, Nat.le_trans h.oth.size hb.size, fun k hk hn => (hb.block k (Nat.lt_of_lt_of_le hk h.oth.size)).trans (h.oth.block k hk hn)⟩⟩
theorem Tb.pos {w : World} {tb : Nat} {N : List Nd} {cnt byt : Int} (h : Tb w tb N cnt byt) {i : Nat} (hi : i ≤ N.length) : ∃ cs t, Blk w (ba tb N i) cs t ∧ (t = 50 ∨ t = 48) := by
  cases i with
  | zero => exact ⟨_, _, h.hd, .inl rfl⟩
  | succ i =>
    have hl : N[i]? = some N[i] := List.getElem?_eq_getElem hi
    have e : ba tb N (i + 1) = N[i].blk := by simp only [ba, hl]
    exact ⟨_, _, e ▸ h.nd i _ hl, .inr rfl⟩
theorem Tb.pos_ne {w : World} {tb : Nat} {N : List Nd} {cnt byt : Int} (h : Tb w tb N cnt byt) {i j : Nat} (hi : i ≤ N.length) (hj : j ≤ N.length) (hn : i ≠ j) : ba tb N i ≠ ba tb N j := by
  have key : ∀ {j : Nat}, j + 1 ≤ N.length → tb ≠ ba tb N (j + 1) := fun {j} hj => by
    have hl : N[j]? = some N[j] := List.getElem?_eq_getElem hj
    have e : ba tb N (j + 1) = N[j].blk := by simp only [ba, hl]
    rw [e]
    exact blk_ne h.hd (h.nd j _ hl) (by decide)
  cases i with
  | zero => cases j with
    | zero => exact absurd rfl hn
    | succ j => exact key hj
  | succ i => cases j with
    | zero => exact (key hi).symm
    | succ j =>
      have hl : N[i]? = some N[i] := List.getElem?_eq_getElem hi
      have hl2 : N[j]? = some N[j] := List.getElem?_eq_getElem hj
      have e : ba tb N (i + 1) = N[i].blk := by simp only [ba, hl]
      have e2 : ba tb N (j + 1) = N[j].blk := by simp only [ba, hl2]
      rw [e, e2]
      intro e3
      exact hn (by rw [nodup_blk h hl hl2 e3])
theorem ba_foot {tb : Nat} {N : List Nd} {i : Nat} (hi : i ≤ N.length) : tfoot tb N (ba tb N i) := by
  cases i with
  | zero => exact .inl rfl
  | succ i =>
    have hl : N[i]? = some N[i] := List.getElem?_eq_getElem hi
    exact .inr ⟨N[i], List.getElem_mem _, by simp only [ba, hl]⟩
/-- One level more. -/
theorem PuS.level {w V : World} {tb b4 b8 p k : Nat} {N : List Nd} {cnt byt : Int} {e : En} {x : Nd} (h : PuS w V tb b4 b8 N (ins N p (x.to k)) cnt byt e p) (hp1 : p ≤ N.length) (hk : k < 12) (hx : w.heap.size ≤ x.blk) :
    PuS w ((V.setCell ⟨x.blk, 5 + k, none⟩ (pnt (nxN (ins N p (x.to k)) (lastP N k p) k))).drew.setCell ⟨ba tb N (lastP N k p), 5 + k, none⟩ (.pointer (some ⟨x.blk, 0, none⟩))) tb b4 b8 N (ins N p (x.to (k + 1))) cnt byt e p := by
  have hlp := lastP_le N k p
  obtain ⟨cs, t, hb0, ht⟩ := h.t.pos (i := lastP N k p) (by rw [ins_len hp1]; omega)
  rw [ba_lt hp1 hlp] at hb0
  have hbx := h.t.nd p (x.to k) (ins_at hp1)
  have hkeep : ∀ r, r ≠ x.blk → r ≠ ba tb N (lastP N k p) → ((V.setCell ⟨x.blk, 5 + k, none⟩ (pnt (nxN (ins N p (x.to k)) (lastP N k p) k))).drew.setCell ⟨ba tb N (lastP N k p), 5 + k, none⟩ (.pointer (some ⟨x.blk, 0, none⟩))).heap[r]? = V.heap[r]? := fun r h1 h2 =>
    (setCell_other _ _ _ h2).trans (setCell_other V ⟨x.blk, 5 + k, none⟩ _ h1)
  refine ⟨(h.t.level hp1 hk).keep fun _ _ => rfl, h.bx.keep (hkeep _ (blk_ne h.bx hbx (by decide)) (blk_ne h.bx hb0 (by rcases ht with rfl | rfl <;> decide))), h.ar.keep (hkeep _ (blk_ne h.ar hbx (by decide)) (blk_ne h.ar hb0 (by rcases ht with rfl | rfl <;> decide))),
    ⟨h.oth.os, h.oth.tape, h.oth.output, ?_, fun r hr hn => ?_⟩⟩
  · rw [setCell_size]
    show _ ≤ (V.setCell _ _).heap.size
    rw [setCell_size]
    exact h.oth.size
  · exact (hkeep r (by omega) (fun e => hn (e ▸ ba_foot (by omega)))).trans (h.oth.block r hr hn)
set_option maxRecDepth 40000 in
set_option maxHeartbeats 8000000 in
theorem put_any {w : World} {tb : Nat} {N : List Nd} {byt : Int} (h : Tb w tb N (N.length : Int) byt) (hT : Tall N) (hN : N.length ≤ 1000) (hbt : 0 ≤ byt ∧ byt ≤ 10000000) (e : En) (height : Int) (hh : -9223372036854775808 ≤ height ∧ height ≤ 9223372036854775807) {p : Nat} (hs : Split N e.key e.seq p) :
    Calls Try.prog 13 #[.pointer (some ⟨tb, 0, none⟩), ev e, .int .i64 height] w (PutPost w tb N byt p e height) := by
  have hb0 : Below w.heap.size w (w.alloc (.cells #[.string (str e.key), .int .i64 e.seq, .bool e.del, .string (str e.val)] 30)) := (Below.refl _ w).alloc (Nat.le_refl _) _
  have hck := check_any e (w.alloc (.cells #[.string (str e.key), .int .i64 e.seq, .bool e.del, .string (str e.val)] 30))
  have hbx : Blk (w.alloc (.cells #[.string (str e.key), .int .i64 e.seq, .bool e.del, .string (str e.val)] 30)) w.heap.size #[.string (str e.key), .int .i64 e.seq, .bool e.del, .string (str e.val)] 30 := Blk.new w _ _
  have H := Lib.hid h
  have HS := Lib.hid hs
  rw [ev_lit] at hck ⊢
  by_cases hc : chk e = 0
  · rw [hc] at hck
    have HC := Lib.hid hc
    clear hc h hs
    go_enter Try.func13, Try.ntmps13
    go_wp2_with fail
    refine hck.mono ?_
    rintro r w1 ⟨rfl, hb1⟩
    have hb01 := hb0.trans (hb1.mono (by simp))
    have hbx1 := hbx.keep (hb1.block _ hbx.lt)
    have hT1 := H.out.below hb01 (Nat.le_refl _)
    have x0 : w1.cell? ⟨w.heap.size, 0, none⟩ = some (.string (str e.key)) := hbx1.cell rfl
    have x1 : w1.cell? ⟨w.heap.size, 1, none⟩ = some (.int .i64 e.seq) := hbx1.cell rfl
    have hbf := before_any hT1 HS.out
    have H1 := Lib.hid (And.intro hb01 (And.intro hbx1 hT1))
    clear hck hb0 hbx hb1 hb01 hbx1 hT1
    go_wp2_with fail
    refine hbf.mono ?_
    rintro r w2 ⟨rfl, hb2⟩
    clear hbf
    have hl : (lasts tb N p 0).toArray = #[Value.pointer (some ⟨ba tb N (lastP N 0 p), 0, none⟩), .pointer (some ⟨ba tb N (lastP N 1 p), 0, none⟩), .pointer (some ⟨ba tb N (lastP N 2 p), 0, none⟩), .pointer (some ⟨ba tb N (lastP N 3 p), 0, none⟩), .pointer (some ⟨ba tb N (lastP N 4 p), 0, none⟩), .pointer (some ⟨ba tb N (lastP N 5 p), 0, none⟩), .pointer (some ⟨ba tb N (lastP N 6 p), 0, none⟩), .pointer (some ⟨ba tb N (lastP N 7 p), 0, none⟩), .pointer (some ⟨ba tb N (lastP N 8 p), 0, none⟩), .pointer (some ⟨ba tb N (lastP N 9 p), 0, none⟩), .pointer (some ⟨ba tb N (lastP N 10 p), 0, none⟩), .pointer (some ⟨ba tb N (lastP N 11 p), 0, none⟩)] := rfl
    rw [hl, lastP_zero hT p HS.out.le]
    have hT2 : ∀ o, Tb (w2.alloc o) tb N (N.length : Int) byt := fun o => (H1.out.2.2.below hb2 (Nat.le_refl _)).below ((Below.refl _ w2).alloc (Nat.le_refl _) o) (Nat.le_refl _)
    have c5 : ∀ o, (w2.alloc o).cell? ⟨ba tb N p, 5, none⟩ = some (pnt N[p]?) := fun o => by
      have := (hT2 o).next (i := p) (L := 0) HS.out.le (by decide)
      rwa [nx_zero hT HS.out.le] at this
    have H2 := Lib.hid hT2
    have HL := Lib.hid hl
    clear hT2 hl x0 x1
    go_wp2_with fail
    obtain ⟨w3, hw3⟩ : ∃ w3, w3 = w2.alloc (.cells #[Value.pointer (some ⟨ba tb N p, 0, none⟩), .pointer (some ⟨ba tb N (lastP N 1 p), 0, none⟩), .pointer (some ⟨ba tb N (lastP N 2 p), 0, none⟩), .pointer (some ⟨ba tb N (lastP N 3 p), 0, none⟩), .pointer (some ⟨ba tb N (lastP N 4 p), 0, none⟩), .pointer (some ⟨ba tb N (lastP N 5 p), 0, none⟩), .pointer (some ⟨ba tb N (lastP N 6 p), 0, none⟩), .pointer (some ⟨ba tb N (lastP N 7 p), 0, none⟩), .pointer (some ⟨ba tb N (lastP N 8 p), 0, none⟩), .pointer (some ⟨ba tb N (lastP N 9 p), 0, none⟩), .pointer (some ⟨ba tb N (lastP N 10 p), 0, none⟩), .pointer (some ⟨ba tb N (lastP N 11 p), 0, none⟩)] 46) := ⟨_, rfl⟩
    rw [← hw3]
    have hla : Blk w3 w2.heap.size (lasts tb N p 0).toArray 46 := by rw [hw3, HL.out, lastP_zero hT p HS.out.le]; exact Blk.new w2 _ _
    have hb13 : Below w1.heap.size w1 w3 := by rw [hw3]; exact hb2.alloc hb2.size _
    have hT3 := H2.out (.cells #[Value.pointer (some ⟨ba tb N p, 0, none⟩), .pointer (some ⟨ba tb N (lastP N 1 p), 0, none⟩), .pointer (some ⟨ba tb N (lastP N 2 p), 0, none⟩), .pointer (some ⟨ba tb N (lastP N 3 p), 0, none⟩), .pointer (some ⟨ba tb N (lastP N 4 p), 0, none⟩), .pointer (some ⟨ba tb N (lastP N 5 p), 0, none⟩), .pointer (some ⟨ba tb N (lastP N 6 p), 0, none⟩), .pointer (some ⟨ba tb N (lastP N 7 p), 0, none⟩), .pointer (some ⟨ba tb N (lastP N 8 p), 0, none⟩), .pointer (some ⟨ba tb N (lastP N 9 p), 0, none⟩), .pointer (some ⟨ba tb N (lastP N 10 p), 0, none⟩), .pointer (some ⟨ba tb N (lastP N 11 p), 0, none⟩)] 46)
    rw [← hw3] at hT3
    clear hw3 c5 H2 hb2
    have hbx3 := H1.out.2.1.keep (hb13.block _ H1.out.2.1.lt)
    have y0 : w3.cell? ⟨w.heap.size, 0, none⟩ = some (.string (str e.key)) := hbx3.cell rfl
    have y1 : w3.cell? ⟨w.heap.size, 1, none⟩ = some (.int .i64 e.seq) := hbx3.cell rfl
    have H3 := Lib.hid (And.intro hla (And.intro hb13 (And.intro hT3 hbx3)))
    clear hla hb13 hbx3
    go_cut [9, 50] (fun s9 s50 wx => s9 = pnt N[p]? ∧ s50 = .bool (dupB N p e) ∧ ∃ q, wx = w3.drewN q)
    case first =>
      have htl : ∀ l : List UInt8, (str l).toList = l := fun l => ByteArray.toList_mk l
      have hor : N[p]? = none ∨ ∃ m, N[p]? = some m := by cases N[p]? <;> simp
      rcases hor with hm | ⟨m, hm⟩
      · -- there is none
        have HD := Lib.hid (And.intro (show dupB N p e = false by unfold dupB; rw [hm]) (show pnt N[p]? = .pointer none by rw [hm]; rfl))
        have hm9 : pnt N[p]? = .pointer none := HD.out.2
        rw [hm9]
        clear htl hT3 hm9 hm
        go_quiet (fail)
        go_wp2_with fail
        go_meet
        exact ⟨HD.out.2.symm, by rw [HD.out.1], _, rfl⟩
      · obtain ⟨z0, z1, -, -, -⟩ := hT3.key hm
        by_cases hk : m.e.key = e.key
        · by_cases hsq : m.e.seq = e.seq
          · -- the same
            have HD := Lib.hid (And.intro (show dupB N p e = true by unfold dupB; rw [hm]; simp [hk, hsq]) (show pnt N[p]? = .pointer (some ⟨m.blk, 0, none⟩) by rw [hm]; rfl))
            have hm9 : pnt N[p]? = .pointer (some ⟨m.blk, 0, none⟩) := HD.out.2
            rw [hm9]
            rw [hk] at z0
            rw [hsq] at z1
            clear htl hT3 hm9 hm hk hsq
            go_quiet (fail)
            go_wp2_with fail
            go_meet
            exact ⟨HD.out.2.symm, by rw [HD.out.1], _, rfl⟩
          · -- another number
            have HD := Lib.hid (And.intro (show dupB N p e = false by unfold dupB; rw [hm]; simp [hsq]) (show pnt N[p]? = .pointer (some ⟨m.blk, 0, none⟩) by rw [hm]; rfl))
            have hm9 : pnt N[p]? = .pointer (some ⟨m.blk, 0, none⟩) := HD.out.2
            rw [hm9]
            rw [hk] at z0
            clear htl hT3 hm9 hm hk
            go_quiet (fail)
            go_wp2_with fail
            go_meet
            exact ⟨HD.out.2.symm, by rw [HD.out.1]; congr 1; simpa using hsq, _, rfl⟩
        · have g2 : ((str m.e.key).toList == (str e.key).toList) = false := by rw [htl, htl]; simpa using hk
          have g3 : ¬ (str m.e.key).toList = (str e.key).toList := by rw [htl, htl]; exact hk
          have HD := Lib.hid (And.intro (show dupB N p e = false by unfold dupB; rw [hm]; simp [hk]) (show pnt N[p]? = .pointer (some ⟨m.blk, 0, none⟩) by rw [hm]; rfl))
          have hm9 : pnt N[p]? = .pointer (some ⟨m.blk, 0, none⟩) := HD.out.2
          rw [hm9]
          clear htl hT3 hm9 hm hk
          go_quiet (fail)
          go_wp2_with fail
          go_meet
          exact ⟨HD.out.2.symm, by rw [HD.out.1], _, rfl⟩
    case rest =>
      obtain ⟨rfl, rfl, q, rfl⟩ := hcut
      have hb3 := H1.out.1.trans (H3.out.2.1.mono H1.out.1.size)
      by_cases hd : dupB N p e = true
      · have he : putE N p e = 2 := by unfold putE; rw [HC.out, hd]; rfl
        rw [hd]
        clear hT3 y0 y1
        go_wp2_with fail
        go_ret
        exact PutPost.bad he (by decide) (H3.out.2.2.1.keep fun _ _ => rfl) (hb3.trans ⟨rfl, rfl, rfl, Nat.le_refl _, fun _ _ => rfl⟩)
      · have he : putE N p e = 0 := by unfold putE; rw [HC.out, if_neg hd]; rfl
        have hd : dupB N p e = false := by simpa using hd
        rw [hd]
        have HE := Lib.hid he
        have hP0 : PuS w (w3.drewN q) tb w.heap.size w2.heap.size N N (N.length : Int) byt e p := ⟨H3.out.2.2.1.keep fun _ _ => rfl, H3.out.2.2.2, H3.out.1, ⟨hb3.os, hb3.tape, hb3.output, hb3.size, fun k hk _ => hb3.block k hk⟩⟩
        have hP1 := Lib.hid (hP0.setCnt ((N.length : Int) + 1))
        clear hd he hP0
        obtain ⟨t0, t1⟩ := hT3.cnt_
        have tf := hT3.hd.frozen
        clear hT3
        go_wp2_with fail
        generalize (w3.drewN q).setCell ⟨tb, 17, none⟩ (.int .i64 ((N.length : Int) + 1)) = w4 at hP1 ⊢
        clear t0 t1 tf y0 y1
        have t1 := hP1.out.t.cnt_.2
        have tf := hP1.out.t.hd.frozen
        have y0 : w4.cell? ⟨w.heap.size, 0, none⟩ = some (.string (str e.key)) := hP1.out.bx.cell rfl
        have y3 : w4.cell? ⟨w.heap.size, 3, none⟩ = some (.string (str e.val)) := hP1.out.bx.cell rfl
        have hks := str_size e.key
        have hvs := str_size e.val
        go_region
        obtain ⟨l1, l2, l3, l4⟩ := chk_len HC.out
        have hw1 : wrap64 ((e.key.length : Int) + e.val.length) = ((e.key.length + e.val.length : Nat) : Int) := by rw [wrap64_id (by omega)]; omega
        have hw2 : wrap64 (byt + ((e.key.length + e.val.length : Nat) : Int)) = byt + ((e.key.length + e.val.length : Nat) : Int) := wrap64_id (by omega)
        rw [hw1, hw2]
        have hP2 := (hP1.out.setByt (byt + ((e.key.length + e.val.length : Nat) : Int))).drewN 1
        change PuS w (w4.setCell ⟨tb, 18, none⟩ (.int .i64 (byt + ((e.key.length + e.val.length : Nat) : Int)))).drew tb w.heap.size w2.heap.size N N ((N.length : Int) + 1) (byt + ((e.key.length + e.val.length : Nat) : Int)) e p at hP2
        generalize (w4.setCell ⟨tb, 18, none⟩ (.int .i64 (byt + ((e.key.length + e.val.length : Nat) : Int)))).drew = w5 at hP2 ⊢
        generalize hB : byt + ((e.key.length + e.val.length : Nat) : Int) = B at hP2
        have HB := Lib.hid hB
        clear t1 tf y0 y3 hP1 hw1 hw2 hB hks hvs
        have hnn := fun V => newNode_any e ((N.length : Int) + 1) V (by omega) (by omega)
        rw [ev_lit] at hnn
        have HNN := Lib.hid hnn
        clear hnn
        have k17 := hP2.t.cnt_.1
        have k0 : w5.cell? ⟨w.heap.size, 0, none⟩ = some (.string (str e.key)) := hP2.bx.cell rfl
        have k1 : w5.cell? ⟨w.heap.size, 1, none⟩ = some (.int .i64 e.seq) := hP2.bx.cell rfl
        have k2 : w5.cell? ⟨w.heap.size, 2, none⟩ = some (.bool e.del) := hP2.bx.cell rfl
        have k3 : w5.cell? ⟨w.heap.size, 3, none⟩ = some (.string (str e.val)) := hP2.bx.cell rfl
        have HP2 := Lib.hid hP2
        clear hP2
        go_wp2_with fail
        go_cut [10] (fun s10 wx => ∃ b, s10 = .pointer (some ⟨b, 0, none⟩) ∧ w.heap.size ≤ b ∧ Blk wx b (ec e ++ [Value.int .i64 ((N.length : Int) + 1)] ++ List.replicate 12 (Value.pointer none)).toArray 48 ∧ PuS w wx tb w.heap.size w2.heap.size N N ((N.length : Int) + 1) B e p ∧ w5.heap.size ≤ b)
        case first =>
          go_region_with (go_at_call 22; refine (HNN.out _).mono ?_; rintro r w6 ⟨b, rfl, hbb, hbk, hb6⟩; have hP6 := (HP2.out.drewN 1).below hb6)
          all_goals
            go_wp2_with fail
            go_meet
            exact ⟨b, rfl, Nat.le_trans HP2.out.oth.size hbb, hbk, hP6, hbb⟩
        case rest =>
          obtain ⟨b, rfl, hwb, hbk, hP, hb5⟩ := hcut
          have hnb : b ∉ N.map Nd.blk := fun hm => by
            obtain ⟨n, hn, e1⟩ := List.mem_map.1 hm
            have := HP2.out.t.foot_lt (.inr ⟨n, hn, rfl⟩)
            omega
          obtain ⟨H0, hH0, hH1, hH2⟩ : ∃ H0 : Nat, max (1 : Int) (min height 12) = (H0 : Int) ∧ 1 ≤ H0 ∧ H0 ≤ 12 := ⟨hgt height, by unfold hgt; omega, by unfold hgt; omega, by unfold hgt; omega⟩
          have HH := Lib.hid (show hgt height = H0 by unfold hgt; omega)
          obtain ⟨x, hx⟩ : ∃ x : Nd, x = ⟨e, (N.length : Int) + 1, b, 0⟩ := ⟨_, rfl⟩
          have hxb : x.blk = b := by rw [hx]
          have hP3 : PuS w wc tb w.heap.size w2.heap.size N (ins N p (x.to 0)) ((N.length : Int) + 1) B e p := ⟨hP.t.base HS.out.le (by rw [hx]; exact hbk) (by rw [hxb]; exact hnb), hP.bx, hP.ar, hP.oth⟩
          have HX := Lib.hid hx
          have HP3 := Lib.hid hP3
          clear hP3 hx hP hbk hnb k17 k0 k1 k2 k3 HP2 HNN hb5
          go_wp2_with fail
          go_loopg [81] H0 (fun g s81 wr => ∃ k : Nat, k + g = H0 ∧ s81 = .int .i64 k ∧ PuS w wr tb w.heap.size w2.heap.size N (ins N p (x.to k)) ((N.length : Int) + 1) B e p)
          case atStart => exact ⟨0, by omega, rfl, HP3.out⟩
          case round =>
            obtain ⟨k, hkg, rfl, hPk⟩ := hrel
            cases gk with
            | zero =>
              obtain rfl : k = H0 := by omega
              have hkH : ¬ ((k : Int) < k) := by omega
              have HPk := Lib.hid hPk
              clear hPk
              go_wp2_with fail
              go_ret
              have hput := HE.out
              unfold PutPost
              rw [hput, if_pos rfl]
              refine ⟨rfl, b, hwb, ?_, HPk.out.oth⟩
              have h1 := HPk.out.t
              rw [HX.out, ← HB.out] at h1
              rw [HH.out]
              exact h1
            | succ g =>
              have hkH : (k : Int) < H0 := by omega
              have hk12 : k < 12 := by omega
              have hkp : (0 : Int) ≤ k := by omega
              obtain ⟨i0, hi0⟩ : ∃ i0, i0 = lastP N k p := ⟨_, rfl⟩
              have hip : i0 ≤ p := hi0 ▸ lastP_le N k p
              obtain ⟨y0, hv0⟩ : ∃ y0, Value.pointer y0 = pnt (nxN (ins N p (x.to k)) i0 k) := by
                cases nxN (ins N p (x.to k)) i0 k with
                | none => exact ⟨none, rfl⟩
                | some n => exact ⟨_, rfl⟩
              obtain ⟨c0, hc0⟩ : ∃ c0, c0 = ba tb N i0 := ⟨_, rfl⟩
              have hple := HS.out.le
              have hlen := ins_len (x := x.to k) hple
              have n0 : wr.cell? ⟨c0, 5 + k, none⟩ = some (.pointer y0) := by
                have := hPk.t.next (i := i0) (L := k) (by omega) hk12
                rwa [ba_lt hple hip, ← hc0, ← hv0] at this
              have bbp : ba tb (ins N p (x.to k)) (p + 1) = b := by simp only [ba, ins_at hple]; exact hxb
              have hxk := hPk.t.nd p (x.to k) (ins_at hple)
              have hxkb : (x.to k).blk = b := hxb
              rw [hxkb] at hxk
              have m0 : ∃ u, wr.cell? ⟨b, 5 + k, none⟩ = some u := ⟨_, bbp ▸ hPk.t.next (i := p + 1) (L := k) (by omega) hk12⟩
              obtain ⟨u0, m0⟩ := m0
              have mf := hxk.frozen (5 + k)
              have a0 : wr.cell? ⟨w2.heap.size, k, none⟩ = some (.pointer (some ⟨c0, 0, none⟩)) := hPk.ar.cell (by
                have : (lasts tb N p 0).toArray[k]? = some (.pointer (some ⟨ba tb N (lastP N k p), 0, none⟩)) := by simp [lasts, hk12]
                rw [hc0, hi0]; exact this)
              have hcb : c0 ≠ b := by
                have h1 := hPk.t.pos_ne (i := i0) (j := p + 1) (by omega) (by omega) (by omega)
                rwa [ba_lt hple hip, bbp, ← hc0] at h1
              have hbb8 : w2.heap.size ≠ b := blk_ne hPk.ar hxk (by decide)
              obtain ⟨cs0, t0, hb00, -⟩ := hPk.t.pos (i := i0) (by omega)
              rw [ba_lt hple hip, ← hc0] at hb00
              have n1 : (wr.setCell ⟨b, 5 + k, none⟩ (.pointer y0)).drew.cell? ⟨c0, 5 + k, none⟩ = some (.pointer y0) := (World.cell?_of_block (w := wr) (setCell_other wr ⟨b, 5 + k, none⟩ _ hcb)).trans n0
              have f1 : (wr.setCell ⟨b, 5 + k, none⟩ (.pointer y0)).drew.frozen? ⟨c0, 5 + k, none⟩ = false := (hb00.keep (w' := (wr.setCell ⟨b, 5 + k, none⟩ (.pointer y0)).drew) (setCell_other wr ⟨b, 5 + k, none⟩ _ hcb)).frozen _
              have a1 : (wr.setCell ⟨b, 5 + k, none⟩ (.pointer y0)).drew.cell? ⟨w2.heap.size, k, none⟩ = some (.pointer (some ⟨c0, 0, none⟩)) := (World.cell?_of_block (w := wr) (setCell_other wr ⟨b, 5 + k, none⟩ _ hbb8)).trans a0
              have hlev := hPk.level hple hk12 (by rw [hxb]; exact hwb)
              rw [hxb, ← hi0, ← hv0, ← hc0] at hlev
              have HPk := Lib.hid hlev
              have HF := Lib.hid (And.intro n1 (And.intro f1 a1))
              clear hPk hi0 hv0 hc0 hlen bbp hxk hxkb hlev n1 f1 a1 hcb hbb8 hb00
              go_wp2_with fail
              go_region
              obtain ⟨n1, f1, a1⟩ := HF.out
              generalize (wr.setCell ⟨b, 5 + k, none⟩ (.pointer y0)).drew = w7 at n1 f1 a1 HPk ⊢
              clear n0 m0 mf a0 HF
              go_wp2_with fail
              go_roundg g
              case measure => omega
              case rel => exact ⟨k + 1, by omega, by go_num, HPk.out⟩
  · have he : putE N p e = chk e := by unfold putE; rw [if_pos hc]
    have HE := Lib.hid (And.intro he hc)
    clear he
    generalize chk e = ce at *
    go_enter Try.func13, Try.ntmps13
    go_wp2_with fail
    refine hck.mono ?_
    rintro r w1 ⟨rfl, hb1⟩
    go_wp2_with fail
    go_ret
    have hb := hb0.trans (hb1.mono (by simp))
    exact PutPost.bad HE.out.1 HE.out.2 (H.out.below hb (Nat.le_refl _)) hb
end Go.Proofs.Ytjlebmpgjliacaa
