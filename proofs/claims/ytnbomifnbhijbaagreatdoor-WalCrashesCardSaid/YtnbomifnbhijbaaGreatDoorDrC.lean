/-
  A drive's steps, and its map written: step, stepOn, put, New; copies of texts and bytes.
-/
import Derived.Test.YtnbomifnbhijbaaGreatDoorDrB
import Derived.Test.YtnbomifnbhijbaaGreatDoorIter
import Derived.Deep.DeepCutAuto
import Derived.Deep.RegionWith
import Derived.Deep.RegionHeld3
import Derived.WalkLawsBesides
import Derived.WalkSpells
namespace Go.Proofs.YtnbomifnbhijbaaGreatDoor
open Go.RowKit Go.Maps
set_option linter.unusedVariables false

theorem bytesElD : El Tryz.prog 36 5 (.int .u8 0) 1 := ⟨Tryz.underlying36, by kernel_rfl, rfl⟩
/-- A new slice of bytes in memory of the call's own; nothing older is written. -/
def FreshY (w : World) (l : List UInt8) (e : Ending) (w' : World) : Prop :=
  ∃ A c, e = .returned (.slice A l.length c) ∧ w'.ownsRow w.heap.size 5 1 (.slice A l.length c) l.length (bv l) ∧ Below w.heap.size w w'

set_option maxHeartbeats 1600000 in
theorem bclone_any (A : Option Addr) (n c : Nat) (l : List UInt8) (w : World) (hs : Sl w A n (bv l)) (hn : n ≤ 140737488355328) :
    Calls Tryz.prog 71 #[.slice A n c] w (FreshY w l) := by
  have hl := hs.len
  subst hl
  have q : ∀ (w : World) (a : Option Addr) (n c n' c' : Nat), (binOp .eql 36 (.slice a n c) (.slice none n' c')).run Tryz.prog w = .ok (.bool a.isNone) w := fun w a n c n' c' => Lib.run_eql_slice_nil w _ _ a n c n' c' Tryz.underlying36
  rcases A with _ | a
  · have h0 : l = [] := by
      rcases Nat.eq_zero_or_pos l.length with h0 | h0
      · exact List.eq_nil_of_length_eq_zero h0
      · obtain ⟨b, o, e, _⟩ := hs.2 h0; cases e
    subst h0
    go_enter Tryz.func71, Tryz.ntmps71
    go_wp2_with fail
    go_ret
    exact ⟨none, 0, rfl, World.ownsRow_nil _ _ _ _, Below.refl _ _⟩
  · go_enter Tryz.func71, Tryz.ntmps71
    go_wp2_with (at_builtin; refine wpList_app _ rfl (.tmp 5) (.tmp 6) 36 rfl w.heap.size bytesElD (by decide) _ 0 [] rfl (World.ownsRow_made w #[] 0 (Nat.le_refl _) (Nat.zero_le _) rfl) (some a) l.length c (bv l) rfl (hs.alloc _) (bv_one _) (by omega) (by simp) ?_; intro A1 c1 w1 hown1 hg1 hat1)
    go_wp2
    go_ret
    refine ⟨A1, c1, by simp, by simpa using hown1, ?_⟩
    exact ((Below.refl _ w).alloc (Nat.le_refl _) _).grown hg1 (by simp) (own_blk (World.ownsRow_made (e := 5) (size := 1) w #[] 0 (Nat.le_refl _) (Nat.zero_le _) rfl))

set_option maxHeartbeats 1600000 in
theorem sclone_any (s : ByteArray) (w : World) (hlim : s.size ≤ 281474976710656) : Calls Tryz.prog 94 #[.string s] w fun e w' => e = .returned (.string s) ∧ Below w.heap.size w w' := by
  go_enter Tryz.func94, Tryz.ntmps94
  go_wp2_with (go_at_call 107; refine (str_clone _ _ hlim).mono ?_; rintro e w' ⟨rfl, hb⟩)
  go_ret
  exact ⟨rfl, hb⟩

/-! ### the struct of a drive written -/
section
variable {w w' : World} {pb mb : Nat} {gs : List Gm} {st lf st' lf' : Int} {ar ar' : Bool}
theorem Dr.ne_pb (h : Dr w pb mb gs st ar lf) {k : Nat} (hk : k = mb ∨ ∃ g ∈ gs, k = g.blk ∨ g.v.ownBlock = some k) : k ≠ pb := by
  rintro rfl
  have hp := h.blk
  unfold Blk at hp
  rcases hk with rfl | ⟨g, hg, rfl | e⟩
  · obtain ⟨es, c, hm⟩ := map_is h.map
    rw [hm] at hp; cases hp
  · have := (h.file g hg).1
    unfold Blk at this
    rw [this] at hp
    injection hp with hp; injection hp with _ h2; exact absurd h2 (by decide)
  · obtain ⟨cur, hb⟩ := own_blk_type (h.file g hg).2.1 e
    unfold Blk at hb
    rw [hb] at hp
    injection hp with hp; injection hp with _ h2; exact absurd h2 (by decide)
theorem Dr.turnP (h : Dr w pb mb gs st ar lf) (hb : Blk w' pb #[.map (some mb), .int .i64 st', .bool ar', .int .i64 lf'] 70) (hk : ∀ k, k ≠ pb → k < w.heap.size → w'.heap[k]? = w.heap[k]?) : Dr w' pb mb gs st' ar' lf' where
  blk := hb
  map := map_at h.map (hk _ (h.ne_pb (.inl rfl)) h.map.lt)
  rises := h.rises
  file g hg := by
    obtain ⟨h1, h2, h3⟩ := h.file g hg
    exact ⟨h1.keep (hk _ (h.ne_pb (.inr ⟨g, hg, .inl rfl⟩)) h1.lt), own_at h2 fun k e => hk _ (h.ne_pb (.inr ⟨g, hg, .inr e⟩)) (h.foot_lt (.inr (.inr ⟨g, hg, .inr e⟩))), h3⟩
  apart := h.apart
  few := h.few
theorem Dr.set1 (h : Dr w pb mb gs st ar lf) (x : Int) : Dr (w.setCell ⟨pb, 1, none⟩ (.int .i64 x)) pb mb gs x ar lf :=
  h.turnP (h.blk.set 1 _) fun k hk _ => setCell_other w _ _ hk
theorem Dr.set2 (h : Dr w pb mb gs st ar lf) (x : Bool) : Dr (w.setCell ⟨pb, 2, none⟩ (.bool x)) pb mb gs st x lf :=
  h.turnP (h.blk.set 2 _) fun k hk _ => setCell_other w _ _ hk
theorem Dr.set3 (h : Dr w pb mb gs st ar lf) (x : Int) : Dr (w.setCell ⟨pb, 3, none⟩ (.int .i64 x)) pb mb gs st ar x :=
  h.turnP (h.blk.set 3 _) fun k hk _ => setCell_other w _ _ hk
theorem Dr.fz (h : Dr w pb mb gs st ar lf) (k : Nat) : w.frozen? ⟨pb, k, none⟩ = false := h.blk.frozen k
end
theorem stp_set {w : World} {S : Nat → Prop} {b k : Nat} {v : Value} (hS : S b) : Stp w (w.setCell ⟨b, k, none⟩ v) S S :=
  ⟨⟨rfl, rfl, rfl, by rw [setCell_size]; exact Nat.le_refl _, fun i _ hn => setCell_other w _ _ (fun e => hn (by rw [e]; exact hS))⟩, fun _ h => .inl h⟩

def st1 (st : Int) (ar : Bool) (lf : Int) : Int := if dead ar lf then st else wrap64 (st + 1)
def lf1 (ar : Bool) (lf : Int) : Int := if dead ar lf then lf else if ar then wrap64 (lf - 1) else lf
def code1 (ar : Bool) (lf : Int) : Int := if dead ar lf then 6 else 0

set_option maxHeartbeats 2000000 in
theorem step_any {w : World} {pb mb : Nat} {gs : List Gm} {st lf : Int} {ar : Bool} (h : Dr w pb mb gs st ar lf) :
    Calls Tryz.prog 81 #[.pointer (some ⟨pb, 0, none⟩)] w fun e w' => e = .returned (.int .i64 (code1 ar lf)) ∧ Dr w' pb mb gs (st1 st ar lf) ar (lf1 ar lf) ∧ Stp w w' (foot pb mb gs) (foot pb mb gs) := by
  cases hd : dead ar lf with
  | true =>
    have hct := dead_any h
    rw [hd] at hct
    go_enter Tryz.func81, Tryz.ntmps81
    go_wp2_with (go_at_call 47; refine hct.mono ?_; rintro e w' ⟨rfl, rfl⟩)
    go_ret
    simp only [code1, st1, lf1, hd, if_true]
    exact ⟨rfl, h, Stp.refl _ _⟩
  | false =>
    have hct := dead_any h
    rw [hd] at hct
    have c1 := h.c1
    have f1 := h.fz 1
    have hA := h.set1 (wrap64 (st + 1))
    have c2 := h.c2
    have c3 := h.c3
    have f3 := h.fz 3
    have hB := hA.set3 (wrap64 (lf - 1))
    have HD := Lib.hid hd
    clear hd
    have HA := Lib.hid hA
    have HB := Lib.hid hB
    have H := Lib.hid h
    clear hA hB h
    cases ar
    · go_enter Tryz.func81, Tryz.ntmps81
      go_wp2_with (go_at_call 47; refine hct.mono ?_; rintro e w' ⟨rfl, rfl⟩)
      go_ret
      simp only [code1, st1, lf1, HD.out, if_false, Bool.false_eq_true]
      exact ⟨rfl, HA.out, stp_set (.inl rfl)⟩
    · go_enter Tryz.func81, Tryz.ntmps81
      go_wp2_with (go_at_call 47; refine hct.mono ?_; rintro e w' ⟨rfl, rfl⟩)
      go_ret
      simp only [code1, st1, lf1, HD.out, if_false, Bool.false_eq_true, if_true]
      exact ⟨rfl, HB.out, (stp_set (.inl rfl)).trans (stp_set (.inl rfl))⟩

def stepOnE (s : List UInt8) (gs : List Gm) (ar : Bool) (lf : Int) : Value := match vname s, findK Gm.name s gs with
  | false, _ => .tuple #[.pointer none, .int .i64 20]
  | true, none => .tuple #[.pointer none, .int .i64 4]
  | true, some g => .tuple #[.pointer (some ⟨g.blk, 0, none⟩), .int .i64 (code1 ar lf)]

set_option maxHeartbeats 2000000 in
theorem stepOn_any {w : World} {pb mb : Nat} {gs : List Gm} {st lf : Int} {ar : Bool} (h : Dr w pb mb gs st ar lf) (s : List UInt8) :
    Calls Tryz.prog 88 #[.pointer (some ⟨pb, 0, none⟩), .string (str s)] w fun e w' => e = .returned (stepOnE s gs ar lf) ∧
      if (vname s && (findK Gm.name s gs).isSome) = true then Dr w' pb mb gs (st1 st ar lf) ar (lf1 ar lf) ∧ Stp w w' (foot pb mb gs) (foot pb mb gs) else w' = w := by
  have hct := find_any h s
  cases hv : vname s with
  | false =>
    simp only [findE, hv] at hct
    simp only [stepOnE, hv, Bool.false_and, Bool.false_eq_true, if_false]
    clear hv
    go_enter Tryz.func88, Tryz.ntmps88
    go_wp2_with (go_at_call 75; refine hct.mono ?_; rintro e w' ⟨rfl, rfl⟩)
    go_ret2
    exact ⟨rfl, rfl⟩
  | true =>
    cases hf : findK Gm.name s gs with
    | none =>
      simp only [findE, hv, hf] at hct
      simp only [stepOnE, hv, hf, Bool.true_and, Option.isSome, Bool.false_eq_true, if_false]
      clear hv hf
      go_enter Tryz.func88, Tryz.ntmps88
      go_wp2_with (go_at_call 75; refine hct.mono ?_; rintro e w' ⟨rfl, rfl⟩)
      go_ret2
      exact ⟨rfl, rfl⟩
    | some g =>
      simp only [findE, hv, hf] at hct
      simp only [stepOnE, hv, hf, Bool.true_and, Option.isSome, if_true]
      clear hv hf
      have hcs := step_any h
      have H := Lib.hid h
      clear h
      go_enter Tryz.func88, Tryz.ntmps88
      go_wp2_with (first
        | (go_at_call 75; refine hct.mono ?_; rintro e w' ⟨rfl, rfl⟩)
        | (go_at_call 81; refine hcs.mono ?_; rintro e w2 ⟨rfl, hD, hS⟩; have HDD := Lib.hid hD; clear hD))
      go_ret2
      exact ⟨rfl, HDD.out, hS⟩

/-! ### a drive that is new -/
set_option maxHeartbeats 2000000 in
theorem new_any (w : World) : Calls Tryz.prog 6 #[] w fun e w' => e = .returned (.pointer (some ⟨w.heap.size + 1, 0, none⟩)) ∧ Dr w' (w.heap.size + 1) w.heap.size [] 0 false 0 ∧ Below w.heap.size w w' := by
  have hmm := @run_makeMap Tryz.prog
  go_enter Tryz.func6, Tryz.ntmps6
  go_wp2_with fail
  go_ret
  refine ⟨rfl, ⟨?_, ?_, List.Pairwise.nil, by simp, by simp, by simp⟩, ?_⟩
  · have := Blk.new (w.alloc (.map #[] 0)) #[.map (some w.heap.size), .int .i64 0, .bool false, .int .i64 0] 70
    rw [World.size_alloc] at this
    exact this
  · exact (World.ownsMap_made w _ _ _).alloc _
  · exact ((Below.refl _ w).alloc (Nat.le_refl _) _).alloc (by simp) _
end Go.Proofs.YtnbomifnbhijbaaGreatDoor
