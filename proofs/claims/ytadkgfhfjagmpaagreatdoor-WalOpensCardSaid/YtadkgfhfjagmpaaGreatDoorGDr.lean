/-
  Texts put together: DrC, DrD, DrE, DrF, DrG, DrH, DrI.
-/
import Derived.Test.YtadkgfhfjagmpaaGreatDoorGDa
import Derived.Test.YtadkgfhfjagmpaaGreatDoorIter
import Derived.Deep.DeepCutAuto
import Derived.Deep.RegionWith
import Derived.Deep.RegionHeld3
import Derived.WalkLawsBesides
import Derived.WalkSpells
namespace Go.Proofs.YtadkgfhfjagmpaaGreatDoor
open Go.RowKit Go.Maps
set_option linter.unusedVariables false

theorem bytesElD : El Tryz.prog 28 5 (.int .u8 0) 1 := ⟨Tryz.underlying28, by kernel_rfl, rfl⟩
/-- A new slice of bytes in memory of the call's own; nothing older is written. -/
def FreshY (w : World) (l : List UInt8) (e : Ending) (w' : World) : Prop :=
  ∃ A c, e = .returned (.slice A l.length c) ∧ w'.ownsRow w.heap.size 5 1 (.slice A l.length c) l.length (bv l) ∧ Below w.heap.size w w'

set_option maxHeartbeats 1600000 in
theorem bclone_any (A : Option Addr) (n c : Nat) (l : List UInt8) (w : World) (hs : Sl w A n (bv l)) (hn : n ≤ 140737488355328) :
    Calls Tryz.prog 105 #[.slice A n c] w (FreshY w l) := by
  have hl := hs.len
  subst hl
  have q : ∀ (w : World) (a : Option Addr) (n c n' c' : Nat), (binOp .eql 28 (.slice a n c) (.slice none n' c')).run Tryz.prog w = .ok (.bool a.isNone) w := fun w a n c n' c' => Lib.run_eql_slice_nil w _ _ a n c n' c' Tryz.underlying28
  rcases A with _ | a
  · have h0 : l = [] := by
      rcases Nat.eq_zero_or_pos l.length with h0 | h0
      · exact List.eq_nil_of_length_eq_zero h0
      · obtain ⟨b, o, e, _⟩ := hs.2 h0; cases e
    subst h0
    go_enter Tryz.func105, Tryz.ntmps105
    go_wp2_with fail
    go_ret
    exact ⟨none, 0, rfl, World.ownsRow_nil _ _ _ _, Below.refl _ _⟩
  · go_enter Tryz.func105, Tryz.ntmps105
    go_wp2_with (at_builtin; refine wpList_app _ rfl (.tmp 5) (.tmp 6) 28 rfl w.heap.size bytesElD (by decide) _ 0 [] rfl (World.ownsRow_made w #[] 0 (Nat.le_refl _) (Nat.zero_le _) rfl) (some a) l.length c (bv l) rfl (hs.alloc _) (bv_one _) (by omega) (by simp) ?_; intro A1 c1 w1 hown1 hg1 hat1)
    go_wp2
    go_ret
    refine ⟨A1, c1, by simp, by simpa using hown1, ?_⟩
    exact ((Below.refl _ w).alloc (Nat.le_refl _) _).grown hg1 (by simp) (own_blk (World.ownsRow_made (e := 5) (size := 1) w #[] 0 (Nat.le_refl _) (Nat.zero_le _) rfl))

set_option maxHeartbeats 1600000 in
theorem sclone_any (s : ByteArray) (w : World) (hlim : s.size ≤ 281474976710656) : Calls Tryz.prog 156 #[.string s] w fun e w' => e = .returned (.string s) ∧ Below w.heap.size w w' := by
  go_enter Tryz.func156, Tryz.ntmps156
  go_wp2_with (go_at_call 186; refine (str_clone _ _ hlim).mono ?_; rintro e w' ⟨rfl, hb⟩)
  go_ret
  exact ⟨rfl, hb⟩

/-! ### the struct of a drive written -/
section
variable {w w' : World} {pb mb : Nat} {gs : List Gm} {st lf st' lf' : Int} {ar ar' : Bool}
theorem Dr.ne_pb (h : Dr w pb mb gs st ar lf) {k : Nat} (hk : k = mb ∨ ∃ g ∈ gs, k = g.blk ∨ g.v.ownBlock = some k) : k ≠ pb := by
  rintro rfl
  have hp := h.blk
  unfold Blk at hp
  rcases hk with rfl | ⟨g, hg, rfl | e⟩
  · obtain ⟨es, c, hm⟩ := map_is h.map
    rw [hm] at hp; cases hp
  · have := (h.file g hg).1
    unfold Blk at this
    rw [this] at hp
    injection hp with hp; injection hp with _ h2; exact absurd h2 (by decide)
  · obtain ⟨cur, hb⟩ := own_blk_type (h.file g hg).2.1 e
    unfold Blk at hb
    rw [hb] at hp
    injection hp with hp; injection hp with _ h2; exact absurd h2 (by decide)
theorem Dr.turnP (h : Dr w pb mb gs st ar lf) (hb : Blk w' pb #[.map (some mb), .int .i64 st', .bool ar', .int .i64 lf'] 150) (hk : ∀ k, k ≠ pb → k < w.heap.size → w'.heap[k]? = w.heap[k]?) : Dr w' pb mb gs st' ar' lf' where
  blk := hb
  map := map_at h.map (hk _ (h.ne_pb (.inl rfl)) h.map.lt)
  rises := h.rises
  file g hg := by
    obtain ⟨h1, h2, h3⟩ := h.file g hg
    exact ⟨h1.keep (hk _ (h.ne_pb (.inr ⟨g, hg, .inl rfl⟩)) h1.lt), own_at h2 fun k e => hk _ (h.ne_pb (.inr ⟨g, hg, .inr e⟩)) (h.foot_lt (.inr (.inr ⟨g, hg, .inr e⟩))), h3⟩
  apart := h.apart
  few := h.few
theorem Dr.set1 (h : Dr w pb mb gs st ar lf) (x : Int) : Dr (w.setCell ⟨pb, 1, none⟩ (.int .i64 x)) pb mb gs x ar lf :=
  h.turnP (h.blk.set 1 _) fun k hk _ => setCell_other w _ _ hk
theorem Dr.set2 (h : Dr w pb mb gs st ar lf) (x : Bool) : Dr (w.setCell ⟨pb, 2, none⟩ (.bool x)) pb mb gs st x lf :=
  h.turnP (h.blk.set 2 _) fun k hk _ => setCell_other w _ _ hk
theorem Dr.set3 (h : Dr w pb mb gs st ar lf) (x : Int) : Dr (w.setCell ⟨pb, 3, none⟩ (.int .i64 x)) pb mb gs st ar x :=
  h.turnP (h.blk.set 3 _) fun k hk _ => setCell_other w _ _ hk
theorem Dr.fz (h : Dr w pb mb gs st ar lf) (k : Nat) : w.frozen? ⟨pb, k, none⟩ = false := h.blk.frozen k
end
theorem stp_set {w : World} {S : Nat → Prop} {b k : Nat} {v : Value} (hS : S b) : Stp w (w.setCell ⟨b, k, none⟩ v) S S :=
  ⟨⟨rfl, rfl, rfl, by rw [setCell_size]; exact Nat.le_refl _, fun i _ hn => setCell_other w _ _ (fun e => hn (by rw [e]; exact hS))⟩, fun _ h => .inl h⟩

def st1 (st : Int) (ar : Bool) (lf : Int) : Int := if dead ar lf then st else wrap64 (st + 1)
def lf1 (ar : Bool) (lf : Int) : Int := if dead ar lf then lf else if ar then wrap64 (lf - 1) else lf
def code1 (ar : Bool) (lf : Int) : Int := if dead ar lf then 6 else 0

set_option maxHeartbeats 2000000 in
theorem step_any {w : World} {pb mb : Nat} {gs : List Gm} {st lf : Int} {ar : Bool} (h : Dr w pb mb gs st ar lf) :
    Calls Tryz.prog 118 #[.pointer (some ⟨pb, 0, none⟩)] w fun e w' => e = .returned (.int .i64 (code1 ar lf)) ∧ Dr w' pb mb gs (st1 st ar lf) ar (lf1 ar lf) ∧ Stp w w' (foot pb mb gs) (foot pb mb gs) := by
  cases hd : dead ar lf with
  | true =>
    have hct := dead_any h
    rw [hd] at hct
    go_enter Tryz.func118, Tryz.ntmps118
    go_wp2_with (go_at_call 61; refine hct.mono ?_; rintro e w' ⟨rfl, rfl⟩)
    go_ret
    simp only [code1, st1, lf1, hd, if_true]
    exact ⟨rfl, h, Stp.refl _ _⟩
  | false =>
    have hct := dead_any h
    rw [hd] at hct
    have c1 := h.c1
    have f1 := h.fz 1
    have hA := h.set1 (wrap64 (st + 1))
    have c2 := h.c2
    have c3 := h.c3
    have f3 := h.fz 3
    have hB := hA.set3 (wrap64 (lf - 1))
    have HD := Lib.hid hd
    clear hd
    have HA := Lib.hid hA
    have HB := Lib.hid hB
    have H := Lib.hid h
    clear hA hB h
    cases ar
    · go_enter Tryz.func118, Tryz.ntmps118
      go_wp2_with (go_at_call 61; refine hct.mono ?_; rintro e w' ⟨rfl, rfl⟩)
      go_ret
      simp only [code1, st1, lf1, HD.out, if_false, Bool.false_eq_true]
      exact ⟨rfl, HA.out, stp_set (.inl rfl)⟩
    · go_enter Tryz.func118, Tryz.ntmps118
      go_wp2_with (go_at_call 61; refine hct.mono ?_; rintro e w' ⟨rfl, rfl⟩)
      go_ret
      simp only [code1, st1, lf1, HD.out, if_false, Bool.false_eq_true, if_true]
      exact ⟨rfl, HB.out, (stp_set (.inl rfl)).trans (stp_set (.inl rfl))⟩

def stepOnE (s : List UInt8) (gs : List Gm) (ar : Bool) (lf : Int) : Value := match vname s, findK Gm.name s gs with
  | false, _ => .tuple #[.pointer none, .int .i64 20]
  | true, none => .tuple #[.pointer none, .int .i64 4]
  | true, some g => .tuple #[.pointer (some ⟨g.blk, 0, none⟩), .int .i64 (code1 ar lf)]

set_option maxHeartbeats 2000000 in
theorem stepOn_any {w : World} {pb mb : Nat} {gs : List Gm} {st lf : Int} {ar : Bool} (h : Dr w pb mb gs st ar lf) (s : List UInt8) :
    Calls Tryz.prog 183 #[.pointer (some ⟨pb, 0, none⟩), .string (str s)] w fun e w' => e = .returned (stepOnE s gs ar lf) ∧
      if (vname s && (findK Gm.name s gs).isSome) = true then Dr w' pb mb gs (st1 st ar lf) ar (lf1 ar lf) ∧ Stp w w' (foot pb mb gs) (foot pb mb gs) else w' = w := by
  have hct := find_any h s
  cases hv : vname s with
  | false =>
    simp only [findE, hv] at hct
    simp only [stepOnE, hv, Bool.false_and, Bool.false_eq_true, if_false]
    clear hv
    go_enter Tryz.func183, Tryz.ntmps183
    go_wp2_with (go_at_call 111; refine hct.mono ?_; rintro e w' ⟨rfl, rfl⟩)
    go_ret2
    exact ⟨rfl, rfl⟩
  | true =>
    cases hf : findK Gm.name s gs with
    | none =>
      simp only [findE, hv, hf] at hct
      simp only [stepOnE, hv, hf, Bool.true_and, Option.isSome, Bool.false_eq_true, if_false]
      clear hv hf
      go_enter Tryz.func183, Tryz.ntmps183
      go_wp2_with (go_at_call 111; refine hct.mono ?_; rintro e w' ⟨rfl, rfl⟩)
      go_ret2
      exact ⟨rfl, rfl⟩
    | some g =>
      simp only [findE, hv, hf] at hct
      simp only [stepOnE, hv, hf, Bool.true_and, Option.isSome, if_true]
      clear hv hf
      have hcs := step_any h
      have H := Lib.hid h
      clear h
      go_enter Tryz.func183, Tryz.ntmps183
      go_wp2_with (first
        | (go_at_call 111; refine hct.mono ?_; rintro e w' ⟨rfl, rfl⟩)
        | (go_at_call 118; refine hcs.mono ?_; rintro e w2 ⟨rfl, hD, hS⟩; have HDD := Lib.hid hD; clear hD))
      go_ret2
      exact ⟨rfl, HDD.out, hS⟩

/-! ### a drive that is new -/
set_option maxHeartbeats 2000000 in
theorem new_any (w : World) : Calls Tryz.prog 31 #[] w fun e w' => e = .returned (.pointer (some ⟨w.heap.size + 1, 0, none⟩)) ∧ Dr w' (w.heap.size + 1) w.heap.size [] 0 false 0 ∧ Below w.heap.size w w' := by
  have hmm := @run_makeMap Tryz.prog
  go_enter Tryz.func31, Tryz.ntmps31
  go_wp2_with fail
  go_ret
  refine ⟨rfl, ⟨?_, ?_, List.Pairwise.nil, by simp, by simp, by simp⟩, ?_⟩
  · have := Blk.new (w.alloc (.map #[] 0)) #[.map (some w.heap.size), .int .i64 0, .bool false, .int .i64 0] 150
    rw [World.size_alloc] at this
    exact this
  · exact (World.ownsMap_made w _ _ _).alloc _
  · exact ((Below.refl _ w).alloc (Nat.le_refl _) _).alloc (by simp) _
end Go.Proofs.YtadkgfhfjagmpaaGreatDoor

namespace Go.Proofs.YtadkgfhfjagmpaaGreatDoor
open Go.RowKit Go.Maps
set_option linter.unusedVariables false

section
variable {w w' : World} {pb mb : Nat} {gs : List Gm} {st lf : Int} {ar : Bool}
theorem Dr.ne_mb (h : Dr w pb mb gs st ar lf) {k : Nat} (hk : k = pb ∨ ∃ g ∈ gs, k = g.blk ∨ g.v.ownBlock = some k) : k ≠ mb := by
  rintro rfl
  obtain ⟨es, c, hm⟩ := map_is h.map
  rcases hk with rfl | ⟨g, hg, rfl | e⟩
  · have hp := h.blk; unfold Blk at hp; rw [hm] at hp; cases hp
  · have hp := (h.file g hg).1; unfold Blk at hp; rw [hm] at hp; cases hp
  · obtain ⟨cur, hb⟩ := own_blk_type (h.file g hg).2.1 e
    unfold Blk at hb; rw [hm] at hb; cases hb
/-- A file put in: the map's block alone has turned. -/
theorem Dr.putG (h : Dr w pb mb gs st ar lf) (g : Gm) (hb : Blk w g.blk #[g.v, .int .i64 g.f.syn] 158) (hr : w.ownsRow 0 5 1 g.v g.f.data.length (bv g.f.data))
    (h3 : g.f.syn ≤ g.f.data.length ∧ g.f.data.length ≤ 262144 ∧ g.name.length ≤ 32) (hap : ∀ y ∈ gs, y.name ≠ g.name → Gapart g y) (hfew : (withK Gm.name g gs).length ≤ 256)
    {n : Nat} (hm : w'.ownsMap Tryz.prog 9 R mb n ((DataW.map (ents Gm.name dat gs)).put (.string g.name) (dat g))) (hk : ∀ k, k ≠ mb → k < w.heap.size → w'.heap[k]? = w.heap[k]?) : Dr w' pb mb (withK Gm.name g gs) st ar lf := by
  have hmb : ∀ k cs t, Blk w k cs t → k ≠ mb := fun k cs t hB e => by
    obtain ⟨es, c, hm⟩ := map_is h.map
    unfold Blk at hB; rw [e, hm] at hB; cases hB
  have hfile : ∀ y : Gm, Blk w y.blk #[y.v, .int .i64 y.f.syn] 158 → w.ownsRow 0 5 1 y.v y.f.data.length (bv y.f.data) → Blk w' y.blk #[y.v, .int .i64 y.f.syn] 158 ∧ w'.ownsRow 0 5 1 y.v y.f.data.length (bv y.f.data) := fun y h1 h2 =>
    ⟨h1.keep (hk _ (hmb _ _ _ h1) h1.lt), own_at h2 fun k e => by obtain ⟨cur, hB⟩ := own_blk_type h2 e; exact hk _ (hmb _ _ _ hB) hB.lt⟩
  refine ⟨h.blk.keep (hk _ (h.ne_mb (.inl rfl)) h.blk.lt), ?_, rises_with g h.rises, ?_, ?_, hfew⟩
  · rw [ents_put g h.rises] at hm
    have := map_tight hm
    rwa [ents_size] at this
  · intro y hy
    rcases mem_with_ne h.rises hy with rfl | ⟨hy, hne⟩
    · exact ⟨(hfile y hb hr).1, (hfile y hb hr).2, h3⟩
    · obtain ⟨h1, h2, h4⟩ := h.file y hy
      exact ⟨(hfile y h1 h2).1, (hfile y h1 h2).2, h4⟩
  · intro a ha b hb' hne
    rcases mem_with_ne h.rises ha with rfl | ⟨ha2, hna⟩
    · rcases mem_with_ne h.rises hb' with rfl | ⟨hb2, hnb⟩
      · exact absurd rfl hne
      · exact hap b hb2 hnb
    · rcases mem_with_ne h.rises hb' with rfl | ⟨hb2, hnb⟩
      · exact (hap a ha2 hna).symm
      · exact h.apart a ha2 b hb2 hne
/-- A file taken out. -/
theorem Dr.outG (h : Dr w pb mb gs st ar lf) (s : List UInt8) {n : Nat} (hm : w'.ownsMap Tryz.prog 9 R mb n ((DataW.map (ents Gm.name dat gs)).del (.string s))) (hk : ∀ k, k ≠ mb → k < w.heap.size → w'.heap[k]? = w.heap[k]?) : Dr w' pb mb (outK Gm.name s gs) st ar lf := by
  have hmem : ∀ y ∈ outK Gm.name s gs, y ∈ gs := fun y hy => (List.mem_filter.1 hy).1
  refine ⟨h.blk.keep (hk _ (h.ne_mb (.inl rfl)) h.blk.lt), ?_, rises_out s h.rises, ?_, ?_, Nat.le_trans (out_length _ _) h.few⟩
  · rw [ents_del] at hm
    have := map_tight hm
    rwa [ents_size] at this
  · intro y hy
    have hy := hmem y hy
    obtain ⟨h1, h2, h4⟩ := h.file y hy
    exact ⟨h1.keep (hk _ (h.ne_mb (.inr ⟨y, hy, .inl rfl⟩)) h1.lt), own_at h2 fun k e => hk _ (h.ne_mb (.inr ⟨y, hy, .inr e⟩)) (h.foot_lt (.inr (.inr ⟨y, hy, .inr e⟩))), h4⟩
  · exact fun a ha b hb => h.apart a (hmem a ha) b (hmem b hb)
/-- A file's own memory has turned. -/
theorem Dr.turnG (h : Dr w pb mb gs st ar lf) {g g' : Gm} (hg : g ∈ gs) (hn : g'.name = g.name) (hbk : g'.blk = g.blk) (hb : Blk w' g.blk #[g'.v, .int .i64 g'.f.syn] 158) (hr : w'.ownsRow 0 5 1 g'.v g'.f.data.length (bv g'.f.data))
    (h3 : g'.f.syn ≤ g'.f.data.length ∧ g'.f.data.length ≤ 262144) (hv : ∀ k, g'.v.ownBlock = some k → g.v.ownBlock = some k ∨ w.heap.size ≤ k)
    (hk : ∀ k, k ≠ g.blk → g.v.ownBlock ≠ some k → k < w.heap.size → w'.heap[k]? = w.heap[k]?) : Dr w' pb mb (withK Gm.name g' gs) st ar lf := by
  obtain ⟨g1, g2, g3⟩ := h.file g hg
  have hpb : w'.heap[pb]? = w.heap[pb]? := hk _ (fun e => h.ne_pb (.inr ⟨g, hg, .inl rfl⟩) e.symm) (fun e => h.ne_pb (.inr ⟨g, hg, .inr e⟩) rfl) h.blk.lt
  have hmb : w'.heap[mb]? = w.heap[mb]? := hk _ (fun e => h.ne_mb (.inr ⟨g, hg, .inl rfl⟩) e.symm) (fun e => h.ne_mb (.inr ⟨g, hg, .inr e⟩) rfl) h.map.lt
  have hlen : (withK Gm.name g' gs).length ≤ gs.length := length_with_old g' gs ⟨g, hg, hn.symm⟩
  have he : ents Gm.name dat (withK Gm.name g' gs) = ents Gm.name dat gs := with_same (f := fun a : Gm => ((Lit.string a.name : Lit), dat a)) hn (by simp only [dat, hn, hbk]) h.rises hg
  refine ⟨h.blk.keep hpb, ?_, rises_with g' h.rises, ?_, ?_, Nat.le_trans hlen h.few⟩
  · have := map_tight (map_at h.map hmb)
    rw [ents_size] at this
    rw [he]
    have e2 : (withK Gm.name g' gs).length = gs.length := by
      have := congrArg List.length he
      simpa [ents] using this
    rwa [e2]
  · intro y hy
    rcases mem_with_ne h.rises hy with rfl | ⟨hy, hne⟩
    · exact ⟨by rw [hbk]; exact hb, hr, h3.1, h3.2, by rw [hn]; exact g3.2.2⟩
    · rw [hn] at hne
      obtain ⟨h1, h2, h4⟩ := h.file y hy
      have hap := h.apart y hy g hg hne
      refine ⟨h1.keep (hk _ hap.1 (fun e => ?_) h1.lt), own_at h2 fun k e => hk k (fun ek => ?_) (hap.2 k e) (h.foot_lt (.inr (.inr ⟨y, hy, .inr e⟩))), h4⟩
      · obtain ⟨cur, hB⟩ := own_blk_type g2 e
        unfold Blk at hB h1
        rw [hB] at h1; injection h1 with h1; injection h1 with _ h5; exact absurd h5 (by decide)
      · obtain ⟨cur, hB⟩ := own_blk_type h2 e
        unfold Blk at hB g1
        rw [ek, g1] at hB; injection hB with hB; injection hB with _ h5; exact absurd h5 (by decide)
  · have hga : ∀ y ∈ gs, y.name ≠ g.name → Gapart g' y := fun y hy hne => by
      have hap := h.apart g hg y hy (fun e => hne e.symm)
      refine ⟨by rw [hbk]; exact hap.1, fun k e e2 => ?_⟩
      rcases hv k e with e1 | e1
      · exact hap.2 k e1 e2
      · have := h.foot_lt (.inr (.inr ⟨y, hy, .inr e2⟩)); omega
    intro a ha b hb' hne
    rcases mem_with_ne h.rises ha with rfl | ⟨ha2, hna⟩
    · rcases mem_with_ne h.rises hb' with rfl | ⟨hb2, hnb⟩
      · exact absurd rfl hne
      · rw [hn] at hnb
        exact hga b hb2 hnb
    · rw [hn] at hna
      rcases mem_with_ne h.rises hb' with rfl | ⟨hb2, hnb⟩
      · exact (hga a ha2 hna).symm
      · exact h.apart a ha2 b hb2 hne
end
theorem foot_with {pb mb : Nat} {gs : List Gm} {g : Gm} {k : Nat} (hk : foot pb mb (withK Gm.name g gs) k) : foot pb mb gs k ∨ k = g.blk ∨ g.v.ownBlock = some k := by
  rcases hk with h | h | ⟨y, hy, h⟩
  · exact .inl (.inl h)
  · exact .inl (.inr (.inl h))
  · rcases mem_with hy with rfl | hy
    · exact .inr h
    · exact .inl (.inr (.inr ⟨y, hy, h⟩))
theorem foot_out {pb mb : Nat} {gs : List Gm} {s : List UInt8} {k : Nat} (hk : foot pb mb (outK Gm.name s gs) k) : foot pb mb gs k := by
  rcases hk with h | h | ⟨y, hy, h⟩
  · exact .inl h
  · exact .inr (.inl h)
  · exact .inr (.inr ⟨y, (List.mem_filter.1 hy).1, h⟩)

set_option maxRecDepth 40000 in
set_option maxHeartbeats 2000000 in
theorem put_any {w : World} {pb mb : Nat} {gs : List Gm} {st lf : Int} {ar : Bool} (h : Dr w pb mb gs st ar lf) (g : Gm) (hb : Blk w g.blk #[g.v, .int .i64 g.f.syn] 158) (hr : w.ownsRow 0 5 1 g.v g.f.data.length (bv g.f.data))
    (h3 : g.f.syn ≤ g.f.data.length ∧ g.f.data.length ≤ 262144 ∧ g.name.length ≤ 32) (hap : ∀ y ∈ gs, y.name ≠ g.name → Gapart g y) (hfew : (withK Gm.name g gs).length ≤ 256) :
    Calls Tryz.prog 104 #[.pointer (some ⟨pb, 0, none⟩), .string (str g.name), .pointer (some ⟨g.blk, 0, none⟩)] w fun e w' => e = .returned (.tuple #[]) ∧ Dr w' pb mb (withK Gm.name g gs) st ar lf ∧ Oth (fun k => k = mb) w w' := by
  have c0 : ∀ V, Below w.heap.size w V → V.cell? ⟨pb, 0, none⟩ = some (.map (some mb)) := fun V hV => by rw [hV.cell h.blk.lt]; exact h.c0
  have c00 := h.c0
  have hkey := key_str (s := g.name) (by have := h3.2.2; simp only [maxLen]; omega)
  have hlim : (str g.name).size ≤ 281474976710656 := by rw [str_size]; have := h3.2.2; omega
  have hfw := h.few
  have fin : ∀ w1 w2, Below w.heap.size w w1 → w2.ownsMap Tryz.prog 9 R mb (gs.length + 1) ((DataW.map (ents Gm.name dat gs)).put (.string g.name) (dat g)) → w1.grownBy w2 (some mb) → Dr w2 pb mb (withK Gm.name g gs) st ar lf ∧ Oth (fun k => k = mb) w w2 := fun w1 w2 hb1 hm hg2 => by
    have hkk : ∀ k, k ≠ mb → k < w.heap.size → w2.heap[k]? = w.heap[k]? := fun k hk hl => (hg2.block k (Nat.lt_of_lt_of_le hl hb1.size) (fun e => hk (Option.some.inj e))).trans (hb1.block k hl)
    exact ⟨h.putG g hb hr h3 hap hfew hm hkk, ⟨hg2.os.trans hb1.os, hg2.tape.trans hb1.tape, hg2.output.trans hb1.output, Nat.le_trans hb1.size hg2.size, fun k hl hk => hkk k hk hl⟩⟩
  have hmap := h.map
  have HM := Lib.hid hmap
  have H := Lib.hid h
  clear h hmap
  go_enter Tryz.func104, Tryz.ntmps104
  go_region_with ((go_at_call 156; refine (sclone_any _ _ hlim).mono ?_; rintro e w1 ⟨rfl, hb1⟩; have hb2 := (Below.refl w.heap.size w).drew.trans hb1; have c01 := c0 _ hb2; obtain ⟨w2, hrun, hm2, hg2⟩ := (map_at HM.out (hb2.block _ HM.out.lt)).update law9 Tryz.underlying148 (by simp only [maxLen]; omega) hkey (R_ptr g.blk); have hfin := Lib.hid (fin w1 w2 hb2 hm2 hg2); clear hm2 hg2))
  all_goals exact bodyPost_end (results_none rfl _ _ _) rfl ⟨rfl, hfin.out⟩

theorem Oth.mono {S S' : Nat → Prop} {w w' : World} (h : Oth S w w') (hS : ∀ k, S k → S' k) : Oth S' w w' := ⟨h.os, h.tape, h.output, h.size, fun k hk hn => h.block k hk fun e => hn (hS k e)⟩
theorem own_base {w : World} {B B' e n : Nat} {v : Value} {xs : List Value} (h : w.ownsRow B e 1 v n xs) (hB : B' ≤ B) : w.ownsRow B' e 1 v n xs := by
  refine ⟨h.1, ?_⟩
  rcases h.2 with h2 | ⟨g, cap, cur, rfl, h3, h4⟩
  · exact .inl h2
  · exact .inr ⟨g, cap, cur, rfl, Nat.le_trans hB h3, h4⟩

set_option maxHeartbeats 2000000 in
theorem addSynced_any {w : World} {pb mb : Nat} {gs : List Gm} {st lf : Int} {ar : Bool} (h : Dr w pb mb gs st ar lf) (s : List UInt8) (hs : s.length ≤ 32) (A : Option Addr) (n c : Nat) (l : List UInt8) (hl : Sl w A n (bv l)) (hn : n ≤ 262144) (hfew : ∀ g : Gm, g.name = s → (withK Gm.name g gs).length ≤ 256) :
    Calls Tryz.prog 51 #[.pointer (some ⟨pb, 0, none⟩), .string (str s), .slice A n c] w fun e w' => e = .returned (.tuple #[]) ∧ ∃ g : Gm, g.f = ⟨s, l, l.length⟩ ∧ Dr w' pb mb (withK Gm.name g gs) st ar lf ∧ Stp w w' (foot pb mb gs) (foot pb mb (withK Gm.name g gs)) := by
  have hll := hl.len
  subst hll
  have H := Lib.hid h
  have HF := Lib.hid hfew
  clear h hfew
  go_enter Tryz.func51, Tryz.ntmps51
  go_wp2_with (go_at_call 105; refine (bclone_any _ _ _ l _ hl (by omega)).mono ?_; rintro e w1 ⟨A1, c1, rfl, hown1, hb1⟩)
  obtain ⟨g, hg⟩ : ∃ g : Gm, g = ⟨⟨s, l, l.length⟩, w1.heap.size, .slice A1 l.length c1⟩ := ⟨_, rfl⟩
  have hgf : g.f = ⟨s, l, l.length⟩ := by rw [hg]
  have hgb : g.blk = w1.heap.size := by rw [hg]
  have hgv : g.v = .slice A1 l.length c1 := by rw [hg]
  have hgn : g.name = s := by rw [Gm.name, hgf]
  have h1 : Dr w1 pb mb gs st ar lf := H.out.below hb1 (Nat.le_refl _)
  have h2 := h1.alloc (.cells #[.slice A1 l.length c1, .int .i64 (l.length : Int)] 158)
  have hbk := Blk.new w1 #[.slice A1 l.length c1, .int .i64 (l.length : Int)] 158
  have hlt1 := fun k => h1.foot_lt (k := k)
  have hlt0 := fun k => H.out.foot_lt (k := k)
  have hb01 := hb1.size
  have hct := put_any h2 g (by rw [hgb, hgv, hgf]; exact hbk) (by rw [hgv, hgf]; exact (own_base hown1 (Nat.zero_le _)).alloc _) (by rw [hgn, hgf]; exact ⟨Nat.le_refl _, by simp only; omega, hs⟩)
    (fun y hy _ => ⟨by rw [hgb]; have := hlt1 _ (.inr (.inr ⟨y, hy, .inl rfl⟩)); omega, fun k e e2 => by
      rw [hgv] at e
      have i1 := (hown1.lt k e).1
      have i2 := hlt0 _ (.inr (.inr ⟨y, hy, .inr e2⟩))
      omega⟩) (HF.out g hgn)
  rw [hgn, hgb] at hct
  clear h2 hbk
  have HG := Lib.hid hgf
  have HGB := Lib.hid hgb
  have HGV := Lib.hid hgv
  clear hg hgf hgb hgv hgn
  go_wp2_with (go_at_call 104; refine hct.mono ?_; rintro e w3 ⟨rfl, hD, hO⟩; have HD := Lib.hid hD; clear hD)
  go_end0
  refine ⟨rfl, g, HG.out, HD.out, ⟨hO.os.trans hb1.os, hO.tape.trans hb1.tape, hO.output.trans hb1.output, ?_, fun k hk hn => ?_⟩, fun k hk => ?_⟩
  · have := hO.size; rw [World.size_alloc] at this; omega
  · rw [hO.block k (by rw [World.size_alloc]; omega) (fun e => hn (.inr (.inl e))), Below.heap_alloc _ _ _ (by omega)]
    exact hb1.block k hk
  · rcases foot_with hk with e | e | e
    · exact .inl e
    · rw [HGB.out] at e; exact .inr (by omega)
    · rw [HGV.out] at e; exact .inr (hown1.lt k e).1
end Go.Proofs.YtadkgfhfjagmpaaGreatDoor

namespace Go.Proofs.YtadkgfhfjagmpaaGreatDoor
open Go.RowKit Go.Maps
set_option linter.unusedVariables false

theorem blk_type_ne {w : World} {a b : Nat} {cs ds : Array Value} {t u : TypeId} (h : Blk w a cs t) (k : Blk w b ds u) (ht : t ≠ u) : a ≠ b := by
  rintro rfl
  unfold Blk at h k
  rw [h] at k; injection k with k; injection k with _ k; exact ht k

theorem app_fin {w w4 : World} {pb mb : Nat} {gs : List Gm} {st lf : Int} {ar : Bool} (h : Dr w pb mb gs st ar lf) {g : Gm} (hg : g ∈ gs) {l : List UInt8} {v' : Value}
    (hown' : w4.ownsRow 0 5 1 v' (g.f.data.length + l.length) (bv g.f.data ++ bv l)) (hgr : w.grownBy w4 g.v.ownBlock) (hat : v'.ownBlock = g.v.ownBlock ∨ v'.ownBlock = some w.heap.size) (hlen : g.f.data.length + l.length ≤ 262144) :
    Blk w4 g.blk #[g.v, .int .i64 g.f.syn] 158 ∧ Dr (w4.setCell ⟨g.blk, 0, none⟩ v') pb mb (withK Gm.name ⟨⟨g.f.name, g.f.data ++ l, g.f.syn⟩, g.blk, v'⟩ gs) st ar lf ∧
    Stp w (w4.setCell ⟨g.blk, 0, none⟩ v') (foot pb mb gs) (foot pb mb (withK Gm.name ⟨⟨g.f.name, g.f.data ++ l, g.f.syn⟩, g.blk, v'⟩ gs)) := by
  obtain ⟨g1, g2, g3⟩ := h.file g hg
  have hne : ∀ k, g.v.ownBlock = some k → g.blk ≠ k := fun k e => by
    obtain ⟨cur, hB⟩ := own_blk_type g2 e
    exact blk_type_ne g1 hB (by decide)
  have hb4 : Blk w4 g.blk #[g.v, .int .i64 g.f.syn] 158 := g1.keep (hgr.block _ g1.lt fun e => hne _ e.symm rfl)
  have hv : ∀ k, v'.ownBlock = some k → g.v.ownBlock = some k ∨ w.heap.size ≤ k := fun k e => by
    rcases hat with h1 | h1
    · rw [h1] at e; exact .inl e
    · rw [h1] at e; cases e; exact .inr (Nat.le_refl _)
  have hkeep : ∀ k, k ≠ g.blk → g.v.ownBlock ≠ some k → k < w.heap.size → (w4.setCell ⟨g.blk, 0, none⟩ v').heap[k]? = w.heap[k]? := fun k h1 h2 h3 =>
    (setCell_other w4 ⟨g.blk, 0, none⟩ v' h1).trans (hgr.block k h3 fun e => h2 e.symm)
  refine ⟨hb4, ?_, ⟨hgr.os, hgr.tape, hgr.output, by rw [setCell_size]; exact hgr.size, fun k hk hn => hkeep k (fun e => hn (.inr (.inr ⟨g, hg, .inl e⟩))) (fun e => hn (.inr (.inr ⟨g, hg, .inr e⟩))) hk⟩, fun k hk => ?_⟩
  · refine h.turnG hg rfl rfl (hb4.set 0 v') ?_ ?_ hv hkeep
    · simp only [List.length_append, bv_app]
      refine own_at hown' fun k e => setCell_other _ _ _ fun ek => ?_
      obtain ⟨cur, hB⟩ := own_blk_type hown' e
      exact blk_type_ne hb4 hB (by decide) ek.symm
    · simp only [List.length_append]; exact ⟨by omega, hlen⟩
  · rcases foot_with hk with e | e | e
    · exact .inl e
    · exact .inl (.inr (.inr ⟨g, hg, .inl e⟩))
    · rcases hv k e with e | e
      · exact .inl (.inr (.inr ⟨g, hg, .inr e⟩))
      · exact .inr e

def emptyF (s : List UInt8) : Fm := ⟨s, [], 0⟩
def oldF (s : List UInt8) (gs : List Gm) : Fm := match findK Gm.name s gs with | some g => g.f | none => emptyF s
/-- What Append answers. -/
def appE (s : List UInt8) (n : Nat) (gs : List Gm) (ar : Bool) (lf : Int) : Int :=
  if vname s = false then 20 else if (findK Gm.name s gs = none ∧ 256 ≤ gs.length) ∨ 262144 < sizeG s gs + n then 5 else if dead ar lf = true then 6 else 0

theorem map_len {w : World} {pb mb : Nat} {gs : List Gm} {st lf : Int} {ar : Bool} (h : Dr w pb mb gs st ar lf) (ty : TypeId) : (Builtin.len_ #[148] ty #[.map (some mb)]).run Tryz.prog w = .ok (.int .i64 (gs.length : Int)) w := by
  have := h.map.len (t := 148) (e := 156) Tryz.underlying148 ty
  rw [this, ents_size]

theorem wrap64_id {x : Int} (h : -9223372036854775808 ≤ x ∧ x < 9223372036854775808) : wrap64 x = x := by
  unfold wrap64; omega
theorem sl_stp {w w' : World} {S S' : Nat → Prop} {A : Option Addr} {n c : Nat} {xs : List Value} (h : Sl w A n xs) (hS : Stp w w' S S') (hA : ∀ k, (Value.slice A n c).ownBlock = some k → ¬ S k) : Sl w' A n xs := by
  refine ⟨h.1, fun h0 => ?_⟩
  obtain ⟨b, o, rfl, hc⟩ := h.2 h0
  refine ⟨b, o, rfl, fun j u hu => ?_⟩
  have hcj := hc j u hu
  exact (World.cell?_of_block (w := w) (hS.oth.block b (World.block_lt_of_cell? w _ hcj) (hA b rfl))).trans hcj

set_option maxRecDepth 40000 in
set_option maxHeartbeats 4000000 in
theorem append_any {w : World} {pb mb : Nat} {gs : List Gm} {st lf : Int} {ar : Bool} (h : Dr w pb mb gs st ar lf) (s : List UInt8) (A : Option Addr) (n c : Nat) (l : List UInt8) (hl : Sl w A n (bv l)) (hn : n ≤ 140737488355328)
    (hA : ∀ k, (Value.slice A n c).ownBlock = some k → ¬ foot pb mb gs k) :
    Calls Tryz.prog 70 #[.pointer (some ⟨pb, 0, none⟩), .string (str s), .slice A n c] w fun e w' => e = .returned (.int .i64 (appE s n gs ar lf)) ∧
      if appE s n gs ar lf = 0 then ∃ g : Gm, g.f = ⟨s, (oldF s gs).data ++ l, (oldF s gs).syn⟩ ∧ Dr w' pb mb (withK Gm.name g gs) (wrap64 (st + 1)) ar (lf1 ar lf) ∧ Stp w w' (foot pb mb gs) (foot pb mb (withK Gm.name g gs))
      else Dr w' pb mb gs st ar lf ∧ Stp w w' (foot pb mb gs) (foot pb mb gs) := by
  have hll := hl.len
  subst hll
  have hvn := vname_any s w
  cases hv : vname s with
  | false =>
    rw [hv] at hvn
    have he : appE s l.length gs ar lf = 20 := by simp [appE, hv]
    rw [he]
    simp only [show ¬ ((20 : Int) = 0) from by decide, if_false]
    clear hv he
    go_enter Tryz.func70, Tryz.ntmps70
    go_wp2_with (go_at_call 117; refine hvn.mono ?_; rintro e w' ⟨rfl, rfl⟩)
    go_ret
    exact ⟨rfl, h, Stp.refl _ _⟩
  | true =>
    rw [hv] at hvn
    have hsl := (vname_le hv).2
    have hlk := map_look h.map (s := s) (by simp only [maxLen]; omega)
    have hml := map_len h
    have hsz := size_any h s (by simp only [maxLen]; omega)
    have hst := step_any h
    have c0 := h.c0
    have hfew := h.few
    cases hf : findK Gm.name s gs with
    | none =>
      rw [hf] at hlk
      simp only [ptr] at hlk
      have hs0 : sizeG s gs = 0 := by simp [sizeG, hf]
      rw [hs0] at hsz
      have hof : oldF s gs = emptyF s := by simp [oldF, hf]
      by_cases hfull : (256 : Int) ≤ gs.length
      · have he : appE s l.length gs ar lf = 5 := by
          simp only [appE, hv, hf]
          rw [if_neg (by decide), if_pos (.inl ⟨(by first | rfl | trivial), by omega⟩)]
        rw [he]
        simp only [show ¬ ((5 : Int) = 0) from by decide, if_false]
        have H := Lib.hid h
        clear hv he hf hs0 hof h
        go_enter Tryz.func70, Tryz.ntmps70
        go_wp2_with (first
          | (go_at_call 117; refine hvn.mono ?_; rintro e w' ⟨rfl, rfl⟩)
          | (go_at_call 64; refine hsz.mono ?_; rintro e w' ⟨rfl, rfl⟩))
        go_ret
        exact ⟨rfl, H.out, Stp.refl _ _⟩
      · by_cases hbig : (262144 : Int) < l.length
        · have he : appE s l.length gs ar lf = 5 := by
            simp only [appE, hv, hf]
            rw [if_neg (by decide), if_pos (.inr (by rw [hs0]; omega))]
          rw [he]
          simp only [show ¬ ((5 : Int) = 0) from by decide, if_false]
          have H := Lib.hid h
          clear hv he hf hs0 hof h
          go_enter Tryz.func70, Tryz.ntmps70
          go_wp2_with (first
            | (go_at_call 117; refine hvn.mono ?_; rintro e w' ⟨rfl, rfl⟩)
            | (go_at_call 64; refine hsz.mono ?_; rintro e w' ⟨rfl, rfl⟩))
          go_ret
          exact ⟨rfl, H.out, Stp.refl _ _⟩
        · have hnf : ¬ ((findK Gm.name s gs = none ∧ 256 ≤ gs.length) ∨ 262144 < sizeG s gs + l.length) := by rw [hs0]; omega
          have he : appE s l.length gs ar lf = code1 ar lf := by
            simp only [appE, hv, code1]
            rw [if_neg (by decide), if_neg hnf]
          cases hd : dead ar lf with
          | true =>
            have he2 : appE s l.length gs ar lf = 6 := by rw [he]; simp [code1, hd]
            rw [he2]
            simp only [show ¬ ((6 : Int) = 0) from by decide, if_false]
            simp only [code1, st1, lf1, hd, if_true] at hst
            have H := Lib.hid h
            clear hv he he2 hf hs0 hof h hnf hd
            go_enter Tryz.func70, Tryz.ntmps70
            go_wp2_with (first
              | (go_at_call 117; refine hvn.mono ?_; rintro e w' ⟨rfl, rfl⟩)
              | (go_at_call 64; refine hsz.mono ?_; rintro e w' ⟨rfl, rfl⟩)
              | (go_at_call 118; refine hst.mono ?_; rintro e w1 ⟨rfl, hD, hS⟩; have HD := Lib.hid hD; clear hD))
            go_ret
            exact ⟨rfl, HD.out, hS⟩
          | false =>
            have he2 : appE s l.length gs ar lf = 0 := by rw [he]; simp [code1, hd]
            rw [he2, hof]
            simp only [if_true]
            simp only [code1, st1, hd, if_false, Bool.false_eq_true] at hst
            have H := Lib.hid h
            have HFN := Lib.hid hf
            clear hv he he2 hf hs0 hof h hnf hd
            go_enter Tryz.func70, Tryz.ntmps70
            go_wp2_with (first
              | (go_at_call 117; refine hvn.mono ?_; rintro e w' ⟨rfl, rfl⟩)
              | (go_at_call 64; refine hsz.mono ?_; rintro e w' ⟨rfl, rfl⟩)
              | (go_at_call 118; refine hst.mono ?_; rintro e w1 ⟨rfl, hD, hS⟩; have HD := Lib.hid hD; clear hD))
            have hw1 := hS.oth.size
            have h2 := HD.out.alloc (.cells #[.slice none 0 0, .int .i64 0] 158)
            have hbk := Blk.new w1 #[.slice none 0 0, .int .i64 0] 158
            obtain ⟨g0, hg0⟩ : ∃ g : Gm, g = ⟨emptyF s, w1.heap.size, .slice none 0 0⟩ := ⟨_, rfl⟩
            have hg0f : g0.f = emptyF s := by rw [hg0]
            have hg0b : g0.blk = w1.heap.size := by rw [hg0]
            have hg0v : g0.v = .slice none 0 0 := by rw [hg0]
            have hg0n : g0.name = s := by rw [Gm.name, hg0f]; rfl
            have hlt1 := fun k => HD.out.foot_lt (k := k)
            have hct := put_any h2 g0 (by rw [hg0b, hg0v, hg0f]; exact hbk) (by rw [hg0v, hg0f]; exact World.ownsRow_nil _ _ _ _) (by rw [hg0n, hg0f]; exact ⟨Nat.le_refl _, Nat.zero_le _, hsl⟩)
              (fun y hy _ => ⟨by rw [hg0b]; have := hlt1 _ (.inr (.inr ⟨y, hy, .inl rfl⟩)); omega, fun k e _ => by rw [hg0v] at e; cases e⟩)
              (Nat.le_trans (length_with _ _) (by omega))
            rw [hg0n, hg0b] at hct
            have HG := Lib.hid hg0f
            have HGB := Lib.hid hg0b
            have HGV := Lib.hid hg0v
            have HGN := Lib.hid hg0n
            clear hg0 hg0f hg0b hg0v hg0n hbk
            have HH2 := Lib.hid h2
            clear h2
            refine hct.mono ?_
            rintro e w3 ⟨rfl, hD3, hO3⟩
            have HD3 := Lib.hid hD3
            clear hD3 hct
            have hS13 : Stp w1 w3 (foot pb mb gs) (foot pb mb (withK Gm.name g0 gs)) := by
              refine ⟨⟨hO3.os, hO3.tape, hO3.output, ?_, fun k hk hn => ?_⟩, fun k hk => ?_⟩
              · have := hO3.size; rw [World.size_alloc] at this; omega
              · rw [hO3.block k (by rw [World.size_alloc]; omega) (fun e => hn (.inr (.inl e))), Below.heap_alloc _ _ _ hk]
              · rcases foot_with hk with e | e | e
                · exact .inl e
                · rw [HGB.out] at e; exact .inr (by omega)
                · rw [HGV.out] at e; cases e
            have hS03 := hS.trans hS13
            have hmem : g0 ∈ withK Gm.name g0 gs := self_with g0 gs
            have hl3 : Sl w3 A l.length (bv l) := sl_stp hl hS03 hA
            have cf := HD3.out.f0 hmem
            rw [HGB.out, HGV.out] at cf
            have hnw : (withK Gm.name g0 gs).length ≤ 256 := HD3.out.few
            have harm : ∀ (A4 : Option Addr) (c4 : Nat) (w4 : World), w4.ownsRow 0 5 1 (.slice A4 (0 + l.length) c4) (0 + l.length) ([] ++ bv l) → w3.grownBy w4 none → ((Value.slice A4 (0 + l.length) c4).ownBlock = none ∨ (Value.slice A4 (0 + l.length) c4).ownBlock = some w3.heap.size) →
                w4.cell? ⟨w1.heap.size, 0, none⟩ = some (.slice none 0 0) ∧ w4.frozen? ⟨w1.heap.size, 0, none⟩ = false ∧ (∃ g : Gm, g.f = ⟨s, (emptyF s).data ++ l, (emptyF s).syn⟩ ∧ Dr (w4.setCell ⟨w1.heap.size, 0, none⟩ (.slice A4 l.length c4)) pb mb (withK Gm.name g gs) (wrap64 (st + 1)) ar (lf1 ar lf) ∧ Stp w' (w4.setCell ⟨w1.heap.size, 0, none⟩ (.slice A4 l.length c4)) (foot pb mb gs) (foot pb mb (withK Gm.name g gs))) := by
              intro A4 c4 w4 ho hg hat
              rw [Nat.zero_add] at ho hat
              have hfin := app_fin HD3.out hmem (l := l) (v' := .slice A4 l.length c4) (w4 := w4) (by rw [HG.out]; show w4.ownsRow 0 _ 1 _ (0 + l.length) ([] ++ bv l); rw [Nat.zero_add]; exact ho) (by rw [HGV.out]; exact hg) (by rw [HGV.out]; exact hat) (by rw [HG.out]; show 0 + l.length ≤ 262144; omega)
              rw [HGB.out] at hfin
              obtain ⟨q1, q2, q3⟩ := hfin
              refine ⟨?_, q1.frozen 0, ⟨⟨g0.f.name, g0.f.data ++ l, g0.f.syn⟩, w1.heap.size, .slice A4 l.length c4⟩, ?_, ?_, ?_⟩
              · rw [q1.cell (k := 0) rfl, HGV.out]; rfl
              · simp only [HG.out]; rfl
              · rwa [with_twice (by rfl) H.out.rises] at q2
              · rw [with_twice (by rfl) H.out.rises] at q3
                exact hS03.trans q3
            go_wp2_with (at_builtin; refine wpList_app _ rfl (.tmp 54) (.tmp 55) 28 rfl 0 bytesElD (by decide) _ 0 [] rfl (World.ownsRow_nil _ _ _ _) A l.length c (bv l) rfl hl3 (bv_one _) (by omega) (Nat.zero_le _) ?_; intro A4 c4 w4 hown4 hg4 hat4; obtain ⟨cc4, fz4, hz4⟩ := harm A4 c4 w4 hown4 hg4 hat4; have HZ := Lib.hid hz4; clear hz4 hown4)
            go_ret
            exact ⟨rfl, HZ.out⟩
    | some g =>
      rw [hf] at hlk
      simp only [ptr] at hlk
      have hg := find_some hf
      have hs0 : sizeG s gs = g.f.data.length := by simp [sizeG, hf]
      rw [hs0] at hsz
      have hof : oldF s gs = g.f := by simp [oldF, hf]
      obtain ⟨g1, g2, g3⟩ := h.file g hg.1
      have hgd := g3.2.1
      have hfd : g.f.data.length = g.f.data.length := rfl
      by_cases hbig : (262144 : Int) < g.f.data.length + l.length
      · have he : appE s l.length gs ar lf = 5 := by
          simp only [appE, hv, hf]
          rw [if_neg (by decide), if_pos (.inr (by rw [hs0]; omega))]
        rw [he]
        simp only [show ¬ ((5 : Int) = 0) from by decide, if_false]
        have H := Lib.hid h
        have hw : wrap64 ((g.f.data.length : Int) + l.length) = g.f.data.length + l.length := wrap64_id (by omega)
        clear hv he hf hs0 hof h hg g1 g2 g3
        go_enter Tryz.func70, Tryz.ntmps70
        go_wp2_with (first
          | (go_at_call 117; refine hvn.mono ?_; rintro e w' ⟨rfl, rfl⟩)
          | (go_at_call 64; refine hsz.mono ?_; rintro e w' ⟨rfl, rfl⟩))
        go_ret
        exact ⟨rfl, H.out, Stp.refl _ _⟩
      · have hnf : ¬ ((findK Gm.name s gs = none ∧ 256 ≤ gs.length) ∨ 262144 < sizeG s gs + l.length) := by rw [hs0, hf]; rintro (⟨h1, _⟩ | h1); cases h1; omega
        have he : appE s l.length gs ar lf = code1 ar lf := by
          simp only [appE, hv, code1]
          rw [if_neg (by decide), if_neg hnf]
        have hw : wrap64 ((g.f.data.length : Int) + l.length) = g.f.data.length + l.length := wrap64_id (by omega)
        cases hd : dead ar lf with
        | true =>
          have he2 : appE s l.length gs ar lf = 6 := by rw [he]; simp [code1, hd]
          rw [he2]
          simp only [show ¬ ((6 : Int) = 0) from by decide, if_false]
          simp only [code1, st1, lf1, hd, if_true] at hst
          have H := Lib.hid h
          clear hv he he2 hf hs0 hof h hnf hd hg g1 g2 g3
          go_enter Tryz.func70, Tryz.ntmps70
          go_wp2_with (first
            | (go_at_call 117; refine hvn.mono ?_; rintro e w' ⟨rfl, rfl⟩)
            | (go_at_call 64; refine hsz.mono ?_; rintro e w' ⟨rfl, rfl⟩)
            | (go_at_call 118; refine hst.mono ?_; rintro e w1 ⟨rfl, hD, hS⟩; have HD := Lib.hid hD; clear hD))
          go_ret
          exact ⟨rfl, HD.out, hS⟩
        | false =>
          have he2 : appE s l.length gs ar lf = 0 := by rw [he]; simp [code1, hd]
          rw [he2, hof]
          simp only [if_true]
          simp only [code1, st1, hd, if_false, Bool.false_eq_true] at hst
          have H := Lib.hid h
          have HFN := Lib.hid hf
          have HGM := Lib.hid hg
          obtain ⟨Ag, cg, hgv⟩ := own_form g2
          have HGV := Lib.hid hgv
          clear hv he he2 hf hs0 hof h hnf hd hg g1 g2 g3 hgv
          go_enter Tryz.func70, Tryz.ntmps70
          go_wp2_with (first
            | (go_at_call 117; refine hvn.mono ?_; rintro e w' ⟨rfl, rfl⟩)
            | (go_at_call 64; refine hsz.mono ?_; rintro e w' ⟨rfl, rfl⟩)
            | (go_at_call 118; refine hst.mono ?_; rintro e w1 ⟨rfl, hD, hS⟩; have HD := Lib.hid hD; have cf := hD.f0 HGM.out.1; rw [HGV.out] at cf; clear hD
               have hl3 := sl_stp hl hS hA
               have harm : ∀ (A4 : Option Addr) (c4 : Nat) (w4 : World), w4.ownsRow 0 5 1 (.slice A4 (g.f.data.length + l.length) c4) (g.f.data.length + l.length) (bv g.f.data ++ bv l) → w1.grownBy w4 (Value.slice Ag g.f.data.length cg).ownBlock → ((Value.slice A4 (g.f.data.length + l.length) c4).ownBlock = (Value.slice Ag g.f.data.length cg).ownBlock ∨ (Value.slice A4 (g.f.data.length + l.length) c4).ownBlock = some w1.heap.size) →
                   w4.cell? ⟨g.blk, 0, none⟩ = some (.slice Ag g.f.data.length cg) ∧ w4.frozen? ⟨g.blk, 0, none⟩ = false ∧ (∃ g' : Gm, g'.f = ⟨s, g.f.data ++ l, g.f.syn⟩ ∧ Dr (w4.setCell ⟨g.blk, 0, none⟩ (.slice A4 (g.f.data.length + l.length) c4)) pb mb (withK Gm.name g' gs) (wrap64 (st + 1)) ar (lf1 ar lf) ∧ Stp w' (w4.setCell ⟨g.blk, 0, none⟩ (.slice A4 (g.f.data.length + l.length) c4)) (foot pb mb gs) (foot pb mb (withK Gm.name g' gs))) := by
                 intro A4 c4 w4 ho hg hat
                 have hfin := app_fin HD.out HGM.out.1 (l := l) (v' := .slice A4 (g.f.data.length + l.length) c4) (w4 := w4) ho (by rw [HGV.out]; exact hg) (by rw [HGV.out]; exact hat) (by omega)
                 obtain ⟨q1, q2, q3⟩ := hfin
                 refine ⟨by rw [q1.cell (k := 0) rfl, HGV.out]; rfl, q1.frozen 0, _, ?_, q2, hS.trans q3⟩
                 rw [← HGM.out.2])
            | (at_builtin; refine wpList_app _ rfl (.tmp 54) (.tmp 55) 28 rfl 0 bytesElD (by decide) _ g.f.data.length (bv g.f.data) rfl (by rw [← HGV.out]; exact (HD.out.file g HGM.out.1).2.1) A l.length c (bv l) rfl hl3 (bv_one _) (by omega) (Nat.zero_le _) ?_; intro A4 c4 w4 hown4 hg4 hat4; obtain ⟨cc4, fz4, hz4⟩ := harm A4 c4 w4 hown4 hg4 hat4; have HZ := Lib.hid hz4; clear hz4 hown4))
          go_ret
          exact ⟨rfl, HZ.out⟩
end Go.Proofs.YtadkgfhfjagmpaaGreatDoor

namespace Go.Proofs.YtadkgfhfjagmpaaGreatDoor
open Go.RowKit Go.Maps
set_option linter.unusedVariables false

/-- What a step on a file that must be there answers. -/
def lookE (s : List UInt8) (gs : List Gm) (ar : Bool) (lf : Int) : Int :=
  if vname s = false then 20 else match findK Gm.name s gs with
    | none => 4
    | some _ => code1 ar lf

/-- stepOn, by its cases. -/
theorem stepOn_cases {w : World} {pb mb : Nat} {gs : List Gm} {st lf : Int} {ar : Bool} (h : Dr w pb mb gs st ar lf) (s : List UInt8) :
    (∃ code : Int, lookE s gs ar lf = code ∧ (code = 20 ∨ code = 4 ∨ code = 6) ∧ ∃ p : Value, Calls Tryz.prog 183 #[.pointer (some ⟨pb, 0, none⟩), .string (str s)] w fun e w' => e = .returned (.tuple #[p, .int .i64 code]) ∧ Dr w' pb mb gs st ar lf ∧ Stp w w' (foot pb mb gs) (foot pb mb gs)) ∨
    (∃ g, lookE s gs ar lf = 0 ∧ vname s = true ∧ findK Gm.name s gs = some g ∧ g ∈ gs ∧ g.name = s ∧ Calls Tryz.prog 183 #[.pointer (some ⟨pb, 0, none⟩), .string (str s)] w fun e w' => e = .returned (.tuple #[.pointer (some ⟨g.blk, 0, none⟩), .int .i64 0]) ∧ Dr w' pb mb gs (wrap64 (st + 1)) ar (lf1 ar lf) ∧ Stp w w' (foot pb mb gs) (foot pb mb gs)) := by
  have hct := stepOn_any h s
  cases hv : vname s with
  | false =>
    refine .inl ⟨20, by simp [lookE, hv], .inl rfl, .pointer none, hct.mono ?_⟩
    rintro e w' ⟨rfl, hw⟩
    simp only [hv, Bool.false_and, Bool.false_eq_true, if_false] at hw
    subst hw
    exact ⟨by simp [stepOnE, hv], h, Stp.refl _ _⟩
  | true =>
    cases hf : findK Gm.name s gs with
    | none =>
      refine .inl ⟨4, by simp [lookE, hv, hf], .inr (.inl rfl), .pointer none, hct.mono ?_⟩
      rintro e w' ⟨rfl, hw⟩
      simp only [hv, hf, Bool.true_and, Option.isSome, Bool.false_eq_true, if_false] at hw
      subst hw
      exact ⟨by simp [stepOnE, hv, hf], h, Stp.refl _ _⟩
    | some g =>
      have hg := find_some hf
      cases hd : dead ar lf with
      | true =>
        refine .inl ⟨6, by simp [lookE, hv, hf, code1, hd], .inr (.inr rfl), .pointer (some ⟨g.blk, 0, none⟩), hct.mono ?_⟩
        rintro e w' ⟨rfl, hw⟩
        simp only [hv, hf, Bool.true_and, Option.isSome, if_true, st1, lf1, hd] at hw
        exact ⟨by simp [stepOnE, hv, hf, code1, hd], hw⟩
      | false =>
        refine .inr ⟨g, by simp [lookE, hv, hf, code1, hd], rfl, rfl, hg.1, hg.2, hct.mono ?_⟩
        rintro e w' ⟨rfl, hw⟩
        simp only [hv, hf, Bool.true_and, Option.isSome, if_true, st1, hd, Bool.false_eq_true, if_false] at hw
        exact ⟨by simp [stepOnE, hv, hf, code1, hd], hw⟩

set_option maxRecDepth 40000 in
set_option maxHeartbeats 4000000 in
theorem sync_any {w : World} {pb mb : Nat} {gs : List Gm} {st lf : Int} {ar : Bool} (h : Dr w pb mb gs st ar lf) (s : List UInt8) :
    Calls Tryz.prog 162 #[.pointer (some ⟨pb, 0, none⟩), .string (str s)] w fun e w' => e = .returned (.int .i64 (lookE s gs ar lf)) ∧
      if lookE s gs ar lf = 0 then ∃ g : Gm, g.f = ⟨s, (oldF s gs).data, (oldF s gs).data.length⟩ ∧ Dr w' pb mb (withK Gm.name g gs) (wrap64 (st + 1)) ar (lf1 ar lf) ∧ Stp w w' (foot pb mb gs) (foot pb mb (withK Gm.name g gs))
      else Dr w' pb mb gs st ar lf ∧ Stp w w' (foot pb mb gs) (foot pb mb gs) := by
  rcases stepOn_cases h s with ⟨code, hE, hc, p, hct⟩ | ⟨g, hE, hv, hf, hg, hgn, hct⟩
  · have hcn : code ≠ 0 := by rcases hc with rfl | rfl | rfl <;> decide
    rw [hE]
    simp only [if_neg hcn]
    clear hE
    rcases hc with rfl | rfl | rfl
    all_goals
      go_enter Tryz.func162, Tryz.ntmps162
      go_wp2_with (go_at_call 183; refine hct.mono ?_; rintro e w1 ⟨rfl, hD, hS⟩; have HD := Lib.hid hD; clear hD)
      go_ret
      exact ⟨rfl, HD.out, hS⟩
  · have hof : oldF s gs = g.f := by simp [oldF, hf]
    rw [hE, hof]
    simp only [if_true]
    have HF := Lib.hid hf
    have HG := Lib.hid hg
    have HN := Lib.hid hgn
    clear hE hof hf hg hgn hv
    have H := Lib.hid h
    clear h
    go_enter Tryz.func162, Tryz.ntmps162
    go_wp2_with (go_at_call 183; refine hct.mono ?_; rintro e w1 ⟨rfl, hD, hS⟩; have HD := Lib.hid hD; clear hD; obtain ⟨g1, g2, g3⟩ := HD.out.file g HG.out; obtain ⟨Ag, cg, hgv⟩ := own_form g2; have cf := HD.out.f0 HG.out; have cf1 := HD.out.f1 HG.out; have ff := g1.frozen 1; rw [hgv] at cf; have HV := Lib.hid hgv; clear hgv g1 g2 g3)
    go_ret
    obtain ⟨g1, g2, g3⟩ := HD.out.file g HG.out
    have hkeep : ∀ k, k ≠ g.blk → (w1.setCell ⟨g.blk, 1, none⟩ (.int .i64 (g.f.data.length : Int))).heap[k]? = w1.heap[k]? := fun k hk => setCell_other _ _ _ hk
    have hown : ∀ k, g.v.ownBlock = some k → k ≠ g.blk := fun k e ek => by
      obtain ⟨cur, hB⟩ := own_blk_type g2 e
      exact blk_type_ne g1 hB (by decide) ek.symm
    refine ⟨rfl, ⟨⟨g.f.name, g.f.data, g.f.data.length⟩, g.blk, g.v⟩, ?_, HD.out.turnG HG.out rfl rfl (g1.set 1 _) (own_at g2 fun k e => hkeep k (hown k e)) ⟨Nat.le_refl _, g3.2.1⟩ (fun k e => .inl e) (fun k h1 _ _ => hkeep k h1), hS.trans ⟨⟨rfl, rfl, rfl, by rw [setCell_size]; exact Nat.le_refl _, fun k _ hn => hkeep k fun e => hn (.inr (.inr ⟨g, HG.out, .inl e⟩))⟩, fun k hk => ?_⟩⟩
    · rw [← HN.out]
    · rcases foot_with hk with e | e | e
      · exact .inl e
      · exact .inl (.inr (.inr ⟨g, HG.out, .inl e⟩))
      · exact .inl (.inr (.inr ⟨g, HG.out, .inr e⟩))

theorem turned_stp {w w' : World} {pb mb : Nat} {gs gs' : List Gm} (ht : w.mapTurned w' mb) (hs : ∀ k, foot pb mb gs' k → foot pb mb gs k) : Stp w w' (foot pb mb gs) (foot pb mb gs') :=
  ⟨⟨ht.grown.os, ht.grown.tape, ht.grown.output, ht.grown.size, fun k hk hn => ht.grown.block k hk fun e => hn (.inr (.inl (Option.some.inj e)))⟩, fun k hk => .inl (hs k hk)⟩

set_option maxRecDepth 40000 in
set_option maxHeartbeats 4000000 in
theorem delete_any {w : World} {pb mb : Nat} {gs : List Gm} {st lf : Int} {ar : Bool} (h : Dr w pb mb gs st ar lf) (s : List UInt8) :
    Calls Tryz.prog 182 #[.pointer (some ⟨pb, 0, none⟩), .string (str s)] w fun e w' => e = .returned (.int .i64 (lookE s gs ar lf)) ∧
      if lookE s gs ar lf = 0 then Dr w' pb mb (outK Gm.name s gs) (wrap64 (st + 1)) ar (lf1 ar lf) ∧ Stp w w' (foot pb mb gs) (foot pb mb (outK Gm.name s gs))
      else Dr w' pb mb gs st ar lf ∧ Stp w w' (foot pb mb gs) (foot pb mb gs) := by
  rcases stepOn_cases h s with ⟨code, hE, hc, p, hct⟩ | ⟨g, hE, hv, hf, hg, hgn, hct⟩
  · have hcn : code ≠ 0 := by rcases hc with rfl | rfl | rfl <;> decide
    rw [hE]
    simp only [if_neg hcn]
    clear hE
    rcases hc with rfl | rfl | rfl
    all_goals
      go_enter Tryz.func182, Tryz.ntmps182
      go_wp2_with (go_at_call 183; refine hct.mono ?_; rintro e w1 ⟨rfl, hD, hS⟩; have HD := Lib.hid hD; clear hD)
      go_ret
      exact ⟨rfl, HD.out, hS⟩
  · rw [hE]
    simp only [if_true]
    have hkey := key_str (s := s) (by have := (vname_le hv).2; simp only [maxLen]; omega)
    have HF := Lib.hid hf
    clear hE hf hg hgn hv
    have H := Lib.hid h
    clear h
    go_enter Tryz.func182, Tryz.ntmps182
    go_wp2_with (first
      | (go_at_call 183; refine hct.mono ?_; rintro e w1 ⟨rfl, hD, hS⟩; have HD := Lib.hid hD; clear hD; have c0 := HD.out.c0)
      | (at_delete; refine wpList_delete_own _ rfl _ _ 148 9 rfl 156 law9 Tryz.underlying148 R mb gs.length _ rfl HD.out.map _ _ rfl hkey ?_; intro w2 hm2 ht2))
    go_ret
    exact ⟨rfl, HD.out.outG s hm2 (fun k hk hl => ht2.grown.block k hl fun e => hk (Option.some.inj e)), hS.trans (turned_stp ht2 fun k hk => foot_out hk)⟩
end Go.Proofs.YtadkgfhfjagmpaaGreatDoor

namespace Go.Proofs.YtadkgfhfjagmpaaGreatDoor
open Go.RowKit Go.Maps
set_option linter.unusedVariables false

theorem Oth.trans_oth {S S' : Nat → Prop} {a b c : World} (h : Oth S a b) (k : Oth S' b c) (hs : ∀ i, S' i → S i) : Oth S a c :=
  ⟨k.os.trans h.os, k.tape.trans h.tape, k.output.trans h.output, Nat.le_trans h.size k.size, fun i hi hn => (k.block i (Nat.lt_of_lt_of_le hi h.size) fun e => hn (hs i e)).trans (h.block i hi hn)⟩

def renE (s tn : List UInt8) (gs : List Gm) (ar : Bool) (lf : Int) : Int := if vname tn = false then 20 else lookE s gs ar lf

set_option maxRecDepth 40000 in
set_option maxHeartbeats 4000000 in
theorem rename_any {w : World} {pb mb : Nat} {gs : List Gm} {st lf : Int} {ar : Bool} (h : Dr w pb mb gs st ar lf) (s tn : List UInt8) :
    Calls Tryz.prog 149 #[.pointer (some ⟨pb, 0, none⟩), .string (str s), .string (str tn)] w fun e w' => e = .returned (.int .i64 (renE s tn gs ar lf)) ∧
      if renE s tn gs ar lf = 0 then ∃ g : Gm, g.f = ⟨tn, (oldF s gs).data, (oldF s gs).syn⟩ ∧ Dr w' pb mb (withK Gm.name g (outK Gm.name s gs)) (wrap64 (st + 1)) ar (lf1 ar lf) ∧ Stp w w' (foot pb mb gs) (foot pb mb (withK Gm.name g (outK Gm.name s gs)))
      else Dr w' pb mb gs st ar lf ∧ Stp w w' (foot pb mb gs) (foot pb mb gs) := by
  have hvn := vname_any tn w
  cases hto : vname tn with
  | false =>
    rw [hto] at hvn
    have he : renE s tn gs ar lf = 20 := by simp [renE, hto]
    rw [he]
    simp only [show ¬ ((20 : Int) = 0) from by decide, if_false]
    clear hto he
    go_enter Tryz.func149, Tryz.ntmps149
    go_wp2_with (go_at_call 117; refine hvn.mono ?_; rintro e w' ⟨rfl, rfl⟩)
    go_ret
    exact ⟨rfl, h, Stp.refl _ _⟩
  | true =>
    rw [hto] at hvn
    have he : renE s tn gs ar lf = lookE s gs ar lf := by simp [renE, hto]
    rw [he]
    have htl := (vname_le hto).2
    rcases stepOn_cases h s with ⟨code, hE, hc, p, hct⟩ | ⟨g, hE, hv, hf, hg, hgn, hct⟩
    · have hcn : code ≠ 0 := by rcases hc with rfl | rfl | rfl <;> decide
      rw [hE]
      simp only [if_neg hcn]
      clear hE hto he
      rcases hc with rfl | rfl | rfl
      all_goals
        go_enter Tryz.func149, Tryz.ntmps149
        go_wp2_with (first
          | (go_at_call 117; refine hvn.mono ?_; rintro e w' ⟨rfl, rfl⟩)
          | (go_at_call 183; refine hct.mono ?_; rintro e w1 ⟨rfl, hD, hS⟩; have HD := Lib.hid hD; clear hD))
        go_ret
        exact ⟨rfl, HD.out, hS⟩
    · have hof : oldF s gs = g.f := by simp [oldF, hf]
      rw [hE, hof]
      simp only [if_true]
      have hkey := key_str (s := s) (by have := (vname_le hv).2; simp only [maxLen]; omega)
      have HG := Lib.hid hg
      have HN := Lib.hid hgn
      clear hE hf hg hgn hv hto he hof
      have H := Lib.hid h
      clear h
      go_enter Tryz.func149, Tryz.ntmps149
      go_wp2_with (first
        | (go_at_call 117; refine hvn.mono ?_; rintro e w' ⟨rfl, rfl⟩)
        | (go_at_call 183; refine hct.mono ?_; rintro e w1 ⟨rfl, hD, hS⟩; have HD := Lib.hid hD; clear hD; have c0 := HD.out.c0)
        | (at_delete; refine wpList_delete_own _ rfl _ _ 148 9 rfl 156 law9 Tryz.underlying148 R mb gs.length _ rfl HD.out.map _ _ rfl hkey ?_; intro w2 hm2 ht2))
      obtain ⟨g1, g2, g3⟩ := HD.out.file g HG.out
      have hD2 := HD.out.outG s hm2 (fun k hk hl => ht2.grown.block k hl fun e => hk (Option.some.inj e))
      have hkm : ∀ k cs t, Blk w1 k cs t → w2.heap[k]? = w1.heap[k]? := fun k cs t hB => ht2.grown.block k hB.lt fun e => by
        obtain ⟨es, c, hm⟩ := map_is HD.out.map
        unfold Blk at hB; rw [Option.some.inj e, hm] at hB; cases hB
      have hlen : (withK Gm.name (⟨⟨tn, g.f.data, g.f.syn⟩, g.blk, g.v⟩ : Gm) (outK Gm.name s gs)).length ≤ 256 := by
        refine Nat.le_trans (length_with _ _) ?_
        have h1 : (outK Gm.name s gs).length < gs.length := List.length_filter_lt_length_iff_exists.2 ⟨g, HG.out, by simp [HN.out]⟩
        have := HD.out.few
        omega
      have hctp := put_any hD2 ⟨⟨tn, g.f.data, g.f.syn⟩, g.blk, g.v⟩ (g1.keep (hkm _ _ _ g1)) (own_at g2 fun k e => by obtain ⟨cur, hB⟩ := own_blk_type g2 e; exact hkm _ _ _ hB) ⟨g3.1, g3.2.1, htl⟩
        (fun y hy _ => by
          have hy' := List.mem_filter.1 hy
          have hne : y.name ≠ s := by simpa using hy'.2
          exact HD.out.apart g HG.out y hy'.1 (by rw [HN.out]; exact hne.symm)) hlen
      have HS2 := hS.trans (turned_stp (gs' := outK Gm.name s gs) ht2 fun k hk => foot_out hk)
      refine hctp.mono ?_
      rintro e w3 ⟨rfl, hD3, hO3⟩
      have HD3 := Lib.hid hD3
      clear hD3 hctp hD2 g1 g2 g3
      go_wp2_with fail
      go_ret
      refine ⟨rfl, _, rfl, HD3.out, ⟨(HS2.oth.trans_oth hO3 fun k e => .inr (.inl e)), fun k hk => ?_⟩⟩
      rcases foot_with hk with e | e | e
      · exact .inl (foot_out e)
      · exact .inl (.inr (.inr ⟨g, HG.out, .inl e⟩))
      · exact .inl (.inr (.inr ⟨g, HG.out, .inr e⟩))
/-- What Arm answers. -/
def armE (n : Int) (ar : Bool) (lf : Int) : Int := if n < 0 then 1 else if dead ar lf = true then 6 else 0

set_option maxHeartbeats 4000000 in
theorem arm_any {w : World} {pb mb : Nat} {gs : List Gm} {st lf : Int} {ar : Bool} (h : Dr w pb mb gs st ar lf) (n : Int) :
    Calls Tryz.prog 36 #[.pointer (some ⟨pb, 0, none⟩), .int .i64 n] w fun e w' => e = .returned (.int .i64 (armE n ar lf)) ∧
      (if armE n ar lf = 0 then Dr w' pb mb gs st true n else Dr w' pb mb gs st ar lf) ∧ Stp w w' (foot pb mb gs) (foot pb mb gs) := by
  have hdd := dead_any h
  by_cases hn : n < 0
  · have he : armE n ar lf = 1 := by simp [armE, hn]
    rw [he]
    simp only [show ¬ ((1 : Int) = 0) from by decide, if_false]
    have H := Lib.hid h
    clear he h
    go_enter Tryz.func36, Tryz.ntmps36
    go_wp2_with fail
    go_ret
    exact ⟨rfl, H.out, Stp.refl _ _⟩
  · cases hd : dead ar lf with
    | true =>
      rw [hd] at hdd
      have he : armE n ar lf = 6 := by simp [armE, hn, hd]
      rw [he]
      simp only [show ¬ ((6 : Int) = 0) from by decide, if_false]
      have H := Lib.hid h
      clear he h hd
      go_enter Tryz.func36, Tryz.ntmps36
      go_wp2_with (go_at_call 61; refine hdd.mono ?_; rintro e w' ⟨rfl, rfl⟩)
      go_ret
      exact ⟨rfl, H.out, Stp.refl _ _⟩
    | false =>
      rw [hd] at hdd
      have he : armE n ar lf = 0 := by simp [armE, hn, hd]
      rw [he]
      simp only [if_true]
      have f2 := h.fz 2
      have f3 := h.fz 3
      have c2 := h.c2
      have c3 := h.c3
      have hA := (h.set2 true).set3 n
      have HA := Lib.hid hA
      clear he h hd hA
      go_enter Tryz.func36, Tryz.ntmps36
      go_wp2_with (go_at_call 61; refine hdd.mono ?_; rintro e w' ⟨rfl, rfl⟩)
      go_ret
      exact ⟨rfl, HA.out, (stp_set (.inl rfl)).trans (stp_set (.inl rfl))⟩

def readE (s : List UInt8) (gs : List Gm) : Int := if vname s = false then 20 else match findK Gm.name s gs with
  | none => 4
  | some _ => 0

set_option maxHeartbeats 4000000 in
theorem read_any {w : World} {pb mb : Nat} {gs : List Gm} {st lf : Int} {ar : Bool} (h : Dr w pb mb gs st ar lf) (s : List UInt8) :
    Calls Tryz.prog 63 #[.pointer (some ⟨pb, 0, none⟩), .string (str s)] w fun e w' => ∃ A c, e = .returned (.tuple #[.slice A (if readE s gs = 0 then (oldF s gs).data.length else 0) c, .int .i64 (readE s gs)]) ∧
      w'.ownsRow w.heap.size 5 1 (.slice A (if readE s gs = 0 then (oldF s gs).data.length else 0) c) (if readE s gs = 0 then (oldF s gs).data.length else 0) (bv (if readE s gs = 0 then (oldF s gs).data else [])) ∧ Below w.heap.size w w' := by
  have hct := find_any h s
  cases hv : vname s with
  | false =>
    have he : readE s gs = 20 := by simp [readE, hv]
    simp only [findE, hv] at hct
    rw [he]
    simp only [show ¬ ((20 : Int) = 0) from by decide, if_false]
    clear hv he
    go_enter Tryz.func63, Tryz.ntmps63
    go_wp2_with (go_at_call 111; refine hct.mono ?_; rintro e w' ⟨rfl, rfl⟩)
    go_ret2
    exact ⟨none, 0, rfl, World.ownsRow_nil _ _ _ _, Below.refl _ _⟩
  | true =>
    cases hf : findK Gm.name s gs with
    | none =>
      have he : readE s gs = 4 := by simp [readE, hv, hf]
      simp only [findE, hv, hf] at hct
      rw [he]
      simp only [show ¬ ((4 : Int) = 0) from by decide, if_false]
      clear hv he hf
      go_enter Tryz.func63, Tryz.ntmps63
      go_wp2_with (go_at_call 111; refine hct.mono ?_; rintro e w' ⟨rfl, rfl⟩)
      go_ret2
      exact ⟨none, 0, rfl, World.ownsRow_nil _ _ _ _, Below.refl _ _⟩
    | some g =>
      have he : readE s gs = 0 := by simp [readE, hv, hf]
      have hof : oldF s gs = g.f := by simp [oldF, hf]
      have hg := find_some hf
      obtain ⟨g1, g2, g3⟩ := h.file g hg.1
      obtain ⟨Ag, cg, hgv⟩ := own_form g2
      have cf := h.f0 hg.1
      rw [hgv] at cf g2
      have hgl := g3.2.1
      have hcl := bclone_any Ag _ cg g.f.data w (own_sl g2) (by omega)
      simp only [findE, hv, hf] at hct
      rw [he, hof]
      simp only [if_true]
      clear hv he hf hof hg g1 g2 g3 hgv h
      go_enter Tryz.func63, Tryz.ntmps63
      go_wp2_with (first
        | (go_at_call 111; refine hct.mono ?_; rintro e w' ⟨rfl, rfl⟩)
        | (go_at_call 105; refine hcl.mono ?_; rintro e w2 ⟨A2, c2, rfl, hown2, hb2⟩))
      go_ret2
      exact ⟨A2, c2, rfl, hown2, hb2⟩

set_option maxHeartbeats 4000000 in
theorem loose_any {w : World} {pb mb : Nat} {gs : List Gm} {st lf : Int} {ar : Bool} (h : Dr w pb mb gs st ar lf) (s : List UInt8) (hs : s.length ≤ maxLen) :
    Calls Tryz.prog 48 #[.pointer (some ⟨pb, 0, none⟩), .string (str s)] w fun e w' => e = .returned (.int .i64 (looseG s gs)) ∧ ∃ q, w' = w.drewN q := by
  have c0 := h.c0
  have hlk := map_look h.map hs
  cases hf : findK Gm.name s gs with
  | none =>
    rw [hf] at hlk
    simp only [ptr] at hlk
    have hE : looseG s gs = 0 := by simp [looseG, hf]
    rw [hE]
    clear hf h hE
    go_enter Tryz.func48, Tryz.ntmps48
    go_wp2_with fail
    go_ret
    exact ⟨rfl, 0, rfl⟩
  | some g =>
    rw [hf] at hlk
    simp only [ptr] at hlk
    have hg := find_some hf
    have hct := lo_any h hg.1
    have hE : looseG s gs = g.f.data.length - g.f.syn := by simp [looseG, hf]
    rw [hE]
    clear hf h hg hE
    go_enter Tryz.func48, Tryz.ntmps48
    go_wp2_with (go_at_call 94; refine hct.mono ?_; rintro e w' ⟨rfl, q, rfl⟩)
    go_ret
    exact ⟨rfl, q, rfl⟩
end Go.Proofs.YtadkgfhfjagmpaaGreatDoor

namespace Go.Proofs.YtadkgfhfjagmpaaGreatDoor
open Go.RowKit Go.Maps Go.Sort
set_option linter.unusedVariables false

theorem bytes_lt : ∀ {a b : List UInt8}, bytesBefore a b = true → a < b
  | [], [], h => by simp [bytesBefore] at h
  | [], b :: s, _ => List.nil_lt_cons b s
  | a :: r, [], h => by simp [bytesBefore] at h
  | a :: r, b :: s, h => by
    simp only [bytesBefore, Bool.or_eq_true, decide_eq_true_eq, Bool.and_eq_true, beq_iff_eq] at h
    rw [List.cons_lt_cons_iff]
    rcases h with h | ⟨h1, h2⟩
    · exact .inl h
    · exact .inr ⟨h1, bytes_lt h2⟩
theorem names_sorted {gs : List Gm} (h : Rises Gm.name gs) {ss : List (List UInt8)} (hp : ss.Perm (gs.map Gm.name)) : ss.mergeSort (fun x y => decide (x ≤ y)) = gs.map Gm.name := by
  rw [show ss.mergeSort (fun x y => decide (x ≤ y)) = (gs.map Gm.name).mergeSort (fun x y => decide (x ≤ y)) from mergeSort_of_perm hp]
  apply List.mergeSort_of_pairwise
  refine List.pairwise_map.2 (List.Pairwise.imp ?_ h)
  intro a b hab
  have := bytes_lt hab
  simp only [decide_eq_true_eq]
  exact List.le_of_lt this

def sv (s : List UInt8) : Value := .string (str s)

set_option maxHeartbeats 4000000 in
theorem names_any {w : World} {pb mb : Nat} {gs : List Gm} {st lf : Int} {ar : Bool} (h : Dr w pb mb gs st ar lf) :
    Calls Tryz.prog 60 #[.pointer (some ⟨pb, 0, none⟩)] w fun e w' => ∃ A c, e = .returned (.slice A gs.length c) ∧ w'.ownsRow w.heap.size 9 1 (.slice A gs.length c) gs.length (gs.map fun g => sv g.name) ∧ Below w.heap.size w w' := by
  have c0 := h.c0
  have hfew := h.few
  have hct := (callsIn_wide (n := 5)).1 (Tryz.slices_Sorted_keys_109_110 mb gs.length (.map (ents Gm.name dat gs)) R w h.map (by rw [ents_size]; simp only [maxLen]; omega) (by rw [ents_size]; omega))
  have hns := fun (ss : List (List UInt8)) (hp : ss.Perm (strKeys (DataW.map (ents Gm.name dat gs)))) => names_sorted h.rises (ss := ss) (by rwa [ents_keys] at hp)
  have HS := Lib.hid hns
  clear h hns
  go_enter Tryz.func60, Tryz.ntmps60
  go_wp2_with (first
    | (go_at_call 110; refine ((callsIn_wide (n := 5)).1 (Tryz.maps_Keys_110 _ _)).mono ?_; rintro e w' ⟨rfl, rfl⟩)
    | (go_at_call 109; refine hct.mono ?_; rintro e w2 ⟨v, ss, rfl, hS, hrow, hnil, hb⟩))
  go_ret
  have hss := HS.out ss hS
  have hlen : ss.length = gs.length := by rw [hS.length_eq, ents_keys, List.length_map]
  rw [hss, hlen, List.map_map] at hrow
  have hbb : Below w.heap.size w w2 := ((Below.refl _ w).alloc (Nat.le_refl _) _).trans (hb.mono (by simp))
  have hrow' : w2.ownsRow w.heap.size 9 1 v gs.length (gs.map fun g => sv g.name) := own_base hrow (by simp)
  obtain ⟨A, c, rfl⟩ := own_form hrow'
  exact ⟨A, c, rfl, hrow', hbb⟩
end Go.Proofs.YtadkgfhfjagmpaaGreatDoor

namespace Go.Proofs.YtadkgfhfjagmpaaGreatDoor
open Go.RowKit Go.Maps
set_option linter.unusedVariables false

def iv (l : List Int) : List Value := l.map fun k => Value.int .i64 k
def cutF (f : Fm) (m : Nat) : Fm := ⟨f.name, f.data.take (f.syn + m), f.syn + m⟩
def cr1 (f : Fm) (ks : List Int) : Fm × List Int :=
  if f.syn < f.data.length then match ks with
    | k :: r => (cutF f (max 0 (min k ((f.data.length - f.syn : Nat) : Int))).toNat, r)
    | [] => (cutF f 0, [])
  else (cutF f 0, ks)
def crash (fs : List Fm) (ks : List Int) : List Fm × List Int := fs.foldl (fun a f => (a.1 ++ [(cr1 f a.2).1], (cr1 f a.2).2)) ([], ks)
theorem crash_snoc (fs : List Fm) (f : Fm) (ks : List Int) : crash (fs ++ [f]) ks = ((crash fs ks).1 ++ [(cr1 f (crash fs ks).2).1], (cr1 f (crash fs ks).2).2) := by
  simp [crash, List.foldl_append]
theorem cr1_name (f : Fm) (ks : List Int) : (cr1 f ks).1.name = f.name := by
  unfold cr1
  split
  · split <;> rfl
  · rfl
theorem crash_names (ks : List Int) (fs : List Fm) : (crash fs ks).1.map Fm.name = fs.map Fm.name := by
  have key : ∀ (fs : List Fm) (acc : List Fm × List Int), (fs.foldl (fun a f => (a.1 ++ [(cr1 f a.2).1], (cr1 f a.2).2)) acc).1.map Fm.name = acc.1.map Fm.name ++ fs.map Fm.name := by
    intro fs
    induction fs with
    | nil => intro acc; simp
    | cons f r ih => intro acc; rw [List.foldl_cons, ih]; simp [cr1_name]
  simpa [crash] using key fs ([], ks)

/-- Where the loop of Crash stands. -/
structure CrS (w w2 wr : World) (pb2 mb2 : Nat) (gs : List Gm) (ks : List Int) (i : Nat) (A' : Option Addr) (n' : Nat) (hs : List Gm) : Prop where
  sl : Sl w A' n' (iv (crash ((gs.take i).map Gm.f) ks).2)
  fs : hs.map Gm.f = (crash ((gs.take i).map Gm.f) ks).1
  dr : Dr wr pb2 mb2 hs 0 false 0
  stp : Stp w2 wr (foot pb2 mb2 []) (foot pb2 mb2 hs)

theorem CrS.next {w w2 wr wr' : World} {pb2 mb2 i n' m : Nat} {gs hs : List Gm} {ks : List Int} {A' A2 : Option Addr} {g g' : Gm} (h : CrS w w2 wr pb2 mb2 gs ks i A' n' hs) (hg : gs[i]? = some g) (hr : Rises Gm.name gs)
    (hgf : g'.f = (cr1 g.f (crash ((gs.take i).map Gm.f) ks).2).1) (hsl : Sl w A2 m (iv (cr1 g.f (crash ((gs.take i).map Gm.f) ks).2).2))
    (hd : Dr wr' pb2 mb2 (withK Gm.name g' hs) 0 false 0) (hst : Stp wr wr' (foot pb2 mb2 hs) (foot pb2 mb2 (withK Gm.name g' hs))) : CrS w w2 wr' pb2 mb2 gs ks (i + 1) A2 m (withK Gm.name g' hs) := by
  have ht : (gs.take (i + 1)).map Gm.f = (gs.take i).map Gm.f ++ [g.f] := by rw [List.take_add_one, hg]; simp
  have hl : withK Gm.name g' hs = hs ++ [g'] := by
    apply with_last
    intro y hy
    have hn : g'.name = g.name := by rw [Gm.name, hgf, cr1_name]
    rw [hn]
    have h1 : y.name ∈ hs.map Gm.name := List.mem_map.2 ⟨y, hy, rfl⟩
    have h2 : hs.map Gm.name = (gs.take i).map Gm.name := by
      have := congrArg (List.map Fm.name) h.fs
      rw [crash_names] at this
      simpa [List.map_map, Function.comp_def] using this
    rw [h2] at h1
    obtain ⟨z, hz, e⟩ := List.mem_map.1 h1
    rw [← e]
    obtain ⟨j, hj, e2⟩ := List.mem_take_iff_getElem.1 hz
    have hi : i < gs.length := (List.getElem?_eq_some_iff.1 hg).1
    have hge : gs[i] = g := (List.getElem?_eq_some_iff.1 hg).2
    have := List.pairwise_iff_getElem.1 hr j i (by omega) hi (by omega)
    rw [e2, hge] at this
    exact this
  refine ⟨by rw [ht, crash_snoc]; exact hsl, ?_, hd, h.stp.trans hst⟩
  rw [ht, crash_snoc, hl, List.map_append, h.fs]
  simp [hgf]

theorem iv_get {l : List Int} {k : Nat} (h : k < l.length) : (iv l)[k]? = some (Value.int .i64 l[k]) := by simp [iv, h]
theorem iv_len (l : List Int) : (iv l).length = l.length := by simp [iv]

def CrPost (w : World) (gs : List Gm) (ks : List Int) (e : Ending) (w' : World) : Prop :=
  ∃ pb2 mb2 hs, e = .returned (.pointer (some ⟨pb2, 0, none⟩)) ∧ hs.map Gm.f = (crash (gs.map Gm.f) ks).1 ∧ Dr w' pb2 mb2 hs 0 false 0 ∧ Below w.heap.size w w' ∧ ∀ k, foot pb2 mb2 hs k → w.heap.size ≤ k

set_option maxRecDepth 40000 in
set_option maxHeartbeats 8000000 in
theorem crash_any {w : World} {pb mb : Nat} {gs : List Gm} {st lf : Int} {ar : Bool} (h : Dr w pb mb gs st ar lf) (A : Option Addr) (n c : Nat) (ks : List Int) (hk : Sl w A n (iv ks)) (hc : n ≤ c) :
    Calls Tryz.prog 34 #[.pointer (some ⟨pb, 0, none⟩), .slice A n c] w (CrPost w gs ks) := by
  have H := Lib.hid h
  clear h
  have hfew := H.out.few
  go_enter Tryz.func34, Tryz.ntmps34
  go_wp2_with (first
    | (go_at_call 31; refine (new_any _).mono ?_; rintro e w1 ⟨rfl, hD1, hb1⟩; have HD1 := Lib.hid hD1; clear hD1)
    | (go_at_call 60; refine (names_any (H.out.below hb1 (Nat.le_refl _))).mono ?_; rintro e w2 ⟨A2, c2, rfl, hown2, hb2⟩))
  have hb12 : Below w.heap.size w w2 := hb1.trans (hb2.mono hb1.size)
  have HD2 := Lib.hid (HD1.out.below hb2 (Nat.le_refl _))
  have hsl2 := own_sl hown2
  have hlt2 := hown2.lt
  clear hown2
  have hgsl : (gs.map fun g => sv g.name).length = gs.length := by simp
  go_loopw [1, 14] (fun kv j wr => ∃ (i : Nat) (A' : Option Addr) (n' c' : Nat) (hs : List Gm), i ≤ gs.length ∧ j = .int .i64 i ∧ kv = .slice A' n' c' ∧ n' ≤ c' ∧ CrS w w2 wr (w.heap.size + 1) w.heap.size gs ks i A' n' hs) (fun _ j _ => gs.length - (intOf j).toNat)
  case atStart => exact ⟨0, A, n, c, [], Nat.zero_le _, rfl, rfl, hc, ⟨hk, rfl, HD2.out, Stp.refl _ _⟩⟩
  case round =>
    obtain ⟨i, A', n', c', hs, hi, rfl, rfl, hc', hS⟩ := hrel
    have HS := Lib.hid hS
    clear hS
    by_cases hin : i < gs.length
    · have hcN : (i : Int) < gs.length := by omega
      obtain ⟨g, hg⟩ : ∃ g, gs[i]? = some g := ⟨_, List.getElem?_eq_getElem hin⟩
      have hgm : g ∈ gs := List.mem_of_getElem? hg
      have hlt1 := fun k => HD1.out.foot_lt (k := k)
      have hw1 : w.heap.size + 1 < w1.heap.size := hlt1 _ (.inl rfl)
      have hbw : Below w.heap.size w wr := hb12.trans (HS.out.stp.oth.below (fun k e => by
        rcases e with e | e | ⟨g, hg, _⟩
        · omega
        · omega
        · cases hg) hb12.size)
      have hDw : Dr wr pb mb gs st ar lf := H.out.below hbw (Nat.le_refl _)
      have hslr : Sl wr A2 gs.length (gs.map fun g => sv g.name) := sl_stp (c := c2) hsl2 HS.out.stp fun k e hf => by
        have := (hlt2 k e).1
        rcases hf with e | e | ⟨g, hg, _⟩
        · omega
        · omega
        · cases hg
      obtain ⟨b2, o2, u2, rfl, hu2, hcell⟩ := hslr.at_ hin
      have hu2' : u2 = .string (str g.name) := by
        rw [List.getElem?_map, hg] at hu2
        exact (Option.some.inj hu2).symm
      subst hu2'
      obtain ⟨g1, g2, g3, g4, g5⟩ := hDw.file g hgm
      have hlk := map_look hDw.map (s := g.name) (by simp only [maxLen]; omega)
      rw [find_mem' hDw.rises hgm] at hlk
      simp only [ptr] at hlk
      have c0 := hDw.c0
      obtain ⟨Ag, cg, hgv⟩ := own_form g2
      have f0 := hDw.f0 hgm
      have f1 := hDw.f1 hgm
      rw [hgv] at f0
      have hlo := lo_any hDw hgm
      have hlow : ∀ q, Calls Tryz.prog 94 #[.pointer (some ⟨g.blk, 0, none⟩)] (wr.drewN q) fun e w' => e = .returned (.int .i64 ((g.f.data.length - g.f.syn : Nat) : Int)) ∧ ∃ m, w' = (wr.drewN q).drewN m := fun q => lo_any (hDw.drew q) hgm
      have hgsl2 : Sl wr Ag g.f.data.length (bv g.f.data) := by rw [hgv] at g2; exact own_sl g2
      have hcg : g.f.data.length ≤ cg := by rw [hgv] at g2; exact own_le g2
      have HG := Lib.hid hg
      have HW := Lib.hid hDw
      clear hg hDw hgv g1 g2 hu2
      have hadd : ∀ (m q : Nat), m ≤ g.f.data.length → (cr1 g.f (crash ((gs.take i).map Gm.f) ks).2).1 = ⟨g.f.name, g.f.data.take m, m⟩ →
          Calls Tryz.prog 51 #[.pointer (some ⟨w.heap.size + 1, 0, none⟩), .string (str g.name), .slice Ag m cg] (wr.drewN q) fun e w' => e = .returned (.tuple #[]) ∧ ∃ hs', ∀ (A2 : Option Addr) (m2 : Nat), Sl w A2 m2 (iv (cr1 g.f (crash ((gs.take i).map Gm.f) ks).2).2) → CrS w w2 w' (w.heap.size + 1) w.heap.size gs ks (i + 1) A2 m2 hs' := by
        intro m q hm hcr
        have hst : Sl (wr.drewN q) Ag m (bv (g.f.data.take m)) := by
          have := (hgsl2.drewN q).take hm
          rwa [show (bv g.f.data).take m = bv (g.f.data.take m) from by simp [bv, List.map_take]] at this
        refine (addSynced_any (HS.out.dr.drew q) g.name g5 Ag m cg (g.f.data.take m) hst (by omega) (fun g' _ => Nat.le_trans (length_with _ _) ?_)).mono ?_
        · have : hs.length ≤ i := by
            have := congrArg List.length HS.out.fs
            have h2 := congrArg List.length (crash_names ks ((gs.take i).map Gm.f))
            simp only [List.length_map, List.length_take] at this h2
            omega
          omega
        · rintro e w' ⟨rfl, g', hg', hd, hst2⟩
          refine ⟨rfl, _, fun A2 m2 hsl => HS.out.next HG.out HW.out.rises (g' := g') ?_ hsl hd ?_⟩
          · rw [hg', hcr]
            have : (g.f.data.take m).length = m := by rw [List.length_take]; omega
            rw [this]
          · exact ⟨⟨hst2.oth.os, hst2.oth.tape, hst2.oth.output, hst2.oth.size, hst2.oth.block⟩, hst2.sub⟩
      have hksl : (crash ((gs.take i).map Gm.f) ks).2.length = n' := by have := HS.out.sl.1; rwa [iv_len] at this
      obtain ⟨kk, hkk⟩ : ∃ kk, kk = (crash ((gs.take i).map Gm.f) ks).2 := ⟨_, rfl⟩
      have hsk := HS.out.sl
      rw [← hkk] at hadd hksl hsk
      clear hkk
      by_cases hL : (0 : Int) < ((g.f.data.length - g.f.syn : Nat) : Int)
      · by_cases hn : (0 : Int) < n'
        · obtain ⟨k0, kr, rfl⟩ : ∃ k0 kr, kk = k0 :: kr := by cases kk with
            | nil => simp at hksl; omega
            | cons a b => exact ⟨a, b, rfl⟩
          obtain ⟨kb, ko, ku, rfl, hku, hkc⟩ := hsk.at_ (k := 0) (by omega)
          have hku' : ku = .int .i64 k0 := by simp [iv] at hku; exact hku.symm
          subst hku'
          have hbk : kb < w.heap.size := World.block_lt_of_cell? _ _ hkc
          have hkcw : wr.cell? ⟨kb, ko + 0, none⟩ = some (.int .i64 k0) := by rw [hbw.cell hbk]; exact hkc
          have hkcw0 : wr.cell? ⟨kb, ko, none⟩ = some (.int .i64 k0) := by simpa using hkcw
          obtain ⟨L, hLd⟩ : ∃ L : Nat, L = g.f.data.length - g.f.syn := ⟨_, rfl⟩
          rw [← hLd] at hL hlow hlo
          have hLs : g.f.syn + L = g.f.data.length := by omega
          have HLS := Lib.hid hLs
          have hLi : (g.f.syn : Int) + L ≤ 262144 := by omega
          have hcr : cr1 g.f (k0 :: kr) = (cutF g.f (max 0 (min k0 (L : Int))).toNat, kr) := by unfold cr1; rw [if_pos (by omega), hLd]
          rw [hcr] at hadd
          have HLD := Lib.hid hLd
          clear hLd hcr hLs
          have hm2 : g.f.syn + (max 0 (min k0 (L : Int))).toNat = ((g.f.syn : Int) + max 0 (min k0 (L : Int))).toNat := by omega
          have hMc : ((g.f.syn : Int) + max 0 (min k0 (L : Int))) ≤ cg := by have := HLS.out; omega
          have hadd2 : ∀ q, Calls Tryz.prog 51 #[.pointer (some ⟨w.heap.size + 1, 0, none⟩), .string (str g.name), .slice Ag ((g.f.syn : Int) + max 0 (min k0 (L : Int))).toNat cg] (wr.drewN q) fun e w' => e = .returned (.tuple #[]) ∧ ∃ hs', ∀ (A2 : Option Addr) (m2 : Nat), Sl w A2 m2 (iv kr) → CrS w w2 w' (w.heap.size + 1) w.heap.size gs ks (i + 1) A2 m2 hs' := fun q =>
            hadd _ q (by have := HLS.out; omega) (by simp only [cutF, hm2])
          have HA2 := Lib.hid hadd2
          clear hm2 hadd hadd2
          have hslk : Sl w (if c' = 1 then some ⟨kb, ko, none⟩ else some ⟨kb, ko + 1, none⟩) (n' - 1) (iv kr) := by
            have h1 := hsk.drop (k := 1) (by omega) (if c' = 1 then some ⟨kb, ko, none⟩ else some ⟨kb, ko + 1, none⟩) (by
              intro h1 b o e
              rw [if_neg (by omega)]
              injection e with e; injection e with e1 e2; subst e1 e2; rfl)
            rwa [show (iv (k0 :: kr)).drop 1 = iv kr from rfl] at h1
          have HSK := Lib.hid hslk
          clear hslk
          go_wp2_with (go_at_call 94; refine hlo.mono ?_; rintro e w3 ⟨rfl, q, rfl⟩)
          have hlow2 : ∀ m, Calls Tryz.prog 94 #[.pointer (some ⟨g.blk, 0, none⟩)] ((wr.drewN q).drewN m) fun e w' => e = .returned (.int .i64 (L : Int)) ∧ ∃ m', w' = ((wr.drewN q).drewN m).drewN m' := fun m => by
            have h := hlow (q + m); rwa [← World.drewN_drewN] at h
          have hkq : (wr.drewN q).cell? ⟨kb, ko, none⟩ = some (.int .i64 k0) := hkcw0
          have f0q : (wr.drewN q).cell? ⟨g.blk, 0, none⟩ = some (.slice Ag g.f.data.length cg) := f0
          generalize hwq : wr.drewN q = wq at hlow2 hkq f0q ⊢
          have HWQ := Lib.hid hwq
          clear hwq
          go_quiet ((go_at_call 94; exact Calls.quiet_of (hlow2 _)))
          have hq := HA2.out (q + nq)
          rw [← World.drewN_drewN, HWQ.out] at hq
          go_wp2_with (go_at_call 51; refine hq.mono ?_; rintro e w5 ⟨rfl, hs5, hn5⟩; have HN := Lib.hid hn5; clear hn5)
          exact ⟨⟨i + 1, _, n' - 1, c' - 1, hs5, by omega, by simp, rfl, by omega, HN.out _ _ HSK.out⟩, by simp [intOf]; omega⟩
        · have hkn : kk = [] := List.eq_nil_of_length_eq_zero (by omega)
          subst hkn
          have hcr : cr1 g.f [] = (cutF g.f 0, []) := by unfold cr1; rw [if_pos (by omega)]
          rw [hcr] at hadd
          go_wp2_with (first
            | (go_at_call 94; refine hlo.mono ?_; rintro e w3 ⟨rfl, q, rfl⟩)
            | (go_at_call 51; refine (hadd g.f.syn q (by omega) rfl).mono ?_; rintro e w5 ⟨rfl, hs5, hn5⟩; have HN := Lib.hid hn5; clear hn5))
          exact ⟨⟨i + 1, A', n', c', hs5, by omega, by simp, rfl, hc', HN.out A' n' hsk⟩, by simp [intOf]; omega⟩
      · have hcr : cr1 g.f kk = (cutF g.f 0, kk) := by unfold cr1; rw [if_neg (by omega)]
        rw [hcr] at hadd
        go_wp2_with (first
          | (go_at_call 94; refine hlo.mono ?_; rintro e w3 ⟨rfl, q, rfl⟩)
          | (go_at_call 51; refine (hadd g.f.syn q (by omega) rfl).mono ?_; rintro e w5 ⟨rfl, hs5, hn5⟩; have HN := Lib.hid hn5; clear hn5))
        exact ⟨⟨i + 1, A', n', c', hs5, by omega, by simp, rfl, hc', HN.out A' n' hsk⟩, by simp [intOf]; omega⟩
    · have hcN : ¬ (i : Int) < gs.length := by omega
      have hie : i = gs.length := by omega
      have hlt : ∀ k, foot (w.heap.size + 1) w.heap.size hs k → w.heap.size ≤ k := fun k hk => by
        rcases HS.out.stp.sub k hk with e | e
        · rcases e with e | e | ⟨g, hg, _⟩
          · omega
          · omega
          · cases hg
        · have := hb12.size; omega
      have hbw : Below w.heap.size w wr := hb12.trans (HS.out.stp.oth.below (fun k e => by
        rcases e with e | e | ⟨g, hg, _⟩
        · omega
        · omega
        · cases hg) hb12.size)
      go_wp2_with fail
      go_ret
      refine ⟨_, _, hs, rfl, ?_, HS.out.dr, hbw, hlt⟩
      have := HS.out.fs
      rwa [List.take_of_length_le (by omega)] at this
end Go.Proofs.YtadkgfhfjagmpaaGreatDoor
