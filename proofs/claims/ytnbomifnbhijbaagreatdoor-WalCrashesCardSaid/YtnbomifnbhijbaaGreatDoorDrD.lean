/-
  A drive's files written: put, addSynced, Append, Sync, Rename, Delete, Arm; and a file read.
-/
import Derived.Test.YtnbomifnbhijbaaGreatDoorDrC
namespace Go.Proofs.YtnbomifnbhijbaaGreatDoor
open Go.RowKit Go.Maps
set_option linter.unusedVariables false

section
variable {w w' : World} {pb mb : Nat} {gs : List Gm} {st lf : Int} {ar : Bool}
theorem Dr.ne_mb (h : Dr w pb mb gs st ar lf) {k : Nat} (hk : k = pb ∨ ∃ g ∈ gs, k = g.blk ∨ g.v.ownBlock = some k) : k ≠ mb := by
  rintro rfl
  obtain ⟨es, c, hm⟩ := map_is h.map
  rcases hk with rfl | ⟨g, hg, rfl | e⟩
  · have hp := h.blk; unfold Blk at hp; rw [hm] at hp; cases hp
  · have hp := (h.file g hg).1; unfold Blk at hp; rw [hm] at hp; cases hp
  · obtain ⟨cur, hb⟩ := own_blk_type (h.file g hg).2.1 e
    unfold Blk at hb; rw [hm] at hb; cases hb
/-- A file put in: the map's block alone has turned. -/
theorem Dr.putG (h : Dr w pb mb gs st ar lf) (g : Gm) (hb : Blk w g.blk #[g.v, .int .i64 g.f.syn] 111) (hr : w.ownsRow 0 5 1 g.v g.f.data.length (bv g.f.data))
    (h3 : g.f.syn ≤ g.f.data.length ∧ g.f.data.length ≤ 262144 ∧ g.name.length ≤ 32) (hap : ∀ y ∈ gs, y.name ≠ g.name → Gapart g y) (hfew : (withK Gm.name g gs).length ≤ 256)
    {n : Nat} (hm : w'.ownsMap Tryz.prog 9 R mb n ((DataW.map (ents Gm.name dat gs)).put (.string g.name) (dat g))) (hk : ∀ k, k ≠ mb → k < w.heap.size → w'.heap[k]? = w.heap[k]?) : Dr w' pb mb (withK Gm.name g gs) st ar lf := by
  have hmb : ∀ k cs t, Blk w k cs t → k ≠ mb := fun k cs t hB e => by
    obtain ⟨es, c, hm⟩ := map_is h.map
    unfold Blk at hB; rw [e, hm] at hB; cases hB
  have hfile : ∀ y : Gm, Blk w y.blk #[y.v, .int .i64 y.f.syn] 111 → w.ownsRow 0 5 1 y.v y.f.data.length (bv y.f.data) → Blk w' y.blk #[y.v, .int .i64 y.f.syn] 111 ∧ w'.ownsRow 0 5 1 y.v y.f.data.length (bv y.f.data) := fun y h1 h2 =>
    ⟨h1.keep (hk _ (hmb _ _ _ h1) h1.lt), own_at h2 fun k e => by obtain ⟨cur, hB⟩ := own_blk_type h2 e; exact hk _ (hmb _ _ _ hB) hB.lt⟩
  refine ⟨h.blk.keep (hk _ (h.ne_mb (.inl rfl)) h.blk.lt), ?_, rises_with g h.rises, ?_, ?_, hfew⟩
  · rw [ents_put g h.rises] at hm
    have := map_tight hm
    rwa [ents_size] at this
  · intro y hy
    rcases mem_with_ne h.rises hy with rfl | ⟨hy, hne⟩
    · exact ⟨(hfile y hb hr).1, (hfile y hb hr).2, h3⟩
    · obtain ⟨h1, h2, h4⟩ := h.file y hy
      exact ⟨(hfile y h1 h2).1, (hfile y h1 h2).2, h4⟩
  · intro a ha b hb' hne
    rcases mem_with_ne h.rises ha with rfl | ⟨ha2, hna⟩
    · rcases mem_with_ne h.rises hb' with rfl | ⟨hb2, hnb⟩
      · exact absurd rfl hne
      · exact hap b hb2 hnb
    · rcases mem_with_ne h.rises hb' with rfl | ⟨hb2, hnb⟩
      · exact (hap a ha2 hna).symm
      · exact h.apart a ha2 b hb2 hne
/-- A file taken out. -/
theorem Dr.outG (h : Dr w pb mb gs st ar lf) (s : List UInt8) {n : Nat} (hm : w'.ownsMap Tryz.prog 9 R mb n ((DataW.map (ents Gm.name dat gs)).del (.string s))) (hk : ∀ k, k ≠ mb → k < w.heap.size → w'.heap[k]? = w.heap[k]?) : Dr w' pb mb (outK Gm.name s gs) st ar lf := by
  have hmem : ∀ y ∈ outK Gm.name s gs, y ∈ gs := fun y hy => (List.mem_filter.1 hy).1
  refine ⟨h.blk.keep (hk _ (h.ne_mb (.inl rfl)) h.blk.lt), ?_, rises_out s h.rises, ?_, ?_, Nat.le_trans (out_length _ _) h.few⟩
  · rw [ents_del] at hm
    have := map_tight hm
    rwa [ents_size] at this
  · intro y hy
    have hy := hmem y hy
    obtain ⟨h1, h2, h4⟩ := h.file y hy
    exact ⟨h1.keep (hk _ (h.ne_mb (.inr ⟨y, hy, .inl rfl⟩)) h1.lt), own_at h2 fun k e => hk _ (h.ne_mb (.inr ⟨y, hy, .inr e⟩)) (h.foot_lt (.inr (.inr ⟨y, hy, .inr e⟩))), h4⟩
  · exact fun a ha b hb => h.apart a (hmem a ha) b (hmem b hb)
/-- A file's own memory has turned. -/
theorem Dr.turnG (h : Dr w pb mb gs st ar lf) {g g' : Gm} (hg : g ∈ gs) (hn : g'.name = g.name) (hbk : g'.blk = g.blk) (hb : Blk w' g.blk #[g'.v, .int .i64 g'.f.syn] 111) (hr : w'.ownsRow 0 5 1 g'.v g'.f.data.length (bv g'.f.data))
    (h3 : g'.f.syn ≤ g'.f.data.length ∧ g'.f.data.length ≤ 262144) (hv : ∀ k, g'.v.ownBlock = some k → g.v.ownBlock = some k ∨ w.heap.size ≤ k)
    (hk : ∀ k, k ≠ g.blk → g.v.ownBlock ≠ some k → k < w.heap.size → w'.heap[k]? = w.heap[k]?) : Dr w' pb mb (withK Gm.name g' gs) st ar lf := by
  obtain ⟨g1, g2, g3⟩ := h.file g hg
  have hpb : w'.heap[pb]? = w.heap[pb]? := hk _ (fun e => h.ne_pb (.inr ⟨g, hg, .inl rfl⟩) e.symm) (fun e => h.ne_pb (.inr ⟨g, hg, .inr e⟩) rfl) h.blk.lt
  have hmb : w'.heap[mb]? = w.heap[mb]? := hk _ (fun e => h.ne_mb (.inr ⟨g, hg, .inl rfl⟩) e.symm) (fun e => h.ne_mb (.inr ⟨g, hg, .inr e⟩) rfl) h.map.lt
  have hlen : (withK Gm.name g' gs).length ≤ gs.length := length_with_old g' gs ⟨g, hg, hn.symm⟩
  have he : ents Gm.name dat (withK Gm.name g' gs) = ents Gm.name dat gs := with_same (f := fun a : Gm => ((Lit.string a.name : Lit), dat a)) hn (by simp only [dat, hn, hbk]) h.rises hg
  refine ⟨h.blk.keep hpb, ?_, rises_with g' h.rises, ?_, ?_, Nat.le_trans hlen h.few⟩
  · have := map_tight (map_at h.map hmb)
    rw [ents_size] at this
    rw [he]
    have e2 : (withK Gm.name g' gs).length = gs.length := by
      have := congrArg List.length he
      simpa [ents] using this
    rwa [e2]
  · intro y hy
    rcases mem_with_ne h.rises hy with rfl | ⟨hy, hne⟩
    · exact ⟨by rw [hbk]; exact hb, hr, h3.1, h3.2, by rw [hn]; exact g3.2.2⟩
    · rw [hn] at hne
      obtain ⟨h1, h2, h4⟩ := h.file y hy
      have hap := h.apart y hy g hg hne
      refine ⟨h1.keep (hk _ hap.1 (fun e => ?_) h1.lt), own_at h2 fun k e => hk k (fun ek => ?_) (hap.2 k e) (h.foot_lt (.inr (.inr ⟨y, hy, .inr e⟩))), h4⟩
      · obtain ⟨cur, hB⟩ := own_blk_type g2 e
        unfold Blk at hB h1
        rw [hB] at h1; injection h1 with h1; injection h1 with _ h5; exact absurd h5 (by decide)
      · obtain ⟨cur, hB⟩ := own_blk_type h2 e
        unfold Blk at hB g1
        rw [ek, g1] at hB; injection hB with hB; injection hB with _ h5; exact absurd h5 (by decide)
  · have hga : ∀ y ∈ gs, y.name ≠ g.name → Gapart g' y := fun y hy hne => by
      have hap := h.apart g hg y hy (fun e => hne e.symm)
      refine ⟨by rw [hbk]; exact hap.1, fun k e e2 => ?_⟩
      rcases hv k e with e1 | e1
      · exact hap.2 k e1 e2
      · have := h.foot_lt (.inr (.inr ⟨y, hy, .inr e2⟩)); omega
    intro a ha b hb' hne
    rcases mem_with_ne h.rises ha with rfl | ⟨ha2, hna⟩
    · rcases mem_with_ne h.rises hb' with rfl | ⟨hb2, hnb⟩
      · exact absurd rfl hne
      · rw [hn] at hnb
        exact hga b hb2 hnb
    · rw [hn] at hna
      rcases mem_with_ne h.rises hb' with rfl | ⟨hb2, hnb⟩
      · exact (hga a ha2 hna).symm
      · exact h.apart a ha2 b hb2 hne
end
theorem foot_with {pb mb : Nat} {gs : List Gm} {g : Gm} {k : Nat} (hk : foot pb mb (withK Gm.name g gs) k) : foot pb mb gs k ∨ k = g.blk ∨ g.v.ownBlock = some k := by
  rcases hk with h | h | ⟨y, hy, h⟩
  · exact .inl (.inl h)
  · exact .inl (.inr (.inl h))
  · rcases mem_with hy with rfl | hy
    · exact .inr h
    · exact .inl (.inr (.inr ⟨y, hy, h⟩))
theorem foot_out {pb mb : Nat} {gs : List Gm} {s : List UInt8} {k : Nat} (hk : foot pb mb (outK Gm.name s gs) k) : foot pb mb gs k := by
  rcases hk with h | h | ⟨y, hy, h⟩
  · exact .inl h
  · exact .inr (.inl h)
  · exact .inr (.inr ⟨y, (List.mem_filter.1 hy).1, h⟩)

set_option maxRecDepth 40000 in
set_option maxHeartbeats 2000000 in
theorem put_any {w : World} {pb mb : Nat} {gs : List Gm} {st lf : Int} {ar : Bool} (h : Dr w pb mb gs st ar lf) (g : Gm) (hb : Blk w g.blk #[g.v, .int .i64 g.f.syn] 111) (hr : w.ownsRow 0 5 1 g.v g.f.data.length (bv g.f.data))
    (h3 : g.f.syn ≤ g.f.data.length ∧ g.f.data.length ≤ 262144 ∧ g.name.length ≤ 32) (hap : ∀ y ∈ gs, y.name ≠ g.name → Gapart g y) (hfew : (withK Gm.name g gs).length ≤ 256) :
    Calls Tryz.prog 70 #[.pointer (some ⟨pb, 0, none⟩), .string (str g.name), .pointer (some ⟨g.blk, 0, none⟩)] w fun e w' => e = .returned (.tuple #[]) ∧ Dr w' pb mb (withK Gm.name g gs) st ar lf ∧ Oth (fun k => k = mb) w w' := by
  have c0 : ∀ V, Below w.heap.size w V → V.cell? ⟨pb, 0, none⟩ = some (.map (some mb)) := fun V hV => by rw [hV.cell h.blk.lt]; exact h.c0
  have c00 := h.c0
  have hkey := key_str (s := g.name) (by have := h3.2.2; simp only [maxLen]; omega)
  have hlim : (str g.name).size ≤ 281474976710656 := by rw [str_size]; have := h3.2.2; omega
  have hfw := h.few
  have fin : ∀ w1 w2, Below w.heap.size w w1 → w2.ownsMap Tryz.prog 9 R mb (gs.length + 1) ((DataW.map (ents Gm.name dat gs)).put (.string g.name) (dat g)) → w1.grownBy w2 (some mb) → Dr w2 pb mb (withK Gm.name g gs) st ar lf ∧ Oth (fun k => k = mb) w w2 := fun w1 w2 hb1 hm hg2 => by
    have hkk : ∀ k, k ≠ mb → k < w.heap.size → w2.heap[k]? = w.heap[k]? := fun k hk hl => (hg2.block k (Nat.lt_of_lt_of_le hl hb1.size) (fun e => hk (Option.some.inj e))).trans (hb1.block k hl)
    exact ⟨h.putG g hb hr h3 hap hfew hm hkk, ⟨hg2.os.trans hb1.os, hg2.tape.trans hb1.tape, hg2.output.trans hb1.output, Nat.le_trans hb1.size hg2.size, fun k hl hk => hkk k hk hl⟩⟩
  have hmap := h.map
  have HM := Lib.hid hmap
  have H := Lib.hid h
  clear h hmap
  go_enter Tryz.func70, Tryz.ntmps70
  go_region_with ((go_at_call 94; refine (sclone_any _ _ hlim).mono ?_; rintro e w1 ⟨rfl, hb1⟩; have hb2 := (Below.refl w.heap.size w).drew.trans hb1; have c01 := c0 _ hb2; obtain ⟨w2, hrun, hm2, hg2⟩ := (map_at HM.out (hb2.block _ HM.out.lt)).update law9 Tryz.underlying68 (by simp only [maxLen]; omega) hkey (R_ptr g.blk); have hfin := Lib.hid (fin w1 w2 hb2 hm2 hg2); clear hm2 hg2))
  all_goals exact bodyPost_end (results_none rfl _ _ _) rfl ⟨rfl, hfin.out⟩

theorem Oth.mono {S S' : Nat → Prop} {w w' : World} (h : Oth S w w') (hS : ∀ k, S k → S' k) : Oth S' w w' := ⟨h.os, h.tape, h.output, h.size, fun k hk hn => h.block k hk fun e => hn (hS k e)⟩
theorem own_base {w : World} {B B' e n : Nat} {v : Value} {xs : List Value} (h : w.ownsRow B e 1 v n xs) (hB : B' ≤ B) : w.ownsRow B' e 1 v n xs := by
  refine ⟨h.1, ?_⟩
  rcases h.2 with h2 | ⟨g, cap, cur, rfl, h3, h4⟩
  · exact .inl h2
  · exact .inr ⟨g, cap, cur, rfl, Nat.le_trans hB h3, h4⟩

set_option maxHeartbeats 2000000 in
theorem addSynced_any {w : World} {pb mb : Nat} {gs : List Gm} {st lf : Int} {ar : Bool} (h : Dr w pb mb gs st ar lf) (s : List UInt8) (hs : s.length ≤ 32) (A : Option Addr) (n c : Nat) (l : List UInt8) (hl : Sl w A n (bv l)) (hn : n ≤ 262144) (hfew : ∀ g : Gm, g.name = s → (withK Gm.name g gs).length ≤ 256) :
    Calls Tryz.prog 39 #[.pointer (some ⟨pb, 0, none⟩), .string (str s), .slice A n c] w fun e w' => e = .returned (.tuple #[]) ∧ ∃ g : Gm, g.f = ⟨s, l, l.length⟩ ∧ Dr w' pb mb (withK Gm.name g gs) st ar lf ∧ Stp w w' (foot pb mb gs) (foot pb mb (withK Gm.name g gs)) := by
  have hll := hl.len
  subst hll
  have H := Lib.hid h
  have HF := Lib.hid hfew
  clear h hfew
  go_enter Tryz.func39, Tryz.ntmps39
  go_wp2_with (go_at_call 71; refine (bclone_any _ _ _ l _ hl (by omega)).mono ?_; rintro e w1 ⟨A1, c1, rfl, hown1, hb1⟩)
  obtain ⟨g, hg⟩ : ∃ g : Gm, g = ⟨⟨s, l, l.length⟩, w1.heap.size, .slice A1 l.length c1⟩ := ⟨_, rfl⟩
  have hgf : g.f = ⟨s, l, l.length⟩ := by rw [hg]
  have hgb : g.blk = w1.heap.size := by rw [hg]
  have hgv : g.v = .slice A1 l.length c1 := by rw [hg]
  have hgn : g.name = s := by rw [Gm.name, hgf]
  have h1 : Dr w1 pb mb gs st ar lf := H.out.below hb1 (Nat.le_refl _)
  have h2 := h1.alloc (.cells #[.slice A1 l.length c1, .int .i64 (l.length : Int)] 111)
  have hbk := Blk.new w1 #[.slice A1 l.length c1, .int .i64 (l.length : Int)] 111
  have hlt1 := fun k => h1.foot_lt (k := k)
  have hlt0 := fun k => H.out.foot_lt (k := k)
  have hb01 := hb1.size
  have hct := put_any h2 g (by rw [hgb, hgv, hgf]; exact hbk) (by rw [hgv, hgf]; exact (own_base hown1 (Nat.zero_le _)).alloc _) (by rw [hgn, hgf]; exact ⟨Nat.le_refl _, by simp only; omega, hs⟩)
    (fun y hy _ => ⟨by rw [hgb]; have := hlt1 _ (.inr (.inr ⟨y, hy, .inl rfl⟩)); omega, fun k e e2 => by
      rw [hgv] at e
      have i1 := (hown1.lt k e).1
      have i2 := hlt0 _ (.inr (.inr ⟨y, hy, .inr e2⟩))
      omega⟩) (HF.out g hgn)
  rw [hgn, hgb] at hct
  clear h2 hbk
  have HG := Lib.hid hgf
  have HGB := Lib.hid hgb
  have HGV := Lib.hid hgv
  clear hg hgf hgb hgv hgn
  go_wp2_with (go_at_call 70; refine hct.mono ?_; rintro e w3 ⟨rfl, hD, hO⟩; have HD := Lib.hid hD; clear hD)
  go_end0
  refine ⟨rfl, g, HG.out, HD.out, ⟨hO.os.trans hb1.os, hO.tape.trans hb1.tape, hO.output.trans hb1.output, ?_, fun k hk hn => ?_⟩, fun k hk => ?_⟩
  · have := hO.size; rw [World.size_alloc] at this; omega
  · rw [hO.block k (by rw [World.size_alloc]; omega) (fun e => hn (.inr (.inl e))), Below.heap_alloc _ _ _ (by omega)]
    exact hb1.block k hk
  · rcases foot_with hk with e | e | e
    · exact .inl e
    · rw [HGB.out] at e; exact .inr (by omega)
    · rw [HGV.out] at e; exact .inr (hown1.lt k e).1
end Go.Proofs.YtnbomifnbhijbaaGreatDoor
