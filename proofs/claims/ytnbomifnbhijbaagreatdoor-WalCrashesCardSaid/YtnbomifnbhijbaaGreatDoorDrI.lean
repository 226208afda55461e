/-
  What a loss of power leaves of a drive.
-/
import Derived.Test.YtnbomifnbhijbaaGreatDoorDrH
namespace Go.Proofs.YtnbomifnbhijbaaGreatDoor
open Go.RowKit Go.Maps
set_option linter.unusedVariables false

def iv (l : List Int) : List Value := l.map fun k => Value.int .i64 k
def cutF (f : Fm) (m : Nat) : Fm := ⟨f.name, f.data.take (f.syn + m), f.syn + m⟩
def cr1 (f : Fm) (ks : List Int) : Fm × List Int :=
  if f.syn < f.data.length then match ks with
    | k :: r => (cutF f (max 0 (min k ((f.data.length - f.syn : Nat) : Int))).toNat, r)
    | [] => (cutF f 0, [])
  else (cutF f 0, ks)
def crash (fs : List Fm) (ks : List Int) : List Fm × List Int := fs.foldl (fun a f => (a.1 ++ [(cr1 f a.2).1], (cr1 f a.2).2)) ([], ks)
theorem crash_snoc (fs : List Fm) (f : Fm) (ks : List Int) : crash (fs ++ [f]) ks = ((crash fs ks).1 ++ [(cr1 f (crash fs ks).2).1], (cr1 f (crash fs ks).2).2) := by
  simp [crash, List.foldl_append]
theorem cr1_name (f : Fm) (ks : List Int) : (cr1 f ks).1.name = f.name := by
  unfold cr1
  split
  · split <;> rfl
  · rfl
theorem crash_names (ks : List Int) (fs : List Fm) : (crash fs ks).1.map Fm.name = fs.map Fm.name := by
  have key : ∀ (fs : List Fm) (acc : List Fm × List Int), (fs.foldl (fun a f => (a.1 ++ [(cr1 f a.2).1], (cr1 f a.2).2)) acc).1.map Fm.name = acc.1.map Fm.name ++ fs.map Fm.name := by
    intro fs
    induction fs with
    | nil => intro acc; simp
    | cons f r ih => intro acc; rw [List.foldl_cons, ih]; simp [cr1_name]
  simpa [crash] using key fs ([], ks)

/-- Where the loop of Crash stands. -/
structure CrS (w w2 wr : World) (pb2 mb2 : Nat) (gs : List Gm) (ks : List Int) (i : Nat) (A' : Option Addr) (n' : Nat) (hs : List Gm) : Prop where
  sl : Sl w A' n' (iv (crash ((gs.take i).map Gm.f) ks).2)
  fs : hs.map Gm.f = (crash ((gs.take i).map Gm.f) ks).1
  dr : Dr wr pb2 mb2 hs 0 false 0
  stp : Stp w2 wr (foot pb2 mb2 []) (foot pb2 mb2 hs)

theorem CrS.next {w w2 wr wr' : World} {pb2 mb2 i n' m : Nat} {gs hs : List Gm} {ks : List Int} {A' A2 : Option Addr} {g g' : Gm} (h : CrS w w2 wr pb2 mb2 gs ks i A' n' hs) (hg : gs[i]? = some g) (hr : Rises Gm.name gs)
    (hgf : g'.f = (cr1 g.f (crash ((gs.take i).map Gm.f) ks).2).1) (hsl : Sl w A2 m (iv (cr1 g.f (crash ((gs.take i).map Gm.f) ks).2).2))
    (hd : Dr wr' pb2 mb2 (withK Gm.name g' hs) 0 false 0) (hst : Stp wr wr' (foot pb2 mb2 hs) (foot pb2 mb2 (withK Gm.name g' hs))) : CrS w w2 wr' pb2 mb2 gs ks (i + 1) A2 m (withK Gm.name g' hs) := by
  have ht : (gs.take (i + 1)).map Gm.f = (gs.take i).map Gm.f ++ [g.f] := by rw [List.take_add_one, hg]; simp
  have hl : withK Gm.name g' hs = hs ++ [g'] := by
    apply with_last
    intro y hy
    have hn : g'.name = g.name := by rw [Gm.name, hgf, cr1_name]
    rw [hn]
    have h1 : y.name ∈ hs.map Gm.name := List.mem_map.2 ⟨y, hy, rfl⟩
    have h2 : hs.map Gm.name = (gs.take i).map Gm.name := by
      have := congrArg (List.map Fm.name) h.fs
      rw [crash_names] at this
      simpa [List.map_map, Function.comp_def] using this
    rw [h2] at h1
    obtain ⟨z, hz, e⟩ := List.mem_map.1 h1
    rw [← e]
    obtain ⟨j, hj, e2⟩ := List.mem_take_iff_getElem.1 hz
    have hi : i < gs.length := (List.getElem?_eq_some_iff.1 hg).1
    have hge : gs[i] = g := (List.getElem?_eq_some_iff.1 hg).2
    have := List.pairwise_iff_getElem.1 hr j i (by omega) hi (by omega)
    rw [e2, hge] at this
    exact this
  refine ⟨by rw [ht, crash_snoc]; exact hsl, ?_, hd, h.stp.trans hst⟩
  rw [ht, crash_snoc, hl, List.map_append, h.fs]
  simp [hgf]

theorem iv_get {l : List Int} {k : Nat} (h : k < l.length) : (iv l)[k]? = some (Value.int .i64 l[k]) := by simp [iv, h]
theorem iv_len (l : List Int) : (iv l).length = l.length := by simp [iv]

def CrPost (w : World) (gs : List Gm) (ks : List Int) (e : Ending) (w' : World) : Prop :=
  ∃ pb2 mb2 hs, e = .returned (.pointer (some ⟨pb2, 0, none⟩)) ∧ hs.map Gm.f = (crash (gs.map Gm.f) ks).1 ∧ Dr w' pb2 mb2 hs 0 false 0 ∧ Below w.heap.size w w' ∧ ∀ k, foot pb2 mb2 hs k → w.heap.size ≤ k

set_option maxRecDepth 40000 in
set_option maxHeartbeats 8000000 in
theorem crash_any {w : World} {pb mb : Nat} {gs : List Gm} {st lf : Int} {ar : Bool} (h : Dr w pb mb gs st ar lf) (A : Option Addr) (n c : Nat) (ks : List Int) (hk : Sl w A n (iv ks)) (hc : n ≤ c) :
    Calls Tryz.prog 21 #[.pointer (some ⟨pb, 0, none⟩), .slice A n c] w (CrPost w gs ks) := by
  have H := Lib.hid h
  clear h
  have hfew := H.out.few
  go_enter Tryz.func21, Tryz.ntmps21
  go_wp2_with (first
    | (go_at_call 6; refine (new_any _).mono ?_; rintro e w1 ⟨rfl, hD1, hb1⟩; have HD1 := Lib.hid hD1; clear hD1)
    | (go_at_call 45; refine (names_any (H.out.below hb1 (Nat.le_refl _))).mono ?_; rintro e w2 ⟨A2, c2, rfl, hown2, hb2⟩))
  have hb12 : Below w.heap.size w w2 := hb1.trans (hb2.mono hb1.size)
  have HD2 := Lib.hid (HD1.out.below hb2 (Nat.le_refl _))
  have hsl2 := own_sl hown2
  have hlt2 := hown2.lt
  clear hown2
  have hgsl : (gs.map fun g => sv g.name).length = gs.length := by simp
  go_loopw [1, 14] (fun kv j wr => ∃ (i : Nat) (A' : Option Addr) (n' c' : Nat) (hs : List Gm), i ≤ gs.length ∧ j = .int .i64 i ∧ kv = .slice A' n' c' ∧ n' ≤ c' ∧ CrS w w2 wr (w.heap.size + 1) w.heap.size gs ks i A' n' hs) (fun _ j _ => gs.length - (intOf j).toNat)
  case atStart => exact ⟨0, A, n, c, [], Nat.zero_le _, rfl, rfl, hc, ⟨hk, rfl, HD2.out, Stp.refl _ _⟩⟩
  case round =>
    obtain ⟨i, A', n', c', hs, hi, rfl, rfl, hc', hS⟩ := hrel
    have HS := Lib.hid hS
    clear hS
    by_cases hin : i < gs.length
    · have hcN : (i : Int) < gs.length := by omega
      obtain ⟨g, hg⟩ : ∃ g, gs[i]? = some g := ⟨_, List.getElem?_eq_getElem hin⟩
      have hgm : g ∈ gs := List.mem_of_getElem? hg
      have hlt1 := fun k => HD1.out.foot_lt (k := k)
      have hw1 : w.heap.size + 1 < w1.heap.size := hlt1 _ (.inl rfl)
      have hbw : Below w.heap.size w wr := hb12.trans (HS.out.stp.oth.below (fun k e => by
        rcases e with e | e | ⟨g, hg, _⟩
        · omega
        · omega
        · cases hg) hb12.size)
      have hDw : Dr wr pb mb gs st ar lf := H.out.below hbw (Nat.le_refl _)
      have hslr : Sl wr A2 gs.length (gs.map fun g => sv g.name) := sl_stp (c := c2) hsl2 HS.out.stp fun k e hf => by
        have := (hlt2 k e).1
        rcases hf with e | e | ⟨g, hg, _⟩
        · omega
        · omega
        · cases hg
      obtain ⟨b2, o2, u2, rfl, hu2, hcell⟩ := hslr.at_ hin
      have hu2' : u2 = .string (str g.name) := by
        rw [List.getElem?_map, hg] at hu2
        exact (Option.some.inj hu2).symm
      subst hu2'
      obtain ⟨g1, g2, g3, g4, g5⟩ := hDw.file g hgm
      have hlk := map_look hDw.map (s := g.name) (by simp only [maxLen]; omega)
      rw [find_mem' hDw.rises hgm] at hlk
      simp only [ptr] at hlk
      have c0 := hDw.c0
      obtain ⟨Ag, cg, hgv⟩ := own_form g2
      have f0 := hDw.f0 hgm
      have f1 := hDw.f1 hgm
      rw [hgv] at f0
      have hlo := lo_any hDw hgm
      have hlow : ∀ q, Calls Tryz.prog 59 #[.pointer (some ⟨g.blk, 0, none⟩)] (wr.drewN q) fun e w' => e = .returned (.int .i64 ((g.f.data.length - g.f.syn : Nat) : Int)) ∧ ∃ m, w' = (wr.drewN q).drewN m := fun q => lo_any (hDw.drew q) hgm
      have hgsl2 : Sl wr Ag g.f.data.length (bv g.f.data) := by rw [hgv] at g2; exact own_sl g2
      have hcg : g.f.data.length ≤ cg := by rw [hgv] at g2; exact own_le g2
      have HG := Lib.hid hg
      have HW := Lib.hid hDw
      clear hg hDw hgv g1 g2 hu2
      have hadd : ∀ (m q : Nat), m ≤ g.f.data.length → (cr1 g.f (crash ((gs.take i).map Gm.f) ks).2).1 = ⟨g.f.name, g.f.data.take m, m⟩ →
          Calls Tryz.prog 39 #[.pointer (some ⟨w.heap.size + 1, 0, none⟩), .string (str g.name), .slice Ag m cg] (wr.drewN q) fun e w' => e = .returned (.tuple #[]) ∧ ∃ hs', ∀ (A2 : Option Addr) (m2 : Nat), Sl w A2 m2 (iv (cr1 g.f (crash ((gs.take i).map Gm.f) ks).2).2) → CrS w w2 w' (w.heap.size + 1) w.heap.size gs ks (i + 1) A2 m2 hs' := by
        intro m q hm hcr
        have hst : Sl (wr.drewN q) Ag m (bv (g.f.data.take m)) := by
          have := (hgsl2.drewN q).take hm
          rwa [show (bv g.f.data).take m = bv (g.f.data.take m) from by simp [bv, List.map_take]] at this
        refine (addSynced_any (HS.out.dr.drew q) g.name g5 Ag m cg (g.f.data.take m) hst (by omega) (fun g' _ => Nat.le_trans (length_with _ _) ?_)).mono ?_
        · have : hs.length ≤ i := by
            have := congrArg List.length HS.out.fs
            have h2 := congrArg List.length (crash_names ks ((gs.take i).map Gm.f))
            simp only [List.length_map, List.length_take] at this h2
            omega
          omega
        · rintro e w' ⟨rfl, g', hg', hd, hst2⟩
          refine ⟨rfl, _, fun A2 m2 hsl => HS.out.next HG.out HW.out.rises (g' := g') ?_ hsl hd ?_⟩
          · rw [hg', hcr]
            have : (g.f.data.take m).length = m := by rw [List.length_take]; omega
            rw [this]
          · exact ⟨⟨hst2.oth.os, hst2.oth.tape, hst2.oth.output, hst2.oth.size, hst2.oth.block⟩, hst2.sub⟩
      have hksl : (crash ((gs.take i).map Gm.f) ks).2.length = n' := by have := HS.out.sl.1; rwa [iv_len] at this
      obtain ⟨kk, hkk⟩ : ∃ kk, kk = (crash ((gs.take i).map Gm.f) ks).2 := ⟨_, rfl⟩
      have hsk := HS.out.sl
      rw [← hkk] at hadd hksl hsk
      clear hkk
      by_cases hL : (0 : Int) < ((g.f.data.length - g.f.syn : Nat) : Int)
      · by_cases hn : (0 : Int) < n'
        · obtain ⟨k0, kr, rfl⟩ : ∃ k0 kr, kk = k0 :: kr := by cases kk with
            | nil => simp at hksl; omega
            | cons a b => exact ⟨a, b, rfl⟩
          obtain ⟨kb, ko, ku, rfl, hku, hkc⟩ := hsk.at_ (k := 0) (by omega)
          have hku' : ku = .int .i64 k0 := by simp [iv] at hku; exact hku.symm
          subst hku'
          have hbk : kb < w.heap.size := World.block_lt_of_cell? _ _ hkc
          have hkcw : wr.cell? ⟨kb, ko + 0, none⟩ = some (.int .i64 k0) := by rw [hbw.cell hbk]; exact hkc
          have hkcw0 : wr.cell? ⟨kb, ko, none⟩ = some (.int .i64 k0) := by simpa using hkcw
          obtain ⟨L, hLd⟩ : ∃ L : Nat, L = g.f.data.length - g.f.syn := ⟨_, rfl⟩
          rw [← hLd] at hL hlow hlo
          have hLs : g.f.syn + L = g.f.data.length := by omega
          have HLS := Lib.hid hLs
          have hLi : (g.f.syn : Int) + L ≤ 262144 := by omega
          have hcr : cr1 g.f (k0 :: kr) = (cutF g.f (max 0 (min k0 (L : Int))).toNat, kr) := by unfold cr1; rw [if_pos (by omega), hLd]
          rw [hcr] at hadd
          have HLD := Lib.hid hLd
          clear hLd hcr hLs
          have hm2 : g.f.syn + (max 0 (min k0 (L : Int))).toNat = ((g.f.syn : Int) + max 0 (min k0 (L : Int))).toNat := by omega
          have hMc : ((g.f.syn : Int) + max 0 (min k0 (L : Int))) ≤ cg := by have := HLS.out; omega
          have hadd2 : ∀ q, Calls Tryz.prog 39 #[.pointer (some ⟨w.heap.size + 1, 0, none⟩), .string (str g.name), .slice Ag ((g.f.syn : Int) + max 0 (min k0 (L : Int))).toNat cg] (wr.drewN q) fun e w' => e = .returned (.tuple #[]) ∧ ∃ hs', ∀ (A2 : Option Addr) (m2 : Nat), Sl w A2 m2 (iv kr) → CrS w w2 w' (w.heap.size + 1) w.heap.size gs ks (i + 1) A2 m2 hs' := fun q =>
            hadd _ q (by have := HLS.out; omega) (by simp only [cutF, hm2])
          have HA2 := Lib.hid hadd2
          clear hm2 hadd hadd2
          have hslk : Sl w (if c' = 1 then some ⟨kb, ko, none⟩ else some ⟨kb, ko + 1, none⟩) (n' - 1) (iv kr) := by
            have h1 := hsk.drop (k := 1) (by omega) (if c' = 1 then some ⟨kb, ko, none⟩ else some ⟨kb, ko + 1, none⟩) (by
              intro h1 b o e
              rw [if_neg (by omega)]
              injection e with e; injection e with e1 e2; subst e1 e2; rfl)
            rwa [show (iv (k0 :: kr)).drop 1 = iv kr from rfl] at h1
          have HSK := Lib.hid hslk
          clear hslk
          go_wp2_with (go_at_call 59; refine hlo.mono ?_; rintro e w3 ⟨rfl, q, rfl⟩)
          have hlow2 : ∀ m, Calls Tryz.prog 59 #[.pointer (some ⟨g.blk, 0, none⟩)] ((wr.drewN q).drewN m) fun e w' => e = .returned (.int .i64 (L : Int)) ∧ ∃ m', w' = ((wr.drewN q).drewN m).drewN m' := fun m => by
            have h := hlow (q + m); rwa [← World.drewN_drewN] at h
          have hkq : (wr.drewN q).cell? ⟨kb, ko, none⟩ = some (.int .i64 k0) := hkcw0
          have f0q : (wr.drewN q).cell? ⟨g.blk, 0, none⟩ = some (.slice Ag g.f.data.length cg) := f0
          generalize hwq : wr.drewN q = wq at hlow2 hkq f0q ⊢
          have HWQ := Lib.hid hwq
          clear hwq
          go_quiet ((go_at_call 59; exact Calls.quiet_of (hlow2 _)))
          have hq := HA2.out (q + nq)
          rw [← World.drewN_drewN, HWQ.out] at hq
          go_wp2_with (go_at_call 39; refine hq.mono ?_; rintro e w5 ⟨rfl, hs5, hn5⟩; have HN := Lib.hid hn5; clear hn5)
          exact ⟨⟨i + 1, _, n' - 1, c' - 1, hs5, by omega, by simp, rfl, by omega, HN.out _ _ HSK.out⟩, by simp [intOf]; omega⟩
        · have hkn : kk = [] := List.eq_nil_of_length_eq_zero (by omega)
          subst hkn
          have hcr : cr1 g.f [] = (cutF g.f 0, []) := by unfold cr1; rw [if_pos (by omega)]
          rw [hcr] at hadd
          go_wp2_with (first
            | (go_at_call 59; refine hlo.mono ?_; rintro e w3 ⟨rfl, q, rfl⟩)
            | (go_at_call 39; refine (hadd g.f.syn q (by omega) rfl).mono ?_; rintro e w5 ⟨rfl, hs5, hn5⟩; have HN := Lib.hid hn5; clear hn5))
          exact ⟨⟨i + 1, A', n', c', hs5, by omega, by simp, rfl, hc', HN.out A' n' hsk⟩, by simp [intOf]; omega⟩
      · have hcr : cr1 g.f kk = (cutF g.f 0, kk) := by unfold cr1; rw [if_neg (by omega)]
        rw [hcr] at hadd
        go_wp2_with (first
          | (go_at_call 59; refine hlo.mono ?_; rintro e w3 ⟨rfl, q, rfl⟩)
          | (go_at_call 39; refine (hadd g.f.syn q (by omega) rfl).mono ?_; rintro e w5 ⟨rfl, hs5, hn5⟩; have HN := Lib.hid hn5; clear hn5))
        exact ⟨⟨i + 1, A', n', c', hs5, by omega, by simp, rfl, hc', HN.out A' n' hsk⟩, by simp [intOf]; omega⟩
    · have hcN : ¬ (i : Int) < gs.length := by omega
      have hie : i = gs.length := by omega
      have hlt : ∀ k, foot (w.heap.size + 1) w.heap.size hs k → w.heap.size ≤ k := fun k hk => by
        rcases HS.out.stp.sub k hk with e | e
        · rcases e with e | e | ⟨g, hg, _⟩
          · omega
          · omega
          · cases hg
        · have := hb12.size; omega
      have hbw : Below w.heap.size w wr := hb12.trans (HS.out.stp.oth.below (fun k e => by
        rcases e with e | e | ⟨g, hg, _⟩
        · omega
        · omega
        · cases hg) hb12.size)
      go_wp2_with fail
      go_ret
      refine ⟨_, _, hs, rfl, ?_, HS.out.dr, hbw, hlt⟩
      have := HS.out.fs
      rwa [List.take_of_length_le (by omega)] at this
end Go.Proofs.YtnbomifnbhijbaaGreatDoor
