/-
  A log opened on a drive of segments; the law's awake.
-/
import Derived.Test.YtnbomifnbhijbaaGreatDoorWaR
namespace Go.Proofs.YtnbomifnbhijbaaGreatDoor
open Go.RowKit Go.Maps Num Crc
set_option linter.unusedVariables false

theorem vn_segs {gs : List Gm} {rs : List Sg} (hf : gs.map Gm.f = rs.map Sg.f) : ∀ g ∈ gs, vname g.name = true := fun g hg => by
  have h1 : g.f ∈ rs.map Sg.f := hf ▸ List.mem_map.2 ⟨g, hg, rfl⟩
  obtain ⟨r, _, e⟩ := List.mem_map.1 h1
  rw [Gm.name, ← e]
  exact vname_wname _
theorem foot_same {pb mb : Nat} {gs : List Gm} {k : Nat} (h : foot pb mb gs k) : foot pb mb gs k := h
/-- What Open leaves: a log, and the payloads. -/
def Opened (w0 w : World) (pb mb : Nat) (gs : List Gm) (st : Int) (ar : Bool) (lf : Int) (rs : List Sg) (b : Nat) (e : Ending) (w' : World) : Prop :=
  ∃ (pl s : Nat) (A : Option Addr) (c : Nat) (vs : List Value), e = .returned (.tuple #[.pointer (some ⟨pl, 0, none⟩), .slice A ((tcon rs).map Prod.snd).length c, .int .i64 0]) ∧
    Wl w0 w' pl pb mb gs ⟨rs.map Sg.f, st, ar, lf, (s : Int), false⟩ ∧ 1 ≤ s ∧ s ≤ b ∧ Segs s rs ∧
    w'.ownsRow w.heap.size 36 1 (.slice A ((tcon rs).map Prod.snd).length c) ((tcon rs).map Prod.snd).length vs ∧ Each w' w.heap.size vs ((tcon rs).map Prod.snd) ∧ Below w.heap.size w w' ∧ w.heap.size ≤ pl
theorem open_log {w0 w : World} {pb mb : Nat} {gs : List Gm} {st lf : Int} {ar : Bool} {rs : List Sg} {b : Nat} (lay : WL w0) (bel : Below w0.heap.size w0 w) (hD : Dr w pb mb gs st ar lf) (lo : ∀ k, foot pb mb gs k → w0.heap.size ≤ k)
    (hf : gs.map Gm.f = rs.map Sg.f) (hs : Segs b rs) (hb1 : 1 ≤ b) (hb : b ≤ 1000000) :
    Calls Tryz.prog 8 #[.pointer (some ⟨pb, 0, none⟩), .int .i64 1] w (Opened w0 w pb mb gs st ar lf rs b) := by
  have hR : Rd w pb mb gs st ar lf := ⟨hD, lay.keep bel, vn_segs hf⟩
  refine (open_any hR 1 (by omega) (by omega)).mono ?_
  rintro e w' ⟨pl, A, c, vs, rfl, hL, hpl, ho, he, hbw⟩
  obtain ⟨s, hse, h1, h2, h3⟩ := sego_of hs hb hb1 hf
  rw [pso_of hs hb hf] at ho he ⊢
  rw [hse] at hL
  refine ⟨pl, s, A, c, vs, rfl, ⟨lay, bel.trans (hbw.mono bel.size), hD.below hbw (Nat.le_refl _), hL, hf, by simp only; omega, by simp only; omega, vn_segs hf, ?_⟩, h1, h2, h3, own_mono ho (Nat.le_succ _), he.mono (Nat.le_succ _), hbw, hpl⟩
  rintro k (rfl | hk)
  · exact Nat.le_trans bel.size hpl
  · exact lo k hk
/-- A log just opened, as plain lists. -/
theorem is_opened {rs : List Sg} {st lf : Int} {ar : Bool} {s N : Nat} (hs : Segs s rs) (h1 : 1 ≤ s) (hN : s ≤ N) (hy : AllSyn rs) : Is ⟨rs.map Sg.f, st, ar, lf, (s : Int), false⟩ ⟨rs, s, [], 0⟩ ∧ (⟨rs, s, [], 0⟩ : Gh).Ok N :=
  ⟨⟨by simp [Gh.all, Gh.own], rfl⟩, ⟨hs, hy, h1, hN, by simp, Nat.le_refl _, by simp [flat]⟩⟩
theorem app_first {x : Ws} {g : Gh} {N : Nat} (h : Is x g) (ok : g.Ok N) (hN : N ≤ 250) (hd : x.dd = false) (ha : x.ar = false) (he : g.ps = []) {p : List UInt8} (hp : p.length ≤ 700) :
    (appX x p).2 = 0 ∧ (appX x p).1.dd = false ∧ (appX x p).1.ar = false ∧ Is (appX x p).1 (g.more p) ∧ (g.more p).Ok N := by
  have ho := h.old ok hN
  have hsl := seal_700 hp
  have e : appX x p = tailX x (seal_ p) := by
    unfold appX
    rw [if_neg (by omega), hd, if_neg (by decide), h.fname_ ok hN, ho.1, he, if_neg (by simp [flat])]
  rw [e]
  rcases tail_is h ok hN hd hp (by rw [he]; simp [flat]; omega) with ⟨h1, h2, h3, h4, h5⟩ | ⟨_, h2, _⟩
  · exact ⟨h1, h2, h3.trans ha, h4, h5⟩
  · rw [ha] at h2; simp [dead] at h2
theorem lseg_any {w0 w : World} {pl pb mb : Nat} {gs : List Gm} {x : Ws} (h : Wl w0 w pl pb mb gs x) :
    Calls Tryz.prog 18 #[.pointer (some ⟨pl, 0, none⟩)] w fun e w' => e = .returned (.int .i64 x.seg) ∧ w' = w := by
  have k1 := h.c1
  go_enter Tryz.func18, Tryz.ntmps18
  go_wp2_with fail
  go_ret
  exact ⟨rfl, rfl⟩
theorem Wl.alloc {w0 w : World} {pl pb mb : Nat} {gs : List Gm} {x : Ws} (h : Wl w0 w pl pb mb gs x) (o : Obj) : Wl w0 (w.alloc o) pl pb mb gs x := h.below ((Below.refl _ w).alloc (Nat.le_refl _) o)
theorem Each.first {w : World} {B : Nat} {vs : List Value} {l : List UInt8} (h : Each w B vs [l]) : ∃ A c, vs = [.slice A l.length c] ∧ Sl w A l.length (bv l) := by
  match vs, h with
  | [v], h =>
    obtain ⟨⟨A, c, rfl, ho⟩, _⟩ := h
    exact ⟨A, c, rfl, own_sl ho⟩
set_option maxHeartbeats 4000000 in
set_option maxRecDepth 20000 in
theorem awake3_any (w : World) (hW : WL w) : Calls Tryz.prog 7 #[] w fun e w' => e = .returned (.bool true) ∧ Below w.heap.size w w' := by
  have hnm : (⟨#[119, 97, 108, 45, 48, 48, 48, 48, 48, 49]⟩ : ByteArray) = str (wname 1) := by decide
  have HW := Lib.hid hW
  clear hW
  go_enter Tryz.func7, Tryz.ntmps7
  go_wp2_with fail
  refine (new_any _).mono ?_
  rintro e w1 ⟨rfl, hD1, hb1⟩
  have hf1 : ∀ k, foot (w.heap.size + 1) w.heap.size [] k → w.heap.size ≤ k := fun k hk => by rcases hk with e | e | ⟨g, hg, _⟩; omega; omega; cases hg
  have hop := open_log (rs := []) (b := 1) HW.out hb1 hD1 hf1 rfl ⟨List.Pairwise.nil, by simp⟩ (Nat.le_refl _) (by decide)
  clear hD1
  go_wp2_with fail
  refine hop.mono ?_
  rintro e w2 ⟨pl, s, A, c, vs, rfl, hW2, hs1, hs2, hs3, -, -, hb2, -⟩
  obtain rfl : s = 1 := by omega
  have hb2' : Below w.heap.size w w2 := hb1.trans (hb2.mono hb1.size)
  obtain ⟨hi2, ok2⟩ := is_opened (N := 1) (st := 0) (lf := 0) (ar := false) hs3 (Nat.le_refl _) (Nat.le_refl _) (fun r hr => by cases hr)
  have H2 := Lib.hid hW2
  have HI2 := Lib.hid hi2
  have HO2 := Lib.hid ok2
  clear hW2 hs3 hi2 ok2 hop hs1 hs2
  go_wp2_with (first
    | (go_at_call 18; refine (lseg_any H2.out).mono ?_; rintro e w3 ⟨rfl, rfl⟩)
    | fail)
  have hap := lappend_any (H2.out.alloc (.cells #[.int .u8 1, .int .u8 2, .int .u8 3] 5)) (some ⟨w3.heap.size, 0, none⟩) 3 3 [1, 2, 3] (Sl.lit w3 5 (bv [1, 2, 3]))
  obtain ⟨c1, c2, c3, c4, c5⟩ := app_first HI2.out HO2.out (by decide) rfl rfl rfl (p := [1, 2, 3]) (by decide)
  rw [c1] at hap
  generalize hy : (appX ⟨List.map Sg.f [], 0, false, 0, ((1 : Nat) : Int), false⟩ [1, 2, 3]).1 = y at hap c2 c3 c4
  clear hy c1
  have HC4 := Lib.hid (And.intro c4 c5)
  clear c4 c5
  refine hap.mono ?_
  rintro e w4 ⟨rfl, gs4, hW4, hS4⟩
  have hfs : gs4.map Gm.f = (Gh.more ⟨[], 1, [], 0⟩ [1, 2, 3]).all.map Sg.f := hW4.fs.trans HC4.out.1.fs
  have hop := open_log HW.out hW4.bel hW4.dr (fun k hk => hW4.lo k (.inr hk)) hfs HC4.out.2.all_segs (by decide) (by decide)
  have hcon : (tcon (Gh.more ⟨[], 1, [], 0⟩ [1, 2, 3]).all).map Prod.snd = [[1, 2, 3]] := by rw [con_all HC4.out.2]; rfl
  unfold Opened at hop
  rw [hcon] at hop
  have HW4 := Lib.hid hW4
  have HF4 := Lib.hid hfs
  clear hap hS4 hfs hW4 hcon c2 c3
  go_wp2_with fail
  refine hop.mono ?_
  rintro e w5 ⟨pl2, s2, A5, c5, vs5, rfl, hW5, hs1, hs2, hs3, hr5, he5, hb5, hpl2⟩
  obtain ⟨A6, c6, rfl, hsl6⟩ := he5.first
  have hlo5 : looseG (wname 1) gs4 = (seal_ [1, 2, 3]).length := by
    have h1 := find_fs HF4.out (wname 1)
    have h2 : findK Fm.name (wname 1) ((Gh.more ⟨[], 1, [], 0⟩ [1, 2, 3]).all.map Sg.f) = some ⟨wname 1, flat [[1, 2, 3]], 0⟩ := by
      have := HC4.out.1.find1 HC4.out.2 (by decide) (by decide)
      rw [HC4.out.1.fs] at this
      exact this
    rw [h2] at h1
    cases hg : findK Gm.name (wname 1) gs4 with
    | none => rw [hg] at h1; cases h1
    | some g =>
      rw [hg] at h1
      have h3 : g.f = ⟨wname 1, flat [[1, 2, 3]], 0⟩ := (Option.some.inj h1).symm
      unfold looseG
      rw [hg]
      simp [h3, flat]
  have hlz := loose_any hW5.dr (wname 1) (by decide)
  rw [hlo5, ← hnm] at hlz
  have hcell := (own_sl hr5).at_ (k := 0) (by decide)
  obtain ⟨b, o, u, rfl, hu, hce⟩ := hcell
  obtain rfl := Option.some.inj hu
  rw [Nat.add_zero] at hce
  have hce : w5.cell? ⟨b, o, none⟩ = some (.slice A6 3 c6) := hce
  have hcs : (convert 36 9 (.slice A6 3 c6)).run Tryz.prog w5 = .ok (.string ⟨#[1, 2, 3]⟩) w5 := run_str (P := Tryz.prog) (c := c6) hsl6 36 5 9 Tryz.underlying36 Tryz.underlying5 Tryz.underlying9
  have hp5 : ((seal_ [1, 2, 3]).length : Int) > 0 := by have := seal_pos [1, 2, 3]; omega
  generalize (seal_ [1, 2, 3]).length = sz at hlz hp5
  have hbe := HW4.out.bel.trans (hb5.mono HW4.out.bel.size)
  clear hW5 hr5 he5 hop hu
  go_wp2_with fail
  refine hlz.mono ?_
  rintro e w6 ⟨rfl, q, rfl⟩
  go_wp2_with fail
  go_ret
  refine ⟨?_, hbe.trans ((below_drewN w5 q).mono hbe.size)⟩
  have hp0 : 0 < sz := by omega
  show Ending.returned (.bool (decide (0 < sz))) = _
  rw [decide_eq_true hp0]
end Go.Proofs.YtnbomifnbhijbaaGreatDoor
