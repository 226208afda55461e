/-
  Plain mathematics: what a log's calls make of its segments, its own segment told by the payloads in it.
-/
import Derived.Test.YtnbomifnbhijbaaGreatDoorWaP
namespace Go.Proofs.YtnbomifnbhijbaaGreatDoor
open Go.RowKit Go.Maps Num Crc
set_option linter.unusedVariables false

/-- A log: the segments ahead of its own, its own number, the payloads in its own segment, how many of them are synced. -/
structure Gh where
  rs : List Sg
  seg : Nat
  ps : List (List UInt8)
  sq : Nat
def Gh.y (g : Gh) : Nat := (flat (g.ps.take g.sq)).length
def Gh.own (g : Gh) : List Sg := if g.ps = [] then [] else [⟨g.seg, flat g.ps, g.y⟩]
def Gh.all (g : Gh) : List Sg := g.rs ++ g.own
def Gh.con (g : Gh) : List (Nat × List UInt8) := tcon g.rs ++ g.ps.map fun p => (g.seg, p)
def Gh.safe (g : Gh) : Nat := (tcon g.rs).length + g.sq
structure Gh.Ok (g : Gh) (N : Nat) : Prop where
  segs : Segs g.seg g.rs
  syn : ∀ r ∈ g.rs, r.syn = r.data.length
  s1 : 1 ≤ g.seg
  sN : g.seg ≤ N
  few : ∀ p ∈ g.ps, p.length ≤ 700
  sq : g.sq ≤ g.ps.length
  len : (flat g.ps).length ≤ 1024
structure Is (x : Ws) (g : Gh) : Prop where
  fs : x.fs = g.all.map Sg.f
  seg : x.seg = g.seg
theorem Gh.Ok.mono {g : Gh} {N M : Nat} (h : g.Ok N) (hm : N ≤ M) : g.Ok M := ⟨h.segs, h.syn, h.s1, Nat.le_trans h.sN hm, h.few, h.sq, h.len⟩
theorem seal_pos (p : List UInt8) : 0 < (seal_ p).length := by rw [seal_len]; omega
theorem seal_700 {p : List UInt8} (h : p.length ≤ 700) : (seal_ p).length ≤ 714 := by
  have := vint_len10 (n := p.length) (by omega)
  rw [seal_len]; omega
theorem flat_take_le (ps : List (List UInt8)) (k : Nat) : (flat (ps.take k)).length ≤ (flat ps).length := by
  conv => rhs; rw [← List.take_append_drop k ps, flat_app, List.length_append]
  omega
theorem flat_pos {ps : List (List UInt8)} (h : ps ≠ []) : 0 < (flat ps).length := by
  cases ps with
  | nil => exact absurd rfl h
  | cons p r => rw [flat_cons, List.length_append]; have := seal_pos p; omega
theorem segs_len_le {b : Nat} {rs : List Sg} (h : Segs b rs) (hb : 1 ≤ b) : rs.length + 1 ≤ b := by
  induction hn : rs.length generalizing b rs with
  | zero => omega
  | succ n ih =>
    have hne : rs ≠ [] := by intro e; subst e; cases hn
    obtain ⟨l, r, rfl⟩ : ∃ l r, rs = l ++ [r] := ⟨_, _, (List.dropLast_concat_getLast hne).symm⟩
    have hr := h.lo r (by simp)
    have h1 := (List.pairwise_append.1 h.rise)
    have : Segs r.k l := ⟨h1.1, fun x hx => ⟨(h.lo x (by simp [hx])).1, h1.2.2 x hx r (by simp)⟩⟩
    have := ih this hr.1 (by simpa using hn)
    omega
section
variable {x : Ws} {g : Gh} {N : Nat}
theorem Is.fname_ (h : Is x g) (ok : g.Ok N) (hN : N ≤ 250) : fname x.seg = wname g.seg := by
  rw [h.seg]
  have := ok.s1
  have := ok.sN
  unfold fname; rw [if_pos (by omega)]; rfl
theorem Is.find0 (h : Is x g) (ok : g.Ok N) (hN : N ≤ 250) (he : g.ps = []) : findK Fm.name (wname g.seg) x.fs = none := by
  have := ok.sN
  rw [h.fs, Gh.all, Gh.own, if_pos he, List.append_nil]
  exact find_last ok.segs (by omega)
theorem Is.find1 (h : Is x g) (ok : g.Ok N) (hN : N ≤ 250) (he : g.ps ≠ []) : findK Fm.name (wname g.seg) x.fs = some ⟨wname g.seg, flat g.ps, g.y⟩ := by
  have := ok.sN
  rw [h.fs, Gh.all, Gh.own, if_neg he]
  exact find_own ok.segs (by omega) _ _
theorem Is.old (h : Is x g) (ok : g.Ok N) (hN : N ≤ 250) : (oldL (wname g.seg) x.fs).data = flat g.ps ∧ (oldL (wname g.seg) x.fs).syn = g.y := by
  unfold oldL
  by_cases he : g.ps = []
  · rw [h.find0 ok hN he]
    rw [Gh.y, he]
    simp [flat, emptyF]
  · rw [h.find1 ok hN he]
    exact ⟨rfl, rfl⟩
def Gh.synced (g : Gh) : Gh := { g with sq := g.ps.length }
theorem Gh.Ok.synced (h : g.Ok N) : g.synced.Ok N := ⟨h.segs, h.syn, h.s1, h.sN, h.few, Nat.le_refl _, h.len⟩
theorem sync_is (h : Is x g) (ok : g.Ok N) (hN : N ≤ 250) (hd : x.dd = false) :
    ((syncX x).2 = 0 ∧ (syncX x).1.dd = false ∧ (syncX x).1.ar = x.ar ∧ Is (syncX x).1 g.synced) ∨ ((syncX x).2 = 6 ∧ dead x.ar x.lf = true ∧ (syncX x).1 = { x with dd := true }) := by
  have hf := h.fname_ ok hN
  by_cases he : g.ps = []
  · have e : syncX x = (x, 0) := by simp [syncX, hd, hf, h.find0 ok hN he]
    rw [e]
    refine .inl ⟨rfl, hd, rfl, ?_, h.seg⟩
    rw [h.fs]
    simp [Gh.all, Gh.own, Gh.synced, he]
  · have h1 := h.find1 ok hN he
    by_cases h0 : (flat g.ps).length - g.y = 0
    · have e : syncX x = (x, 0) := by simp [syncX, hd, hf, h1, h0]
      rw [e]
      refine .inl ⟨rfl, hd, rfl, ?_, h.seg⟩
      rw [h.fs]
      have hy : g.y = g.synced.y := by
        have h2 : g.synced.y = (flat g.ps).length := by simp [Gh.y, Gh.synced]
        have h3 := flat_take_le g.ps g.sq
        rw [h2]
        unfold Gh.y at h0 ⊢
        omega
      simp only [Gh.all, Gh.own, if_neg he, hy]
      rw [if_neg (show ¬ g.synced.ps = [] from he)]
      rfl
    · cases hdd : dead x.ar x.lf with
      | true =>
        have e : syncX x = ({ x with dd := true }, 6) := by simp [syncX, hd, hf, h1, h0, hdd]
        rw [e]
        exact .inr ⟨rfl, rfl, rfl⟩
      | false =>
        have e : syncX x = ({ stepX x with fs := withK Fm.name ⟨wname g.seg, flat g.ps, (flat g.ps).length⟩ x.fs }, 0) := by simp [syncX, hd, hf, h1, h0, hdd]
        rw [e]
        refine .inl ⟨rfl, hd, rfl, ?_, h.seg⟩
        have hs := ok.sN
        simp only [h.fs, Gh.all, Gh.own, if_neg he]
        rw [with_old ok.segs (by omega)]
        rw [if_neg (show ¬ g.synced.ps = [] from he)]
        simp [Gh.synced, Gh.y]
def Gh.rolled (g : Gh) : Gh := ⟨g.synced.all, g.seg + 1, [], 0⟩
theorem Gh.Ok.rolled (h : g.Ok N) : g.rolled.Ok (N + 1) := by
  refine ⟨?_, ?_, Nat.le_add_left _ _, Nat.add_le_add_right h.sN 1, by simp [Gh.rolled], Nat.le_refl _, by simp [Gh.rolled, flat]⟩
  · show Segs (g.seg + 1) (g.rs ++ g.synced.own)
    unfold Gh.own
    split
    · rw [List.append_nil]; exact h.segs.mono (Nat.le_succ _)
    · exact h.segs.snoc h.s1 _ _
  · intro r hr
    rcases List.mem_append.1 (show r ∈ g.rs ++ g.synced.own from hr) with hr | hr
    · exact h.syn r hr
    · unfold Gh.own at hr
      split at hr
      · cases hr
      · rw [List.mem_singleton] at hr
        subst hr
        simp [Gh.y, Gh.synced]
theorem tcon_own (h : g.Ok N) : tcon g.own = g.ps.map fun p => (g.seg, p) := by
  unfold Gh.own
  split
  · rename_i he; rw [he]; rfl
  · simp only [tcon, List.flatMap_cons, List.flatMap_nil, List.append_nil]
    rw [scan_whole fun p hp => by have := h.few p hp; omega]
theorem con_all (h : g.Ok N) : tcon g.all = g.con := by rw [Gh.all, tcon_app, tcon_own h]; rfl
theorem con_rolled (h : g.Ok N) : g.rolled.con = g.con := by
  have e : g.rolled.con = tcon g.synced.all := by simp [Gh.con, Gh.rolled]
  rw [e, con_all h.synced]
  rfl
theorem safe_rolled (h : g.Ok N) : g.rolled.safe = g.con.length := by
  have e : g.rolled.safe = (tcon g.synced.all).length := by simp [Gh.safe, Gh.rolled]
  rw [e, con_all h.synced]
  rfl
theorem safe_le (h : g.Ok N) : g.safe ≤ g.con.length := by
  unfold Gh.safe Gh.con
  rw [List.length_append, List.length_map]
  have := h.sq
  omega
theorem roll_is (h : Is x g) (ok : g.Ok N) (hN : N ≤ 250) (hd : x.dd = false) :
    ((rollX x).2.2 = 0 ∧ (rollX x).1.dd = false ∧ (rollX x).1.ar = x.ar ∧ Is (rollX x).1 g.rolled) ∨ ((rollX x).2.2 = 6 ∧ dead x.ar x.lf = true ∧ (rollX x).1 = { x with dd := true }) := by
  have hs := ok.sN
  rcases sync_is h ok hN hd with ⟨h1, h2, h3, h4⟩ | ⟨h1, h2, h3⟩
  · unfold rollX
    rw [if_pos h1]
    refine .inl ⟨rfl, h2, h3, ?_, ?_⟩
    · simp only [h4.fs, Gh.rolled, Gh.all, Gh.own]
      simp
    · simp only [h4.seg, Gh.rolled]
      show min (g.seg : Int) 999999 + 1 = ((g.seg + 1 : Nat) : Int)
      omega
  · unfold rollX
    rw [if_neg (by rw [h1]; decide)]
    exact .inr ⟨h1, h2, h3⟩
/-- A payload more in the log's own segment. -/
def Gh.more (g : Gh) (p : List UInt8) : Gh := { g with ps := g.ps ++ [p] }
theorem con_more (p : List UInt8) : (g.more p).con = g.con ++ [((g.more p).seg, p)] := by simp [Gh.con, Gh.more]
theorem tail_is (h : Is x g) (ok : g.Ok N) (hN : N ≤ 250) (hd : x.dd = false) {p : List UInt8} (hp : p.length ≤ 700) (hl : (flat g.ps).length + (seal_ p).length ≤ 1024) :
    ((tailX x (seal_ p)).2 = 0 ∧ (tailX x (seal_ p)).1.dd = false ∧ (tailX x (seal_ p)).1.ar = x.ar ∧ Is (tailX x (seal_ p)).1 (g.more p) ∧ (g.more p).Ok N) ∨ ((tailX x (seal_ p)).2 = 6 ∧ dead x.ar x.lf = true ∧ (tailX x (seal_ p)).1 = { x with dd := true }) := by
  have hf := h.fname_ ok hN
  have hs1 := ok.s1
  have hs := ok.sN
  have ho := h.old ok hN
  have hlen := segs_len_le ok.segs ok.s1
  have hall : g.all.length ≤ g.seg := by
    unfold Gh.all Gh.own
    rw [List.length_append]
    split <;> simp <;> omega
  have hfl : x.fs.length ≤ 250 := by rw [h.fs, List.length_map]; omega
  have hc : ¬ ((findK Fm.name (fname x.seg) x.fs = none ∧ 256 ≤ x.fs.length) ∨ 262144 < (oldL (fname x.seg) x.fs).data.length + (seal_ p).length) := by
    rw [hf, ho.1]
    omega
  unfold tailX
  rw [if_neg (by rw [h.seg]; omega)]
  cases hdd : dead x.ar x.lf with
  | true =>
    have e : dappX x (seal_ p) = (x, 6) := by unfold dappX; rw [if_neg hc, hdd]; rfl
    rw [e]
    refine .inr ⟨rfl, rfl, ?_⟩
    simp [doneX]
  | false =>
    have e : dappX x (seal_ p) = ({ stepX x with fs := withK Fm.name ⟨fname x.seg, (oldL (fname x.seg) x.fs).data ++ seal_ p, (oldL (fname x.seg) x.fs).syn⟩ x.fs }, 0) := by
      unfold dappX; rw [if_neg hc, hdd]; rfl
    rw [e]
    have hmo : (g.more p).y = g.y := by
      unfold Gh.y Gh.more
      have := ok.sq
      simp only
      rw [List.take_append_of_le_length this]
    refine .inl ⟨rfl, by simp [doneX, stepX, hd], rfl, ⟨?_, h.seg⟩, ⟨ok.segs, ok.syn, ok.s1, ok.sN, ?_, ?_, ?_⟩⟩
    · simp only [doneX, stepX]
      rw [hf, ho.1, ho.2, h.fs]
      have hne : (g.more p).ps ≠ [] := by simp [Gh.more]
      have e2 : (g.more p).all = g.rs ++ [⟨g.seg, flat g.ps ++ seal_ p, g.y⟩] := by
        unfold Gh.all Gh.own
        rw [if_neg hne, hmo]
        simp [Gh.more, flat_app, flat_one]
      rw [e2]
      unfold Gh.all Gh.own
      split
      · rename_i he
        rw [List.append_nil]
        exact with_new ok.segs (by omega) _ _
      · exact with_old ok.segs (by omega) _ _ _ _
    · intro q hq
      rcases List.mem_append.1 (show q ∈ g.ps ++ [p] from hq) with hq | hq
      · exact ok.few q hq
      · rw [List.mem_singleton] at hq; subst hq; exact hp
    · have := ok.sq
      show g.sq ≤ (g.ps ++ [p]).length
      rw [List.length_append]; omega
    · show (flat (g.ps ++ [p])).length ≤ 1024
      rw [flat_app, flat_one, List.length_append]; exact hl
/-- What Append does. -/
theorem app_is (h : Is x g) (ok : g.Ok N) (hN : N ≤ 249) (hd : x.dd = false) {p : List UInt8} (hp : p.length ≤ 700) :
    (appX x p).1.ar = x.ar ∧ ∃ g' : Gh, Is (appX x p).1 g' ∧ g'.Ok (N + 1) ∧ g.safe ≤ g'.safe ∧
      (((appX x p).2 = 0 ∧ (appX x p).1.dd = false ∧ g'.con = g.con ++ [(g'.seg, p)]) ∨ ((appX x p).2 = 6 ∧ (appX x p).1.dd = true ∧ x.ar = true ∧ g'.con = g.con)) := by
  have hf := h.fname_ ok (by omega)
  have ho := h.old ok (by omega)
  have hsl := seal_700 hp
  have har : ∀ {a : Bool} {l : Int}, dead a l = true → a = true := fun {a l} e => by
    unfold dead at e
    cases a
    · simp at e
    · rfl
  have hself : ∀ (z : Ws), Is z g → Is { z with dd := true } g := fun z hz => ⟨hz.fs, hz.seg⟩
  unfold appX
  rw [if_neg (by omega), hd, if_neg (by decide), hf, ho.1]
  by_cases hr : 0 < (flat g.ps).length ∧ 1024 < (flat g.ps).length + (seal_ p).length
  · rw [if_pos hr]
    rcases roll_is h ok (by omega) hd with ⟨h1, h2, h3, h4⟩ | ⟨h1, h2, h3⟩
    · rw [if_pos h1]
      have ok2 := ok.rolled
      have hs2 : g.safe ≤ g.rolled.safe := by rw [safe_rolled ok]; exact safe_le ok
      rcases tail_is h4 ok2 (by omega) h2 hp (by simp [Gh.rolled, flat]; omega) with ⟨k1, k2, k3, k4, k5⟩ | ⟨k1, k2, k3⟩
      · refine ⟨k3.trans h3, _, k4, k5, Nat.le_trans hs2 (Nat.le_refl _), .inl ⟨k1, k2, ?_⟩⟩
        rw [con_more, con_rolled ok]
      · rw [k1, k3]
        exact ⟨h3, g.rolled, ⟨h4.fs, h4.seg⟩, ok2, hs2, .inr ⟨rfl, rfl, h3 ▸ har k2, con_rolled ok⟩⟩
    · rw [if_neg (by rw [h1]; decide), h1, h3]
      exact ⟨rfl, g, hself x h, ok.mono (by omega), Nat.le_refl _, .inr ⟨rfl, rfl, har h2, rfl⟩⟩
  · rw [if_neg hr]
    have hlen : (flat g.ps).length + (seal_ p).length ≤ 1024 := by omega
    rcases tail_is h ok (by omega) hd hp hlen with ⟨k1, k2, k3, k4, k5⟩ | ⟨k1, k2, k3⟩
    · exact ⟨k3, _, k4, k5.mono (by omega), Nat.le_refl _, .inl ⟨k1, k2, con_more p⟩⟩
    · rw [k1, k3]
      exact ⟨rfl, g, hself x h, ok.mono (by omega), Nat.le_refl _, .inr ⟨rfl, rfl, har k2, rfl⟩⟩
end
end Go.Proofs.YtnbomifnbhijbaaGreatDoor
