/-
  Plain mathematics: what Drop and a loss of power make of a log's segments.
-/
import Derived.Test.YtnbomifnbhijbaaGreatDoorWaQ
import Derived.Test.YtnbomifnbhijbaaGreatDoorDrI
namespace Go.Proofs.YtnbomifnbhijbaaGreatDoor
open Go.RowKit Go.Maps Num Crc
set_option linter.unusedVariables false

theorem out_seg {b : Nat} {A l : List Sg} {r : Sg} (h : Segs b (A ++ r :: l)) (hb : b ≤ 1000000) : outK Fm.name (wname r.k) ((A ++ r :: l).map Sg.f) = (A ++ l).map Sg.f := by
  have hp := List.pairwise_append.1 h.rise
  have hr := List.pairwise_cons.1 hp.2.1
  have hrk := h.lo r (by simp)
  have keep : ∀ m : List Sg, (∀ y ∈ m, y.k ≠ r.k ∧ y.k < b) → outK Fm.name (wname r.k) (m.map Sg.f) = m.map Sg.f := by
    intro m hm
    refine out_eq fun y hy => ?_
    obtain ⟨z, hz, rfl⟩ := List.mem_map.1 hy
    intro e
    exact (hm z hz).1 (wname_inj (by have := (hm z hz).2; omega) (by omega) e)
  have h1 := keep A fun y hy => ⟨by have := hp.2.2 y hy r (by simp); omega, (h.lo y (by simp [hy])).2⟩
  have h2 := keep l fun y hy => ⟨by have := hr.1 y hy; omega, (h.lo y (by simp [hy])).2⟩
  unfold outK at h1 h2 ⊢
  rw [List.map_append, List.filter_append, h1, List.map_cons, List.filter_cons, if_neg (by simp [Sg.f]), h2, List.map_append]
theorem dropL_is {b : Nat} {before : Int} : ∀ (l A : List Sg) (x : Ws), x.fs = (A ++ l).map Sg.f → Segs b (A ++ l) → b ≤ 1000000 → x.dd = false → x.ar = false →
    ∃ y, dropL before (l.map fun r => (r.k : Int)) x = (y, 0) ∧ y.dd = false ∧ y.ar = false ∧ y.seg = x.seg ∧ y.fs = (A ++ l.filter fun r => decide (before ≤ (r.k : Int) ∨ (r.k : Int) = x.seg)).map Sg.f := by
  intro l
  induction l with
  | nil => intro A x hf _ _ hd ha; exact ⟨x, rfl, hd, ha, rfl, by rw [hf]; simp⟩
  | cons r l ih =>
    intro A x hf hs hb hd ha
    have hrk := hs.lo r (by simp)
    rw [List.map_cons, dropL]
    by_cases hk : before ≤ (r.k : Int) ∨ (r.k : Int) = x.seg
    · rw [if_pos hk]
      obtain ⟨y, e, h1, h2, h3, h4⟩ := ih (A ++ [r]) x (by rw [hf]; simp) (by simpa using hs) hb hd ha
      refine ⟨y, e, h1, h2, h3, ?_⟩
      rw [h4, List.filter_cons, if_pos (by simpa using hk)]
      simp
    · rw [if_neg hk]
      have hfn : fname (r.k : Int) = wname r.k := by unfold fname; rw [if_pos (by omega)]; rfl
      have hfd : findK Fm.name (wname r.k) x.fs = some r.f := by
        rw [hf]; exact find_seg hs hb (by simp)
      have hdx : delX x r.k = ({ stepX x with fs := outK Fm.name (wname r.k) x.fs }, 0) := by
        have hnd : dead x.ar x.lf = false := by rw [ha]; rfl
        unfold delX ddelX
        rw [hfn, vname_wname, if_neg (by decide), hfd, if_neg (by simp), hnd, if_neg (by decide)]
        simp [doneX, stepX]
      rw [hdx, if_pos rfl]
      have hs2 : Segs b (A ++ l) := by
        refine ⟨?_, fun y hy => hs.lo y (by rcases List.mem_append.1 hy with h | h <;> simp [h])⟩
        have hp := List.pairwise_append.1 hs.rise
        exact List.pairwise_append.2 ⟨hp.1, (List.pairwise_cons.1 hp.2.1).2, fun a ha c hc => hp.2.2 a ha c (by simp [hc])⟩
      obtain ⟨y, e, h1, h2, h3, h4⟩ := ih A { stepX x with fs := outK Fm.name (wname r.k) x.fs } (by show outK Fm.name (wname r.k) x.fs = _; rw [hf, out_seg hs hb]) hs2 hb hd ha
      refine ⟨y, e, h1, h2, h3, ?_⟩
      rw [h4, List.filter_cons, if_neg (by simpa using hk)]
      rfl
section
variable {x : Ws} {g : Gh} {N : Nat}
theorem Gh.Ok.all_segs (ok : g.Ok N) : Segs (g.seg + 1) g.all := by
  unfold Gh.all Gh.own
  split
  · rw [List.append_nil]; exact ok.segs.mono (Nat.le_succ _)
  · exact ok.segs.snoc ok.s1 _ _
/-- What Drop does to a log that isn't armed. -/
theorem drop_is (h : Is x g) (ok : g.Ok N) (hN : N ≤ 250) (hd : x.dd = false) (ha : x.ar = false) (before : Int) :
    (dropX x before).2 = 0 ∧ (dropX x before).1.dd = false ∧ (dropX x before).1.ar = false ∧ Is (dropX x before).1 { g with rs := g.rs.filter fun r => decide (before ≤ (r.k : Int)) } := by
  have hs := ok.sN
  obtain ⟨y, e, h1, h2, h3, h4⟩ := dropL_is (b := g.seg + 1) (before := before) g.all [] x (by rw [h.fs]; rfl) (by simpa using ok.all_segs) (by omega) hd ha
  have he : dropX x before = (y, 0) := by
    unfold dropX
    rw [hd, if_neg (by decide), h.fs, segs_of ok.all_segs (by omega), e]
  rw [he]
  refine ⟨rfl, h1, h2, ?_, h3.trans h.seg⟩
  rw [h4, List.nil_append, h.seg]
  unfold Gh.all
  rw [List.filter_append]
  congr 2
  · refine List.filter_congr fun r hr => ?_
    have := (ok.segs.lo r hr).2
    have : ¬ (r.k : Int) = g.seg := by omega
    simp [this]
  · unfold Gh.own
    split
    · rfl
    · simp
      rfl
theorem Gh.Ok.dropped (ok : g.Ok N) (p : Sg → Bool) : ({ g with rs := g.rs.filter p } : Gh).Ok N :=
  ⟨ok.segs.filter p, fun r hr => ok.syn r (List.mem_filter.1 hr).1, ok.s1, ok.sN, ok.few, ok.sq, ok.len⟩
theorem con_dropped (ok : g.Ok N) (before : Int) : ({ g with rs := g.rs.filter fun r => decide (before ≤ (r.k : Int)) } : Gh).con = g.con.filter fun t => decide (before ≤ (t.1 : Int) ∨ t.1 = g.seg) := by
  unfold Gh.con
  rw [List.filter_append]
  congr 1
  · rw [tcon_filter (fun k => decide (before ≤ (k : Int)))]
    refine List.filter_congr fun t ht => ?_
    obtain ⟨r, hr, e⟩ := tcon_fst _ t ht
    have := (ok.segs.lo r hr).2
    have : ¬ t.1 = g.seg := by omega
    simp [this]
  · symm
    rw [List.filter_eq_self]
    intro t ht
    obtain ⟨p, _, rfl⟩ := List.mem_map.1 ht
    simp
end

/-! ### a loss of power -/
/-- Segments that are all synced. -/
def AllSyn (rs : List Sg) : Prop := ∀ r ∈ rs, r.syn = r.data.length
theorem cr1_syn {r : Sg} (h : r.syn = r.data.length) (ks : List Int) : cr1 r.f ks = (r.f, ks) := by
  unfold cr1
  rw [if_neg (by simp only [Sg.f]; omega)]
  unfold cutF
  simp only [Sg.f, Nat.add_zero]
  rw [List.take_of_length_le (by omega)]
theorem crash_syn {rs : List Sg} (h : AllSyn rs) (ks : List Int) : crash (rs.map Sg.f) ks = (rs.map Sg.f, ks) := by
  have key : ∀ (rs : List Sg) (acc : List Fm), AllSyn rs → (rs.map Sg.f).foldl (fun a f => (a.1 ++ [(cr1 f a.2).1], (cr1 f a.2).2)) (acc, ks) = (acc ++ rs.map Sg.f, ks) := by
    intro rs
    induction rs with
    | nil => intro acc _; simp
    | cons r rs ih =>
      intro acc h
      rw [List.map_cons, List.foldl_cons]
      simp only [cr1_syn (h r (by simp))]
      rw [ih _ fun x hx => h x (by simp [hx])]
      simp
  have := key rs [] h
  simpa [crash] using this
theorem crash_own {rs : List Sg} (h : AllSyn rs) (r : Sg) (ks : List Int) : (crash ((rs ++ [r]).map Sg.f) ks).1 = rs.map Sg.f ++ [(cr1 r.f ks).1] := by
  rw [List.map_append, List.map_singleton, crash_snoc, crash_syn h]
theorem cr1_cut (f : Fm) (hf : f.syn ≤ f.data.length) (ks : List Int) : ∃ n, f.syn ≤ n ∧ n ≤ f.data.length ∧ (cr1 f ks).1 = ⟨f.name, f.data.take n, n⟩ := by
  unfold cr1
  split
  · rename_i hlt
    split
    · rename_i k r
      refine ⟨f.syn + (max 0 (min k ((f.data.length - f.syn : Nat) : Int))).toNat, by omega, by omega, rfl⟩
    · exact ⟨f.syn + 0, by omega, by omega, rfl⟩
  · exact ⟨f.syn + 0, by omega, by omega, rfl⟩
/-- Of frames cut anywhere, how many are left. -/
theorem cut_count {gs : List (List UInt8)} (h : ∀ g ∈ gs, g.length ≤ 4096) {j cut : Nat} (hj : j ≤ gs.length) (h1 : (flat (gs.take j)).length ≤ cut) (h2 : cut ≤ (flat gs).length) :
    ∃ k, j ≤ k ∧ k ≤ gs.length ∧ (scan ((flat gs).take cut)).1 = gs.take k := by
  have key : ∀ (d j : Nat), gs.length - j = d → j ≤ gs.length → (flat (gs.take j)).length ≤ cut → ∃ k, j ≤ k ∧ k ≤ gs.length ∧ (scan ((flat gs).take cut)).1 = gs.take k := by
    intro d
    induction d with
    | zero =>
      intro j hd hj h1
      refine ⟨j, Nat.le_refl _, hj, ?_⟩
      rw [scan_cut h hj h1 h2 (.inl (by omega))]
    | succ d ih =>
      intro j hd hj h1
      by_cases hc : cut < (flat (gs.take (j + 1))).length
      · refine ⟨j, Nat.le_refl _, hj, ?_⟩
        rw [scan_cut h hj h1 h2 (.inr hc)]
      · obtain ⟨k, k1, k2, k3⟩ := ih (j + 1) (by omega) (by omega) (by omega)
        exact ⟨k, by omega, k2, k3⟩
  exact key _ j rfl hj h1
theorem crash_is {x : Ws} {g : Gh} {N : Nat} (h : Is x g) (ok : g.Ok N) (ks : List Int) :
    ∃ rs, (crash x.fs ks).1 = rs.map Sg.f ∧ Segs (g.seg + 1) rs ∧ AllSyn rs ∧ ∃ m, g.safe ≤ m ∧ m ≤ g.con.length ∧ (tcon rs).map Prod.snd = (g.con.map Prod.snd).take m := by
  by_cases he : g.ps = []
  · refine ⟨g.rs, ?_, ok.segs.mono (Nat.le_succ _), ok.syn, g.con.length, safe_le ok, Nat.le_refl _, ?_⟩
    · rw [h.fs]
      simp only [Gh.all, Gh.own, if_pos he, List.append_nil]
      rw [crash_syn ok.syn]
    · rw [List.take_of_length_le (by rw [List.length_map]; exact Nat.le_refl _)]
      simp [Gh.con, he]
  · have hy : g.y ≤ (flat g.ps).length := flat_take_le _ _
    obtain ⟨n, n1, n2, n3⟩ := cr1_cut (⟨g.seg, flat g.ps, g.y⟩ : Sg).f hy ks
    simp only [Sg.f] at n1 n2 n3
    have hf : ∀ q ∈ g.ps, q.length ≤ 4096 := fun q hq => by have := ok.few q hq; omega
    obtain ⟨k, k1, k2, k3⟩ := cut_count hf ok.sq n1 n2
    refine ⟨g.rs ++ [⟨g.seg, (flat g.ps).take n, n⟩], ?_, ok.segs.snoc ok.s1 _ _, ?_, (tcon g.rs).length + k, by unfold Gh.safe; omega, ?_, ?_⟩
    · rw [h.fs]
      simp only [Gh.all, Gh.own, if_neg he]
      rw [crash_own ok.syn]
      simp only [Sg.f] at n3 ⊢
      rw [n3]
      simp [Sg.f]
    · intro r hr
      rcases List.mem_append.1 hr with hr | hr
      · exact ok.syn r hr
      · rw [List.mem_singleton] at hr
        subst hr
        simp only [List.length_take]
        omega
    · unfold Gh.con
      rw [List.length_append, List.length_map]
      omega
    · have e1 : tcon [(⟨g.seg, (flat g.ps).take n, n⟩ : Sg)] = (g.ps.take k).map fun p => (g.seg, p) := by simp [tcon, k3]
      rw [tcon_app, e1]
      unfold Gh.con
      generalize tcon g.rs = T
      have e2 : (T.map Prod.snd).take (T.length + k) = T.map Prod.snd := List.take_of_length_le (by rw [List.length_map]; omega)
      rw [List.map_append, List.map_append, List.take_append, e2, List.length_map, show T.length + k - T.length = k from by omega]
      simp
end Go.Proofs.YtnbomifnbhijbaaGreatDoor
