/-
  The reference's Get.
-/
import Derived.Test.YtjlebmpgjliacaaMrA
namespace Go.Proofs.Ytjlebmpgjliacaa
open Go.RowKit
set_option linter.unusedVariables false

theorem below_dN9 (w : World) (q : Nat) : Below w.heap.size w (w.drewN q) := ⟨rfl, rfl, rfl, Nat.le_refl _, fun _ _ => rfl⟩
def rst (key : List UInt8) (seq : Int) (st : En × Bool) (x : En) : En × Bool := if x.key = key ∧ x.seq ≤ seq ∧ (st.2 = false ∨ st.1.seq < x.seq) then (x, true) else st
def rget (es : List En) (key : List UInt8) (seq : Int) : En × Bool := es.foldl (rst key seq) (zE, false)
theorem rget_b (key : List UInt8) (seq : Int) (a : En) : ∀ r : List En, (∀ x ∈ r, x.key = key → x.seq ≤ a.seq) → r.foldl (rst key seq) (a, true) = (a, true)
  | [], _ => rfl
  | x :: r, h => by
    rw [List.foldl_cons, show rst key seq (a, true) x = (a, true) from by
      unfold rst
      rw [if_neg]
      rintro ⟨h1, _, h3 | h3⟩
      · cases h3
      · have h4 := h x (by simp) h1
        exact absurd h3 (by simp only; omega)]
    exact rget_b key seq a r fun y hy => h y (by simp [hy])
theorem rget_c (key : List UInt8) (seq : Int) : ∀ r : List En, (∀ x ∈ r, x.key ≠ key) → r.foldl (rst key seq) (zE, false) = (zE, false)
  | [], _ => rfl
  | x :: r, h => by
    rw [List.foldl_cons, show rst key seq (zE, false) x = (zE, false) from by
      unfold rst
      rw [if_neg]
      exact fun h1 => h x (by simp) h1.1]
    exact rget_c key seq r fun y hy => h y (by simp [hy])
theorem getL_cons (a : En) (r : List En) (key : List UInt8) (seq : Int) : getL (a :: r) key seq = if a.ahead key seq = true then getL r key seq else if a.key = key then (a, true) else (zE, false) := by
  unfold getL posE
  rw [List.takeWhile_cons]
  by_cases h : a.ahead key seq = true
  · rw [if_pos h, if_pos h]; simp
  · rw [if_neg h, if_neg h]; simp
theorem rget_eq (key : List UInt8) (seq : Int) : ∀ {es : List En}, Srt es → rget es key seq = getL es key seq
  | [], _ => by unfold getL rget; simp
  | a :: r, h => by
    obtain ⟨h1, h2⟩ := List.pairwise_cons.1 h
    rw [getL_cons]
    have ih := rget_eq key seq (es := r) h2
    unfold rget at ih ⊢
    rw [List.foldl_cons]
    by_cases ha : a.ahead key seq = true
    · rw [if_pos ha, show rst key seq (zE, false) a = (zE, false) from by
        unfold rst
        rw [if_neg]
        rintro ⟨q1, q2, _⟩
        rw [ahead_iff, q1, lt_irrefl] at ha
        rcases ha with ha | ⟨_, ha⟩
        · cases ha
        · omega]
      exact ih
    · rw [if_neg ha]
      by_cases hk : a.key = key
      · have hs : a.seq ≤ seq := by
          rcases Int.lt_or_le seq a.seq with q | q
          · exact absurd ((ahead_iff _ _ _).2 (.inr ⟨hk, q⟩)) ha
          · exact q
        rw [if_pos hk, show rst key seq (zE, false) a = (a, true) from by unfold rst; rw [if_pos ⟨hk, hs, .inl rfl⟩]]
        refine rget_b key seq a r fun x hx hxk => ?_
        have := h1 x hx
        rw [ahead_iff, hk, hxk, lt_irrefl] at this
        rcases this with q | ⟨_, q⟩
        · cases q
        · omega
      · have hlt : lt key a.key = true := by
          rcases lt_total hk with q | q
          · exact absurd ((ahead_iff _ _ _).2 (.inl q)) ha
          · exact q
        rw [if_neg hk, show rst key seq (zE, false) a = (zE, false) from by unfold rst; rw [if_neg (fun q => hk q.1)]]
        refine rget_c key seq r fun x hx hxk => ?_
        have := h1 x hx
        rw [ahead_iff, hxk] at this
        rcases this with q | ⟨q, _⟩
        · have := lt_trans hlt q
          rw [lt_irrefl] at this; cases this
        · exact hk q
theorem rget_take (es : List En) (key : List UInt8) (seq : Int) {i : Nat} {x : En} (h : es[i]? = some x) : rget (es.take (i + 1)) key seq = rst key seq (rget (es.take i) key seq) x := by
  unfold rget
  rw [List.take_add_one, h, List.foldl_append]; rfl
set_option maxRecDepth 20000 in
set_option maxHeartbeats 4000000 in
theorem rget_any (A : Option Addr) (n c : Nat) (es : List En) (key : List UInt8) (seq : Int) (w : World) (hA : Sle w A n es) (hn : n ≤ 1000000) (hc : n ≤ c) :
    Calls Try.prog 15 #[.slice A n c, .string (str key), .int .i64 seq] w fun r w' => r = .returned (.tuple #[ev (rget es key seq).1, .bool (rget es key seq).2]) ∧ Below w.heap.size w w' := by
  have HA := Lib.hid hA
  have hnI : (n : Int) ≤ 1000000 := by omega
  have hcI : (n : Int) ≤ c := by omega
  have hb0 : Below w.heap.size w ((w.alloc (.cells (ec zE).toArray 30)).alloc (.cells (ec zE).toArray 30)) := ((Below.refl _ w).alloc (Nat.le_refl _) _).alloc (by simp) _
  have hz0 : Blk ((w.alloc (.cells (ec zE).toArray 30)).alloc (.cells (ec zE).toArray 30)) w.heap.size (ec zE).toArray 30 := al_o (Blk.new w _ _) _
  have hz1 : Blk ((w.alloc (.cells (ec zE).toArray 30)).alloc (.cells (ec zE).toArray 30)) (w.heap.size + 1) (ec zE).toArray 30 := by
    have := Blk.new (w.alloc (.cells (ec zE).toArray 30)) (ec zE).toArray 30; rwa [World.size_alloc] at this
  have H0 := Lib.hid (And.intro hz0 (And.intro hz1 hb0))
  clear hz0 hz1 hb0 hA
  go_enter Try.func15, Try.ntmps15
  go_wp2_with fail
  go_loopw [9, 10] (fun s9 s10 wr => ∃ (i : Nat) (be : En) (fd : Bool), i ≤ n ∧ rget (es.take i) key seq = (be, fd) ∧ s9 = .bool fd ∧ s10 = .int .i64 i ∧ Blk wr w.heap.size (ec zE).toArray 30 ∧ Blk wr (w.heap.size + 1) (ec be).toArray 30 ∧ Below w.heap.size w wr) (fun _ j _ => n - (intOf j).toNat)
  case atStart => exact ⟨0, zE, false, Nat.zero_le _, rfl, rfl, rfl, H0.out⟩
  case round =>
    obtain ⟨i, be, fd, hi, hst, rfl, rfl, hz, hbe, hb⟩ := hrel
    have e1 : wr.cell? ⟨w.heap.size + 1, 1, none⟩ = some (.int .i64 be.seq) := hbe.cell rfl
    have e0 : wr.cell? ⟨w.heap.size + 1, 0, none⟩ = some (.string (str be.key)) := hbe.cell rfl
    have e2 : wr.cell? ⟨w.heap.size + 1, 2, none⟩ = some (.bool be.del) := hbe.cell rfl
    have e3 : wr.cell? ⟨w.heap.size + 1, 3, none⟩ = some (.string (str be.val)) := hbe.cell rfl
    have HS := Lib.hid (And.intro hst (And.intro hz (And.intro hbe hb)))
    by_cases hin : i < n
    · have hcN : (i : Int) < n := by omega
      obtain ⟨b, o, x, rfl, hx, z0, z1, z2, z3⟩ := (HA.out.below hb).at_ hin
      have f0 := fun k => hbe.frozen k
      have hrt := rget_take es key seq hx
      rw [hst] at hrt
      have htl : ∀ l : List UInt8, (str l).toList = l := fun l => ByteArray.toList_mk l
      have hset : ∀ q, ∃ V, ((((wr.drewN q).setCell ⟨w.heap.size + 1, 0, none⟩ (.string (str x.key))).setCell ⟨w.heap.size + 1, 1, none⟩ (.int .i64 x.seq)).setCell ⟨w.heap.size + 1, 2, none⟩ (.bool x.del)).setCell ⟨w.heap.size + 1, 3, none⟩ (.string (str x.val)) = V ∧ Blk V w.heap.size (ec zE).toArray 30 ∧ Blk V (w.heap.size + 1) (ec x).toArray 30 ∧ Below w.heap.size w V := fun q => by
        have g1 : Blk (wr.drewN q) (w.heap.size + 1) (ec be).toArray 30 := hbe
        have g2 : Blk (wr.drewN q) w.heap.size (ec zE).toArray 30 := hz
        obtain ⟨V, hV, v1, v2⟩ := set4 g1 (Nat.le_succ _) (hb.trans ((below_dN9 wr q).mono hb.size)) x
        refine ⟨V, hV, ?_, v1, v2⟩
        rw [← hV]
        exact set_o (set_o (set_o (set_o g2 (by simp)) (by simp)) (by simp)) (by simp)
      have HSET := Lib.hid hset
      clear hset hx hst hz hbe hb
      by_cases hk : x.key = key
      · by_cases hq : x.seq ≤ seq
        · cases fd with
          | false =>
            rw [show rst key seq (be, false) x = (x, true) from by unfold rst; rw [if_pos ⟨hk, hq, .inl rfl⟩]] at hrt
            rw [hk] at z0
            have HRT := Lib.hid hrt
            clear hrt htl
            go_wp2_with fail
            go_quiet (fail)
            go_wp2_with fail
            obtain ⟨V, hV, v1, v2, v3⟩ := HSET.out nq
            rw [hk] at hV
            try rw [hV]
            exact ⟨⟨i + 1, x, true, by omega, HRT.out, rfl, by go_num, v1, v2, v3⟩, by simp only [intOf]; omega⟩
          | true =>
            by_cases hs : be.seq < x.seq
            · rw [show rst key seq (be, true) x = (x, true) from by unfold rst; rw [if_pos ⟨hk, hq, .inr hs⟩]] at hrt
              rw [hk] at z0
              have HRT := Lib.hid hrt
              clear hrt htl
              go_wp2_with fail
              go_quiet (fail)
              go_wp2_with fail
              obtain ⟨V, hV, v1, v2, v3⟩ := HSET.out nq
              rw [hk] at hV
              try rw [hV]
              exact ⟨⟨i + 1, x, true, by omega, HRT.out, rfl, by go_num, v1, v2, v3⟩, by simp only [intOf]; omega⟩
            · rw [show rst key seq (be, true) x = (be, true) from by unfold rst; rw [if_neg (by rintro ⟨_, _, q | q⟩; cases q; exact hs q)]] at hrt
              rw [hk] at z0
              have HRT := Lib.hid hrt
              clear hrt htl
              go_wp2_with fail
              go_quiet (fail)
              rw [show decide (be.seq < x.seq) = false from by simp; omega]
              go_wp2_with fail
              exact ⟨⟨i + 1, be, true, by omega, HRT.out, rfl, by go_num, HS.out.2.1, HS.out.2.2.1, HS.out.2.2.2.trans ((below_dN9 wr nq).mono HS.out.2.2.2.size)⟩, by simp only [intOf]; omega⟩
        · rw [show rst key seq (be, fd) x = (be, fd) from by unfold rst; rw [if_neg (fun q => hq q.2.1)]] at hrt
          rw [hk] at z0
          have HRT := Lib.hid hrt
          have HQ := Lib.hid (show decide (x.seq ≤ seq) = false by simp; omega)
          clear hrt htl
          go_wp2_with fail
          have hqb := HQ.out
          go_quiet (fail)
          go_wp2_with fail
          exact ⟨⟨i + 1, be, fd, by omega, HRT.out, rfl, by go_num, HS.out.2.1, HS.out.2.2.1, HS.out.2.2.2.trans ((below_dN9 wr nq).mono HS.out.2.2.2.size)⟩, by simp only [intOf]; omega⟩
      · rw [show rst key seq (be, fd) x = (be, fd) from by unfold rst; rw [if_neg (fun q => hk q.1)]] at hrt
        have g2 : ((str x.key).toList == (str key).toList) = false := by rw [htl, htl]; simpa using hk
        have g3 : ¬ (str x.key).toList = (str key).toList := by rw [htl, htl]; exact hk
        have HRT := Lib.hid hrt
        clear hrt htl hk
        go_wp2_with fail
        go_quiet (fail)
        go_wp2_with fail
        exact ⟨⟨i + 1, be, fd, by omega, HRT.out, rfl, by go_num, HS.out.2.1, HS.out.2.2.1, HS.out.2.2.2.trans ((below_dN9 wr nq).mono HS.out.2.2.2.size)⟩, by simp only [intOf]; omega⟩
    · have hcN : ¬ (i : Int) < n := by omega
      have hall : es.take i = es := List.take_of_length_le (by have := HA.out.1; omega)
      rw [hall] at hst
      have q0 : wr.cell? ⟨w.heap.size + 1, 0, none⟩ = some (.string (str be.key)) := hbe.cell rfl
      have q2 : wr.cell? ⟨w.heap.size + 1, 2, none⟩ = some (.bool be.del) := hbe.cell rfl
      have q3 : wr.cell? ⟨w.heap.size + 1, 3, none⟩ = some (.string (str be.val)) := hbe.cell rfl
      have y0 : wr.cell? ⟨w.heap.size, 0, none⟩ = some (.string ⟨#[]⟩) := hz.cell rfl
      have y1 : wr.cell? ⟨w.heap.size, 1, none⟩ = some (.int .i64 0) := hz.cell rfl
      have y2 : wr.cell? ⟨w.heap.size, 2, none⟩ = some (.bool false) := hz.cell rfl
      have y3 : wr.cell? ⟨w.heap.size, 3, none⟩ = some (.string ⟨#[]⟩) := hz.cell rfl
      have yf := hz.frozen
      clear hall hz hbe hb
      go_wp2_with fail
      obtain ⟨V, hV, v1, v2⟩ := set4 HS.out.2.1 (Nat.le_refl _) HS.out.2.2.2 be
      refine ret_entry rfl rfl rfl rfl (e := be) (x := .bool fd) (g := w.heap.size) ?_ ?_
      · rw [← hV] at v1; exact v1
      · refine ⟨by first | rfl | rw [hst], ?_⟩
        rw [← hV] at v2; exact v2
end Go.Proofs.Ytjlebmpgjliacaa
