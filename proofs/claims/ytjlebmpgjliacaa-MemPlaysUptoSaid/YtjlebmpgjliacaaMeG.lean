/-
  A node put into a skip list, level by level: what memory holds.
-/
import Derived.Test.YtjlebmpgjliacaaMeF
namespace Go.Proofs.Ytjlebmpgjliacaa
open Go.RowKit
set_option linter.unusedVariables false

theorem blk_ne {w : World} {a b : Nat} {cs ds : Array Value} {s t : TypeId} (h : Blk w a cs s) (k : Blk w b ds t) (hn : s ≠ t) : a ≠ b := by
  rintro rfl
  unfold Blk at h k
  rw [h] at k
  injection k with k; injection k with _ k
  exact hn k
theorem nxs_get {N : List Nd} {i L : Nat} (hL : L < 12) : (nxs N i)[L]? = some (pnt (nxN N i L)) := by simp [nxs, hL]
theorem nxs_ext {l : List Value} {N : List Nd} {i : Nat} (hl : l.length = 12) (h : ∀ L, L < 12 → l[L]? = some (pnt (nxN N i L))) : nxs N i = l := by
  apply List.ext_getElem?
  intro L
  by_cases hL : L < 12
  · rw [nxs_get hL, h L hL]
  · rw [List.getElem?_eq_none (by rw [nxs_len]; omega), List.getElem?_eq_none (by omega)]
theorem nxs_level {N : List Nd} {p k : Nat} {x : Nd} (hp1 : p ≤ N.length) (hk : k < 12) {i : Nat} (hi : i ≤ N.length + 1) :
    nxs (ins N p (x.to (k + 1))) i = if i = lastP N k p then (nxs (ins N p (x.to k)) i).set k (.pointer (some ⟨x.blk, 0, none⟩)) else if i = p + 1 then (nxs (ins N p (x.to k)) i).set k (pnt (nxN (ins N p (x.to k)) (lastP N k p) k)) else nxs (ins N p (x.to k)) i := by
  apply nxs_ext
  · split
    · rw [List.length_set, nxs_len]
    · split
      · rw [List.length_set, nxs_len]
      · rw [nxs_len]
  · intro L hL
    rw [nx_level hp1 hk hi]
    by_cases h1 : i = lastP N k p
    · rw [if_pos h1]
      by_cases hLk : L = k
      · subst hLk
        rw [List.getElem?_set_self (by rw [nxs_len]; exact hL), if_pos ⟨rfl, h1⟩]
      · rw [List.getElem?_set_ne (fun e => hLk e.symm), nxs_get hL]
        simp only [hLk, false_and, if_false]
    · rw [if_neg h1]
      simp only [h1, and_false, if_false]
      by_cases h2 : i = p + 1
      · rw [if_pos h2]
        by_cases hLk : L = k
        · subst hLk
          rw [List.getElem?_set_self (by rw [nxs_len]; exact hL), if_pos ⟨rfl, h2⟩]
        · rw [List.getElem?_set_ne (fun e => hLk e.symm), nxs_get hL]
          simp only [hLk, false_and, if_false]
      · rw [if_neg h2, nxs_get hL]
        simp only [h2, and_false, if_false]
theorem set_nd (a b c d n : Value) (l : List Value) (k : Nat) (v : Value) : ([a, b, c, d] ++ [n] ++ l).toArray.setIfInBounds (5 + k) v = ([a, b, c, d] ++ [n] ++ l.set k v).toArray := by
  apply Array.ext'
  rw [show 5 + k = k + 1 + 1 + 1 + 1 + 1 from by omega]
  simp
theorem set_tb (a b c d n y z : Value) (l : List Value) (k : Nat) (v : Value) (hk : k < l.length) : ([a, b, c, d] ++ [n] ++ l ++ [y, z]).toArray.setIfInBounds (5 + k) v = ([a, b, c, d] ++ [n] ++ l.set k v ++ [y, z]).toArray := by
  apply Array.ext'
  rw [show 5 + k = k + 1 + 1 + 1 + 1 + 1 from by omega]
  simp [hk]
section
variable {w : World} {tb : Nat} {N : List Nd} {cnt byt : Int} {p k : Nat} {x : Nd}
/-- A new node, not yet linked. -/
theorem Tb.base (h : Tb w tb N cnt byt) (hp1 : p ≤ N.length) (hb : Blk w x.blk (ec x.e ++ [Value.int .i64 x.num] ++ List.replicate 12 (Value.pointer none)).toArray 48) (hn : x.blk ∉ N.map Nd.blk) : Tb w tb (ins N p (x.to 0)) cnt byt := by
  have e0 : ∀ i, i ≤ p → nxs (ins N p (x.to 0)) i = nxs N i := fun i hi => nxs_ext (nxs_len _ _) fun L hL => by rw [nxs_get hL, nx_base hp1 hi]
  have e1 : ∀ i, p < i → nxs (ins N p (x.to 0)) (i + 1) = nxs N i := fun i hi => nxs_ext (nxs_len _ _) fun L hL => by rw [nxs_get hL, nx_ins_gt hp1 hi]
  have e2 : nxs (ins N p (x.to 0)) (p + 1) = List.replicate 12 (Value.pointer none) := nxs_ext (by simp) fun L hL => by
    rw [nx_ins_x hp1, List.getElem?_replicate, if_pos hL]
    simp [Nd.to, pnt]
  refine ⟨?_, fun j n hj => ?_, ?_, ?_⟩
  · unfold tbc
    rw [e0 0 (Nat.zero_le _)]
    exact h.hd
  · unfold ndc
    rcases Nat.lt_trichotomy j p with hlt | rfl | hgt
    · rw [ins_lt hp1 hlt] at hj
      rw [e0 _ (by omega)]
      exact h.nd j n hj
    · rw [ins_at hp1] at hj
      obtain rfl := Option.some.inj hj
      rw [e2]
      exact hb
    · obtain ⟨j, rfl⟩ : ∃ j', j = j' + 1 := ⟨j - 1, by omega⟩
      rw [ins_gt hp1 (by omega)] at hj
      rw [e1 _ (by omega)]
      exact h.nd j n hj
  · have hnd := h.nodup
    unfold ins
    rw [← List.take_append_drop p N, List.map_append] at hnd hn
    rw [List.map_append, List.map_cons]
    rw [List.nodup_append] at hnd ⊢
    obtain ⟨n1, n2, n3⟩ := hnd
    refine ⟨n1, List.nodup_cons.2 ⟨fun e => hn (List.mem_append_right _ e), n2⟩, fun a ha b hb2 => ?_⟩
    rcases List.mem_cons.1 hb2 with rfl | hb2
    · rintro rfl
      exact hn (List.mem_append_left _ ha)
    · exact n3 a ha b hb2
  · intro n hn2
    rcases List.mem_append.1 hn2 with hm | hm
    · exact h.hts n (List.mem_of_mem_take hm)
    · rcases List.mem_cons.1 hm with rfl | hm
      · exact Nat.zero_le _
      · exact h.hts n (List.mem_of_mem_drop hm)
theorem nodup_blk (h : Tb w tb N cnt byt) {i j : Nat} {a b : Nd} (hi : N[i]? = some a) (hj : N[j]? = some b) (he : a.blk = b.blk) : i = j := by
  have hnd := h.nodup
  obtain ⟨h1, h2⟩ := List.getElem?_eq_some_iff.1 hi
  obtain ⟨h3, h4⟩ := List.getElem?_eq_some_iff.1 hj
  have := (List.getElem_inj (h₀ := show i < (N.map Nd.blk).length by simpa using h1) (h₁ := show j < (N.map Nd.blk).length by simpa using h3) hnd).1 (by simp [h2, h4, he])
  exact this
/-- A level more is linked. -/
theorem Tb.level (h : Tb w tb (ins N p (x.to k)) cnt byt) (hp1 : p ≤ N.length) (hk : k < 12) :
    Tb ((w.setCell ⟨x.blk, 5 + k, none⟩ (pnt (nxN (ins N p (x.to k)) (lastP N k p) k))).setCell ⟨ba tb N (lastP N k p), 5 + k, none⟩ (.pointer (some ⟨x.blk, 0, none⟩))) tb (ins N p (x.to (k + 1))) cnt byt := by
  have hlp := lastP_le N k p
  have hbx := h.nd p (x.to k) (ins_at hp1)
  have htx : tb ≠ x.blk := blk_ne h.hd hbx (by decide)
  generalize hv : pnt (nxN (ins N p (x.to k)) (lastP N k p) k) = v
  generalize hq : lastP N k p = q at *
  have hgood : ∀ (j : Nat) (n : Nd), (ins N p (x.to (k + 1)))[j]? = some n → ∃ m : Nd, (ins N p (x.to k))[j]? = some m ∧ m.blk = n.blk ∧ m.e = n.e ∧ m.num = n.num := fun j n hj => by
    rcases Nat.lt_trichotomy j p with hlt | rfl | hgt
    · rw [ins_lt hp1 hlt] at hj
      exact ⟨n, by rw [ins_lt hp1 hlt]; exact hj, rfl, rfl, rfl⟩
    · rw [ins_at hp1] at hj
      obtain rfl := Option.some.inj hj
      exact ⟨_, ins_at hp1, rfl, rfl, rfl⟩
    · obtain ⟨j, rfl⟩ : ∃ j', j = j' + 1 := ⟨j - 1, by omega⟩
      rw [ins_gt hp1 (by omega)] at hj
      exact ⟨n, by rw [ins_gt hp1 (by omega)]; exact hj, rfl, rfl, rfl⟩
  refine ⟨?_, fun j n hj => ?_, ?_, ?_⟩
  · -- the head
    unfold tbc
    rw [nxs_level hp1 hk (Nat.zero_le _), hq, hv]
    have h1 : Blk (w.setCell ⟨x.blk, 5 + k, none⟩ v) tb (tbc (ins N p (x.to k)) cnt byt) 50 := h.hd.keep (setCell_other _ _ _ htx)
    by_cases h0 : 0 = q
    · rw [if_pos h0]
      have := h1.set (5 + k) (.pointer (some ⟨x.blk, 0, none⟩))
      rw [← h0]
      unfold tbc ec at this
      rw [set_tb _ _ _ _ _ _ _ _ _ _ (by rw [nxs_len]; exact hk)] at this
      exact this
    · rw [if_neg h0, if_neg (by omega)]
      refine h1.keep (setCell_other _ _ _ ?_)
      obtain ⟨q, rfl⟩ : ∃ q', q = q' + 1 := ⟨q - 1, by omega⟩
      have hl : N[q]? = some N[q] := List.getElem?_eq_getElem (by omega)
      have hb2 := h.nd q N[q] (by rw [ins_lt hp1 (by omega)]; exact hl)
      have e : ba tb N (q + 1) = N[q].blk := by simp only [ba, hl]
      simp only [e]
      exact blk_ne h.hd hb2 (by decide)
  · obtain ⟨m, hm, m1, m2, m3⟩ := hgood j n hj
    have hb0 := h.nd j m hm
    unfold ndc at hb0 ⊢
    rw [m1, m2, m3] at hb0
    have hjl : j < N.length + 1 := by have := (List.getElem?_eq_some_iff.1 hm).1; rwa [ins_len hp1] at this
    rw [nxs_level hp1 hk (by omega), hq, hv]
    have hjq : j + 1 = q → ba tb N q = n.blk := fun e => by
      subst e
      rw [ins_lt hp1 (by omega)] at hj
      simp only [ba, hj]
    by_cases hjp : j = p
    · -- the new node
      subst hjp
      have hnx : n.blk = x.blk := by
        rw [ins_at hp1] at hj
        exact (congrArg Nd.blk (Option.some.inj hj)).symm
      rw [if_neg (by omega), if_pos rfl]
      rw [hnx] at hb0 ⊢
      have h2 := hb0.set (5 + k) v
      unfold ec at h2
      rw [set_nd] at h2
      refine h2.keep (setCell_other _ _ _ ?_)
      cases q with
      | zero => exact htx.symm
      | succ q =>
        have hl : N[q]? = some N[q] := List.getElem?_eq_getElem (by omega)
        have e : ba tb N (q + 1) = N[q].blk := by simp only [ba, hl]
        simp only [e]
        intro e2
        have := nodup_blk h (ins_at hp1 (x := x.to k)) (show (ins N j (x.to k))[q]? = some N[q] by rw [ins_lt hp1 (by omega)]; exact hl) e2
        omega
    · have hnx : n.blk ≠ x.blk := fun e => hjp (nodup_blk h hm (ins_at hp1) (m1.trans e))
      have h1 := hb0.keep (setCell_other w ⟨x.blk, 5 + k, none⟩ v hnx)
      by_cases hjq2 : j + 1 = q
      · rw [if_pos hjq2]
        rw [hjq hjq2]
        have h2 := h1.set (5 + k) (.pointer (some ⟨x.blk, 0, none⟩))
        unfold ec at h2
        rw [set_nd] at h2
        exact h2
      · rw [if_neg hjq2, if_neg (by omega)]
        refine h1.keep (setCell_other _ _ _ ?_)
        cases q with
        | zero => exact (blk_ne h.hd hb0 (by decide)).symm
        | succ q =>
          have hl : N[q]? = some N[q] := List.getElem?_eq_getElem (by omega)
          have e : ba tb N (q + 1) = N[q].blk := by simp only [ba, hl]
          simp only [e]
          intro e2
          have := nodup_blk h hm (show (ins N p (x.to k))[q]? = some N[q] by rw [ins_lt hp1 (by omega)]; exact hl) (m1.trans e2)
          omega
  · have := h.nodup
    have e : (ins N p (x.to (k + 1))).map Nd.blk = (ins N p (x.to k)).map Nd.blk := by simp [ins, Nd.to]
    rw [e]; exact this
  · intro n hn2
    rcases List.mem_append.1 hn2 with hm | hm
    · exact h.hts n (by unfold ins; exact List.mem_append_left _ hm)
    · rcases List.mem_cons.1 hm with rfl | hm
      · exact hk
      · exact h.hts n (by unfold ins; exact List.mem_append_right _ (List.mem_cons_of_mem _ hm))
end
end Go.Proofs.Ytjlebmpgjliacaa
