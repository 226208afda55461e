/-
  The order of entries, a table as a sorted list; rows of entries; a call of the law's script as it lies in memory.
-/
import Derived.Test.YtjlebmpgjliacaaMeI
namespace Go.Proofs.Ytjlebmpgjliacaa
open Go.RowKit
set_option linter.unusedVariables false

/-! ### the order -/
theorem ahead_iff (a : En) (k : List UInt8) (s : Int) : a.ahead k s = true ↔ lt a.key k = true ∨ (a.key = k ∧ s < a.seq) := by
  unfold En.ahead
  simp
theorem ahead_trans {a b : En} {k : List UInt8} {s : Int} (h1 : a.ahead b.key b.seq = true) (h2 : b.ahead k s = true) : a.ahead k s = true := by
  rw [ahead_iff] at h1 h2 ⊢
  rcases h1 with h1 | ⟨h1, h1'⟩
  · rcases h2 with h2 | ⟨h2, _⟩
    · exact .inl (lt_trans h1 h2)
    · exact .inl (h2 ▸ h1)
  · rcases h2 with h2 | ⟨h2, h2'⟩
    · exact .inl (h1 ▸ h2)
    · exact .inr ⟨h1.trans h2, by omega⟩
theorem ahead_total {a : En} {k : List UInt8} {s : Int} (h : a.ahead k s = false) (hn : ¬ (a.key = k ∧ a.seq = s)) : lt k a.key = true ∨ (k = a.key ∧ a.seq < s) := by
  have h' : ¬ (lt a.key k = true ∨ (a.key = k ∧ s < a.seq)) := fun e => by rw [(ahead_iff a k s).2 e] at h; cases h
  by_cases e : a.key = k
  · subst e
    refine .inr ⟨rfl, ?_⟩
    have h1 : ¬ s < a.seq := fun q => h' (.inr ⟨rfl, q⟩)
    have h2 : ¬ a.seq = s := fun q => hn ⟨rfl, q⟩
    omega
  · rcases lt_total e with q | q
    · exact absurd (.inl q) h'
    · exact .inl q
theorem ahead_not_self (a : En) : a.ahead a.key a.seq = false := by
  cases h : a.ahead a.key a.seq with
  | false => rfl
  | true =>
    rw [ahead_iff] at h
    rcases h with h | ⟨_, h⟩
    · rw [lt_irrefl] at h; cases h
    · omega
def Srt (es : List En) : Prop := es.Pairwise fun a b => a.ahead b.key b.seq = true
def posE (es : List En) (k : List UInt8) (s : Int) : Nat := (es.takeWhile fun e => e.ahead k s).length
theorem posE_le (es : List En) (k : List UInt8) (s : Int) : posE es k s ≤ es.length := (List.takeWhile_prefix _).length_le
theorem posE_yes : ∀ (es : List En) (k : List UInt8) (s : Int) (j : Nat), j < posE es k s → ∀ m, es[j]? = some m → m.ahead k s = true := by
  intro es k s j hj m hm
  unfold posE at hj
  have h1 : (es.takeWhile fun e => e.ahead k s)[j]? = some m := by
    obtain ⟨l2, hl2⟩ := List.takeWhile_prefix (fun e : En => e.ahead k s) (l := es)
    rw [← hl2, List.getElem?_append_left hj] at hm
    exact hm
  have := List.all_takeWhile (p := fun e : En => e.ahead k s) (l := es)
  exact List.all_eq_true.1 this m (List.mem_of_getElem? h1)
theorem posE_at : ∀ (es : List En) (k : List UInt8) (s : Int) (m : En), es[posE es k s]? = some m → m.ahead k s = false
  | [], _, _, m, h => by cases h
  | a :: r, k, s, m, h => by
    unfold posE at h
    rw [List.takeWhile_cons] at h
    cases ha : a.ahead k s with
    | false =>
      rw [ha] at h
      simp at h
      rw [← h]; exact ha
    | true =>
      rw [ha] at h
      simp at h
      exact posE_at r k s m h
theorem posE_no {es : List En} (hs : Srt es) (k : List UInt8) (s : Int) (j : Nat) (hj : posE es k s ≤ j) (m : En) (hm : es[j]? = some m) : m.ahead k s = false := by
  rcases Nat.lt_or_ge (posE es k s) j with h | h
  · cases hb : m.ahead k s with
    | false => rfl
    | true =>
      have hjl := (List.getElem?_eq_some_iff.1 hm).1
      have h1 : es[posE es k s]? = some es[posE es k s] := List.getElem?_eq_getElem (by omega)
      have h2 := posE_at es k s _ h1
      have h3 := List.pairwise_iff_getElem.1 hs (posE es k s) j (by omega) hjl h
      rw [(List.getElem?_eq_some_iff.1 hm).2] at h3
      rw [ahead_trans h3 hb] at h2
      cases h2
  · obtain rfl : j = posE es k s := by omega
    exact posE_at es k s m hm
def esOf (N : List Nd) : List En := N.map Nd.e
theorem split_of {N : List Nd} (hs : Srt (esOf N)) (k : List UInt8) (s : Int) : Split N k s (posE (esOf N) k s) := by
  refine ⟨by have := posE_le (esOf N) k s; simpa [esOf] using this, fun j hj m hm => posE_yes (esOf N) k s j hj m.e (by unfold esOf; rw [List.getElem?_map, hm]; rfl), fun j hj m hm => posE_no hs k s j hj m.e (by unfold esOf; rw [List.getElem?_map, hm]; rfl)⟩
/-- An entry put in. -/
def insE (es : List En) (e : En) : List En := es.take (posE es e.key e.seq) ++ e :: es.drop (posE es e.key e.seq)
def hasE (es : List En) (e : En) : Prop := ∃ x ∈ es, x.key = e.key ∧ x.seq = e.seq
theorem has_iff {es : List En} (hs : Srt es) (e : En) : hasE es e ↔ ∃ m, es[posE es e.key e.seq]? = some m ∧ m.key = e.key ∧ m.seq = e.seq := by
  constructor
  · rintro ⟨x, hx, h1, h2⟩
    obtain ⟨j, hj⟩ := List.getElem?_of_mem hx
    have hna : x.ahead e.key e.seq = false := by rw [← h1, ← h2]; exact ahead_not_self x
    rcases Nat.lt_trichotomy j (posE es e.key e.seq) with h | h | h
    · rw [posE_yes es e.key e.seq j h x hj] at hna; cases hna
    · exact ⟨x, h ▸ hj, h1, h2⟩
    · have hjl := (List.getElem?_eq_some_iff.1 hj).1
      have h3 : es[posE es e.key e.seq]? = some es[posE es e.key e.seq] := List.getElem?_eq_getElem (by omega)
      have h4 := posE_at es _ _ _ h3
      have h5 := List.pairwise_iff_getElem.1 hs (posE es e.key e.seq) j (by omega) hjl h
      rw [(List.getElem?_eq_some_iff.1 hj).2, h1, h2, h4] at h5
      cases h5
  · rintro ⟨m, hm, h1, h2⟩
    exact ⟨m, List.mem_of_getElem? hm, h1, h2⟩
theorem srt_ins {es : List En} (hs : Srt es) {e : En} (hn : ¬ hasE es e) : Srt (insE es e) := by
  unfold insE Srt
  rw [List.pairwise_append]
  refine ⟨hs.take, List.pairwise_cons.2 ⟨fun b hb => ?_, hs.drop⟩, fun a ha b hb => ?_⟩
  · obtain ⟨j, hj⟩ := List.getElem?_of_mem hb
    rw [List.getElem?_drop] at hj
    have h1 := posE_no hs e.key e.seq _ (Nat.le_add_right _ _) b hj
    have h2 := ahead_total h1 (fun h => hn ⟨b, List.mem_of_getElem? hj, h⟩)
    rw [ahead_iff]
    rcases h2 with h2 | ⟨h2, h3⟩
    · exact .inl h2
    · exact .inr ⟨h2, h3⟩
  · have ha' : a.ahead e.key e.seq = true := by
      obtain ⟨j, hj⟩ := List.getElem?_of_mem ha
      rw [List.getElem?_take] at hj
      split at hj
      · rename_i hlt
        exact posE_yes es _ _ j hlt a hj
      · cases hj
    rcases List.mem_cons.1 hb with rfl | hb
    · exact ha'
    · have : es = es.take (posE es e.key e.seq) ++ es.drop (posE es e.key e.seq) := (List.take_append_drop _ _).symm
      unfold Srt at hs
      rw [this, List.pairwise_append] at hs
      exact hs.2.2 a ha b hb
theorem esOf_ins (N : List Nd) (x : Nd) : esOf (ins N (posE (esOf N) x.e.key x.e.seq) x) = insE (esOf N) x.e := by
  unfold esOf ins insE
  simp
theorem mem_ins {es : List En} {e x : En} : x ∈ insE es e ↔ x = e ∨ x ∈ es := by
  unfold insE
  rw [List.mem_append, List.mem_cons]
  constructor
  · rintro (h | h | h)
    · exact .inr (List.mem_of_mem_take h)
    · exact .inl h
    · exact .inr (List.mem_of_mem_drop h)
  · rintro (h | h)
    · exact .inr (.inl h)
    · rw [← List.take_append_drop (posE es e.key e.seq) es, List.mem_append] at h
      rcases h with h | h
      · exact .inl h
      · exact .inr (.inr h)

/-! ### a table as a sorted list -/
def bsum (es : List En) : Int := (es.map fun e => ((e.key.length + e.val.length : Nat) : Int)).sum
/-- A table: its nodes, the entries in order, all checked. -/
structure Tbl (w : World) (tb : Nat) (N : List Nd) : Prop where
  tb : Tb w tb N (N.length : Int) (bsum (esOf N))
  tall : Tall N
  srt : Srt (esOf N)
  ok : ∀ e ∈ esOf N, chk e = 0
theorem bsum_app (a b : List En) : bsum (a ++ b) = bsum a + bsum b := by simp [bsum]
theorem bsum_ins (es : List En) (e : En) : bsum (insE es e) = bsum es + ((e.key.length + e.val.length : Nat) : Int) := by
  unfold insE
  conv => rhs; rw [← List.take_append_drop (posE es e.key e.seq) es, bsum_app]
  rw [bsum_app]
  have : bsum (e :: es.drop (posE es e.key e.seq)) = ((e.key.length + e.val.length : Nat) : Int) + bsum (es.drop (posE es e.key e.seq)) := by simp [bsum]
  omega
theorem bsum_le : ∀ {es : List En}, (∀ e ∈ es, chk e = 0) → 0 ≤ bsum es ∧ bsum es ≤ es.length * 1088
  | [], _ => by simp [bsum]
  | e :: r, h => by
    have h1 := chk_len (h e (by simp))
    have h2 := bsum_le (es := r) fun x hx => h x (by simp [hx])
    have : bsum (e :: r) = ((e.key.length + e.val.length : Nat) : Int) + bsum r := by simp [bsum]
    rw [this, List.length_cons]
    omega
/-- What Put answers. -/
noncomputable def putC (es : List En) (e : En) : Int := by
  classical exact if chk e ≠ 0 then chk e else if hasE es e then 2 else 0
theorem putE_eq {N : List Nd} (hs : Srt (esOf N)) (e : En) : putE N (posE (esOf N) e.key e.seq) e = putC (esOf N) e := by
  classical
  unfold putE putC
  by_cases hc : chk e = 0
  · have hc2 : ¬ (chk e ≠ 0) := fun q => q hc
    simp only [if_neg hc2]
    have hd : dupB N (posE (esOf N) e.key e.seq) e = true ↔ hasE (esOf N) e := by
      rw [has_iff hs]
      unfold dupB
      have hm : (esOf N)[posE (esOf N) e.key e.seq]? = (N[posE (esOf N) e.key e.seq]?).map Nd.e := by
        generalize posE (esOf N) e.key e.seq = q
        unfold esOf
        rw [List.getElem?_map]
      rw [hm]
      cases N[posE (esOf N) e.key e.seq]? with
      | none => simp
      | some m => simp
    by_cases h : hasE (esOf N) e
    · rw [if_pos h, if_pos (hd.2 h)]
    · rw [if_neg h, if_neg (fun q => h (hd.1 q))]
  · rw [if_pos hc, if_pos hc]
/-- A table behind Put. -/
theorem put_tbl {w : World} {tb : Nat} {N : List Nd} (h : Tbl w tb N) (hN : N.length ≤ 1000) (e : En) (height : Int) (hh : -9223372036854775808 ≤ height ∧ height ≤ 9223372036854775807) :
    Calls Try.prog 13 #[.pointer (some ⟨tb, 0, none⟩), ev e, .int .i64 height] w fun r w' => r = .returned (.int .i64 (putC (esOf N) e)) ∧ Oth (tfoot tb N) w w' ∧
      (putC (esOf N) e ≠ 0 → Tbl w' tb N ∧ Below w.heap.size w w') ∧ (putC (esOf N) e = 0 → ∃ b, w.heap.size ≤ b ∧ Tbl w' tb (ins N (posE (esOf N) e.key e.seq) ⟨e, ((N.length + 1 : Nat) : Int), b, hgt height⟩)) := by
  have hb := bsum_le h.ok
  have hl : (esOf N).length = N.length := by simp [esOf]
  rw [hl] at hb
  refine (put_any h.tb h.tall hN (by omega) e height hh (split_of h.srt e.key e.seq)).mono ?_
  rintro r w' ⟨rfl, hp⟩
  rw [putE_eq h.srt] at hp ⊢
  by_cases hc : putC (esOf N) e = 0
  · rw [if_pos hc] at hp
    obtain ⟨b, h1, h2, h3⟩ := hp
    refine ⟨rfl, h3, fun k => absurd hc k, fun _ => ⟨b, h1, ?_⟩⟩
    have hck : chk e = 0 := by
      classical
      unfold putC at hc
      by_cases q : chk e = 0
      · exact q
      · rw [if_pos q] at hc; exact absurd hc q
    have hnh : ¬ hasE (esOf N) e := by
      classical
      intro q
      unfold putC at hc
      rw [if_neg (by simpa using hck), if_pos q] at hc
      cases hc
    have he := esOf_ins N ⟨e, ((N.length + 1 : Nat) : Int), b, hgt height⟩
    simp only at he
    have hlen : (ins N (posE (esOf N) e.key e.seq) ⟨e, ((N.length + 1 : Nat) : Int), b, hgt height⟩).length = N.length + 1 := ins_len (by have := posE_le (esOf N) e.key e.seq; omega)
    refine ⟨?_, ?_, ?_, ?_⟩
    · rw [he, bsum_ins, hlen]
      exact h2
    · intro n hn
      rcases List.mem_append.1 hn with hm | hm
      · exact h.tall n (List.mem_of_mem_take hm)
      · rcases List.mem_cons.1 hm with rfl | hm
        · unfold hgt; simp only; omega
        · exact h.tall n (List.mem_of_mem_drop hm)
    · rw [he]; exact srt_ins h.srt hnh
    · rw [he]
      intro x hx
      rcases mem_ins.1 hx with rfl | hx
      · exact hck
      · exact h.ok x hx
  · rw [if_neg hc] at hp
    exact ⟨rfl, ⟨hp.2.os, hp.2.tape, hp.2.output, hp.2.size, fun k hk _ => hp.2.block k hk⟩, fun _ => ⟨⟨hp.1, h.tall, h.srt, h.ok⟩, hp.2⟩, fun k => absurd k hc⟩
end Go.Proofs.Ytjlebmpgjliacaa
