/-
  A table and the law's start; the law's awake.
-/
import Derived.Test.YtjlebmpgjliacaaMeJ
namespace Go.Proofs.Ytjlebmpgjliacaa
open Go.RowKit
set_option linter.unusedVariables false

/-- A table made since w0. -/
structure TbW (w0 w : World) (tb : Nat) (N : List Nd) : Prop where
  tbl : Tbl w tb N
  bel : Below w0.heap.size w0 w
  lo : ∀ k, tfoot tb N k → w0.heap.size ≤ k
theorem Oth.below_ {S : Nat → Prop} {w w' : World} {B : Nat} (h : Oth S w w') (hS : ∀ k, S k → B ≤ k) (hB : B ≤ w.heap.size) : Below B w w' :=
  ⟨h.os, h.tape, h.output, h.size, fun k hk => h.block k (by omega) (fun e => by have := hS k e; omega)⟩
section
variable {w0 w w' : World} {tb : Nat} {N N' : List Nd}
theorem TbW.below (h : TbW w0 w tb N) (hb : Below w.heap.size w w') : TbW w0 w' tb N :=
  ⟨⟨h.tbl.tb.below hb (Nat.le_refl _), h.tbl.tall, h.tbl.srt, h.tbl.ok⟩, h.bel.trans (hb.mono h.bel.size), h.lo⟩
theorem TbW.alloc (h : TbW w0 w tb N) (o : Obj) : TbW w0 (w.alloc o) tb N := h.below ((Below.refl _ w).alloc (Nat.le_refl _) o)
theorem TbW.kind (h : TbW w0 w tb N) {k : Nat} (hk : tfoot tb N k) : ∃ cs t, Blk w k cs t ∧ (t = 50 ∨ t = 48) := by
  rcases hk with rfl | ⟨n, hn, rfl⟩
  · exact ⟨_, _, h.tbl.tb.hd, .inl rfl⟩
  · obtain ⟨i, hi⟩ := List.getElem?_of_mem hn
    exact ⟨_, _, h.tbl.tb.nd i n hi, .inr rfl⟩
theorem TbW.apart (h : TbW w0 w tb N) {k : Nat} {cs : Array Value} {e : TypeId} (hb : Blk w k cs e) (h1 : e ≠ 50) (h2 : e ≠ 48) : ¬ tfoot tb N k := fun hk => by
  obtain ⟨cs', t, hb', ht⟩ := h.kind hk
  rcases ht with rfl | rfl
  · exact blk_ne hb hb' h1 rfl
  · exact blk_ne hb hb' h2 rfl
/-- A table stays where its blocks do. -/
theorem TbW.stay (h : TbW w0 w tb N) (hk : ∀ k, tfoot tb N k → w'.heap[k]? = w.heap[k]?) (hb : Below w0.heap.size w0 w') : TbW w0 w' tb N :=
  ⟨⟨h.tbl.tb.keep hk, h.tbl.tall, h.tbl.srt, h.tbl.ok⟩, hb, h.lo⟩
end
theorem new_w {w0 w : World} (hb : Below w0.heap.size w0 w) : Calls Try.prog 5 #[] w fun r w' => r = .returned (.pointer (some ⟨w.heap.size, 0, none⟩)) ∧ TbW w0 w' w.heap.size [] ∧ Below w.heap.size w w' := by
  refine (new_any w).mono ?_
  rintro r w' ⟨rfl, h, hb1⟩
  refine ⟨rfl, ⟨⟨h, fun n hn => (by cases hn), List.Pairwise.nil, fun e he => (by cases he)⟩, hb.trans (hb1.mono hb.size), ?_⟩, hb1⟩
  rintro k (rfl | ⟨n, hn, _⟩)
  · exact hb.size
  · cases hn
/-- What Put makes of a table. -/
def PutW (w0 w : World) (tb : Nat) (N : List Nd) (e : En) (r : Ending) (w' : World) : Prop :=
  r = .returned (.int .i64 (putC (esOf N) e)) ∧ Oth (tfoot tb N) w w' ∧ ∃ N', TbW w0 w' tb N' ∧ (∀ k, tfoot tb N' k → tfoot tb N k ∨ w.heap.size ≤ k) ∧
    ((putC (esOf N) e ≠ 0 ∧ N' = N) ∨ (putC (esOf N) e = 0 ∧ N'.length = N.length + 1 ∧ esOf N' = insE (esOf N) e ∧ ∃ b ht, N' = ins N (posE (esOf N) e.key e.seq) ⟨e, ((N.length + 1 : Nat) : Int), b, ht⟩))
theorem put_w {w0 w : World} {tb : Nat} {N : List Nd} (h : TbW w0 w tb N) (hN : N.length ≤ 1000) (e : En) (height : Int) (hh : -9223372036854775808 ≤ height ∧ height ≤ 9223372036854775807) :
    Calls Try.prog 13 #[.pointer (some ⟨tb, 0, none⟩), ev e, .int .i64 height] w (PutW w0 w tb N e) := by
  refine (put_tbl h.tbl hN e height hh).mono ?_
  rintro r w' ⟨rfl, ho, h1, h2⟩
  have hbel := h.bel.trans (Oth.below_ ho h.lo h.bel.size)
  refine ⟨rfl, ho, ?_⟩
  by_cases hc : putC (esOf N) e = 0
  · obtain ⟨b, hb, ht⟩ := h2 hc
    have hfo : ∀ k, tfoot tb (ins N (posE (esOf N) e.key e.seq) ⟨e, ((N.length + 1 : Nat) : Int), b, hgt height⟩) k → tfoot tb N k ∨ w.heap.size ≤ k := by
      rintro k (rfl | ⟨n, hn, rfl⟩)
      · exact .inl (.inl rfl)
      · rcases List.mem_append.1 hn with hm | hm
        · exact .inl (.inr ⟨n, List.mem_of_mem_take hm, rfl⟩)
        · rcases List.mem_cons.1 hm with rfl | hm
          · exact .inr hb
          · exact .inl (.inr ⟨n, List.mem_of_mem_drop hm, rfl⟩)
    refine ⟨_, ⟨ht, hbel, fun k hk => ?_⟩, hfo, .inr ⟨hc, ?_, ?_, b, _, rfl⟩⟩
    · rcases hfo k hk with e1 | e1
      · exact h.lo k e1
      · exact Nat.le_trans h.bel.size e1
    · exact ins_len (by have := posE_le (esOf N) e.key e.seq; simpa [esOf] using this)
    · exact esOf_ins N ⟨e, ((N.length + 1 : Nat) : Int), b, hgt height⟩
  · exact ⟨N, ⟨(h1 hc).1, hbel, h.lo⟩, fun k hk => .inl hk, .inl ⟨hc, rfl⟩⟩

theorem put_w0 {w0 w : World} {tb : Nat} {N : List Nd} (h : TbW w0 w tb N) (hN : N.length ≤ 1000) (e : En) (height : Int) (hh : -9223372036854775808 ≤ height ∧ height ≤ 9223372036854775807) (hc : putC (esOf N) e = 0) :
    Calls Try.prog 13 #[.pointer (some ⟨tb, 0, none⟩), ev e, .int .i64 height] w fun r w' => r = .returned (.int .i64 0) ∧ Oth (tfoot tb N) w w' ∧ ∃ N', TbW w0 w' tb N' ∧ (∀ k, tfoot tb N' k → tfoot tb N k ∨ w.heap.size ≤ k) ∧ N'.length = N.length + 1 ∧ esOf N' = insE (esOf N) e := by
  refine (put_w h hN e height hh).mono ?_
  rintro r w' ⟨rfl, ho, N', h1, h2, h3⟩
  rw [hc]
  refine ⟨rfl, ho, N', h1, h2, ?_⟩
  rcases h3 with ⟨h3, _⟩ | ⟨_, h4, h5, _⟩
  · exact absurd hc h3
  · exact ⟨h4, h5⟩

/-! ### Get, by the entries -/
def getL (es : List En) (key : List UInt8) (seq : Int) : En × Bool := match es[posE es key seq]? with
  | some m => if m.key = key then (m, true) else (zE, false)
  | none => (zE, false)
theorem get_w {w0 w : World} {tb : Nat} {N : List Nd} (h : TbW w0 w tb N) (key : List UInt8) (seq : Int) :
    Calls Try.prog 14 #[.pointer (some ⟨tb, 0, none⟩), .string (str key), .int .i64 seq] w fun r w' => r = .returned (.tuple #[ev (getL (esOf N) key seq).1, .bool (getL (esOf N) key seq).2]) ∧ Below w.heap.size w w' := by
  have := get_any h.tbl.tb h.tbl.tall (split_of h.tbl.srt key seq)
  have e : getN N (posE (esOf N) key seq) key = getL (esOf N) key seq := by
    unfold getN getL
    have hm : (esOf N)[posE (esOf N) key seq]? = (N[posE (esOf N) key seq]?).map Nd.e := by
      generalize posE (esOf N) key seq = q
      unfold esOf
      rw [List.getElem?_map]
    rw [hm]
    cases N[posE (esOf N) key seq]? <;> rfl
  rwa [e] at this
theorem putC_0 {es : List En} {e : En} (h1 : chk e = 0) (h2 : ¬ hasE es e) : putC es e = 0 := by
  classical
  unfold putC
  have hc2 : ¬ (chk e ≠ 0) := fun q => q h1
  simp only [if_neg hc2, if_neg h2]
set_option maxRecDepth 20000 in
set_option maxHeartbeats 4000000 in
theorem awake4_any (w : World) : Calls Try.prog 6 #[] w fun r w' => r = .returned (.bool true) ∧ Below w.heap.size w w' := by
  have hc1 : putC (esOf []) ⟨[97], 1, false, [120]⟩ = 0 := putC_0 (by decide) (by rintro ⟨x, hx, _⟩; cases hx)
  have hc2 : putC [⟨[97], 1, false, [120]⟩] ⟨[97], 3, false, [122]⟩ = 0 := putC_0 (by decide) (by
    rintro ⟨x, hx, h1, h2⟩
    rw [List.mem_singleton] at hx
    subst hx
    exact absurd h2 (by decide))
  have hi1 : insE (esOf []) ⟨[97], 1, false, [120]⟩ = [⟨[97], 1, false, [120]⟩] := rfl
  have hi2 : insE [⟨[97], 1, false, [120]⟩] ⟨[97], 3, false, [122]⟩ = [⟨[97], 3, false, [122]⟩, ⟨[97], 1, false, [120]⟩] := by
    unfold insE
    rw [show posE [⟨[97], 1, false, [120]⟩] [97] 3 = 0 from by decide]
    rfl
  have hg : getL [⟨[97], 3, false, [122]⟩, ⟨[97], 1, false, [120]⟩] [97] 2 = (⟨[97], 1, false, [120]⟩, true) := by
    unfold getL
    rw [show posE [⟨[97], 3, false, [122]⟩, ⟨[97], 1, false, [120]⟩] [97] 2 = 1 from by decide]
    rfl
  have HC1 := Lib.hid hc1
  have HC2 := Lib.hid hc2
  have HI1 := Lib.hid hi1
  have HI2 := Lib.hid hi2
  have HG := Lib.hid hg
  clear hc1 hc2 hi1 hi2 hg
  go_enter Try.func6, Try.ntmps6
  go_wp2_with fail
  refine (new_w (Below.refl _ w)).mono ?_
  rintro r w1 ⟨rfl, hT1, hb1⟩
  have hp1 := put_w0 hT1 (by decide) ⟨[97], 1, false, [120]⟩ 1 (by decide) HC1.out
  rw [ev_lit] at hp1
  clear hT1
  go_wp2_with fail
  refine hp1.mono ?_
  rintro r w2 ⟨rfl, -, N2, hT2, -, hl2, he2⟩
  rw [HI1.out] at he2
  have hp2 := put_w0 hT2 (by rw [hl2]; decide) ⟨[97], 3, false, [122]⟩ 9 (by decide) (by rw [he2]; exact HC2.out)
  rw [ev_lit, he2, HI2.out] at hp2
  have HL2 := Lib.hid hl2
  clear hp1 hT2 hl2 he2
  go_wp2_with fail
  refine hp2.mono ?_
  rintro r w3 ⟨rfl, -, N3, hT3, -, hl3, he3⟩
  have hge := get_w hT3 [97] 2
  rw [he3, HG.out, ev_lit] at hge
  have HT3 := Lib.hid hT3
  have HE3 := Lib.hid (And.intro hl3 he3)
  clear hp2 hT3 hl3 he3
  go_wp2_with fail
  refine hge.mono ?_
  rintro r w4 ⟨rfl, hb4⟩
  have hT4 := HT3.out.below hb4
  have hle := fun o => len_any (hT4.alloc o).tbl.tb
  have hby := fun o => bytes_any (hT4.alloc o).tbl.tb
  rw [show (N3.length : Int) = 2 by rw [HE3.out.1, HL2.out]; rfl] at hle
  rw [HE3.out.2, show bsum [(⟨[97], 3, false, [122]⟩ : En), ⟨[97], 1, false, [120]⟩] = 4 by decide] at hby
  have hbel : ∀ o, Below w.heap.size w (w4.alloc o) := fun o => (hT4.alloc o).bel
  have g1 : (str [120]).toList = [120] := ByteArray.toList_mk _
  clear hge hT4 hb4
  go_wp2_with (first
    | (go_at_call 8; refine (hle _).mono ?_; rintro r w5 ⟨rfl, rfl⟩)
    | (go_at_call 12; refine (hby _).mono ?_; rintro r w6 ⟨rfl, rfl⟩))
  go_ret
  exact ⟨rfl, hbel _⟩
end Go.Proofs.Ytjlebmpgjliacaa
