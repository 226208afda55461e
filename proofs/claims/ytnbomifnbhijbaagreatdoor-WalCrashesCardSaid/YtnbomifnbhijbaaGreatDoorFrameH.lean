/-
  Lists of slices of bytes; contracts of frame.Scan, of the reference's Scan and Same.
-/
import Derived.Test.YtnbomifnbhijbaaGreatDoorFrameG
namespace Go.Proofs.YtnbomifnbhijbaaGreatDoor
open Go.RowKit Num Crc
set_option linter.unusedVariables false

theorem rowsEl : El Tryz.prog 30 36 (.slice none 0 0) 24 := ⟨Tryz.underlying30, by kernel_rfl, rfl⟩

/-- Each value is a slice of bytes that the call owns and that holds the list's bytes. -/
def Each (w : World) (B : Nat) : List Value → List (List UInt8) → Prop
  | [], [] => True
  | v :: vs, l :: ls => (∃ A c, v = .slice A l.length c ∧ w.ownsRow B 5 1 (.slice A l.length c) l.length (bv l)) ∧ Each w B vs ls
  | _, _ => False
/-- Each value is a slice of bytes that holds the list's bytes. -/
def EachS (w : World) : List Value → List (List UInt8) → Prop
  | [], [] => True
  | v :: vs, l :: ls => (∃ A c, v = .slice A l.length c ∧ Sl w A l.length (bv l)) ∧ EachS w vs ls
  | _, _ => False
theorem Each.len {w : World} {B : Nat} : ∀ {vs : List Value} {ls : List (List UInt8)}, Each w B vs ls → vs.length = ls.length
  | [], [], _ => rfl
  | _ :: vs, _ :: ls, h => by simp [Each.len (vs := vs) (ls := ls) h.2]
  | [], _ :: _, h => h.elim
  | _ :: _, [], h => h.elim
theorem EachS.len {w : World} : ∀ {vs : List Value} {ls : List (List UInt8)}, EachS w vs ls → vs.length = ls.length
  | [], [], _ => rfl
  | _ :: vs, _ :: ls, h => by simp [EachS.len (vs := vs) (ls := ls) h.2]
  | [], _ :: _, h => h.elim
  | _ :: _, [], h => h.elim
theorem Each.toS {w : World} {B : Nat} : ∀ {vs : List Value} {ls : List (List UInt8)}, Each w B vs ls → EachS w vs ls
  | [], [], _ => trivial
  | _ :: vs, _ :: ls, h => by
    obtain ⟨⟨A, c, rfl, ho⟩, h2⟩ := h
    exact ⟨⟨A, c, rfl, own_sl ho⟩, Each.toS h2⟩
  | [], _ :: _, h => h.elim
  | _ :: _, [], h => h.elim
theorem Each.imp {w w' : World} {B B' : Nat} (hk : ∀ A l c, w.ownsRow B 5 1 (.slice A l c) l = w.ownsRow B 5 1 (.slice A l c) l) (hh : ∀ (A : Option Addr) (l c : Nat) (xs : List Value), w.ownsRow B 5 1 (.slice A l c) l xs → w'.ownsRow B' 5 1 (.slice A l c) l xs) :
    ∀ {vs : List Value} {ls : List (List UInt8)}, Each w B vs ls → Each w' B' vs ls
  | [], [], _ => trivial
  | _ :: vs, _ :: ls, h => by
    obtain ⟨⟨A, c, rfl, ho⟩, h2⟩ := h
    exact ⟨⟨A, c, rfl, hh _ _ _ _ ho⟩, Each.imp hk hh h2⟩
  | [], _ :: _, h => h.elim
  | _ :: _, [], h => h.elim
theorem Each.below {w w' : World} {B : Nat} {vs : List Value} {ls : List (List UInt8)} (h : Each w B vs ls) (hb : Below w.heap.size w w') : Each w' B vs ls :=
  h.imp (fun _ _ _ => rfl) fun _ _ _ _ ho => own_keep ho hb
theorem Each.mono {w : World} {B B' : Nat} {vs : List Value} {ls : List (List UInt8)} (h : Each w B vs ls) (hB : B' ≤ B) : Each w B' vs ls :=
  h.imp (fun _ _ _ => rfl) fun _ _ _ _ ho => own_mono ho hB
theorem Each.snoc {w : World} {B : Nat} {A : Option Addr} {c : Nat} {l : List UInt8} (hn : w.ownsRow B 5 1 (.slice A l.length c) l.length (bv l)) :
    ∀ {vs : List Value} {ls : List (List UInt8)}, Each w B vs ls → Each w B (vs ++ [.slice A l.length c]) (ls ++ [l])
  | [], [], _ => ⟨⟨A, c, rfl, hn⟩, trivial⟩
  | _ :: vs, _ :: ls, h => ⟨h.1, Each.snoc hn h.2⟩
  | [], _ :: _, h => h.elim
  | _ :: _, [], h => h.elim
theorem Each.one {w : World} {B : Nat} : ∀ {vs : List Value} {ls : List (List UInt8)}, Each w B vs ls → ∀ u ∈ vs, u.oneCell' = true
  | [], [], _ => by intro u hu; cases hu
  | _ :: vs, _ :: ls, h => by
    intro u hu
    obtain ⟨⟨A, c, rfl, _⟩, h2⟩ := h
    rcases List.mem_cons.1 hu with rfl | hu
    · rfl
    · exact Each.one h2 u hu
  | [], _ :: _, h => h.elim
  | _ :: _, [], h => h.elim
/-- An append onto the outer row leaves the inner ones: their element types differ. -/
theorem Each.grown {w w' : World} {B B2 : Nat} {v : Value} {n : Nat} {xs : List Value} {vs : List Value} {ls : List (List UInt8)} (h : Each w B vs ls) (ho : w.ownsRow B2 36 1 v n xs) (hg : w.grownBy w' v.ownBlock) : Each w' B vs ls := by
  refine h.imp (fun _ _ _ => rfl) fun A l c ys hi => hi.kept hg ?_
  rcases hi.2 with ⟨h1, _⟩ | ⟨g, cap, cur, h1, _, h3, _⟩
  · left; rw [h1]; rfl
  · right
    rw [h1]
    rcases ho.2 with ⟨k1, _⟩ | ⟨g', cap', cur', k1, _, k3, _⟩
    · rw [k1]; simp [Value.ownBlock]
    · rw [k1]
      simp only [Value.ownBlock]
      intro e
      injection e with e
      subst e
      rw [h3] at k3
      injection k3 with k3
      injection k3 with _ k4
      exact absurd k4 (by decide)
theorem EachS.keep {w w' : World} (hk : ∀ k, k < w.heap.size → w'.heap[k]? = w.heap[k]?) : ∀ {vs : List Value} {ls : List (List UInt8)}, EachS w vs ls → EachS w' vs ls
  | [], [], _ => trivial
  | _ :: vs, _ :: ls, h => by
    obtain ⟨⟨A, c, rfl, ho⟩, h2⟩ := h
    exact ⟨⟨A, c, rfl, ho.keep hk⟩, EachS.keep hk h2⟩
  | [], _ :: _, h => h.elim
  | _ :: _, [], h => h.elim
theorem EachS.at_ {w : World} : ∀ {vs : List Value} {ls : List (List UInt8)}, EachS w vs ls → ∀ (k : Nat) (hk : k < ls.length), ∃ A c, vs[k]? = some (.slice A ls[k].length c) ∧ Sl w A ls[k].length (bv ls[k])
  | [], [], _ => by intro k hk; simp at hk
  | v :: vs, l :: ls, h => by
    intro k hk
    obtain ⟨⟨A, c, rfl, ho⟩, h2⟩ := h
    cases k with
    | zero => exact ⟨A, c, rfl, ho⟩
    | succ k =>
      obtain ⟨A', c', h3, h4⟩ := EachS.at_ h2 k (by simpa using hk)
      exact ⟨A', c', by simpa using h3, by simpa using h4⟩
  | [], _ :: _, h => h.elim
  | _ :: _, [], h => h.elim

/-! ### frames one behind the other -/
theorem tk_le (l : List UInt8) : (tk l).2 ≤ l.length := by
  unfold tk
  split
  · simp
  · split <;> simp; omega
theorem tk_zero {l : List UInt8} (h : (tk l).2 = 0) : (tk l).1 = [] := by
  unfold tk at h ⊢
  split
  · rfl
  · rename_i h1
    rw [if_neg h1] at h
    split
    · rename_i h2
      rw [if_pos h2] at h
      simp only at h; omega
    · rfl
theorem tk_short (l : List UInt8) : (tk l).1.length ≤ l.length := by
  unfold tk
  split
  · simp
  · split
    · simp [List.length_take, List.length_drop]; omega
    · simp
def scan (l : List UInt8) : List (List UInt8) × Nat :=
  if h : (tk l).2 = 0 then ([], 0) else ((tk l).1 :: (scan (l.drop (tk l).2)).1, (tk l).2 + (scan (l.drop (tk l).2)).2)
termination_by l.length
decreasing_by all_goals (have := tk_le l; simp only [List.length_drop]; omega)
theorem scan_stop {l : List UInt8} (h : (tk l).2 = 0) : scan l = ([], 0) := by rw [scan, dif_pos h]
theorem scan_step {l : List UInt8} (h : ¬ (tk l).2 = 0) : scan l = ((tk l).1 :: (scan (l.drop (tk l).2)).1, (tk l).2 + (scan (l.drop (tk l).2)).2) := by rw [scan, dif_neg h]

/-- What Scan answers: a new list of new slices, and the place. -/
def ScanPost (w : World) (ls : List (List UInt8)) (n : Nat) (e : Ending) (w' : World) : Prop :=
  ∃ A c vs, e = .returned (.tuple #[.slice A ls.length c, .int .i64 n]) ∧ w'.ownsRow w.heap.size 36 1 (.slice A ls.length c) ls.length vs ∧ Each w' w.heap.size vs ls ∧ Below w.heap.size w w'

theorem Sl.tail {w : World} {A : Option Addr} {n c : Nat} {l : List UInt8} (h : Sl w A n (bv l)) {e : Nat} (he : e ≤ n) (hnc : n ≤ c) : Sl w (if c = e then A else A.map (·.add (e * 1))) (n - e) (bv (l.drop e)) := by
  have h1 := h.drop (k := e) he (if c = e then A else A.map (·.add (e * 1))) (fun hlt b o hA => by
    rw [if_neg (by omega), hA]
    simp [add_plain])
  rwa [drop_bv] at h1

theorem slice_two {A A' : Option Addr} {n n' c c' : Nat} {a a' : Int} (h1 : A = A') (h2 : n = n') (h3 : c = c') (h4 : a = a') : Ending.returned (.tuple #[.slice A n c, .int .i64 a]) = .returned (.tuple #[.slice A' n' c', .int .i64 a']) := by rw [h1, h2, h3, h4]

set_option maxRecDepth 20000 in
set_option maxHeartbeats 6400000 in
theorem scan_any (A : Option Addr) (n c : Nat) (l : List UInt8) (w : World) (hL : Laid w) (hs : Sl w A n (bv l)) (hn : n ≤ 5000000) (hnc : n ≤ c) :
    Calls Tryz.prog 61 #[.slice A n c] w (ScanPost w (scan l).1 (scan l).2) := by
  have hlen := hs.len
  have GL := Lib.hid hL
  clear hL
  go_enter Tryz.func61, Tryz.ntmps61
  go_wp2_with fail
  go_loopw [4, 5] (fun s4 s5 wr => ∃ (e : Nat) (ps : List (List UInt8)) (A2 : Option Addr) (c2 : Nat) (vs : List Value), e ≤ n ∧ ps.length ≤ e ∧ s5 = .int .i64 e ∧ s4 = .slice A2 ps.length c2 ∧ wr.ownsRow w.heap.size 36 1 (.slice A2 ps.length c2) ps.length vs ∧ Each wr w.heap.size vs ps ∧ Below w.heap.size w wr ∧
      (scan l).1 = ps ++ (scan (l.drop e)).1 ∧ (scan l).2 = e + (scan (l.drop e)).2) (fun _ s5 _ => n - (intOf s5).toNat)
  case atStart => exact ⟨0, [], none, 0, [], Nat.zero_le _, Nat.zero_le _, rfl, rfl, World.ownsRow_nil _ _ _ _, trivial, Below.refl _ _, by simp, by simp⟩
  case round =>
    obtain ⟨e, ps, A2, c2, vs, he, hpe, rfl, rfl, hown, heach, hbr, hsc1, hsc2⟩ := hrel
    have HS1 := Lib.hid hsc1
    have HS2 := Lib.hid hsc2
    have htl := tk_le (l.drop e)
    have hsh := tk_short (l.drop e)
    rw [List.length_drop, hlen] at htl hsh
    have hq0 : (tk (l.drop e)).2 = 0 → (tk (l.drop e)).1 = [] := tk_zero
    clear hsc1 hsc2
    by_cases hen : e < n
    · obtain ⟨b, o, rfl, -⟩ := hs.2 (by omega)
      have hce : ¬ c = e := by omega
      have hsl : Sl wr (some ⟨b, o + e, none⟩) (n - e) (bv (l.drop e)) := by
        have h := (hs.below hbr).drop (k := e) he (some ⟨b, o + e, none⟩) (fun _ b' o' h => by injection h with h; injection h with h1 h2; subst h1 h2; rfl)
        rwa [drop_bv] at h
      have hct := take_any (some ⟨b, o + e, none⟩) (n - e) (c - e) (l.drop e) wr (GL.out.keep hbr) hsl (by omega) (by omega)
      by_cases hz : (tk (l.drop e)).2 = 0
      · have HR := Lib.hid (show (scan l).1 = ps ∧ (scan l).2 = e by rw [HS1.out, HS2.out, scan_stop hz]; simp)
        have hq := hq0 hz
        rw [hz, hq] at hct
        have HC := Lib.hid hct
        clear hct hz hq hq0 hsh htl HS1 HS2
        go_wp2_with fail
        refine HC.out.mono ?_
        rintro e3 w3 ⟨A3, c3, rfl, hown3, hb3⟩
        simp only [if_true]
        go_wp2_with fail
        go_ret2
        rw [HR.out.1, HR.out.2]
        exact ⟨A2, c2, vs, rfl, own_keep hown hb3, heach.below hb3, hbr.trans (hb3.mono hbr.size)⟩
      · have HZ := Lib.hid hz
        have HST := Lib.hid (scan_step hz)
        have HC := Lib.hid hct
        generalize hqg : tk (l.drop e) = qm at HC HST htl hsh hz
        obtain ⟨q, m⟩ := qm
        simp only at htl hsh hz
        have hmI : ¬ ((m : Int) = 0) := by omega
        clear hct hq0 hqg HZ
        go_wp2_with fail
        refine HC.out.mono ?_
        rintro e3 w3 ⟨A3, c3, rfl, hown3, hb3⟩
        simp only [hz, if_false]
        have hbr3 := hbr.trans (hb3.mono hbr.size)
        have hown' := own_keep hown hb3
        have heach' := (heach.below hb3).snoc (own_mono hown3 hbr.size)
        go_wp2_with (at_builtin; refine wpList_app _ rfl (.tmp 21) (.tmp 23) 30 rfl w.heap.size rowsEl (by decide) _ _ _ rfl (hown'.alloc _) (some ⟨w3.heap.size, 0, none⟩) 1 1 [.slice A3 q.length c3] rfl (Sl.new _ _ _) (by intro u hu; simp at hu; subst hu; rfl) (by omega) (by have := hbr3.size; simp; omega) ?_; intro A4 c4 w4 hown4 hg4 hat4)
        have heach4 := (heach'.below ((Below.refl _ w3).alloc (Nat.le_refl _) _)).grown (hown'.alloc _) hg4
        have hb4 := (hbr3.alloc hbr3.size _).grown hg4 (by have := hbr3.size; simp; omega) (own_blk hown')
        clear hg4 hat4 heach' hown' hown heach hown3
        go_wp2
        go_roundw
        case rel =>
          refine ⟨e + m, ps ++ [q], A4, c4, vs ++ [.slice A3 q.length c3], by omega, by simp; omega, by go_num, by simp, by simpa using hown4, heach4, hb4, ?_, ?_⟩
          · rw [HS1.out, HST.out, List.drop_drop]; simp
          · rw [HS2.out, HST.out, List.drop_drop]; simp; omega
        case measure => simp [intOf]; omega
    · have hen2 : e = n := by omega
      have hdrop : l.drop e = [] := List.drop_of_length_le (by omega)
      have htk0 : tk (l.drop e) = ([], 0) := by rw [hdrop]; decide +kernel
      have HR := Lib.hid (show (scan l).1 = ps ∧ (scan l).2 = e by rw [HS1.out, HS2.out, scan_stop (by rw [htk0])]; simp)
      have HD := Lib.hid (htk0)
      clear htk0 hq0 hsh htl HS1 HS2
      have HDR := Lib.hid hdrop
      clear hdrop
      subst hen2
      go_wp2_with fail
      all_goals
        refine (take_any _ _ _ (l.drop e) wr (GL.out.keep hbr) (Sl.zero (by omega) HDR.out) (by omega) (by omega)).mono ?_
        rw [HD.out]
        rintro e3 w3 ⟨A3, c3, rfl, hown3, hb3⟩
        simp only [if_true]
        go_wp2_with fail
        go_ret2
        rw [HR.out.1, HR.out.2]
        exact ⟨A2, c2, vs, rfl, own_keep hown hb3, heach.below hb3, hbr.trans (hb3.mono hbr.size)⟩
end Go.Proofs.YtnbomifnbhijbaaGreatDoor
