/-
  Scan, once more: the slices that it answers lie apart.
-/
import Derived.Test.YtacpbcahmhnhbaaDoorFrameI
namespace Go.Proofs.YtacpbcahmhnhbaaDoor
open Go.RowKit Num Crc
set_option linter.unusedVariables false

def Apart (vs : List Value) : Prop := vs.Pairwise fun u v => ∀ k, u.ownBlock = some k → v.ownBlock ≠ some k
theorem Apart.snoc {vs : List Value} {v : Value} {m : Nat} (h : Apart vs) (h1 : ∀ u ∈ vs, ∀ k, u.ownBlock = some k → k < m) (h2 : ∀ k, v.ownBlock = some k → m ≤ k) : Apart (vs ++ [v]) := by
  refine List.pairwise_append.2 ⟨h, List.pairwise_singleton _ _, fun u hu x hx => ?_⟩
  simp at hx
  subst hx
  intro k hk e
  have := h1 u hu k hk
  have := h2 k e
  omega
theorem Each.lt {w : World} {B : Nat} : ∀ {vs : List Value} {ls : List (List UInt8)}, Each w B vs ls → ∀ u ∈ vs, ∀ k, u.ownBlock = some k → B ≤ k ∧ k < w.heap.size
  | [], [], _, u, hu => by simp at hu
  | v :: vs, l :: ls, h, u, hu => by
    obtain ⟨⟨A, c, rfl, ho⟩, h2⟩ := h
    rcases List.mem_cons.1 hu with rfl | hu
    · exact ho.lt
    · exact Each.lt h2 u hu
  | [], _ :: _, h, _, _ => h.elim
  | _ :: _, [], h, _, _ => h.elim
def ScanPost2 (w : World) (ls : List (List UInt8)) (n : Nat) (e : Ending) (w' : World) : Prop :=
  ∃ A c vs, e = .returned (.tuple #[.slice A ls.length c, .int .i64 n]) ∧ w'.ownsRow w.heap.size 23 1 (.slice A ls.length c) ls.length vs ∧ Each w' w.heap.size vs ls ∧ Apart vs ∧ Below w.heap.size w w'

set_option maxRecDepth 20000 in
set_option maxHeartbeats 6400000 in
theorem scan_apart (A : Option Addr) (n c : Nat) (l : List UInt8) (w : World) (hL : Laid w) (hs : Sl w A n (bv l)) (hn : n ≤ 5000000) (hnc : n ≤ c) :
    Calls Tryd.prog 27 #[.slice A n c] w (ScanPost2 w (scan l).1 (scan l).2) := by
  have hlen := hs.len
  have GL := Lib.hid hL
  clear hL
  go_enter Tryd.func27, Tryd.ntmps27
  go_wp2_with fail
  go_loopw [4, 5] (fun s4 s5 wr => ∃ (e : Nat) (ps : List (List UInt8)) (A2 : Option Addr) (c2 : Nat) (vs : List Value), e ≤ n ∧ ps.length ≤ e ∧ s5 = .int .i64 e ∧ s4 = .slice A2 ps.length c2 ∧ wr.ownsRow w.heap.size 23 1 (.slice A2 ps.length c2) ps.length vs ∧ Each wr w.heap.size vs ps ∧ Apart vs ∧ Below w.heap.size w wr ∧
      (scan l).1 = ps ++ (scan (l.drop e)).1 ∧ (scan l).2 = e + (scan (l.drop e)).2) (fun _ s5 _ => n - (intOf s5).toNat)
  case atStart => exact ⟨0, [], none, 0, [], Nat.zero_le _, Nat.zero_le _, rfl, rfl, World.ownsRow_nil _ _ _ _, trivial, List.Pairwise.nil, Below.refl _ _, by simp, by simp⟩
  case round =>
    obtain ⟨e, ps, A2, c2, vs, he, hpe, rfl, rfl, hown, heach, hap, hbr, hsc1, hsc2⟩ := hrel
    have HS1 := Lib.hid hsc1
    have HS2 := Lib.hid hsc2
    have htl := tk_le (l.drop e)
    have hsh := tk_short (l.drop e)
    rw [List.length_drop, hlen] at htl hsh
    have hq0 : (tk (l.drop e)).2 = 0 → (tk (l.drop e)).1 = [] := tk_zero
    clear hsc1 hsc2
    by_cases hen : e < n
    · obtain ⟨b, o, rfl, -⟩ := hs.2 (by omega)
      have hce : ¬ c = e := by omega
      have hsl : Sl wr (some ⟨b, o + e, none⟩) (n - e) (bv (l.drop e)) := by
        have h := (hs.below hbr).drop (k := e) he (some ⟨b, o + e, none⟩) (fun _ b' o' h => by injection h with h; injection h with h1 h2; subst h1 h2; rfl)
        rwa [drop_bv] at h
      have hct := take_any (some ⟨b, o + e, none⟩) (n - e) (c - e) (l.drop e) wr (GL.out.keep hbr) hsl (by omega) (by omega)
      by_cases hz : (tk (l.drop e)).2 = 0
      · have HR := Lib.hid (show (scan l).1 = ps ∧ (scan l).2 = e by rw [HS1.out, HS2.out, scan_stop hz]; simp)
        have hq := hq0 hz
        rw [hz, hq] at hct
        have HC := Lib.hid hct
        clear hct hz hq hq0 hsh htl HS1 HS2
        go_wp2_with fail
        refine HC.out.mono ?_
        rintro e3 w3 ⟨A3, c3, rfl, hown3, hb3⟩
        simp only [if_true]
        go_wp2_with fail
        go_ret2
        rw [HR.out.1, HR.out.2]
        exact ⟨A2, c2, vs, rfl, own_keep hown hb3, heach.below hb3, hap, hbr.trans (hb3.mono hbr.size)⟩
      · have HZ := Lib.hid hz
        have HST := Lib.hid (scan_step hz)
        have HC := Lib.hid hct
        generalize hqg : tk (l.drop e) = qm at HC HST htl hsh hz
        obtain ⟨q, m⟩ := qm
        simp only at htl hsh hz
        have hmI : ¬ ((m : Int) = 0) := by omega
        clear hct hq0 hqg HZ
        go_wp2_with fail
        refine HC.out.mono ?_
        rintro e3 w3 ⟨A3, c3, rfl, hown3, hb3⟩
        simp only [hz, if_false]
        have hbr3 := hbr.trans (hb3.mono hbr.size)
        have hap' := hap.snoc (v := .slice A3 q.length c3) (fun u hu k hk => (heach.lt u hu k hk).2) (own_blk hown3)
        clear hap
        have hown' := own_keep hown hb3
        have heach' := (heach.below hb3).snoc (own_mono hown3 hbr.size)
        go_wp2_with (at_builtin; refine wpList_app _ rfl (.tmp 21) (.tmp 23) 45 rfl w.heap.size rowsEl (by decide) _ _ _ rfl (hown'.alloc _) (some ⟨w3.heap.size, 0, none⟩) 1 1 [.slice A3 q.length c3] rfl (Sl.new _ _ _) (by intro u hu; simp at hu; subst hu; rfl) (by omega) (by have := hbr3.size; simp; omega) ?_; intro A4 c4 w4 hown4 hg4 hat4)
        have heach4 := (heach'.below ((Below.refl _ w3).alloc (Nat.le_refl _) _)).grown (hown'.alloc _) hg4
        have hb4 := (hbr3.alloc hbr3.size _).grown hg4 (by have := hbr3.size; simp; omega) (own_blk hown')
        clear hg4 hat4 heach' hown' hown heach hown3
        go_wp2
        go_roundw
        case rel =>
          refine ⟨e + m, ps ++ [q], A4, c4, vs ++ [.slice A3 q.length c3], by omega, by simp; omega, by go_num, by simp, by simpa using hown4, heach4, hap', hb4, ?_, ?_⟩
          · rw [HS1.out, HST.out, List.drop_drop]; simp
          · rw [HS2.out, HST.out, List.drop_drop]; simp; omega
        case measure => simp [intOf]; omega
    · have hen2 : e = n := by omega
      have hdrop : l.drop e = [] := List.drop_of_length_le (by omega)
      have htk0 : tk (l.drop e) = ([], 0) := by rw [hdrop]; decide +kernel
      have HR := Lib.hid (show (scan l).1 = ps ∧ (scan l).2 = e by rw [HS1.out, HS2.out, scan_stop (by rw [htk0])]; simp)
      have HD := Lib.hid (htk0)
      clear htk0 hq0 hsh htl HS1 HS2
      have HDR := Lib.hid hdrop
      clear hdrop
      subst hen2
      go_wp2_with fail
      all_goals
        refine (take_any _ _ _ (l.drop e) wr (GL.out.keep hbr) (Sl.zero (by omega) HDR.out) (by omega) (by omega)).mono ?_
        rw [HD.out]
        rintro e3 w3 ⟨A3, c3, rfl, hown3, hb3⟩
        simp only [if_true]
        go_wp2_with fail
        go_ret2
        rw [HR.out.1, HR.out.2]
        exact ⟨A2, c2, vs, rfl, own_keep hown hb3, heach.below hb3, hap, hbr.trans (hb3.mono hbr.size)⟩
end Go.Proofs.YtacpbcahmhnhbaaDoor
