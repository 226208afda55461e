/-
  The names of segments: fileName and number.
-/
import Derived.Test.YtnbomifnbhijbaaGreatDoorWaN
import Derived.Test.YtnbomifnbhijbaaGreatDoorLay
import Derived.Test.YtnbomifnbhijbaaGreatDoorFrameI
import Derived.Test.YtnbomifnbhijbaaGreatDoorDrH
import Derived.Lib.AtoiAllCases
import Derived.Lib.AtoiErrMem
namespace Go.Proofs.YtnbomifnbhijbaaGreatDoor
open Go.RowKit Go.Maps
set_option linter.unusedVariables false

theorem var_below {w w' : World} {name : String} {cs : Array Value} (h : w.var? Tryz.prog name = some cs) (hb : Below w.heap.size w w') : w'.var? Tryz.prog name = some cs := by
  unfold World.var? at h ⊢
  cases hg : Tryz.prog.globalNamed name with
  | none => rw [hg] at h; cases h
  | some g =>
    rw [hg] at h
    simp only [Option.bind_some] at h ⊢
    cases ho : w.heap[g]? with
    | none => rw [ho] at h; cases h
    | some o =>
      have hlt : g < w.heap.size := (Array.getElem?_eq_some_iff.1 ho).1
      rw [hb.block g hlt, ho]
      rw [ho] at h
      exact h
/-- What the program's text lays, as far as the log needs it. -/
structure WL (w : World) : Prop where
  sums : Laid w
  pow : Lib.TabIs Tryz.prog w "internal/strconv.uint64pow10" .u64 Lib.pow10Tab
  syn : ∃ tp p, w.var? Tryz.prog "strconv.ErrSyntax" = some #[.iface tp p]
  rng : ∃ tp p, w.var? Tryz.prog "strconv.ErrRange" = some #[.iface tp p]
theorem WL.keep {w w' : World} (h : WL w) (hb : Below w.heap.size w w') : WL w' := by
  obtain ⟨t1, p1, h1⟩ := h.syn
  obtain ⟨t2, p2, h2⟩ := h.rng
  exact ⟨h.sums.keep hb, var_below h.pow hb, ⟨t1, p1, var_below h1 hb⟩, ⟨t2, p2, var_below h2 hb⟩⟩

def fname (n : Int) : List UInt8 := if 1 ≤ n ∧ n ≤ 999999 then wname n.toNat else []
theorem below_grow (w : World) (k : Nat) (os : Array Obj) : Below w.heap.size w (Go.Sort.grow (w.drewN k) os) := by
  refine ⟨rfl, rfl, rfl, by simp [Go.Sort.grow], fun i hi => ?_⟩
  exact Go.Sort.heap_grow_old _ _ hi
theorem str_cat (a b : List UInt8) : str a ++ str b = str (a ++ b) := by
  apply ByteArray.ext
  simp [str]
theorem name_bytes (k : Nat) : (⟨#[119, 97, 108, 45]⟩ : ByteArray) ++ (⟨(49 :: six k).toArray⟩ : ByteArray).extract 1 ((six k).length + 1) = str (wname k) := by
  have h1 : (⟨(49 :: six k).toArray⟩ : ByteArray).extract 1 ((six k).length + 1) = str (six k) := by
    rw [str_of ((⟨(49 :: six k).toArray⟩ : ByteArray).extract 1 ((six k).length + 1)), Lib.extract_data]
    congr 1
  rw [h1, show (⟨#[119, 97, 108, 45]⟩ : ByteArray) = str [119, 97, 108, 45] from rfl, str_cat]
  rfl
set_option maxHeartbeats 1000000 in
theorem fileName_any (n : Int) (hn : -9223372036854775808 ≤ n ∧ n ≤ 9223372036854775807) (w : World) (hW : WL w) :
    Calls Tryz.prog 53 #[.int .i64 n] w fun e w' => e = .returned (.string (str (fname n))) ∧ Below w.heap.size w w' := by
  have HW := Lib.hid hW
  clear hW
  by_cases h1 : n < 1
  · have he : fname n = [] := by unfold fname; rw [if_neg (by omega)]
    rw [he]
    clear he
    go_enter Tryz.func53, Tryz.ntmps53
    go_wp2_with fail
    go_ret
    exact ⟨rfl, Below.refl _ _⟩
  · by_cases h2 : 999999 < n
    · have he : fname n = [] := by unfold fname; rw [if_neg (by omega)]
      rw [he]
      clear he
      go_enter Tryz.func53, Tryz.ntmps53
      go_wp2_with fail
      go_ret
      exact ⟨rfl, Below.refl _ _⟩
    · obtain ⟨k, rfl⟩ : ∃ k : Nat, n = k := ⟨n.toNat, by omega⟩
      have he : fname (k : Int) = wname k := by unfold fname; rw [if_pos (by omega)]; rfl
      rw [he]
      have hit := itoa_call ((1000000 : Int) + k) (by omega) (by omega) w HW.out.pow
      rw [show Lib.itoa ((1000000 : Int) + k) = 49 :: six k from by rw [← itoa_six (n := k) (by omega)]; congr 1] at hit
      clear he
      go_enter Tryz.func53, Tryz.ntmps53
      go_wp2_with fail
      refine hit.mono ?_
      rintro e w1 ⟨rfl, q, os, rfl⟩
      have hb := below_grow w q os
      generalize Go.Sort.grow (w.drewN q) os = w1 at hb ⊢
      go_wp2_with fail
      go_ret
      refine ⟨?_, hb⟩
      rw [← name_bytes]
      rfl

/-- What Atoi answers. -/
def atoiI (s : List UInt8) : Int := match Lib.atoiAll s with
  | .ok v => v
  | .range => Lib.atoiSat s
  | _ => 0
/-- The number that a name has as a segment's; none is 0. -/
def numI (s : List UInt8) : Int := if fname (atoiI (Lib.trimPrefix s [119, 97, 108, 45])) = s then atoiI (Lib.trimPrefix s [119, 97, 108, 45]) else 0
theorem numI_name {k : Nat} (h1 : 1 ≤ k) (h2 : k ≤ 999999) : numI (wname k) = k := by
  unfold numI
  have he : atoiI (Lib.trimPrefix (wname k) [119, 97, 108, 45]) = k := by
    unfold atoiI
    rw [trim_wname, atoi_six (by omega)]
  rw [he]
  have : fname (k : Int) = wname k := by unfold fname; rw [if_pos (by omega)]; rfl
  rw [if_pos this]
/-- A number above 0 says what the name is. -/
theorem numI_pos {s : List UInt8} (h : 0 < numI s) : numI s ≤ 999999 ∧ s = wname (numI s).toNat := by
  unfold numI at h ⊢
  split at h
  · rename_i he
    rw [if_pos he]
    generalize hn : atoiI (Lib.trimPrefix s [119, 97, 108, 45]) = n at he h ⊢
    unfold fname at he
    split at he
    · exact ⟨by omega, he.symm⟩
    · subst he
      have : atoiI (Lib.trimPrefix [] [119, 97, 108, 45]) = 0 := by decide
      omega
  · omega
theorem numI_none {s : List UInt8} (h : ∀ k : Nat, 1 ≤ k → k ≤ 999999 → s ≠ wname k) (hs : s ≠ []) (n : Int) : fname n ≠ s := by
  unfold fname
  split
  · intro e
    exact h n.toNat (by omega) (by omega) e.symm
  · exact fun e => hs e.symm
theorem atoi_any (s : List UInt8) (hs : s.length ≤ 281474976710656) (w : World) (hW : WL w) :
    Calls Tryz.prog 85 #[.string (str s)] w fun e w' => ∃ v, e = .returned (.tuple #[.int .i64 (atoiI s), v]) ∧ Below w.heap.size w w' := by
  have hsz : (str s).size = s.length := str_size s
  have hd : (str s).data.toList = s := str_data s
  by_cases hn : noNum (Lib.atoiAll s) = true
  · obtain ⟨tp, p, hv⟩ := hW.syn
    have h0 : atoiI s = 0 := by
      unfold atoiI
      cases ha : Lib.atoiAll s with
      | ok u => rw [ha] at hn; simp [noNum] at hn
      | range => rw [ha] at hn; simp [noNum] at hn
      | _ => rfl
    rw [h0]
    refine (atoi_none (str s) (by omega) (by rw [hd]; exact hn) tp p w hv).mono ?_
    rintro e w' ⟨v, rfl, hb⟩
    exact ⟨v, rfl, hb⟩
  · unfold atoiI
    cases ha : Lib.atoiAll s with
    | ok u =>
      refine (atoi_ok (str s) (by omega) u (by rw [hd]; exact ha) w).mono ?_
      rintro e w' ⟨rfl, hw⟩
      refine ⟨_, rfl, ?_⟩
      rcases hw with rfl | ⟨t, rfl⟩
      · exact Below.refl _ _
      · exact Lib.bytesWorld_below _ _ _
    | range =>
      obtain ⟨tp, p, hv⟩ := hW.rng
      refine (atoi_range (str s) (by omega) (by rw [hd]; exact ha) tp p w hv).mono ?_
      rintro e w' ⟨v, rfl, hb⟩
      rw [hd]
      exact ⟨v, rfl, hb⟩
    | _ => exact absurd (by rw [ha]; rfl) hn
theorem atoiI_bounds (s : List UInt8) : -9223372036854775808 ≤ atoiI s ∧ atoiI s ≤ 9223372036854775807 := by
  unfold atoiI
  split
  · rename_i h; exact Lib.atoiAll_bounds h
  · unfold Lib.atoiSat
    split <;> omega
  · omega
theorem trim_len (s p : List UInt8) : (Lib.trimPrefix s p).length ≤ s.length := by
  unfold Lib.trimPrefix
  split
  · simp
  · exact Nat.le_refl _
set_option maxHeartbeats 1000000 in
theorem number_any (s : List UInt8) (hs : s.length ≤ 281474976710656) (w : World) (hW : WL w) :
    Calls Tryz.prog 60 #[.string (str s)] w fun e w' => e = .returned (.int .i64 (numI s)) ∧ Below w.heap.size w w' := by
  have htr := trim_call (str s) ⟨#[119, 97, 108, 45]⟩ w
  rw [str_data] at htr
  have hat := atoi_any (Lib.trimPrefix s [119, 97, 108, 45]) (by have := trim_len s [119, 97, 108, 45]; omega) w hW
  have hnb := atoiI_bounds (Lib.trimPrefix s [119, 97, 108, 45])
  have he : numI s = if fname (atoiI (Lib.trimPrefix s [119, 97, 108, 45])) = s then atoiI (Lib.trimPrefix s [119, 97, 108, 45]) else 0 := rfl
  rw [he]
  clear he
  change Calls _ _ _ _ fun e w' => e = .returned (.string (str (Lib.trimPrefix s [119, 97, 108, 45]))) ∧ w' = w at htr
  generalize Lib.trimPrefix s [119, 97, 108, 45] = t at htr hat hnb ⊢
  generalize atoiI t = n at hat hnb ⊢
  have hfn := fun (w' : World) (hW' : WL w') => fileName_any n hnb w' hW'
  have HF := Lib.hid hfn
  have HW := Lib.hid hW
  clear hW hfn hs
  by_cases he : fname n = s
  · rw [if_pos he]
    go_enter Tryz.func60, Tryz.ntmps60
    go_wp2_with (first
      | (go_at_call 86; refine htr.mono ?_; rintro e w' ⟨rfl, rfl⟩)
      | (go_at_call 85; refine hat.mono ?_; rintro e w1 ⟨v, rfl, hb⟩))
    refine (HF.out w1 (HW.out.keep hb)).mono ?_
    rintro e w2 ⟨rfl, hb2⟩
    have hbb := hb.trans (hb2.mono hb.size)
    rw [he]
    go_wp2_with fail
    go_ret
    exact ⟨rfl, hbb⟩
  · rw [if_neg he]
    go_enter Tryz.func60, Tryz.ntmps60
    go_wp2_with (first
      | (go_at_call 86; refine htr.mono ?_; rintro e w' ⟨rfl, rfl⟩)
      | (go_at_call 85; refine hat.mono ?_; rintro e w1 ⟨v, rfl, hb⟩))
    refine (HF.out w1 (HW.out.keep hb)).mono ?_
    rintro e w2 ⟨rfl, hb2⟩
    have hbb := hb.trans (hb2.mono hb.size)
    have htl : ∀ l, (str l).toList = l := fun l => ByteArray.toList_mk l
    go_wp2_with fail
    · go_ret
      exact ⟨rfl, hbb⟩
    · rename_i h
      exfalso
      simp at h
      exact he h
end Go.Proofs.YtnbomifnbhijbaaGreatDoor
