/-
  May there be a drive with these files: checkFiles.
-/
import Derived.Test.YtadkgfhfjagmpaaGreatDoorTwi
import Derived.Test.YtadkgfhfjagmpaaGreatDoorGDr
import Derived.Test.YtadkgfhfjagmpaaGreatDoorGDa
namespace Go.Proofs.YtadkgfhfjagmpaaGreatDoor
open Go.RowKit Go.Maps
set_option linter.unusedVariables false

def long (l : List UInt8) : Bool := decide (262144 < l.length)
/-- What Load answers. -/
def loadE (ns : List (List UInt8)) (bs : List (List UInt8)) : Int :=
  if ns.length ≠ bs.length then 1 else if ns.all vname = false then 20 else if ¬ ns.Nodup then 2 else if 256 < ns.length ∨ bs.any long = true then 5 else 0

theorem all_snoc {α : Type} {p : α → Bool} {l : List α} {k : Nat} {x : α} (hx : l[k]? = some x) : (l.take (k + 1)).all p = ((l.take k).all p && p x) := by
  rw [List.take_add_one, hx]; simp
theorem any_snoc {α : Type} {p : α → Bool} {l : List α} {k : Nat} {x : α} (hx : l[k]? = some x) : (l.take (k + 1)).any p = ((l.take k).any p || p x) := by
  rw [List.take_add_one, hx]; simp

set_option maxHeartbeats 2000000 in
theorem allValid_any (A : Option Addr) (n c : Nat) (ns : List (List UInt8)) (w : World) (hs : Sl w A n (ns.map sv)) (hn9 : n ≤ 1000000) :
    Calls Tryz.prog 100 #[.slice A n c] w fun e w' => e = .returned (.bool (ns.all vname)) ∧ w' = w := by
  have hl : ns.length = n := by have := hs.1; simpa using this
  have HS := Lib.hid (And.intro hs hl)
  clear hs hl
  go_enter Tryz.func100, Tryz.ntmps100
  go_wp2_with fail
  go_loopw [7] (fun j wr => ∃ k : Nat, k ≤ n ∧ j = .int .i64 k ∧ (ns.take k).all vname = true ∧ wr = w) (fun j _ => n - (intOf j).toNat)
  case atStart => exact ⟨0, Nat.zero_le _, rfl, rfl, rfl⟩
  case round =>
    obtain ⟨k, hk, rfl, hall, rfl⟩ := hrel
    by_cases hin : k < n
    · have hcN : (k : Int) < n := by omega
      have hk0 : (0 : Int) ≤ k := by omega
      obtain ⟨b, o, u, rfl, hu, x0⟩ := HS.out.1.at_ hin
      obtain ⟨s, hs⟩ : ∃ s, ns[k]? = some s := ⟨_, List.getElem?_eq_getElem (by have := HS.out.2; omega)⟩
      rw [List.getElem?_map, hs] at hu
      have hu := (Option.some.inj hu).symm
      subst hu
      have hv := vname_any s wr
      have hx := all_snoc (p := vname) hs
      rw [hall, Bool.true_and] at hx
      have HX := Lib.hid (And.intro hx hs)
      clear hs hx hall
      cases hvs : vname s with
      | true =>
        rw [hvs] at hv
        have HV := Lib.hid hvs
        clear hvs
        go_wp2_with (go_at_call 117; refine hv.mono ?_; rintro e w' ⟨rfl, rfl⟩)
        exact ⟨⟨k + 1, by omega, by go_num, by rw [HX.out.1]; exact HV.out, trivial⟩, by simp [intOf]; omega⟩
      | false =>
        rw [hvs] at hv
        have HV := Lib.hid hvs
        clear hvs
        go_wp2_with (go_at_call 117; refine hv.mono ?_; rintro e w' ⟨rfl, rfl⟩)
        go_ret
        have : ns.all vname = false := by
          rw [List.all_eq_false]
          exact ⟨s, List.mem_of_getElem? HX.out.2, by rw [HV.out]; decide⟩
        exact ⟨by rw [this]; rfl, rfl⟩
    · have hcN : ¬ (k : Int) < n := by omega
      rw [List.take_of_length_le (by have := HS.out.2; omega)] at hall
      have HA := Lib.hid hall
      clear hall
      go_wp2_with fail
      go_ret
      exact ⟨by rw [HA.out]; rfl, rfl⟩
theorem tooLong_any (A : Option Addr) (c : Nat) (l : List UInt8) (hl9 : l.length ≤ 140737488355328) (w : World) : Calls Tryz.prog 103 #[.slice A l.length c] w fun e w' => e = .returned (.bool (long l)) ∧ w' = w := by
  go_enter Tryz.func103, Tryz.ntmps103
  go_wp2_with fail
  go_ret
  refine ⟨?_, rfl⟩
  unfold long
  by_cases h : 262144 < l.length
  · simp [h]; omega
  · simp [h]; omega
def IdxP (bs : List (List UInt8)) (n : Nat) (e : Ending) : Prop := if bs.any long = true then ∃ k : Nat, k ≤ n ∧ e = .returned (.int .i64 k) else e = .returned (.int .i64 (-1))
set_option maxHeartbeats 2000000 in
theorem index_any (A : Option Addr) (n c : Nat) (bs : List (List UInt8)) (w : World) (hs : Br w A n bs) (hn9 : n ≤ 1000000) (hb9 : ∀ l ∈ bs, l.length ≤ 140737488355328) :
    Calls Tryz.prog 155 #[.slice A n c, .func (.func 103) #[] #[]] w fun e w' => IdxP bs n e ∧ w' = w := by
  have HS := Lib.hid hs
  have H9 := Lib.hid hb9
  clear hs hb9
  go_enter Tryz.func155, Tryz.ntmps155
  go_wp2_with fail
  go_loopw [8] (fun j wr => ∃ k : Nat, k ≤ n ∧ j = .int .i64 k ∧ (bs.take k).any long = false ∧ wr = w) (fun j _ => n - (intOf j).toNat)
  case atStart => exact ⟨0, Nat.zero_le _, rfl, rfl, rfl⟩
  case round =>
    obtain ⟨k, hk, rfl, hany, rfl⟩ := hrel
    by_cases hin : k < n
    · have hcN : (k : Int) < n := by omega
      have hk0 : (0 : Int) ≤ k := by omega
      obtain ⟨b, o, K, l, cl, rfl, hl, x0, hsl, hlc⟩ := HS.out.at_ hin
      have hv := tooLong_any K cl l (H9.out l (List.mem_of_getElem? hl)) wr
      have hx := any_snoc (p := long) hl
      rw [hany, Bool.false_or] at hx
      have HX := Lib.hid (And.intro hx hl)
      clear hl hx hany hsl
      cases hvs : long l with
      | false =>
        rw [hvs] at hv
        have HV := Lib.hid hvs
        clear hvs
        go_wp2_with (go_at_call 103; refine hv.mono ?_; rintro e w' ⟨rfl, rfl⟩)
        exact ⟨⟨k + 1, by omega, by go_num, by rw [HX.out.1]; exact HV.out, trivial⟩, by simp [intOf]; omega⟩
      | true =>
        rw [hvs] at hv
        have HV := Lib.hid hvs
        clear hvs
        go_wp2_with (go_at_call 103; refine hv.mono ?_; rintro e w' ⟨rfl, rfl⟩)
        go_ret
        have : bs.any long = true := List.any_eq_true.2 ⟨l, List.mem_of_getElem? HX.out.2, HV.out⟩
        refine ⟨?_, rfl⟩
        unfold IdxP
        rw [if_pos this]
        exact ⟨k, hk, rfl⟩
    · have hcN : ¬ (k : Int) < n := by omega
      rw [List.take_of_length_le (by have := HS.out.1; omega)] at hany
      have HA := Lib.hid hany
      clear hany
      go_wp2_with fail
      go_ret
      refine ⟨?_, rfl⟩
      unfold IdxP
      rw [HA.out]
      rfl
theorem contains_any (A : Option Addr) (n c : Nat) (bs : List (List UInt8)) (w : World) (hs : Br w A n bs) (hn9 : n ≤ 1000000) (hb9 : ∀ l ∈ bs, l.length ≤ 140737488355328) :
    Calls Tryz.prog 102 #[.slice A n c, .func (.func 103) #[] #[]] w fun e w' => e = .returned (.bool (bs.any long)) ∧ w' = w := by
  have hi := index_any A n c bs w hs hn9 hb9
  unfold IdxP at hi
  clear hs
  cases ha : bs.any long with
  | true =>
    rw [ha] at hi
    simp only [if_true] at hi
    clear ha
    go_enter Tryz.func102, Tryz.ntmps102
    go_wp2_with fail
    refine hi.mono ?_
    rintro e w' ⟨⟨k, hk, rfl⟩, rfl⟩
    have hk0 : (0 : Int) ≤ k := by omega
    clear hi
    go_wp2_with fail
    go_ret
    exact ⟨rfl, rfl⟩
  | false =>
    rw [ha] at hi
    simp only [Bool.false_eq_true, if_false] at hi
    clear ha
    go_enter Tryz.func102, Tryz.ntmps102
    go_wp2_with fail
    refine hi.mono ?_
    rintro e w' ⟨rfl, rfl⟩
    clear hi
    go_wp2_with fail
    go_ret
    exact ⟨rfl, rfl⟩
end Go.Proofs.YtadkgfhfjagmpaaGreatDoor
