/-
  A number's digits, and a name that no file has.
-/
import Derived.Test.YtfhlhdpgahbeiaaReE
namespace Go.Proofs.Ytfhlhdpgahbeiaa
open Go.RowKit Go.Maps
set_option linter.unusedVariables false

def dgo : Nat → Nat → List UInt8 → List UInt8
  | 0, _, acc => acc
  | f + 1, n, acc => if n = 0 then acc else dgo f (n / 10) (UInt8.ofNat (48 + n % 10) :: acc)
def dig (n : Nat) : List UInt8 := if n = 0 then [48] else dgo 4 n []
def qn (n : Nat) : List UInt8 := 113 :: dig n
def dval (l : List UInt8) : Nat := l.foldl (fun a c => a * 10 + (c.toNat - 48)) 0
theorem dig_val : ∀ i, i < 257 → dval (dig i) = i := by decide +kernel
theorem qn_ok : ∀ i, i < 257 → vname (qn i) = true := by decide +kernel
theorem qn_inj {i j : Nat} (hi : i < 257) (hj : j < 257) (h : qn i = qn j) : i = j := by
  unfold qn at h
  injection h with _ h
  rw [← dig_val i hi, ← dig_val j hj, h]
theorem dgo_zero (f : Nat) (acc : List UInt8) : dgo f 0 acc = acc := by cases f <;> rfl

set_option maxRecDepth 40000 in
set_option maxHeartbeats 4000000 in
theorem dig_any (n : Nat) (hn : n < 257) (w : World) : Calls Try.prog 57 #[.int .i64 n] w fun e w' => e = .returned (.string (str (dig n))) ∧ Below w.heap.size w w' := by
  have hcat := str_app
  by_cases h0 : n = 0
  · subst h0
    go_enter Try.func57, Try.ntmps57
    go_wp2_with fail
    go_ret
    exact ⟨rfl, Below.refl _ _⟩
  · have hn0 : ¬ (n : Int) = 0 := by omega
    have hdg : dig n = dgo 4 n [] := by simp [dig, h0]
    rw [hdg]
    clear hdg h0
    obtain ⟨D, hD⟩ : ∃ D, D = dgo 4 n [] := ⟨_, rfl⟩
    rw [← hD]
    have HD := Lib.hid hD
    clear hD
    go_enter Try.func57, Try.ntmps57
    go_wp2_with fail
    go_loopw [3, 4] (fun s j wr => ∃ (f m : Nat) (acc : List UInt8), m < 10 ^ f ∧ m ≤ n ∧ j = .int .i64 m ∧ s = .string (str acc) ∧ dgo f m acc = D ∧ acc.length + f ≤ 4 ∧ Below w.heap.size w wr) (fun _ j _ => (intOf j).toNat)
    case atStart => exact ⟨4, n, [], by omega, Nat.le_refl _, rfl, rfl, HD.out.symm, by simp, Below.refl _ _⟩
    case round =>
      obtain ⟨f, m, acc, hf, hm, rfl, rfl, hdg, hal, hb⟩ := hrel
      have HF := Lib.hid hf
      have HG := Lib.hid hdg
      clear hf hdg
      by_cases hm0 : (m : Int) = 0
      · obtain rfl : m = 0 := by omega
        have hacc := HG.out
        rw [dgo_zero] at hacc
        subst hacc
        have hmn : ¬ (n : Int) < 0 := by omega
        go_wp2_with fail
        go_ret
        exact ⟨rfl, hb⟩
      · have hmn : ¬ (n : Int) < 0 := by omega
        have hm1 : (m : Int) ≤ 256 := by omega
        have hm2 : (0 : Int) < m := by omega
        have hsz : ∀ l, (str l).size = l.length := str_size
        have hcs : (convert 33 9 (.slice (some ⟨wr.heap.size, 0, none⟩) 1 1)).run Try.prog (wr.alloc (.cells #[.int .u8 (48 + (m : Int) % 10)] 5)) = .ok (.string (str [UInt8.ofNat (48 + m % 10)])) (wr.alloc (.cells #[.int .u8 (48 + (m : Int) % 10)] 5)) := by
          have h1 : (UInt8.ofNat (48 + m % 10)).toNat = 48 + m % 10 := by rw [UInt8.toNat_ofNat']; omega
          have e : bv [UInt8.ofNat (48 + m % 10)] = [.int .u8 (48 + (m : Int) % 10)] := by
            simp only [bv, List.map_cons, List.map_nil, h1]
            simp
          have h := Sl.new wr (.int .u8 (48 + (m : Int) % 10)) 5
          have h3 := run_str (P := Try.prog) (c := 1) (l := [UInt8.ofNat (48 + m % 10)]) (by rw [e]; exact h) 33 5 9 Try.underlying33 Try.underlying5 Try.underlying9
          exact h3
        have hf1 : ∃ f', f = f' + 1 := by
          cases f with
          | zero => have := HF.out; simp at this; omega
          | succ f' => exact ⟨f', rfl⟩
        obtain ⟨f', rfl⟩ := hf1
        have hlt : m / 10 < 10 ^ f' := by
          have := HF.out
          rw [Nat.pow_succ] at this
          exact Nat.div_lt_of_lt_mul (by omega)
        have hgo : dgo f' (m / 10) ([UInt8.ofNat (48 + m % 10)] ++ acc) = D := by
          have := HG.out
          rw [dgo, if_neg (by omega)] at this
          exact this
        have HLT := Lib.hid hlt
        have HGO := Lib.hid hgo
        clear hlt hgo
        obtain ⟨bt, hbt⟩ : ∃ bt, bt = UInt8.ofNat (48 + m % 10) := ⟨_, rfl⟩
        have hgo2 := HGO.out
        rw [← hbt] at hcs hgo2
        have HGO2 := Lib.hid hgo2
        clear hbt hgo2
        have hq : (m : Int) / 10 = ((m / 10 : Nat) : Int) := by omega
        have hac : (acc.length : Int) ≤ 4 := by omega
        have HQQ := Lib.hid hq
        clear hq
        go_wp2_with fail
        exact ⟨⟨f', m / 10, _, HLT.out, by omega, by rw [← HQQ.out], rfl, HGO2.out, by simp only [List.length_cons]; omega, hb.alloc hb.size _⟩, by simp only [intOf]; omega⟩

theorem sub_len {α : Type} [DecidableEq α] : ∀ {l m : List α}, l.Nodup → (∀ x ∈ l, x ∈ m) → l.length ≤ m.length
  | [], _, _, _ => Nat.zero_le _
  | a :: r, m, hn, hs => by
    obtain ⟨h1, h2⟩ := List.nodup_cons.1 hn
    have ha := hs a (by simp)
    have := sub_len (l := r) (m := m.erase a) h2 fun x hx => by
      have hne : x ≠ a := fun e => h1 (e ▸ hx)
      exact (List.mem_erase_of_ne hne).2 (hs x (by simp [hx]))
    rw [List.length_erase_of_mem ha] at this
    have hp : 0 < m.length := List.length_pos_of_mem ha
    simp only [List.length_cons]; omega
/-- So many of the names have a file. -/
def QN (fs : List Fm) (i : Nat) : Prop := ∀ j, j < i → ∃ f ∈ fs, f.name = qn j
theorem QN.le {fs : List Fm} {i : Nat} (h : QN fs i) (hi : i ≤ 257) : i ≤ fs.length := by
  have := sub_len (l := (List.range i).map qn) (m := fs.map Fm.name) (by
    refine List.pairwise_map.2 (List.Pairwise.imp_of_mem ?_ List.nodup_range)
    intro a b ha hb hab e
    exact hab (qn_inj (by have := List.mem_range.1 ha; omega) (by have := List.mem_range.1 hb; omega) e)) (by
    intro x hx
    obtain ⟨j, hj, rfl⟩ := List.mem_map.1 hx
    obtain ⟨f, hf, e⟩ := h j (List.mem_range.1 hj)
    exact List.mem_map.2 ⟨f, hf, e⟩)
  simpa using this

set_option maxRecDepth 40000 in
set_option maxHeartbeats 4000000 in
theorem missing_any (A : Option Addr) (n c : Nat) (fs : List Fm) (st : Int) (ar : Bool) (lf : Int) (w : World) (h : Fl w A n fs) (hn : n ≤ 256) :
    Calls Try.prog 37 #[.agg #[.slice A n c, .int .i64 st, .bool ar, .int .i64 lf]] w fun e w' => ∃ s : List UInt8, e = .returned (.string (str s)) ∧ vname s = true ∧ findK Fm.name s fs = none ∧ Below w.heap.size w w' := by
  have hnl := h.1
  have hq : ∀ d, (⟨#[113]⟩ : ByteArray) ++ str d = str (113 :: d) := fun d => str_app [113] d
  have hsz : ∀ l, (str l).size = l.length := str_size
  have hsz1 : (⟨#[113]⟩ : ByteArray).size = 1 := rfl
  go_enter Try.func37, Try.ntmps37
  go_wp2_with fail
  have hb1 : Below w.heap.size w (w.alloc (dobj (dcs A n c st ar lf))) := (Below.refl _ w).alloc (Nat.le_refl _) _
  have hd1 := Blk.new w (dcs A n c st ar lf) 26
  go_loopw [3] (fun j wr => ∃ i : Nat, i ≤ n ∧ j = .int .i64 i ∧ QN fs i ∧ Below w.heap.size w wr ∧ Blk wr w.heap.size (dcs A n c st ar lf) 26) (fun j _ => n + 1 - (intOf j).toNat)
  case atStart => exact ⟨0, Nat.zero_le _, rfl, fun j hj => by omega, hb1, hd1⟩
  case round =>
    obtain ⟨i, hi, rfl, hQ, hb, hd⟩ := hrel
    have HQ := Lib.hid hQ
    have HD := Lib.hid hd
    clear hQ hd
    have hln : (dig i).length ≤ 32 := by
      have := (vname_le (qn_ok i (by omega))).2
      simp only [qn, List.length_cons] at this; omega
    have hlnI : ((dig i).length : Int) ≤ 32 := by omega
    have hat := fun W (hF : Fl W A n fs) => at_any A n c fs st ar lf (113 :: dig i) W hF (by omega)
    have hdg := dig_any i (by omega)
    go_wp2_with (go_at_call 57; refine (hdg _).mono ?_; rintro e w2 ⟨rfl, hb2⟩; have hd2 := HD.out.keep (hb2.block _ HD.out.lt); have k0 := hd2.cell (k := 0) rfl; have k1 := hd2.cell (k := 1) rfl; have k2 := hd2.cell (k := 2) rfl; have k3 := hd2.cell (k := 3) rfl; have HD2 := Lib.hid hd2; clear hd2)
    have hb02 : Below w.heap.size w w2 := hb.trans (hb2.mono hb.size)
    cases hf : findK Fm.name (qn i) fs with
    | none =>
      have hct := hat w2 (h.below hb02)
      rw [show (113 :: dig i) = qn i from rfl] at hct ⊢
      rw [atK_none hf] at hct
      have HF := Lib.hid hf
      clear hf
      refine hct.mono ?_
      rintro e w3 ⟨rfl, hb3⟩
      go_wp2_with fail
      go_ret
      exact ⟨_, rfl, qn_ok i (by omega), HF.out, hb02.trans (hb3.mono hb02.size)⟩
    | some f =>
      obtain ⟨k, hk, -, -⟩ := atK_some hf
      have hct := hat w2 (h.below hb02)
      rw [show (113 :: dig i) = qn i from rfl] at hct ⊢
      rw [hk] at hct
      have hQ1 : QN fs (i + 1) := fun j hj => by
        rcases Nat.lt_or_ge j i with hlt | hge
        · exact HQ.out j hlt
        · have : j = i := by omega
          subst this
          exact ⟨f, (find_some hf).1, (find_some hf).2⟩
      have hle := hQ1.le (by omega)
      have HQ1 := Lib.hid hQ1
      have hk0 : ¬ (k : Int) < 0 := by omega
      clear hf hk hQ1
      refine hct.mono ?_
      rintro e w3 ⟨rfl, hb3⟩
      have hd3 := HD2.out.keep (hb3.block _ HD2.out.lt)
      have HD3 := Lib.hid hd3
      clear hd3
      go_wp2_with fail
      exact ⟨⟨i + 1, by omega, by simp, HQ1.out, hb02.trans (hb3.mono hb02.size), HD3.out⟩, by simp [intOf]; omega⟩
end Go.Proofs.Ytfhlhdpgahbeiaa
