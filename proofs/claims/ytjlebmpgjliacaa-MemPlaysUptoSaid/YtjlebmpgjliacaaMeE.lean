/-
  A skip list's small calls: check, newNode, New, Len, Bytes.
-/
import Derived.Test.YtjlebmpgjliacaaMeD
namespace Go.Proofs.Ytjlebmpgjliacaa
open Go.RowKit
set_option linter.unusedVariables false

/-- An entry as a value. -/
def ev (e : En) : Value := .agg (ec e).toArray
/-- What is wrong with an entry by itself. -/
def chk (e : En) : Int := if 64 < e.key.length ∨ 1024 < e.val.length then 3 else if e.seq < 1 ∨ 4611686018427387904 < e.seq ∨ (e.del = true ∧ e.val ≠ []) then 1 else 0
theorem ev_lit (e : En) : ev e = .agg #[.string (str e.key), .int .i64 e.seq, .bool e.del, .string (str e.val)] := rfl
set_option maxHeartbeats 2000000 in
theorem check_any (e : En) (w : World) : Calls Try.prog 20 #[ev e] w fun r w' => r = .returned (.int .i64 (chk e)) ∧ Below w.heap.size w w' := by
  rw [ev_lit]
  obtain ⟨key, seq, del, val⟩ := e
  have hk := str_size key
  have hv := str_size val
  have hal : ∀ o, Below w.heap.size w (w.alloc o) := fun o => (Below.refl _ w).alloc (Nat.le_refl _) _
  have htl : ∀ l : List UInt8, (str l).toList = l := fun l => ByteArray.toList_mk l
  have hve : (str val).toList = [] ↔ val = [] := by rw [htl]
  unfold chk
  simp only
  go_enter Try.func20, Try.ntmps20
  by_cases h1 : 64 < key.length
  · rw [if_pos (.inl h1)]
    have g1 : 64 < (str key).size := by omega
    clear htl hve
    go_wp2_with fail
    go_ret
    exact ⟨rfl, hal _⟩
  · have g1 : ¬ 64 < (str key).size := by omega
    by_cases h2 : 1024 < val.length
    · rw [if_pos (.inr h2)]
      have g2 : 1024 < (str val).size := by omega
      clear htl hve
      go_wp2_with fail
      go_ret
      exact ⟨rfl, hal _⟩
    · rw [if_neg (by omega)]
      have g2 : ¬ 1024 < (str val).size := by omega
      by_cases h3 : seq < 1
      · rw [if_pos (.inl h3)]
        clear htl hve
        go_wp2_with fail
        go_ret
        exact ⟨rfl, hal _⟩
      · by_cases h4 : 4611686018427387904 < seq
        · rw [if_pos (.inr (.inl h4))]
          clear htl hve
          go_wp2_with fail
          go_ret
          exact ⟨rfl, hal _⟩
        · cases del with
          | false =>
            rw [if_neg (by simp; omega)]
            clear htl hve
            go_wp2_with fail
            go_ret
            exact ⟨rfl, hal _⟩
          | true =>
            by_cases h5 : val = []
            · subst h5
              rw [if_neg (by simp; omega)]
              have g5 : (str []).toList = [] := htl []
              have g6 : (str []).toList.isEmpty = true := by rw [htl]; rfl
              clear htl hve
              go_wp2_with fail
              go_ret
              exact ⟨rfl, hal _⟩
            · rw [if_pos (.inr (.inr ⟨rfl, h5⟩))]
              have g5 : ¬ (str val).toList = [] := fun e => h5 (hve.1 e)
              have g6 : (str val).toList.isEmpty = false := by rw [htl]; cases val with | nil => exact absurd rfl h5 | cons _ _ => rfl
              clear htl hve
              go_wp2_with fail
              go_ret
              exact ⟨rfl, hal _⟩

/-- The box of newNode's parameter. -/
def NBx (w : World) (e : En) (V : World) : Prop := Blk V w.heap.size #[.string (str e.key), .int .i64 e.seq, .bool e.del, .string (str e.val)] 30 ∧ Below w.heap.size w V
theorem NBx.below {w V V' : World} {e : En} (h : NBx w e V) (hb : Below V.heap.size V V') : NBx w e V' := ⟨h.1.keep (hb.block _ h.1.lt), h.2.trans (hb.mono h.2.size)⟩
theorem NBx.drew {w V : World} {e : En} (h : NBx w e V) : NBx w e V.drew := ⟨h.1, h.2.drew⟩
theorem NBx.set0 {w V : World} {e : En} (h : NBx w e V) : NBx w e (V.setCell ⟨w.heap.size, 0, none⟩ (.string (str e.key))) := ⟨h.1.set 0 _, h.2.setCell (Nat.le_refl _) _⟩
theorem NBx.set3 {w V : World} {e : En} (h : NBx w e V) : NBx w e (V.setCell ⟨w.heap.size, 3, none⟩ (.string (str e.val))) := ⟨h.1.set 3 _, h.2.setCell (Nat.le_refl _) _⟩
set_option maxHeartbeats 4000000 in
theorem newNode_any (e : En) (n : Int) (w : World) (hk : e.key.length ≤ 100000) (hv : e.val.length ≤ 100000) : Calls Try.prog 22 #[ev e, .int .i64 n] w fun r w' => ∃ b, r = .returned (.pointer (some ⟨b, 0, none⟩)) ∧ w.heap.size ≤ b ∧ Blk w' b (ec e ++ [Value.int .i64 n] ++ List.replicate 12 (Value.pointer none)).toArray 48 ∧ Below w.heap.size w w' := by
  rw [ev_lit]
  have hs1 := str_size e.key
  have hs2 := str_size e.val
  have hc1 := fun V => sclone_any (str e.key) V (by omega)
  have hc2 := fun V => sclone_any (str e.val) V (by omega)
  have k0 : ∀ V, NBx w e V → V.cell? ⟨w.heap.size, 0, none⟩ = some (.string (str e.key)) := fun V h => h.1.cell rfl
  have k1 : ∀ V, NBx w e V → V.cell? ⟨w.heap.size, 1, none⟩ = some (.int .i64 e.seq) := fun V h => h.1.cell rfl
  have k2 : ∀ V, NBx w e V → V.cell? ⟨w.heap.size, 2, none⟩ = some (.bool e.del) := fun V h => h.1.cell rfl
  have k3 : ∀ V, NBx w e V → V.cell? ⟨w.heap.size, 3, none⟩ = some (.string (str e.val)) := fun V h => h.1.cell rfl
  have kf : ∀ V k, NBx w e V → V.frozen? ⟨w.heap.size, k, none⟩ = false := fun V k h => h.1.frozen k
  have hb0 : NBx w e (w.alloc (.cells #[.string (str e.key), .int .i64 e.seq, .bool e.del, .string (str e.val)] 30)) := ⟨Blk.new w _ _, (Below.refl _ w).alloc (Nat.le_refl _) _⟩
  have HC1 := Lib.hid hc1
  have HC2 := Lib.hid hc2
  clear hc1 hc2 hs1 hs2
  go_enter Try.func22, Try.ntmps22
  go_wp2_with fail
  go_region_held (fun V => NBx w e V) (first | assumption | exact NBx.drew (by assumption) | exact NBx.set0 (by assumption) | exact NBx.set3 (by assumption)) (first
    | (go_at_call 26; refine (HC1.out _).mono ?_; rintro r w1 ⟨rfl, hb1⟩; have hB1 := NBx.below (by assumption) hb1)
    | (go_at_call 26; refine (HC2.out _).mono ?_; rintro r w2 ⟨rfl, hb2⟩; have hB2 := NBx.below (by assumption) hb2))
  have hV := hB2.set0.set3
  clear hb1 hB1 hB2 hb2 hb0
  generalize (w2.setCell ⟨w.heap.size, 0, none⟩ (.string (str e.key))).setCell ⟨w.heap.size, 3, none⟩ (.string (str e.val)) = V at hV ⊢
  have c0 := k0 V hV
  have c1 := k1 V hV
  have c2 := k2 V hV
  have c3 := k3 V hV
  have HV := Lib.hid hV
  clear k0 k1 k2 k3 kf hV
  go_wp2_with fail
  go_ret
  exact ⟨V.heap.size, rfl, HV.out.2.size, Blk.new V _ _, HV.out.2.alloc HV.out.2.size _⟩

/-! ### a table -/
theorem new_any (w : World) : Calls Try.prog 5 #[] w fun r w' => r = .returned (.pointer (some ⟨w.heap.size, 0, none⟩)) ∧ Tb w' w.heap.size [] 0 0 ∧ Below w.heap.size w w' := by
  go_enter Try.func5, Try.ntmps5
  go_wp2_with fail
  go_ret
  exact ⟨rfl, ⟨Blk.new w _ _, by simp, by simp, by simp⟩, (Below.refl _ w).alloc (Nat.le_refl _) _⟩
theorem Tb.cnt_ {w : World} {tb : Nat} {N : List Nd} {cnt byt : Int} (h : Tb w tb N cnt byt) : w.cell? ⟨tb, 17, none⟩ = some (.int .i64 cnt) ∧ w.cell? ⟨tb, 18, none⟩ = some (.int .i64 byt) := ⟨h.hd.cell rfl, h.hd.cell rfl⟩
theorem len_any {w : World} {tb : Nat} {N : List Nd} {cnt byt : Int} (h : Tb w tb N cnt byt) : Calls Try.prog 8 #[.pointer (some ⟨tb, 0, none⟩)] w fun r w' => r = .returned (.int .i64 cnt) ∧ w' = w := by
  have c0 := h.cnt_.1
  go_enter Try.func8, Try.ntmps8
  go_wp2_with fail
  go_ret
  exact ⟨rfl, rfl⟩
theorem bytes_any {w : World} {tb : Nat} {N : List Nd} {cnt byt : Int} (h : Tb w tb N cnt byt) : Calls Try.prog 12 #[.pointer (some ⟨tb, 0, none⟩)] w fun r w' => r = .returned (.int .i64 byt) ∧ w' = w := by
  have c0 := h.cnt_.2
  go_enter Try.func12, Try.ntmps12
  go_wp2_with fail
  go_ret
  exact ⟨rfl, rfl⟩
end Go.Proofs.Ytjlebmpgjliacaa
