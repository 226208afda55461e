/-
  Contracts of the checksum's functions.
-/
import Derived.Test.YtnbomifnbhijbaaGreatDoorFrameC
import Derived.Test.YtnbomifnbhijbaaGreatDoorCrc
namespace Go.Proofs.YtnbomifnbhijbaaGreatDoor
open Go.RowKit Num Crc

/-- The table in memory, as the program's text lays it. -/
def Laid (w : World) : Prop := ∀ i, i < 16 → w.cell? ⟨0, i, none⟩ = some (.int .u32 ((stepn 4 i : Nat) : Int))
theorem Laid.keep {w w' : World} (h : Laid w) (hb : Below w.heap.size w w') : Laid w' := fun i hi => by
  have := h i hi
  rw [hb.cell (World.block_lt_of_cell? w _ this)]; exact this
theorem Laid.drew {w : World} (h : Laid w) : Laid w.drew := h

set_option maxRecDepth 20000 in
set_option maxHeartbeats 1600000 in
theorem sum_any (A : Option Addr) (n c : Nat) (l : List UInt8) (w : World) (hL : Laid w) (hs : Sl w A n (bv l)) (hn : n ≤ 140737488355328) :
    Calls Tryz.prog 78 #[.slice A n c] w fun e w' => e = .returned (.int .u32 (Crc.sum l)) ∧ w = w' := by
  have hlen := hs.len
  have HT := Lib.hid hL
  clear hL
  go_enter Tryz.func78, Tryz.ntmps78
  go_wp2_with fail
  go_loop [3, 8] (fun s3 i => ∃ k v : Nat, k ≤ n ∧ i = .int .i64 k ∧ s3 = .int .u32 v ∧ v < 4294967296 ∧ v = crc 4294967295 (l.take k)) (fun _ i => n - (intOf i).toNat)
  case atStart => exact ⟨0, 4294967295, Nat.zero_le _, rfl, rfl, by omega, rfl⟩
  case round =>
    obtain ⟨k, v, hk, rfl, rfl, hv, hvc⟩ := hrel
    have HV := Lib.hid hvc
    clear hvc
    by_cases hlt : k < n
    · obtain ⟨bb, off, hl, rfl, hc⟩ := hs.byte hlt
      have hx1 : l[k].toNat < 256 := l[k].toNat_lt
      have HX := Lib.hid (show crc 4294967295 (l.take (k + 1)) = stepn 8 (v ^^^ l[k].toNat) by rw [take_succ' hl, crc_snoc, ← HV.out]; rfl)
      generalize l[k].toNat = x at hc hx1 HX
      have hx2 := u32_xor_nat v x hv (by omega)
      have hvx : v ^^^ x < 4294967296 := xor_lt hv (by omega)
      go_wp2_with fail
      generalize v ^^^ x = d at HX hvx ⊢
      clear hx2
      go_loop [3, 16] (fun s3 i => ∃ j t : Nat, j ≤ 2 ∧ i = .int .i64 j ∧ s3 = .int .u32 t ∧ t < 4294967296 ∧ t = stepn (4 * j) d) (fun _ i => 2 - (intOf i).toNat)
      case atStart => exact ⟨0, d, by omega, rfl, rfl, hvx, rfl⟩
      case round =>
        obtain ⟨j, t, hj, rfl, rfl, ht, htd⟩ := hrel
        have HD := Lib.hid htd
        clear htd
        by_cases hj2 : j < 2
        · obtain ⟨y, z, t', hy, hand, hcell, hxor, ht', HT'⟩ : ∃ y z t' : Nat, y < 16 ∧ bits .and .u32 (t : Int) 15 = (y : Int) ∧ w.cell? ⟨0, y, none⟩ = some (.int .u32 (z : Int)) ∧ bits .xor .u32 ((t : Int) / 16) (z : Int) = (t' : Int) ∧ t' < 4294967296 ∧ Hid (t' = stepn 4 t) := by
            have hand := u32_and_nat t 15 ht (by omega)
            rw [nat_mask4] at hand
            have hx := u32_xor_nat (t / 16) (stepn 4 (t % 16)) (by omega) (stepn_lt 4 (by omega))
            rw [← nib, show ((t / 16 : Nat) : Int) = (t : Int) / 16 from by omega] at hx
            exact ⟨t % 16, stepn 4 (t % 16), stepn 4 t, by omega, hand, HT.out (t % 16) (by omega), hx, stepn_lt 4 ht, rfl⟩
          go_wp2_with fail
          go_round
          case rel => exact ⟨j + 1, t', by omega, by go_num, rfl, ht', by rw [HT'.out, HD.out, ← stepn_add]; congr 1; omega⟩
          case measure => simp [intOf]; omega
        · have hj' : j = 2 := by omega
          subst hj'
          go_wp2_with fail
          go_round
          case rel => exact ⟨k + 1, t, by omega, by go_num, rfl, ht, by rw [HX.out, HD.out]⟩
          case measure => simp [intOf]; omega
    · have hkn : k = n := by omega
      have hnot : bits .xor .u32 IntKind.u32.max (v : Int) = ((Crc.sum l : Nat) : Int) := by
        have e1 : IntKind.u32.max = ((4294967295 : Nat) : Int) := by decide +kernel
        rw [e1, u32_xor_nat _ _ (by omega) hv, Nat.xor_comm, HV.out, hkn, ← hlen, List.take_length]
        rfl
      have HN := Lib.hid hnot
      clear hnot
      go_wp2_with fail
      go_ret
      exact ⟨congrArg (fun z => Ending.returned (.int .u32 z)) HN.out, rfl⟩

theorem rs_test (x j t : Nat) (hx : x < 256) (ht : t < 4294967296) : (bits .xor .u32 ((x : Int) / 2 ^ j) (t : Int)).tmod 2 = (((x / 2 ^ j ^^^ t) % 2 : Nat) : Int) := by
  have hq : x / 2 ^ j ≤ x := Nat.div_le_self _ _
  have e := u32_xor_nat (x / 2 ^ j) t (by omega) ht
  have e2 : ((x / 2 ^ j : Nat) : Int) = (x : Int) / 2 ^ j := by simp
  rw [← e2, e]
  rfl

set_option maxRecDepth 20000 in
set_option maxHeartbeats 1600000 in
theorem refSum_any (A : Option Addr) (n c : Nat) (l : List UInt8) (w : World) (hs : Sl w A n (bv l)) (hn : n ≤ 140737488355328) :
    Calls Tryz.prog 82 #[.slice A n c] w fun e w' => e = .returned (.int .u32 (Crc.sum l)) ∧ w = w' := by
  have hlen := hs.len
  go_enter Tryz.func82, Tryz.ntmps82
  go_wp2_with fail
  go_loop [3, 4] (fun s3 i => ∃ k v : Nat, k ≤ n ∧ i = .int .i64 k ∧ s3 = .int .u32 v ∧ v < 4294967296 ∧ v = crc 4294967295 (l.take k)) (fun _ i => n - (intOf i).toNat)
  case atStart => exact ⟨0, 4294967295, Nat.zero_le _, rfl, rfl, by omega, rfl⟩
  case round =>
    obtain ⟨k, v, hk, rfl, rfl, hv, hvc⟩ := hrel
    have HV := Lib.hid hvc
    clear hvc
    by_cases hlt : k < n
    · obtain ⟨bb, off, hl, rfl, hc⟩ := hs.byte hlt
      have hx1 : l[k].toNat < 256 := l[k].toNat_lt
      have HX := Lib.hid (show crc 4294967295 (l.take (k + 1)) = stepn 8 (v ^^^ l[k].toNat) by rw [take_succ' hl, crc_snoc, ← HV.out]; rfl)
      generalize l[k].toNat = x at hc hx1 HX
      go_wp2_with fail
      go_loop [3, 5] (fun s3 i => ∃ j t : Nat, j ≤ 8 ∧ i = .int .i64 j ∧ s3 = .int .u32 t ∧ t < 4294967296 ∧ t ^^^ (x / 2 ^ j) = stepn j (v ^^^ x)) (fun _ i => 8 - (intOf i).toNat)
      case atStart => exact ⟨0, v, by omega, rfl, rfl, hv, by simp [stepn]⟩
      case round =>
        obtain ⟨j, t, hj, rfl, rfl, ht, htd⟩ := hrel
        have HD := Lib.hid htd
        clear htd
        by_cases hj2 : j < 8
        · have HE := Lib.hid (rs_test x j t hx1 ht)
          have HS := Lib.hid (ref_step HD.out)
          have HP := Lib.hid (u32_xor_nat (t / 2) 3988292384 (by omega) (by omega))
          go_wp2_with fail
          · have htest : ((bits .xor .u32 ((x : Int) / 2 ^ j) (t : Int)).tmod 2 == 1) = true := by assumption
            rw [HE.out] at htest
            have h1 : (x / 2 ^ j ^^^ t) % 2 = 1 := by have := eq_of_beq htest; omega
            have hs1 := HS.out
            rw [if_pos h1] at hs1
            have hp := HP.out
            rw [show ((t / 2 : Nat) : Int) = (t : Int) / 2 from by omega] at hp
            go_round
            case rel => exact ⟨j + 1, t / 2 ^^^ poly, by omega, by go_num, congrArg (Value.int .u32) hp, xor_lt (by omega) (by decide), hs1⟩
            case measure => simp [intOf]; omega
          · have htest : ((bits .xor .u32 ((x : Int) / 2 ^ j) (t : Int)).tmod 2 == 1) = false := by assumption
            rw [HE.out] at htest
            have h1 : ¬ (x / 2 ^ j ^^^ t) % 2 = 1 := by have := ne_of_beq_false htest; omega
            have hs1 := HS.out
            rw [if_neg h1, Nat.xor_zero] at hs1
            go_round
            case rel => exact ⟨j + 1, t / 2, by omega, by go_num, by rw [show ((t / 2 : Nat) : Int) = (t : Int) / 2 from by omega], by omega, hs1⟩
            case measure => simp [intOf]; omega
        · have hj' : j = 8 := by omega
          subst hj'
          go_wp2_with fail
          go_round
          case rel =>
            refine ⟨k + 1, t, by omega, by go_num, rfl, ht, ?_⟩
            rw [HX.out, ← HD.out, Nat.div_eq_of_lt (by omega), Nat.xor_zero]
          case measure => simp [intOf]; omega
    · have hkn : k = n := by omega
      have hnot : bits .xor .u32 (v : Int) 4294967295 = ((Crc.sum l : Nat) : Int) := by
        have e1 : (4294967295 : Int) = ((4294967295 : Nat) : Int) := rfl
        rw [e1, u32_xor_nat _ _ hv (by omega), HV.out, hkn, ← hlen, List.take_length]
        rfl
      have HN := Lib.hid hnot
      clear hnot
      go_wp2_with fail
      go_ret
      exact ⟨congrArg (fun z => Ending.returned (.int .u32 z)) HN.out, rfl⟩
end Go.Proofs.YtnbomifnbhijbaaGreatDoor
