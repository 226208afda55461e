/-
  Contracts of the frames' functions: sumBytes, Seal, Take; bytes.Equal, bytes.Clone; the reference's Seal and Take.
-/
import Derived.Test.YtadkgfhfjagmpaaGreatDoorGFb
import Derived.LoopN
import Derived.Handy
namespace Go.Proofs.YtadkgfhfjagmpaaGreatDoor
open Go.RowKit Num Crc

/-- A checksum as it stands in a frame. -/
def sumle (s : Nat) : List UInt8 := [UInt8.ofNat (s % 256), UInt8.ofNat (s / 256 % 256), UInt8.ofNat (s / 65536 % 256), UInt8.ofNat (s / 16777216 % 256)]
theorem sumle_len (s : Nat) : (sumle s).length = 4 := rfl

set_option maxRecDepth 20000 in
set_option maxHeartbeats 1600000 in
theorem sumBytes_any (s : Nat) (hs : s < 4294967296) (w : World) :
    Calls Tryz.prog 113 #[.int .u32 s] w (Fresh w (sumle s)) := by
  have hmk : ∀ w, (Instr.makeSlice 28 (.int .i64 4) (.int .i64 4)).run Tryz.prog w = .ok (.slice (some ⟨w.heap.size, 0, none⟩) 4 4) (w.alloc (.cells #[.int .u8 0, .int .u8 0, .int .u8 0, .int .u8 0] 5)) := fun _ => by kernel_rfl
  go_enter Tryz.func113, Tryz.ntmps113
  go_wp2_with fail
  go_rounds 5
  go_ret
  have e1 : bv (sumle s) = [.int .u8 ((s : Int) % 256), .int .u8 ((s : Int) / 256 % 256), .int .u8 ((s : Int) / 65536 % 256), .int .u8 ((s : Int) / 16777216)] := by
    have h1 := (bv_byte (s % 256) (by omega)).symm
    have h2 := (bv_byte (s / 256 % 256) (by omega)).symm
    have h3 := (bv_byte (s / 65536 % 256) (by omega)).symm
    have h4 := (bv_byte (s / 16777216 % 256) (by omega)).symm
    rw [show sumle s = [UInt8.ofNat (s % 256)] ++ [UInt8.ofNat (s / 256 % 256)] ++ [UInt8.ofNat (s / 65536 % 256)] ++ [UInt8.ofNat (s / 16777216 % 256)] from rfl]
    rw [bv_app, bv_app, bv_app, h1, h2, h3, h4]
    simp
    omega
  have ho := own_lit w 5 (bv (sumle s)) (by simp only [maxLen, bv_len, sumle_len]; omega)
  rw [e1] at ho
  refine ⟨_, _, rfl, ?_, (Below.refl _ _).alloc (Nat.le_refl _) _⟩
  rw [e1]
  exact ho

set_option maxHeartbeats 1600000 in
theorem equal_any (A B : Option Addr) (n c m d : Nat) (l r : List UInt8) (w : World) (hs : Sl w A n (bv l)) (hr : Sl w B m (bv r)) :
    Calls Tryz.prog 187 #[.slice A n c, .slice B m d] w fun e w' => e = .returned (.bool (l == r)) ∧ w = w' := by
  have hc1 := run_str (P := Tryz.prog) (c := c) hs 28 5 9 Tryz.underlying28 Tryz.underlying5 Tryz.underlying9
  have hc2 := run_str (P := Tryz.prog) (c := d) hr 28 5 9 Tryz.underlying28 Tryz.underlying5 Tryz.underlying9
  go_enter Tryz.func187, Tryz.ntmps187
  go_wp2_with fail
  go_ret
  exact ⟨by simp, rfl⟩

set_option maxHeartbeats 1600000 in
theorem clone_any (A : Option Addr) (n c : Nat) (l : List UInt8) (w : World) (hs : Sl w A n (bv l)) (hn : n ≤ 140737488355328) :
    Calls Tryz.prog 105 #[.slice A n c] w (Fresh w l) := by
  have hl := hs.len
  subst hl
  have q : ∀ (w : World) (a : Option Addr) (n c n' c' : Nat), (binOp .eql 28 (.slice a n c) (.slice none n' c')).run Tryz.prog w = .ok (.bool a.isNone) w := fun w a n c n' c' => Lib.run_eql_slice_nil w _ _ a n c n' c' Tryz.underlying28
  rcases A with _ | a
  · have h0 : l = [] := by
      rcases Nat.eq_zero_or_pos l.length with h0 | h0
      · exact List.eq_nil_of_length_eq_zero h0
      · obtain ⟨b, o, e, _⟩ := hs.2 h0; cases e
    subst h0
    go_enter Tryz.func105, Tryz.ntmps105
    go_wp2_with fail
    go_ret
    exact ⟨none, 0, rfl, World.ownsRow_nil _ _ _ _, Below.refl _ _⟩
  · go_enter Tryz.func105, Tryz.ntmps105
    go_wp2_with (at_builtin; refine wpList_app _ rfl (.tmp 5) (.tmp 6) 28 rfl w.heap.size bytesEl (by decide) _ 0 [] rfl (World.ownsRow_made w #[] 0 (Nat.le_refl _) (Nat.zero_le _) rfl) (some a) l.length c (bv l) rfl (hs.alloc _) (bv_one _) (by omega) (by simp) ?_; intro A1 c1 w1 hown1 hg1 hat1)
    go_wp2
    go_ret
    refine ⟨A1, c1, by simp, by simpa using hown1, ?_⟩
    exact ((Below.refl _ w).alloc (Nat.le_refl _) _).grown hg1 (by simp) (own_blk (World.ownsRow_made (e := 5) (size := 1) w #[] 0 (Nat.le_refl _) (Nat.zero_le _) rfl))

/-- What was owned ahead of a call stays owned behind it. -/
theorem own_keep {w1 w2 : World} {base : Nat} {e : TypeId} {v : Value} {n : Nat} {xs : List Value} (h : w1.ownsRow base e 1 v n xs) (hb : Below w1.heap.size w1 w2) : w2.ownsRow base e 1 v n xs :=
  h.kept (row := none) ⟨hb.os, hb.tape, hb.output, hb.size, fun k hk _ => hb.block k hk⟩ (by cases hv : v.ownBlock <;> simp)

/-- The frame of a payload. -/
def seal_ (p : List UInt8) : List UInt8 := vint p.length ++ (sumle (Crc.sum p) ++ p)
theorem seal_len (p : List UInt8) : (seal_ p).length = (vint p.length).length + 4 + p.length := by simp [seal_, sumle_len]; omega

set_option maxRecDepth 20000 in
set_option maxHeartbeats 1600000 in
theorem seal_any (A : Option Addr) (n c : Nat) (p : List UInt8) (w : World) (hL : Laid w) (hs : Sl w A n (bv p)) (hn : n ≤ 4096) :
    Calls Tryz.prog 66 #[.slice A n c] w fun e w' => ∃ A' c', e = .returned (.tuple #[.slice A' (seal_ p).length c', .int .i64 0]) ∧
      w'.ownsRow w.heap.size 5 1 (.slice A' (seal_ p).length c') (seal_ p).length (bv (seal_ p)) ∧ Below w.heap.size w w' := by
  have hl := hs.len
  subst hl
  have h10 := vint_len10 (n := p.length) (by omega)
  have hslt := sum_lt p
  have HS := Lib.hid hslt
  clear hslt
  go_enter Tryz.func66, Tryz.ntmps66
  go_wp2_with fail
  refine (uint_any p.length (by omega) _).mono ?_
  rintro e w1 ⟨A1, c1, rfl, hown1, hb1⟩
  go_wp2_with fail
  refine (sum_any _ _ _ p _ (hL.keep hb1) (hs.below hb1) (by omega)).mono ?_
  rintro e w1' ⟨rfl, rfl⟩
  go_wp2_with fail
  refine (sumBytes_any _ HS.out _).mono ?_
  rintro e w2 ⟨A2, c2, rfl, hown2, hb2⟩
  have hb12 : Below w.heap.size w w2 := hb1.trans (hb2.mono hb1.size)
  have ho1 : w2.ownsRow w.heap.size 5 1 (.slice A1 (vint p.length).length c1) (vint p.length).length (bv (vint p.length)) := own_keep hown1 hb2
  go_wp2_with (first
    | (at_builtin; refine wpList_app _ rfl (.tmp 11) (.tmp 14) 28 rfl w.heap.size bytesEl (by decide) _ _ _ rfl ho1 _ _ _ _ rfl (own_sl hown2) (bv_one _) (by rw [sumle_len]; omega) hb12.size ?_; intro A3 c3 w3 hown3 hg3 hat3; have hb3 := hb12.grown hg3 hb12.size (own_blk ho1))
    | (at_builtin; refine wpList_app _ rfl (.tmp 16) (.tmp 17) 28 rfl w.heap.size bytesEl (by decide) _ _ _ rfl hown3 _ _ _ _ rfl (hs.below hb3) (bv_one _) (by rw [sumle_len]; omega) hb3.size ?_; intro A4 c4 w4 hown4 hg4 hat4; have hb4 := hb3.grown hg4 hb3.size (own_blk hown3)))
  go_ret2
  have e : (vint p.length).length + (sumle (Crc.sum p)).length + p.length = (seal_ p).length := by rw [seal_len, sumle_len]
  rw [e] at hown4
  refine ⟨A4, c4, by simp only [e]; rfl, by simpa [bv_app, seal_] using hown4, hb4⟩

set_option maxHeartbeats 400000 in
theorem seal_long (A : Option Addr) (n c : Nat) (w : World) (hn : 4096 < n) :
    Calls Tryz.prog 66 #[.slice A n c] w fun e w' => e = .returned (.tuple #[.slice none 0 0, .int .i64 3]) ∧ w = w' := by
  have h : (4096 : Int) < (n : Int) := by omega
  go_enter Tryz.func66, Tryz.ntmps66
  go_wp2_with fail
  go_ret2
  exact ⟨rfl, rfl⟩

theorem sumle_bv (s : Nat) (hs : s < 4294967296) : bv (sumle s) = [.int .u8 ((s : Int) % 256), .int .u8 ((s : Int) / 256 % 256), .int .u8 ((s : Int) / 65536 % 256), .int .u8 ((s : Int) / 16777216)] := by
  have h1 := (bv_byte (s % 256) (by omega)).symm
  have h2 := (bv_byte (s / 256 % 256) (by omega)).symm
  have h3 := (bv_byte (s / 65536 % 256) (by omega)).symm
  have h4 := (bv_byte (s / 16777216 % 256) (by omega)).symm
  rw [show sumle s = [UInt8.ofNat (s % 256)] ++ [UInt8.ofNat (s / 256 % 256)] ++ [UInt8.ofNat (s / 65536 % 256)] ++ [UInt8.ofNat (s / 16777216 % 256)] from rfl]
  rw [bv_app, bv_app, bv_app, h1, h2, h3, h4]
  simp
  omega

set_option maxRecDepth 20000 in
set_option maxHeartbeats 1600000 in
theorem refSeal_any (A : Option Addr) (n c : Nat) (p : List UInt8) (w : World) (hs : Sl w A n (bv p)) (hn : n ≤ 140737488350000) :
    Calls Tryz.prog 71 #[.slice A n c] w (Fresh w (seal_ p)) := by
  have hl := hs.len
  subst hl
  have h10 := vint_len10 (n := p.length) (by omega)
  have hslt := sum_lt p
  have hsb := sumle_bv _ hslt
  have HS := Lib.hid hslt
  have HB := Lib.hid hsb
  have hsi : ((Crc.sum p : Nat) : Int) ≤ 4294967295 := by omega
  have hsl : Sl w A p.length (bv p) := hs
  go_enter Tryz.func71, Tryz.ntmps71
  clear hslt hsb
  go_wp2_with fail
  refine (refSum_any _ _ _ p _ hs (by omega)).mono ?_
  rintro e w0 ⟨rfl, rfl⟩
  generalize hsv : Crc.sum p = sv at HS HB hsi ⊢
  have HV := Lib.hid hsv
  clear hsv
  go_wp2_with fail
  refine (refUint_any p.length (by omega) _).mono ?_
  rintro e w1 ⟨A1, c1, rfl, hown1, hb1⟩
  have e4 : [Value.int .u8 ((sv : Int) % 256), .int .u8 ((sv : Int) / 256 % 256), .int .u8 ((sv : Int) / 65536 % 256), .int .u8 ((sv : Int) / 16777216)] = bv (sumle sv) := HB.out.symm
  have HE := Lib.hid e4
  clear e4
  go_wp2_with (first
    | (at_builtin; refine wpList_app _ rfl (.tmp 10) (.tmp 25) 28 rfl w.heap.size bytesEl (by decide) _ _ _ rfl (hown1.alloc _) (some ⟨w1.heap.size, 0, none⟩) 4 4 (bv (sumle sv)) rfl (by rw [← HE.out]; exact Sl.lit _ _ _) (bv_one _) (by omega) (by have := hb1.size; simp; omega) ?_; intro A3 c3 w3 hown3 hg3 hat3; have hb3 := (hb1.alloc hb1.size _).grown hg3 (by have := hb1.size; simp; omega) (own_blk hown1))
    | (at_builtin; refine wpList_app _ rfl (.tmp 27) (.tmp 28) 28 rfl w.heap.size bytesEl (by decide) _ _ _ rfl hown3 _ _ _ _ rfl (hs.below hb3) (bv_one _) (by omega) hb3.size ?_; intro A4 c4 w4 hown4 hg4 hat4; have hb4 := hb3.grown hg4 hb3.size (own_blk hown3)))
  go_ret
  have e : (vint p.length).length + 4 + p.length = (seal_ p).length := by rw [seal_len]
  rw [e] at hown4
  refine ⟨A4, c4, by simp only [e]; rfl, ?_, hb4⟩
  have e2 : bv (vint p.length) ++ bv (sumle sv) ++ bv p = bv (seal_ p) := by rw [← bv_app, ← bv_app, ← HV.out, seal_, List.append_assoc]
  rw [e2] at hown4
  exact hown4
end Go.Proofs.YtadkgfhfjagmpaaGreatDoor
