/-
  The fixed fact that each statement of layer 1 begins with: 'awake' answers true.
-/
import Derived.Test.YtacpbcahmhnhbaaDoorFrameE
import Derived.Lib.SlBytesConst
namespace Go.Proofs.YtacpbcahmhnhbaaDoor
open Go.RowKit Num Crc

theorem aw_tu : tu [172, 2, 9] = (300, 2) := by decide +kernel
theorem aw_sum : Crc.sum [49, 50, 51, 52, 53, 54, 55, 56, 57] = 3421780262 := by decide +kernel
theorem aw_seal : seal_ [] = [0, 0, 0, 0, 0] := by
  have h : Crc.sum [] = 0 := by decide +kernel
  unfold seal_
  rw [h, show ([] : List UInt8).length = 0 from rfl, vint_small (by omega)]
  rfl
theorem aw_text : vint 2 ++ [97, 98] = [2, 97, 98] := by rw [vint_small (by omega)]; rfl

set_option maxRecDepth 20000 in
set_option maxHeartbeats 3200000 in
theorem awake_any (w : World) (hL : Laid w) :
    Calls Tryd.prog 11 #[] w fun e w' => e = .returned (.bool true) ∧ Below w.heap.size w w' := by
  have H1 : ∀ W : World, Calls Tryd.prog 13 #[.slice (some ⟨W.heap.size, 0, none⟩) 3 3] (W.alloc (.cells #[.int .u8 172, .int .u8 2, .int .u8 9] 5)) fun e w' => e = .returned (.tuple #[.int .u64 300, .int .i64 2]) ∧ (W.alloc (.cells #[.int .u8 172, .int .u8 2, .int .u8 9] 5)) = w' := fun W => by
    have h := takeUint_any (some ⟨W.heap.size, 0, none⟩) 3 3 [172, 2, 9] _ (Sl.lit W 5 _) (by omega)
    rw [aw_tu] at h
    exact h
  have H2 : ∀ W : World, Laid W → Calls Tryd.prog 21 #[.slice (some ⟨W.heap.size, 0, none⟩) 9 9] (W.alloc (.cells #[.int .u8 49, .int .u8 50, .int .u8 51, .int .u8 52, .int .u8 53, .int .u8 54, .int .u8 55, .int .u8 56, .int .u8 57] 5 (9, 10))) fun e w' => e = .returned (.int .u32 3421780262) ∧ (W.alloc (.cells #[.int .u8 49, .int .u8 50, .int .u8 51, .int .u8 52, .int .u8 53, .int .u8 54, .int .u8 55, .int .u8 56, .int .u8 57] 5 (9, 10))) = w' := fun W hW => by
    have h := sum_any (some ⟨W.heap.size, 0, none⟩) 9 9 [49, 50, 51, 52, 53, 54, 55, 56, 57] _ (hW.keep ((Below.refl _ W).alloc (Nat.le_refl _) _)) (Sl.litF W 5 _ (9, 10)) (by omega)
    rw [aw_sum] at h
    exact h
  have H3 : ∀ W : World, Laid W → Calls Tryd.prog 23 #[.slice none 0 0] W fun e w' => ∃ A' c', e = .returned (.tuple #[.slice A' 5 c', .int .i64 0]) ∧ Sl w' A' 5 (bv [0, 0, 0, 0, 0]) ∧ Below W.heap.size W w' := fun W hW => by
    refine (seal_any none 0 0 [] W hW (Sl.none_ W none) (by omega)).mono ?_
    rintro e w' ⟨A', c', rfl, ho, hb⟩
    rw [aw_seal] at ho ⊢
    exact ⟨A', c', rfl, own_sl ho, hb⟩
  have H4 : ∀ W : World, Calls Tryd.prog 17 #[.string ⟨#[97, 98]⟩] W fun e w' => ∃ A' c', e = .returned (.slice A' 3 c') ∧ Sl w' A' 3 (bv [2, 97, 98]) ∧ Below W.heap.size W w' := fun W => by
    refine (text_any ⟨#[97, 98]⟩ (by decide) W).mono ?_
    rintro e w' ⟨A', c', rfl, ho, hb⟩
    have e1 : vint (ByteArray.size ⟨#[97, 98]⟩) ++ (ByteArray.data ⟨#[97, 98]⟩).toList = [2, 97, 98] := aw_text
    rw [e1] at ho ⊢
    exact ⟨A', c', rfl, own_sl ho, hb⟩
  have kc := fun (w : World) (C : Array Value) (n c : Nat) => Lib.run_convert_bytes_const (P := Tryd.prog) w 23 5 C n c Tryd.underlying23 Tryd.underlying5
  have G1 := Lib.hid H1
  have G2 := Lib.hid H2
  have G3 := Lib.hid H3
  have G4 := Lib.hid H4
  have GL := Lib.hid hL
  clear H1 H2 H3 H4 hL
  go_enter Tryd.func11, Tryd.ntmps11
  go_wp2_with fail
  refine (G1.out _).mono ?_
  rintro e w1 ⟨rfl, rfl⟩
  have hb1 : Below w.heap.size w (w.alloc (.cells #[.int .u8 172, .int .u8 2, .int .u8 9] 5)) := (Below.refl _ w).alloc (Nat.le_refl _) _
  go_wp2_with fail
  refine (G3.out _ (GL.out.keep hb1)).mono ?_
  rintro e w2 ⟨A2, c2, rfl, hs2, hb2⟩
  have hb2' : Below w.heap.size w w2 := hb1.trans (hb2.mono hb1.size)
  clear hb2 hb1
  go_wp2_with fail
  refine (G2.out _ (GL.out.keep hb2')).mono ?_
  rintro e w3 ⟨rfl, rfl⟩
  have hb3 : Below w.heap.size w (w2.alloc (.cells #[.int .u8 49, .int .u8 50, .int .u8 51, .int .u8 52, .int .u8 53, .int .u8 54, .int .u8 55, .int .u8 56, .int .u8 57] 5 (9, 10))) := hb2'.alloc hb2'.size _
  have hcv := run_str (P := Tryd.prog) (c := c2) (hs2.alloc (.cells #[.int .u8 49, .int .u8 50, .int .u8 51, .int .u8 52, .int .u8 53, .int .u8 54, .int .u8 55, .int .u8 56, .int .u8 57] 5 (9, 10))) 23 5 9 Tryd.underlying23 Tryd.underlying5 Tryd.underlying9
  go_wp2_with fail
  refine (G4.out _).mono ?_
  rintro e w4 ⟨A4, c4, rfl, hs4, hb4⟩
  have hcv4 := run_str (P := Tryd.prog) (c := c4) hs4 23 5 9 Tryd.underlying23 Tryd.underlying5 Tryd.underlying9
  go_wp2_with fail
  go_ret
  exact ⟨rfl, hb3.trans (hb4.mono hb3.size)⟩
end Go.Proofs.YtacpbcahmhnhbaaDoor
