/-
  The payloads of a segment.
-/
import Derived.Test.YtnbomifnbhijbaaGreatDoorWaH
namespace Go.Proofs.YtnbomifnbhijbaaGreatDoor
open Go.RowKit Go.Maps Num Crc
set_option linter.unusedVariables false

/-- A drive from which a log reads. -/
structure Rd (w : World) (pb mb : Nat) (gs : List Gm) (st : Int) (ar : Bool) (lf : Int) : Prop where
  dr : Dr w pb mb gs st ar lf
  wl : WL w
  vn : ∀ g ∈ gs, vname g.name = true
theorem Rd.below {w w' : World} {pb mb : Nat} {gs : List Gm} {st lf : Int} {ar : Bool} (h : Rd w pb mb gs st ar lf) (hb : Below w.heap.size w w') : Rd w' pb mb gs st ar lf := ⟨h.dr.below hb (Nat.le_refl _), h.wl.keep hb, h.vn⟩
/-- What a file holds. -/
def dataL (s : List UInt8) (gs : List Gm) : List UInt8 := (oldF s gs).data
theorem dread_any {w : World} {pb mb : Nat} {gs : List Gm} {st lf : Int} {ar : Bool} (h : Rd w pb mb gs st ar lf) (s : List UInt8) :
    Calls Tryz.prog 49 #[.pointer (some ⟨pb, 0, none⟩), .string (str s)] w fun e w' => ∃ A c v, e = .returned (.tuple #[.slice A (dataL s gs).length c, v]) ∧
      w'.ownsRow w.heap.size 5 1 (.slice A (dataL s gs).length c) (dataL s gs).length (bv (dataL s gs)) ∧ Below w.heap.size w w' := by
  have hr := read_any h.dr s
  have h1 : (if readE s gs = 0 then (oldF s gs).data.length else 0) = (dataL s gs).length := by
    unfold readE dataL oldF
    cases hf : findK Gm.name s gs with
    | none => cases vname s <;> simp [emptyF]
    | some g =>
      have := find_some hf
      rw [show vname s = true from by rw [← this.2]; exact h.vn g this.1]
      simp
  have h2 : (if readE s gs = 0 then (oldF s gs).data else []) = dataL s gs := by
    unfold readE dataL oldF
    cases hf : findK Gm.name s gs with
    | none => cases vname s <;> simp [emptyF]
    | some g =>
      have := find_some hf
      rw [show vname s = true from by rw [← this.2]; exact h.vn g this.1]
      simp
  rw [h1, h2] at hr
  refine hr.mono ?_
  rintro e w' ⟨A, c, rfl, h3, h4⟩
  exact ⟨A, c, _, rfl, h3, h4⟩
theorem data_le {w : World} {pb mb : Nat} {gs : List Gm} {st lf : Int} {ar : Bool} (h : Dr w pb mb gs st ar lf) (s : List UInt8) : (dataL s gs).length ≤ 262144 := by
  unfold dataL oldF
  cases hf : findK Gm.name s gs with
  | none => simp [emptyF]
  | some g => exact (h.file g (find_some hf).1).2.2.2.1
def paysOf (n : Int) (gs : List Gm) : List (List UInt8) := (scan (dataL (fname n) gs)).1
set_option maxHeartbeats 4000000 in
theorem pays_any {w : World} {pb mb : Nat} {gs : List Gm} {st lf : Int} {ar : Bool} (h : Rd w pb mb gs st ar lf) (n : Int) (hn : -9223372036854775808 ≤ n ∧ n ≤ 9223372036854775807) :
    Calls Tryz.prog 25 #[.pointer (some ⟨pb, 0, none⟩), .int .i64 n] w fun e w' => ∃ A c vs, e = .returned (.slice A (paysOf n gs).length c) ∧
      w'.ownsRow w.heap.size 36 1 (.slice A (paysOf n gs).length c) (paysOf n gs).length vs ∧ Each w' w.heap.size vs (paysOf n gs) ∧ Below w.heap.size w w' := by
  have hf1 := fileName_any n hn w h.wl
  have hrd := fun w1 (hb : Below w.heap.size w w1) => dread_any (h.below hb) (fname n)
  have hle := data_le h.dr (fname n)
  unfold paysOf
  generalize fname n = nm at *
  generalize dataL nm gs = l at *
  have HR := Lib.hid hrd
  have H := Lib.hid h
  clear h hrd
  go_enter Tryz.func25, Tryz.ntmps25
  go_wp2_with (first
    | (go_at_call 53; refine hf1.mono ?_; rintro e w1 ⟨rfl, hb⟩)
    | (go_at_call 49; refine (HR.out w1 hb).mono ?_; rintro e w2 ⟨A, c, v, rfl, hr2, hb2⟩; have hb12 := hb.trans (hb2.mono hb.size))
    | (go_at_call 61; refine (scan_any A l.length c l w2 (H.out.below hb12).wl.sums (own_sl hr2) (by omega) (own_le hr2)).mono ?_; rintro e w3 ⟨A3, c3, vs, rfl, ho, he, hb3⟩))
  go_ret
  exact ⟨A3, c3, vs, rfl, own_mono ho hb12.size, he.mono hb12.size, hb12.trans (hb3.mono hb12.size)⟩
end Go.Proofs.YtnbomifnbhijbaaGreatDoor
