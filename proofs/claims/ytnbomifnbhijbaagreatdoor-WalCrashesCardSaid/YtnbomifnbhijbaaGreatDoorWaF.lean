/-
  A log's Append: the drive's part of it, and done.
-/
import Derived.Test.YtnbomifnbhijbaaGreatDoorWaE
namespace Go.Proofs.YtnbomifnbhijbaaGreatDoor
open Go.RowKit Go.Maps
set_option linter.unusedVariables false

def doneX (y : Ws) (c : Int) : Ws := { y with dd := y.dd || c == 6 }
theorem wdone_any {w0 w : World} {pl pb mb : Nat} {gs : List Gm} {x : Ws} (h : Wl w0 w pl pb mb gs x) (c : Int) :
    Calls Tryz.prog 54 #[.pointer (some ⟨pl, 0, none⟩), .int .i64 c] w fun e w' => e = .returned (.int .i64 c) ∧ WlPost w0 w pl pb mb gs (doneX x c) w' := by
  refine (done_any h.lg c).mono ?_
  rintro e w3 ⟨rfl, hL, hS⟩
  have := h.log hS hL h.seg1 h.seg2
  exact ⟨rfl, gs, this⟩
def oldL (s : List UInt8) (fs : List Fm) : Fm := match findK Fm.name s fs with | some f => f | none => emptyF s
def dappX (y : Ws) (l : List UInt8) : Ws × Int :=
  if (findK Fm.name (fname y.seg) y.fs = none ∧ 256 ≤ y.fs.length) ∨ 262144 < (oldL (fname y.seg) y.fs).data.length + l.length then (y, 5)
  else if dead y.ar y.lf then (y, 6)
  else ({ stepX y with fs := withK Fm.name ⟨fname y.seg, (oldL (fname y.seg) y.fs).data ++ l, (oldL (fname y.seg) y.fs).syn⟩ y.fs }, 0)
theorem oldL_gs {gs : List Gm} {fs : List Fm} (h : gs.map Gm.f = fs) (s : List UInt8) : oldL s fs = oldF s gs := by
  unfold oldL oldF
  rw [find_fs h]
  cases findK Gm.name s gs <;> rfl
theorem dapp_any {w0 w : World} {pl pb mb : Nat} {gs : List Gm} {y : Ws} (h : Wl w0 w pl pb mb gs y) (hs : y.seg ≤ 999999) (A : Option Addr) (n c : Nat) (l : List UInt8) (hl : Sl w A n (bv l)) (hn : n ≤ 140737488355328)
    (hA : ∀ k, (Value.slice A n c).ownBlock = some k → ¬ foot pb mb gs k) :
    Calls Tryz.prog 55 #[.pointer (some ⟨pb, 0, none⟩), .string (str (fname y.seg)), .slice A n c] w fun e w' => e = .returned (.int .i64 (dappX y l).2) ∧ WlPost w0 w pl pb mb gs (dappX y l).1 w' := by
  have hll := hl.len
  have hname : fname y.seg = wname y.seg.toNat := by unfold fname; rw [if_pos ⟨h.seg1, hs⟩]
  have hv : vname (fname y.seg) = true := by rw [hname]; exact vname_wname _
  have hc := append_any h.dr (fname y.seg) A n c l hl hn hA
  have ho := oldL_gs h.fs (fname y.seg)
  have hfn : (findK Fm.name (fname y.seg) y.fs = none ∧ 256 ≤ y.fs.length) ↔ (findK Gm.name (fname y.seg) gs = none ∧ 256 ≤ gs.length) := by
    rw [find_fs h.fs, ← h.fs, List.length_map]
    cases findK Gm.name (fname y.seg) gs <;> simp
  have hsz : sizeG (fname y.seg) gs = (oldF (fname y.seg) gs).data.length := by
    unfold sizeG oldF
    cases findK Gm.name (fname y.seg) gs <;> rfl
  have he : appE (fname y.seg) n gs y.ar y.lf = (dappX y l).2 := by
    unfold appE dappX
    rw [hv, if_neg (by decide), ho, hsz]
    simp only [hfn, hll]
    split
    · rfl
    · split <;> rfl
  refine hc.mono ?_
  rintro e w1 ⟨rfl, hw⟩
  rw [he] at hw ⊢
  refine ⟨rfl, ?_⟩
  by_cases h0 : (dappX y l).2 = 0
  · rw [if_pos h0] at hw
    obtain ⟨g, hg, hD, hS⟩ := hw
    have h1 : (dappX y l).1 = { stepX y with fs := withK Fm.name g.f y.fs } := by
      unfold dappX at h0 ⊢
      split at h0
      · cases h0
      · rename_i hc1
        split at h0
        · cases h0
        · rename_i hc2
          rw [if_neg hc1, if_neg hc2, hg, ho]
    have := h.drive hS hD (with_fs h.fs g) (fun z hz => by
      rcases mem_with hz with rfl | hz
      · rw [show z.name = fname y.seg from by rw [show z.name = z.f.name from rfl, hg]]; exact hv
      · exact h.vn z hz)
    rw [h1]
    exact ⟨_, this⟩
  · rw [if_neg h0] at hw
    have h1 : (dappX y l).1 = y := by
      unfold dappX at h0 ⊢
      split
      · rfl
      · split
        · rfl
        · rename_i hc1 hc2
          rw [if_neg hc1, if_neg hc2] at h0
          exact absurd rfl h0
    have := h.drive hw.2 hw.1 h.fs h.vn
    rw [h1]
    exact ⟨gs, this⟩
end Go.Proofs.YtnbomifnbhijbaaGreatDoor
