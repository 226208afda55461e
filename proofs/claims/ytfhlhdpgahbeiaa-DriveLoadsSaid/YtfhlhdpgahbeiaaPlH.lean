/-
  One call of the law's script: Sync, Rename, Delete, Arm, with nothing left open.
-/
import Derived.Test.YtfhlhdpgahbeiaaPlB
import Derived.Test.YtfhlhdpgahbeiaaPlC
import Derived.Test.YtfhlhdpgahbeiaaPlD
namespace Go.Proofs.Ytfhlhdpgahbeiaa
open Go.RowKit Go.Maps
set_option linter.unusedVariables false

section
variable {w : World} {lo pb mb : Nat} {gs : List Gm} {st lf : Int} {ar : Bool} {A : Option Addr} {c : Nat} (h : Rel w lo pb mb gs st ar lf A c) (s tn : List UInt8) (B : Option Addr) (bn bc : Nat) (N : Int) (K : Option Addr) (kn kc : Nat)
include h
theorem play_delete (hs : s.length ≤ 140737488355328) :
    Calls Try.prog 14 #[.pointer (some ⟨pb, 0, none⟩), .agg #[.slice A gs.length c, .int .i64 st, .bool ar, .int .i64 lf], .agg #[.int .i64 4, .string (str s), .string (str tn), .slice B bn bc, .int .i64 N, .slice K kn kc]] w (PlayPost w lo (foot pb mb gs)) := by
  have hfew := h.dr.few
  refine play_k4 h s tn B bn bc N K kn kc (lookE s gs ar lf) fun W0 hD => (delete_any hD s).mono ?_
  rintro e w' ⟨rfl, hp⟩
  have hr : w'.ownsRow lo 70 3 (.slice A gs.length c) gs.length (fcs (gs.map Gm.f)) → lo ≤ w'.heap.size → _ := fun ho hle => rdelete_any A gs.length c (gs.map Gm.f) st ar lf s w' lo ho (by simp) hle (by omega) hs
  rw [look_both] at hr
  by_cases hE : lookE s gs ar lf = 0
  · rw [if_pos hE] at hp hr
    rw [← out_both] at hr
    exact ⟨rfl, _, _, _, _, hp.1, hp.2, vn_out h.vn, fun ho hle => (hr ho hle).mono fun e w3 hra => by rw [hE]; exact RPost.ans hra⟩
  · rw [if_neg hE] at hp hr
    exact ⟨rfl, _, _, _, _, hp.1, hp.2, h.vn, fun ho hle => (hr ho hle).mono fun e w3 hra => RPost.ans hra⟩
theorem play_sync (hs : s.length ≤ 140737488355328) :
    Calls Try.prog 14 #[.pointer (some ⟨pb, 0, none⟩), .agg #[.slice A gs.length c, .int .i64 st, .bool ar, .int .i64 lf], .agg #[.int .i64 2, .string (str s), .string (str tn), .slice B bn bc, .int .i64 N, .slice K kn kc]] w (PlayPost w lo (foot pb mb gs)) := by
  have hfew := h.dr.few
  refine play_k2 h s tn B bn bc N K kn kc (lookE s gs ar lf) fun W0 hD => (sync_any hD s).mono ?_
  rintro e w' ⟨rfl, hp⟩
  have hr : w'.ownsRow lo 70 3 (.slice A gs.length c) gs.length (fcs (gs.map Gm.f)) → lo ≤ w'.heap.size → _ := fun ho hle => rsync_any A gs.length c (gs.map Gm.f) st ar lf s w' lo ho (by simp) hle (by omega) hs
  rw [look_both, old_both] at hr
  by_cases hE : lookE s gs ar lf = 0
  · rw [if_pos hE] at hp hr
    obtain ⟨g, hg, hD2, hS⟩ := hp
    rw [← hg, ← with_both] at hr
    have hgn : g.name = s := congrArg Fm.name hg
    exact ⟨rfl, _, _, _, _, hD2, hS, vn_with h.vn (hgn ▸ lookE_vn hE), fun ho hle => (hr ho hle).mono fun e w3 hra => by rw [hE]; exact RPost.ans hra⟩
  · rw [if_neg hE] at hp hr
    exact ⟨rfl, _, _, _, _, hp.1, hp.2, h.vn, fun ho hle => (hr ho hle).mono fun e w3 hra => RPost.ans hra⟩
theorem play_rename (hs : s.length ≤ 140737488355328) (ht : tn.length ≤ 140737488355328) :
    Calls Try.prog 14 #[.pointer (some ⟨pb, 0, none⟩), .agg #[.slice A gs.length c, .int .i64 st, .bool ar, .int .i64 lf], .agg #[.int .i64 3, .string (str s), .string (str tn), .slice B bn bc, .int .i64 N, .slice K kn kc]] w (PlayPost w lo (foot pb mb gs)) := by
  have hfew := h.dr.few
  have hri := rises_both h.dr.rises
  refine play_k3 h s tn B bn bc N K kn kc (renE s tn gs ar lf) fun W0 hD => (rename_any hD s tn).mono ?_
  rintro e w' ⟨rfl, hp⟩
  have hr : w'.ownsRow lo 70 3 (.slice A gs.length c) gs.length (fcs (gs.map Gm.f)) → lo ≤ w'.heap.size → _ := fun ho hle => rrename_any A gs.length c (gs.map Gm.f) st ar lf s tn w' lo ho (by simp) hle (by omega) hs ht hri
  rw [ren_both, old_both] at hr
  by_cases hE : renE s tn gs ar lf = 0
  · rw [if_pos hE] at hp hr
    obtain ⟨g, hg, hD2, hS⟩ := hp
    rw [← hg, ← out_both, ← with_both] at hr
    have hgn : g.name = tn := congrArg Fm.name hg
    exact ⟨rfl, _, _, _, _, hD2, hS, vn_with (vn_out h.vn) (hgn ▸ (renE_vn hE).1), fun ho hle => (hr ho hle).mono fun e w3 hra => by rw [hE]; exact RPost.ans hra⟩
  · rw [if_neg hE] at hp hr
    exact ⟨rfl, _, _, _, _, hp.1, hp.2, h.vn, fun ho hle => (hr ho hle).mono fun e w3 hra => RPost.ans hra⟩
theorem play_arm :
    Calls Try.prog 14 #[.pointer (some ⟨pb, 0, none⟩), .agg #[.slice A gs.length c, .int .i64 st, .bool ar, .int .i64 lf], .agg #[.int .i64 5, .string (str s), .string (str tn), .slice B bn bc, .int .i64 N, .slice K kn kc]] w (PlayPost w lo (foot pb mb gs)) := by
  refine play_k5 h s tn B bn bc N K kn kc (armE N ar lf) fun W0 hD => (arm_any hD N).mono ?_
  rintro e w' ⟨rfl, hp, hS⟩
  have hr : w'.ownsRow lo 70 3 (.slice A gs.length c) gs.length (fcs (gs.map Gm.f)) → _ := fun ho => rarm_any A gs.length c (gs.map Gm.f) st ar lf N w' lo ho (by simp)
  by_cases hE : armE N ar lf = 0
  · rw [if_pos hE] at hp hr
    exact ⟨rfl, _, _, _, _, hp, hS, h.vn, fun ho hle => (hr ho).mono fun e w3 hra => by rw [hE]; exact RPost.ans hra⟩
  · rw [if_neg hE] at hp hr
    exact ⟨rfl, _, _, _, _, hp, hS, h.vn, fun ho hle => (hr ho).mono fun e w3 hra => RPost.ans hra⟩
end
end Go.Proofs.Ytfhlhdpgahbeiaa
