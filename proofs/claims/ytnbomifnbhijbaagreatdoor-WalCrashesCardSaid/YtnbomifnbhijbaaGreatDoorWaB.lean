/-
  A log in memory; the numbers of the segments that exist; what a step's answer makes of a log.
-/
import Derived.Test.YtnbomifnbhijbaaGreatDoorWaA
namespace Go.Proofs.YtnbomifnbhijbaaGreatDoor
open Go.RowKit Go.Maps
set_option linter.unusedVariables false

theorem numEl : El Tryz.prog 37 3 (.int .i64 0) 8 := ⟨Tryz.underlying37, by kernel_rfl, rfl⟩
/-- A log: which drive, which segment, dead or not. -/
def Lg (w : World) (pl pb : Nat) (seg : Int) (dd : Bool) : Prop := Blk w pl #[.pointer (some ⟨pb, 0, none⟩), .int .i64 seg, .bool dd] 73
/-- The numbers of the segments that exist. -/
def segs (ns : List (List UInt8)) : List Int := (ns.map numI).filter fun n => decide (0 < n)
theorem segs_snoc (ns : List (List UInt8)) (s : List UInt8) : segs (ns ++ [s]) = if 0 < numI s then segs ns ++ [numI s] else segs ns := by
  unfold segs
  rw [List.map_append, List.filter_append]
  by_cases h : 0 < numI s <;> simp [h]
theorem segs_len (ns : List (List UInt8)) : (segs ns).length ≤ ns.length := by
  unfold segs
  exact Nat.le_trans (List.length_filter_le _ _) (by simp)

set_option maxHeartbeats 1000000 in
theorem done_any {w : World} {pl pb : Nat} {seg : Int} {dd : Bool} (h : Lg w pl pb seg dd) (e : Int) :
    Calls Tryz.prog 54 #[.pointer (some ⟨pl, 0, none⟩), .int .i64 e] w fun r w' => r = .returned (.int .i64 e) ∧ Lg w' pl pb seg (dd || e == 6) ∧ Stp w w' (fun k => k = pl) (fun k => k = pl) := by
  have h2 := h.cell (k := 2) rfl
  have f2 := h.frozen 2
  by_cases he : e = 6
  · go_enter Tryz.func54, Tryz.ntmps54
    go_wp2_with fail
    go_ret
    have hs := Blk.set h 2 (.bool true)
    subst he
    refine ⟨rfl, ?_, stp_set rfl⟩
    rw [show (dd || (6 : Int) == 6) = true from by simp]
    exact hs
  · go_enter Tryz.func54, Tryz.ntmps54
    go_wp2_with fail
    go_ret
    have : (e == 6) = false := by simpa using he
    rw [this, Bool.or_false]
    exact ⟨rfl, h, Stp.refl _ _⟩

set_option maxHeartbeats 4000000 in
theorem segments_any {w : World} {pl pb mb : Nat} {gs : List Gm} {st lf : Int} {ar : Bool} {seg : Int} {dd : Bool} (h : Dr w pb mb gs st ar lf) (hl : Lg w pl pb seg dd) (hW : WL w) :
    Calls Tryz.prog 24 #[.pointer (some ⟨pl, 0, none⟩)] w fun e w' => ∃ A c, e = .returned (.slice A (segs (gs.map Gm.name)).length c) ∧
      w'.ownsRow w.heap.size 3 1 (.slice A (segs (gs.map Gm.name)).length c) (segs (gs.map Gm.name)).length ((segs (gs.map Gm.name)).map (Value.int .i64)) ∧ Below w.heap.size w w' := by
  have hn := names_any h
  have l0 := hl.cell (k := 0) rfl
  have H := Lib.hid h
  have HL := Lib.hid hl
  have HW := Lib.hid hW
  clear h hl hW
  go_enter Tryz.func24, Tryz.ntmps24
  go_wp2_with (go_at_call 45; refine hn.mono ?_; rintro e w1 ⟨A, c, rfl, hr, hb⟩)
  have hsl := own_sl hr
  have hfew := H.out.few
  clear hr hn l0
  go_loopw [3, 13] (fun v j wr => ∃ (i : Nat) (xs : List Int) (A' : Option Addr) (c' : Nat), i ≤ gs.length ∧ j = .int .i64 i ∧ v = .slice A' xs.length c' ∧ xs = segs ((gs.take i).map Gm.name) ∧ wr.ownsRow w1.heap.size 3 1 (.slice A' xs.length c') xs.length (xs.map (Value.int .i64)) ∧ Below w1.heap.size w1 wr) (fun _ j _ => gs.length - (intOf j).toNat)
  case atStart => exact ⟨0, [], none, 0, Nat.zero_le _, rfl, rfl, rfl, World.ownsRow_nil _ _ _ _, Below.refl _ _⟩
  case round =>
    obtain ⟨i, xs, A', c', hi, rfl, rfl, hxs, hown, hbw⟩ := hrel
    have hxl : xs.length ≤ 256 := by
      have := segs_len ((gs.take i).map Gm.name)
      have hf := H.out.few
      rw [hxs]
      simp only [List.length_map, List.length_take] at this
      omega
    have HP := Lib.hid hxs
    clear hxs
    by_cases hin : i < gs.length
    · have hcN : (i : Int) < gs.length := by omega
      obtain ⟨g, hg⟩ : ∃ g, gs[i]? = some g := ⟨_, List.getElem?_eq_getElem hin⟩
      have hgm : g ∈ gs := List.mem_of_getElem? hg
      have hwl : WL wr := (HW.out.keep hb).keep hbw
      obtain ⟨b, o, u, rfl, hu, hcell⟩ := (hsl.below hbw).at_ hin
      have hu' : u = .string (str g.name) := by
        rw [List.getElem?_map, hg] at hu
        exact (Option.some.inj hu).symm
      subst hu'
      have hnum := number_any g.name (by have := (H.out.file g hgm).2.2.2.2; omega) wr hwl
      have hsn : segs ((gs.take (i + 1)).map Gm.name) = if 0 < numI g.name then xs ++ [numI g.name] else xs := by
        rw [List.take_add_one, hg, List.map_append]
        rw [show ((some g).toList.map Gm.name) = [g.name] from rfl, segs_snoc, HP.out]
      generalize numI g.name = v at hnum hsn
      have HSN := Lib.hid hsn
      clear hu hsn hg hwl
      have hsz := hbw.size
      by_cases hv : v > 0
      · go_wp2_with (first
          | (go_at_call 60; refine hnum.mono ?_; rintro e w2 ⟨rfl, hb2⟩)
          | (at_builtin; refine wpList_app _ rfl (.tmp 21) (.tmp 23) 37 rfl w1.heap.size numEl (by decide) _ _ _ rfl ((own_keep hown hb2).alloc _) (some ⟨w2.heap.size, 0, none⟩) 1 1 [.int .i64 v] rfl (Sl.new _ _ _) (by intro u hu; simp at hu; subst hu; rfl) (by omega) (by have := hb2.size; simp; omega) ?_; intro A4 c4 w4 hown4 hg4 hat4))
        have hb3 := hbw.trans (hb2.mono hsz)
        have hb4 := (hb3.alloc hb3.size _).grown hg4 (by have := hb3.size; simp; omega) (own_blk (own_keep hown hb2))
        exact ⟨⟨i + 1, xs ++ [v], A4, c4, by omega, by go_num, by simp, by rw [HSN.out, if_pos (by omega)], by simpa using hown4, hb4⟩, by simp only [intOf]; omega⟩
      · go_wp2_with (go_at_call 60; refine hnum.mono ?_; rintro e w2 ⟨rfl, hb2⟩)
        exact ⟨⟨i + 1, xs, A', c', by omega, by go_num, rfl, by rw [HSN.out, if_neg (by omega)], own_keep hown hb2, hbw.trans (hb2.mono hsz)⟩, by simp only [intOf]; omega⟩
    · have hcN : ¬ (i : Int) < gs.length := by omega
      go_wp2_with fail
      go_ret
      have he : xs = segs (gs.map Gm.name) := by
        have := HP.out
        rwa [List.take_of_length_le (by omega)] at this
      subst he
      exact ⟨A', c', rfl, own_base hown hb.size, hb.trans (hbw.mono hb.size)⟩
end Go.Proofs.YtnbomifnbhijbaaGreatDoor
