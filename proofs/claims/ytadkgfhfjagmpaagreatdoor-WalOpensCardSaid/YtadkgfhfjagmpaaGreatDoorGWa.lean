/-
  Texts put together: WaA, WaB, WaC, WaD, WaE, WaF.
-/
import Derived.Test.YtadkgfhfjagmpaaGreatDoorWaN
import Derived.Test.YtadkgfhfjagmpaaGreatDoorLay
import Derived.Test.YtadkgfhfjagmpaaGreatDoorGFf
import Derived.Test.YtadkgfhfjagmpaaGreatDoorGDr
import Derived.Lib.AtoiAllCases
import Derived.Lib.AtoiErrMem
namespace Go.Proofs.YtadkgfhfjagmpaaGreatDoor
open Go.RowKit Go.Maps
set_option linter.unusedVariables false

theorem var_below {w w' : World} {name : String} {cs : Array Value} (h : w.var? Tryz.prog name = some cs) (hb : Below w.heap.size w w') : w'.var? Tryz.prog name = some cs := by
  unfold World.var? at h ⊢
  cases hg : Tryz.prog.globalNamed name with
  | none => rw [hg] at h; cases h
  | some g =>
    rw [hg] at h
    simp only [Option.bind_some] at h ⊢
    cases ho : w.heap[g]? with
    | none => rw [ho] at h; cases h
    | some o =>
      have hlt : g < w.heap.size := (Array.getElem?_eq_some_iff.1 ho).1
      rw [hb.block g hlt, ho]
      rw [ho] at h
      exact h
/-- What the program's text lays, as far as the log needs it. -/
structure WL (w : World) : Prop where
  sums : Laid w
  pow : Lib.TabIs Tryz.prog w "internal/strconv.uint64pow10" .u64 Lib.pow10Tab
  syn : ∃ tp p, w.var? Tryz.prog "strconv.ErrSyntax" = some #[.iface tp p]
  rng : ∃ tp p, w.var? Tryz.prog "strconv.ErrRange" = some #[.iface tp p]
theorem WL.keep {w w' : World} (h : WL w) (hb : Below w.heap.size w w') : WL w' := by
  obtain ⟨t1, p1, h1⟩ := h.syn
  obtain ⟨t2, p2, h2⟩ := h.rng
  exact ⟨h.sums.keep hb, var_below h.pow hb, ⟨t1, p1, var_below h1 hb⟩, ⟨t2, p2, var_below h2 hb⟩⟩

def fname (n : Int) : List UInt8 := if 1 ≤ n ∧ n ≤ 999999 then wname n.toNat else []
theorem below_grow (w : World) (k : Nat) (os : Array Obj) : Below w.heap.size w (Go.Sort.grow (w.drewN k) os) := by
  refine ⟨rfl, rfl, rfl, by simp [Go.Sort.grow], fun i hi => ?_⟩
  exact Go.Sort.heap_grow_old _ _ hi
theorem str_cat (a b : List UInt8) : str a ++ str b = str (a ++ b) := by
  apply ByteArray.ext
  simp [str]
theorem name_bytes (k : Nat) : (⟨#[119, 97, 108, 45]⟩ : ByteArray) ++ (⟨(49 :: six k).toArray⟩ : ByteArray).extract 1 ((six k).length + 1) = str (wname k) := by
  have h1 : (⟨(49 :: six k).toArray⟩ : ByteArray).extract 1 ((six k).length + 1) = str (six k) := by
    rw [str_of ((⟨(49 :: six k).toArray⟩ : ByteArray).extract 1 ((six k).length + 1)), Lib.extract_data]
    congr 1
  rw [h1, show (⟨#[119, 97, 108, 45]⟩ : ByteArray) = str [119, 97, 108, 45] from rfl, str_cat]
  rfl
set_option maxHeartbeats 1000000 in
theorem fileName_any (n : Int) (hn : -9223372036854775808 ≤ n ∧ n ≤ 9223372036854775807) (w : World) (hW : WL w) :
    Calls Tryz.prog 67 #[.int .i64 n] w fun e w' => e = .returned (.string (str (fname n))) ∧ Below w.heap.size w w' := by
  have HW := Lib.hid hW
  clear hW
  by_cases h1 : n < 1
  · have he : fname n = [] := by unfold fname; rw [if_neg (by omega)]
    rw [he]
    clear he
    go_enter Tryz.func67, Tryz.ntmps67
    go_wp2_with fail
    go_ret
    exact ⟨rfl, Below.refl _ _⟩
  · by_cases h2 : 999999 < n
    · have he : fname n = [] := by unfold fname; rw [if_neg (by omega)]
      rw [he]
      clear he
      go_enter Tryz.func67, Tryz.ntmps67
      go_wp2_with fail
      go_ret
      exact ⟨rfl, Below.refl _ _⟩
    · obtain ⟨k, rfl⟩ : ∃ k : Nat, n = k := ⟨n.toNat, by omega⟩
      have he : fname (k : Int) = wname k := by unfold fname; rw [if_pos (by omega)]; rfl
      rw [he]
      have hit := itoa_call ((1000000 : Int) + k) (by omega) (by omega) w HW.out.pow
      rw [show Lib.itoa ((1000000 : Int) + k) = 49 :: six k from by rw [← itoa_six (n := k) (by omega)]; congr 1] at hit
      clear he
      go_enter Tryz.func67, Tryz.ntmps67
      go_wp2_with fail
      refine hit.mono ?_
      rintro e w1 ⟨rfl, q, os, rfl⟩
      have hb := below_grow w q os
      generalize Go.Sort.grow (w.drewN q) os = w1 at hb ⊢
      go_wp2_with fail
      go_ret
      refine ⟨?_, hb⟩
      rw [← name_bytes]
      rfl

/-- What Atoi answers. -/
def atoiI (s : List UInt8) : Int := match Lib.atoiAll s with
  | .ok v => v
  | .range => Lib.atoiSat s
  | _ => 0
/-- The number that a name has as a segment's; none is 0. -/
def numI (s : List UInt8) : Int := if fname (atoiI (Lib.trimPrefix s [119, 97, 108, 45])) = s then atoiI (Lib.trimPrefix s [119, 97, 108, 45]) else 0
theorem numI_name {k : Nat} (h1 : 1 ≤ k) (h2 : k ≤ 999999) : numI (wname k) = k := by
  unfold numI
  have he : atoiI (Lib.trimPrefix (wname k) [119, 97, 108, 45]) = k := by
    unfold atoiI
    rw [trim_wname, atoi_six (by omega)]
  rw [he]
  have : fname (k : Int) = wname k := by unfold fname; rw [if_pos (by omega)]; rfl
  rw [if_pos this]
/-- A number above 0 says what the name is. -/
theorem numI_pos {s : List UInt8} (h : 0 < numI s) : numI s ≤ 999999 ∧ s = wname (numI s).toNat := by
  unfold numI at h ⊢
  split at h
  · rename_i he
    rw [if_pos he]
    generalize hn : atoiI (Lib.trimPrefix s [119, 97, 108, 45]) = n at he h ⊢
    unfold fname at he
    split at he
    · exact ⟨by omega, he.symm⟩
    · subst he
      have : atoiI (Lib.trimPrefix [] [119, 97, 108, 45]) = 0 := by decide
      omega
  · omega
theorem numI_none {s : List UInt8} (h : ∀ k : Nat, 1 ≤ k → k ≤ 999999 → s ≠ wname k) (hs : s ≠ []) (n : Int) : fname n ≠ s := by
  unfold fname
  split
  · intro e
    exact h n.toNat (by omega) (by omega) e.symm
  · exact fun e => hs e.symm
theorem atoi_any (s : List UInt8) (hs : s.length ≤ 281474976710656) (w : World) (hW : WL w) :
    Calls Tryz.prog 139 #[.string (str s)] w fun e w' => ∃ v, e = .returned (.tuple #[.int .i64 (atoiI s), v]) ∧ Below w.heap.size w w' := by
  have hsz : (str s).size = s.length := str_size s
  have hd : (str s).data.toList = s := str_data s
  by_cases hn : noNum (Lib.atoiAll s) = true
  · obtain ⟨tp, p, hv⟩ := hW.syn
    have h0 : atoiI s = 0 := by
      unfold atoiI
      cases ha : Lib.atoiAll s with
      | ok u => rw [ha] at hn; simp [noNum] at hn
      | range => rw [ha] at hn; simp [noNum] at hn
      | _ => rfl
    rw [h0]
    refine (atoi_none (str s) (by omega) (by rw [hd]; exact hn) tp p w hv).mono ?_
    rintro e w' ⟨v, rfl, hb⟩
    exact ⟨v, rfl, hb⟩
  · unfold atoiI
    cases ha : Lib.atoiAll s with
    | ok u =>
      refine (atoi_ok (str s) (by omega) u (by rw [hd]; exact ha) w).mono ?_
      rintro e w' ⟨rfl, hw⟩
      refine ⟨_, rfl, ?_⟩
      rcases hw with rfl | ⟨t, rfl⟩
      · exact Below.refl _ _
      · exact Lib.bytesWorld_below _ _ _
    | range =>
      obtain ⟨tp, p, hv⟩ := hW.rng
      refine (atoi_range (str s) (by omega) (by rw [hd]; exact ha) tp p w hv).mono ?_
      rintro e w' ⟨v, rfl, hb⟩
      rw [hd]
      exact ⟨v, rfl, hb⟩
    | _ => exact absurd (by rw [ha]; rfl) hn
theorem atoiI_bounds (s : List UInt8) : -9223372036854775808 ≤ atoiI s ∧ atoiI s ≤ 9223372036854775807 := by
  unfold atoiI
  split
  · rename_i h; exact Lib.atoiAll_bounds h
  · unfold Lib.atoiSat
    split <;> omega
  · omega
theorem trim_len (s p : List UInt8) : (Lib.trimPrefix s p).length ≤ s.length := by
  unfold Lib.trimPrefix
  split
  · simp
  · exact Nat.le_refl _
set_option maxHeartbeats 1000000 in
theorem number_any (s : List UInt8) (hs : s.length ≤ 281474976710656) (w : World) (hW : WL w) :
    Calls Tryz.prog 106 #[.string (str s)] w fun e w' => e = .returned (.int .i64 (numI s)) ∧ Below w.heap.size w w' := by
  have htr := trim_call (str s) ⟨#[119, 97, 108, 45]⟩ w
  rw [str_data] at htr
  have hat := atoi_any (Lib.trimPrefix s [119, 97, 108, 45]) (by have := trim_len s [119, 97, 108, 45]; omega) w hW
  have hnb := atoiI_bounds (Lib.trimPrefix s [119, 97, 108, 45])
  have he : numI s = if fname (atoiI (Lib.trimPrefix s [119, 97, 108, 45])) = s then atoiI (Lib.trimPrefix s [119, 97, 108, 45]) else 0 := rfl
  rw [he]
  clear he
  change Calls _ _ _ _ fun e w' => e = .returned (.string (str (Lib.trimPrefix s [119, 97, 108, 45]))) ∧ w' = w at htr
  generalize Lib.trimPrefix s [119, 97, 108, 45] = t at htr hat hnb ⊢
  generalize atoiI t = n at hat hnb ⊢
  have hfn := fun (w' : World) (hW' : WL w') => fileName_any n hnb w' hW'
  have HF := Lib.hid hfn
  have HW := Lib.hid hW
  clear hW hfn hs
  by_cases he : fname n = s
  · rw [if_pos he]
    go_enter Tryz.func106, Tryz.ntmps106
    go_wp2_with (first
      | (go_at_call 140; refine htr.mono ?_; rintro e w' ⟨rfl, rfl⟩)
      | (go_at_call 139; refine hat.mono ?_; rintro e w1 ⟨v, rfl, hb⟩))
    refine (HF.out w1 (HW.out.keep hb)).mono ?_
    rintro e w2 ⟨rfl, hb2⟩
    have hbb := hb.trans (hb2.mono hb.size)
    rw [he]
    go_wp2_with fail
    go_ret
    exact ⟨rfl, hbb⟩
  · rw [if_neg he]
    go_enter Tryz.func106, Tryz.ntmps106
    go_wp2_with (first
      | (go_at_call 140; refine htr.mono ?_; rintro e w' ⟨rfl, rfl⟩)
      | (go_at_call 139; refine hat.mono ?_; rintro e w1 ⟨v, rfl, hb⟩))
    refine (HF.out w1 (HW.out.keep hb)).mono ?_
    rintro e w2 ⟨rfl, hb2⟩
    have hbb := hb.trans (hb2.mono hb.size)
    have htl : ∀ l, (str l).toList = l := fun l => ByteArray.toList_mk l
    go_wp2_with fail
    · go_ret
      exact ⟨rfl, hbb⟩
    · rename_i h
      exfalso
      simp at h
      exact he h
end Go.Proofs.YtadkgfhfjagmpaaGreatDoor

namespace Go.Proofs.YtadkgfhfjagmpaaGreatDoor
open Go.RowKit Go.Maps
set_option linter.unusedVariables false

theorem numEl : El Tryz.prog 22 3 (.int .i64 0) 8 := ⟨Tryz.underlying22, by kernel_rfl, rfl⟩
/-- A log: which drive, which segment, dead or not. -/
def Lg (w : World) (pl pb : Nat) (seg : Int) (dd : Bool) : Prop := Blk w pl #[.pointer (some ⟨pb, 0, none⟩), .int .i64 seg, .bool dd] 111
/-- The numbers of the segments that exist. -/
def segs (ns : List (List UInt8)) : List Int := (ns.map numI).filter fun n => decide (0 < n)
theorem segs_snoc (ns : List (List UInt8)) (s : List UInt8) : segs (ns ++ [s]) = if 0 < numI s then segs ns ++ [numI s] else segs ns := by
  unfold segs
  rw [List.map_append, List.filter_append]
  by_cases h : 0 < numI s <;> simp [h]
theorem segs_len (ns : List (List UInt8)) : (segs ns).length ≤ ns.length := by
  unfold segs
  exact Nat.le_trans (List.length_filter_le _ _) (by simp)

set_option maxHeartbeats 1000000 in
theorem done_any {w : World} {pl pb : Nat} {seg : Int} {dd : Bool} (h : Lg w pl pb seg dd) (e : Int) :
    Calls Tryz.prog 69 #[.pointer (some ⟨pl, 0, none⟩), .int .i64 e] w fun r w' => r = .returned (.int .i64 e) ∧ Lg w' pl pb seg (dd || e == 6) ∧ Stp w w' (fun k => k = pl) (fun k => k = pl) := by
  have h2 := h.cell (k := 2) rfl
  have f2 := h.frozen 2
  by_cases he : e = 6
  · go_enter Tryz.func69, Tryz.ntmps69
    go_wp2_with fail
    go_ret
    have hs := Blk.set h 2 (.bool true)
    subst he
    refine ⟨rfl, ?_, stp_set rfl⟩
    rw [show (dd || (6 : Int) == 6) = true from by simp]
    exact hs
  · go_enter Tryz.func69, Tryz.ntmps69
    go_wp2_with fail
    go_ret
    have : (e == 6) = false := by simpa using he
    rw [this, Bool.or_false]
    exact ⟨rfl, h, Stp.refl _ _⟩

set_option maxHeartbeats 4000000 in
theorem segments_any {w : World} {pl pb mb : Nat} {gs : List Gm} {st lf : Int} {ar : Bool} {seg : Int} {dd : Bool} (h : Dr w pb mb gs st ar lf) (hl : Lg w pl pb seg dd) (hW : WL w) :
    Calls Tryz.prog 56 #[.pointer (some ⟨pl, 0, none⟩)] w fun e w' => ∃ A c, e = .returned (.slice A (segs (gs.map Gm.name)).length c) ∧
      w'.ownsRow w.heap.size 3 1 (.slice A (segs (gs.map Gm.name)).length c) (segs (gs.map Gm.name)).length ((segs (gs.map Gm.name)).map (Value.int .i64)) ∧ Below w.heap.size w w' := by
  have hn := names_any h
  have l0 := hl.cell (k := 0) rfl
  have H := Lib.hid h
  have HL := Lib.hid hl
  have HW := Lib.hid hW
  clear h hl hW
  go_enter Tryz.func56, Tryz.ntmps56
  go_wp2_with (go_at_call 60; refine hn.mono ?_; rintro e w1 ⟨A, c, rfl, hr, hb⟩)
  have hsl := own_sl hr
  have hfew := H.out.few
  clear hr hn l0
  go_loopw [3, 13] (fun v j wr => ∃ (i : Nat) (xs : List Int) (A' : Option Addr) (c' : Nat), i ≤ gs.length ∧ j = .int .i64 i ∧ v = .slice A' xs.length c' ∧ xs = segs ((gs.take i).map Gm.name) ∧ wr.ownsRow w1.heap.size 3 1 (.slice A' xs.length c') xs.length (xs.map (Value.int .i64)) ∧ Below w1.heap.size w1 wr) (fun _ j _ => gs.length - (intOf j).toNat)
  case atStart => exact ⟨0, [], none, 0, Nat.zero_le _, rfl, rfl, rfl, World.ownsRow_nil _ _ _ _, Below.refl _ _⟩
  case round =>
    obtain ⟨i, xs, A', c', hi, rfl, rfl, hxs, hown, hbw⟩ := hrel
    have hxl : xs.length ≤ 256 := by
      have := segs_len ((gs.take i).map Gm.name)
      have hf := H.out.few
      rw [hxs]
      simp only [List.length_map, List.length_take] at this
      omega
    have HP := Lib.hid hxs
    clear hxs
    by_cases hin : i < gs.length
    · have hcN : (i : Int) < gs.length := by omega
      obtain ⟨g, hg⟩ : ∃ g, gs[i]? = some g := ⟨_, List.getElem?_eq_getElem hin⟩
      have hgm : g ∈ gs := List.mem_of_getElem? hg
      have hwl : WL wr := (HW.out.keep hb).keep hbw
      obtain ⟨b, o, u, rfl, hu, hcell⟩ := (hsl.below hbw).at_ hin
      have hu' : u = .string (str g.name) := by
        rw [List.getElem?_map, hg] at hu
        exact (Option.some.inj hu).symm
      subst hu'
      have hnum := number_any g.name (by have := (H.out.file g hgm).2.2.2.2; omega) wr hwl
      have hsn : segs ((gs.take (i + 1)).map Gm.name) = if 0 < numI g.name then xs ++ [numI g.name] else xs := by
        rw [List.take_add_one, hg, List.map_append]
        rw [show ((some g).toList.map Gm.name) = [g.name] from rfl, segs_snoc, HP.out]
      generalize numI g.name = v at hnum hsn
      have HSN := Lib.hid hsn
      clear hu hsn hg hwl
      have hsz := hbw.size
      by_cases hv : v > 0
      · go_wp2_with (first
          | (go_at_call 106; refine hnum.mono ?_; rintro e w2 ⟨rfl, hb2⟩)
          | (at_builtin; refine wpList_app _ rfl (.tmp 21) (.tmp 23) 22 rfl w1.heap.size numEl (by decide) _ _ _ rfl ((own_keep hown hb2).alloc _) (some ⟨w2.heap.size, 0, none⟩) 1 1 [.int .i64 v] rfl (Sl.new _ _ _) (by intro u hu; simp at hu; subst hu; rfl) (by omega) (by have := hb2.size; simp; omega) ?_; intro A4 c4 w4 hown4 hg4 hat4))
        have hb3 := hbw.trans (hb2.mono hsz)
        have hb4 := (hb3.alloc hb3.size _).grown hg4 (by have := hb3.size; simp; omega) (own_blk (own_keep hown hb2))
        exact ⟨⟨i + 1, xs ++ [v], A4, c4, by omega, by go_num, by simp, by rw [HSN.out, if_pos (by omega)], by simpa using hown4, hb4⟩, by simp only [intOf]; omega⟩
      · go_wp2_with (go_at_call 106; refine hnum.mono ?_; rintro e w2 ⟨rfl, hb2⟩)
        exact ⟨⟨i + 1, xs, A', c', by omega, by go_num, rfl, by rw [HSN.out, if_neg (by omega)], own_keep hown hb2, hbw.trans (hb2.mono hsz)⟩, by simp only [intOf]; omega⟩
    · have hcN : ¬ (i : Int) < gs.length := by omega
      go_wp2_with fail
      go_ret
      have he : xs = segs (gs.map Gm.name) := by
        have := HP.out
        rwa [List.take_of_length_le (by omega)] at this
      subst he
      exact ⟨A', c', rfl, own_base hown hb.size, hb.trans (hbw.mono hb.size)⟩
end Go.Proofs.YtadkgfhfjagmpaaGreatDoor

namespace Go.Proofs.YtadkgfhfjagmpaaGreatDoor
open Go.RowKit Go.Maps
set_option linter.unusedVariables false

/-- What a log and its drive hold. -/
structure Ws where
  fs : List Fm
  st : Int
  ar : Bool
  lf : Int
  seg : Int
  dd : Bool
def wfoot (pl pb mb : Nat) (gs : List Gm) (k : Nat) : Prop := k = pl ∨ foot pb mb gs k
structure Wl (w0 w : World) (pl pb mb : Nat) (gs : List Gm) (x : Ws) : Prop where
  lay : WL w0
  bel : Below w0.heap.size w0 w
  dr : Dr w pb mb gs x.st x.ar x.lf
  lg : Lg w pl pb x.seg x.dd
  fs : gs.map Gm.f = x.fs
  seg1 : 1 ≤ x.seg
  seg2 : x.seg ≤ 1000000
  vn : ∀ g ∈ gs, vname g.name = true
  lo : ∀ k, wfoot pl pb mb gs k → w0.heap.size ≤ k
section
variable {w0 w w' : World} {pl pb mb : Nat} {gs gs' : List Gm} {x : Ws}
theorem Wl.out (h : Wl w0 w pl pb mb gs x) : ¬ foot pb mb gs pl := fun hk => by
  have hl := h.lg
  rcases h.dr.kind hk with ⟨es, c, hm⟩ | ⟨cs, t, hb, ht⟩
  · unfold Lg Blk at hl; rw [hl] at hm; cases hm
  · unfold Lg Blk at hl
    unfold Blk at hb
    rw [hl] at hb
    injection hb with hb
    injection hb with _ hb
    subst hb
    revert ht
    decide
theorem Stp.wide (h : Stp w w' (foot pb mb gs) (foot pb mb gs')) : Stp w w' (wfoot pl pb mb gs) (wfoot pl pb mb gs') :=
  ⟨⟨h.oth.os, h.oth.tape, h.oth.output, h.oth.size, fun k hk hn => h.oth.block k hk fun e => hn (.inr e)⟩, fun k hk => by
    rcases hk with e | e
    · exact .inl (.inl e)
    · rcases h.sub k e with e | e
      · exact .inl (.inr e)
      · exact .inr e⟩
theorem Stp.wideL (h : Stp w w' (fun k => k = pl) (fun k => k = pl)) : Stp w w' (wfoot pl pb mb gs) (wfoot pl pb mb gs) :=
  ⟨⟨h.oth.os, h.oth.tape, h.oth.output, h.oth.size, fun k hk hn => h.oth.block k hk fun e => hn (.inl e)⟩, fun k hk => .inl hk⟩
theorem Wl.belS (h : Wl w0 w pl pb mb gs x) (hS : Stp w w' (wfoot pl pb mb gs) (wfoot pl pb mb gs')) : Below w0.heap.size w0 w' :=
  h.bel.trans (hS.oth.below h.lo h.bel.size)
theorem Wl.loS (h : Wl w0 w pl pb mb gs x) (hS : Stp w w' (wfoot pl pb mb gs) (wfoot pl pb mb gs')) : ∀ k, wfoot pl pb mb gs' k → w0.heap.size ≤ k := fun k hk => by
  rcases hS.sub k hk with e | e
  · exact h.lo k e
  · exact Nat.le_trans h.bel.size e
/-- A call that only makes new memory. -/
theorem Wl.below (h : Wl w0 w pl pb mb gs x) (hb : Below w.heap.size w w') : Wl w0 w' pl pb mb gs x :=
  ⟨h.lay, h.bel.trans (hb.mono h.bel.size), h.dr.below hb (Nat.le_refl _), h.lg.keep (hb.block _ h.lg.lt), h.fs, h.seg1, h.seg2, h.vn, h.lo⟩
theorem Wl.wl (h : Wl w0 w pl pb mb gs x) : WL w := h.lay.keep h.bel
/-- A step of the drive. -/
theorem Wl.drive (h : Wl w0 w pl pb mb gs x) (hS : Stp w w' (foot pb mb gs) (foot pb mb gs')) {st lf : Int} {fs : List Fm} (hD : Dr w' pb mb gs' st x.ar lf) (hf : gs'.map Gm.f = fs) (hv : ∀ g ∈ gs', vname g.name = true) :
    Wl w0 w' pl pb mb gs' { x with fs := fs, st := st, lf := lf } ∧ Stp w w' (wfoot pl pb mb gs) (wfoot pl pb mb gs') :=
  ⟨⟨h.lay, h.belS (Stp.wide hS), hD, h.lg.keep (hS.oth.block _ h.lg.lt h.out), hf, h.seg1, h.seg2, hv, h.loS (Stp.wide hS)⟩, Stp.wide hS⟩
/-- A store into the log. -/
theorem Wl.log (h : Wl w0 w pl pb mb gs x) (hS : Stp w w' (fun k => k = pl) (fun k => k = pl)) {seg : Int} {dd : Bool} (hL : Lg w' pl pb seg dd) (h1 : 1 ≤ seg) (h2 : seg ≤ 1000000) :
    Wl w0 w' pl pb mb gs { x with seg := seg, dd := dd } ∧ Stp w w' (wfoot pl pb mb gs) (wfoot pl pb mb gs) :=
  ⟨⟨h.lay, h.belS (Stp.wideL hS), h.dr.keep fun k hk => hS.oth.block k (h.dr.foot_lt hk) fun e => h.out (e ▸ hk), hL, h.fs, h1, h2, h.vn, h.lo⟩, Stp.wideL hS⟩
end

theorem fname_len (n : Int) : (fname n).length ≤ 10 := by
  unfold fname
  split
  · exact Nat.le_of_eq (wname_len _)
  · simp
theorem vname_wname (k : Nat) : vname (wname k) = true := by
  have hd : ∀ j, vbyte (dg j) = true := fun j => by
    unfold vbyte
    have := dg_nat j
    simp only [decide_eq_true_eq]
    omega
  unfold vname
  rw [wname_len]
  simp only [wname, six, List.all_append, List.all_cons, List.all_nil, hd]
  decide

def stepX (x : Ws) : Ws := { x with st := wrap64 (x.st + 1), lf := lf1 x.ar x.lf }
def syncX (x : Ws) : Ws × Int := if x.dd then (x, 6) else match findK Fm.name (fname x.seg) x.fs with
  | none => (x, 0)
  | some f => if f.data.length - f.syn = 0 then (x, 0) else if dead x.ar x.lf then ({ x with dd := true }, 6) else ({ stepX x with fs := withK Fm.name ⟨f.name, f.data, f.data.length⟩ x.fs }, 0)

def WlPost (w0 w : World) (pl pb mb : Nat) (gs : List Gm) (x : Ws) (w' : World) : Prop := ∃ gs', Wl w0 w' pl pb mb gs' x ∧ Stp w w' (wfoot pl pb mb gs) (wfoot pl pb mb gs')
end Go.Proofs.YtadkgfhfjagmpaaGreatDoor

namespace Go.Proofs.YtadkgfhfjagmpaaGreatDoor
open Go.RowKit Go.Maps
set_option linter.unusedVariables false

theorem find_fs {gs : List Gm} {fs : List Fm} (h : gs.map Gm.f = fs) (s : List UInt8) : findK Fm.name s fs = (findK Gm.name s gs).map Gm.f := by
  rw [← h]; exact (find_map (key := Gm.name) (key' := Fm.name) Gm.f (fun _ => rfl) s gs).symm
theorem with_fs {gs : List Gm} {fs : List Fm} (h : gs.map Gm.f = fs) (g : Gm) : (withK Gm.name g gs).map Gm.f = withK Fm.name g.f fs := by
  rw [← h]; exact with_map (key := Gm.name) (key' := Fm.name) Gm.f (fun _ => rfl) g gs
theorem below_drewN (w : World) (q : Nat) : Below w.heap.size w (w.drewN q) := ⟨rfl, rfl, rfl, Nat.le_refl _, fun _ _ => rfl⟩
set_option maxHeartbeats 4000000 in
theorem lsync_any {w0 w : World} {pl pb mb : Nat} {gs : List Gm} {x : Ws} (h : Wl w0 w pl pb mb gs x) :
    Calls Tryz.prog 116 #[.pointer (some ⟨pl, 0, none⟩)] w fun e w' => e = .returned (.int .i64 (syncX x).2) ∧ WlPost w0 w pl pb mb gs (syncX x).1 w' := by
  have l0 := h.lg.cell (k := 0) rfl
  have l1 := h.lg.cell (k := 1) rfl
  have l2 := h.lg.cell (k := 2) rfl
  have hfn := fileName_any x.seg (by have := h.seg1; have := h.seg2; omega) w h.wl
  have H := Lib.hid h
  cases hd : x.dd with
  | true =>
    have he : syncX x = (x, 6) := by simp [syncX, hd]
    rw [he]
    rw [hd] at l2
    clear h hfn hd he
    go_enter Tryz.func116, Tryz.ntmps116
    go_wp2_with fail
    go_ret
    exact ⟨rfl, gs, H.out, Stp.refl _ _⟩
  | false =>
    rw [hd] at l2
    have hlen := fname_len x.seg
    have hE : ∀ w1, Below w.heap.size w w1 → w1.cell? ⟨pl, 0, none⟩ = some (.pointer (some ⟨pb, 0, none⟩)) := fun w1 hb => (h.below hb).lg.cell (k := 0) rfl
    cases hf : findK Gm.name (fname x.seg) gs with
    | none =>
      have he : syncX x = (x, 0) := by simp [syncX, hd, find_fs h.fs, hf]
      rw [he]
      have hls : ∀ w1, Below w.heap.size w w1 → Calls Tryz.prog 48 #[.pointer (some ⟨pb, 0, none⟩), .string (str (fname x.seg))] w1 fun e w' => e = .returned (.int .i64 0) ∧ ∃ q, w' = w1.drewN q := fun w1 hb => by
        have := loose_any (h.below hb).dr (fname x.seg) (by simp only [maxLen]; omega)
        rwa [show looseG (fname x.seg) gs = 0 from by simp [looseG, hf]] at this
      have HLS := Lib.hid hls
      have HE := Lib.hid hE
      clear h hd he hls hE hf hlen
      generalize fname x.seg = nm at *
      go_enter Tryz.func116, Tryz.ntmps116
      go_wp2_with (first
        | (go_at_call 67; refine hfn.mono ?_; rintro e w1 ⟨rfl, hb⟩; have m0 := HE.out w1 hb)
        | (go_at_call 48; refine (HLS.out w1 hb).mono ?_; rintro e w2 ⟨rfl, q, rfl⟩))
      go_ret
      exact ⟨rfl, gs, (H.out.below hb).below (below_drewN w1 q), Stp.wide (Below.stp (hb.trans ((below_drewN w1 q).mono hb.size)))⟩
    | some g =>
      have hgm := find_some hf
      have hls : ∀ w1, Below w.heap.size w w1 → Calls Tryz.prog 48 #[.pointer (some ⟨pb, 0, none⟩), .string (str (fname x.seg))] w1 fun e w' => e = .returned (.int .i64 ((g.f.data.length - g.f.syn : Nat) : Int)) ∧ ∃ q, w' = w1.drewN q := fun w1 hb => by
        have := loose_any (h.below hb).dr (fname x.seg) (by simp only [maxLen]; omega)
        rwa [show looseG (fname x.seg) gs = g.f.data.length - g.f.syn from by simp [looseG, hf]] at this
      have HLS := Lib.hid hls
      have HE := Lib.hid hE
      by_cases h0 : g.f.data.length - g.f.syn = 0
      · have he : syncX x = (x, 0) := by simp [syncX, hd, find_fs h.fs, hf, h0]
        rw [he]
        rw [h0] at HLS
        clear h hd he hls hE hf hlen h0
        generalize fname x.seg = nm at *
        go_enter Tryz.func116, Tryz.ntmps116
        go_wp2_with (first
          | (go_at_call 67; refine hfn.mono ?_; rintro e w1 ⟨rfl, hb⟩; have m0 := HE.out w1 hb)
          | (go_at_call 48; refine (HLS.out w1 hb).mono ?_; rintro e w2 ⟨rfl, q, rfl⟩))
        go_ret
        exact ⟨rfl, gs, (H.out.below hb).below (below_drewN w1 q), Stp.wide (Below.stp (hb.trans ((below_drewN w1 q).mono hb.size)))⟩
      · have hlk : lookE (fname x.seg) gs x.ar x.lf = code1 x.ar x.lf := by
          have hv : vname (fname x.seg) = true := by rw [← hgm.2]; exact h.vn g hgm.1
          simp [lookE, hv, hf]
        have hsy : ∀ w1, Below w.heap.size w w1 → Calls Tryz.prog 162 #[.pointer (some ⟨pb, 0, none⟩), .string (str (fname x.seg))] w1 fun e w' => e = .returned (.int .i64 (code1 x.ar x.lf)) ∧ WlPost w0 w pl pb mb gs (if dead x.ar x.lf then x else (syncX x).1) w' := fun w1 hb => by
          have H1 := h.below hb
          have hc := sync_any H1.dr (fname x.seg)
          rw [hlk] at hc
          refine hc.mono ?_
          rintro e w2 ⟨rfl, hw⟩
          refine ⟨rfl, ?_⟩
          have hb1 : Stp w w1 (wfoot pl pb mb gs) (wfoot pl pb mb gs) := Stp.wide (Below.stp hb)
          cases hdd : dead x.ar x.lf with
          | true =>
            rw [if_neg (by simp [code1, hdd])] at hw
            have := H1.drive hw.2 hw.1 h.fs h.vn
            exact ⟨gs, this.1, hb1.trans this.2⟩
          | false =>
            rw [if_pos (by simp [code1, hdd])] at hw
            obtain ⟨g', hg', hD, hS⟩ := hw
            have hof : oldF (fname x.seg) gs = g.f := by simp [oldF, hf]
            rw [hof] at hg'
            have := H1.drive hS hD (with_fs h.fs g') (fun y hy => by
              rcases mem_with hy with rfl | hy
              · rw [show y.name = fname x.seg from by rw [show y.name = y.f.name from rfl, hg'], ← hgm.2]; exact h.vn g hgm.1
              · exact h.vn y hy)
            have he : (syncX x).1 = { stepX x with fs := withK Fm.name g'.f x.fs } := by
              rw [hg', ← hgm.2]
              simp [syncX, hd, find_fs h.fs, hf, h0, hdd]
            rw [if_neg (by decide), he]
            exact ⟨_, this.1, hb1.trans this.2⟩
        have he2 : (syncX x).2 = code1 x.ar x.lf := by
          cases hdd : dead x.ar x.lf <;> simp [syncX, hd, find_fs h.fs, hf, h0, hdd, code1]
        have he1 : (syncX x).1 = if dead x.ar x.lf then { x with dd := true } else (syncX x).1 := by
          cases hdd : dead x.ar x.lf
          · rfl
          · simp [syncX, hd, find_fs h.fs, hf, h0, hdd]
        have hxd : (syncX x).1.dd = true ∨ (syncX x).1.dd = false := by cases (syncX x).1.dd <;> simp
        have hsd : dead x.ar x.lf = false → (syncX x).1.dd = false := fun hdd => by simp [syncX, hd, find_fs h.fs, hf, h0, hdd, stepX]
        have hdn : ∀ w2, WlPost w0 w pl pb mb gs (if dead x.ar x.lf then x else (syncX x).1) w2 → Calls Tryz.prog 69 #[.pointer (some ⟨pl, 0, none⟩), .int .i64 (code1 x.ar x.lf)] w2 fun e w' => e = .returned (.int .i64 (code1 x.ar x.lf)) ∧ WlPost w0 w pl pb mb gs (syncX x).1 w' := by
          rintro w2 ⟨gs2, h2, hS2⟩
          refine (done_any h2.lg (code1 x.ar x.lf)).mono ?_
          rintro e w3 ⟨rfl, hL, hS⟩
          refine ⟨rfl, ?_⟩
          have := h2.log hS hL h2.seg1 h2.seg2
          refine ⟨gs2, ?_, hS2.trans this.2⟩
          have h3 := this.1
          rw [he1]
          cases hdd : dead x.ar x.lf with
          | true =>
            rw [hdd] at h3
            simpa [code1, hdd] using h3
          | false =>
            rw [hdd] at h3
            have hq := hsd hdd
            generalize (syncX x).1 = y at h3 hq ⊢
            obtain ⟨y1, y2, y3, y4, y5, y6⟩ := y
            simp only at hq
            subst hq
            simpa [code1, hdd] using h3
        rw [he2]
        have HSY := Lib.hid hsy
        have HDN := Lib.hid hdn
        have hcb : (-9223372036854775808 : Int) ≤ code1 x.ar x.lf ∧ code1 x.ar x.lf ≤ 9223372036854775807 := by unfold code1; split <;> omega
        generalize (syncX x).1 = y at *
        generalize code1 x.ar x.lf = cd at *
        have hlc : ¬ ((g.f.data.length - g.f.syn : Nat) : Int) = 0 := by omega
        clear h hd hls hE hf hlen hlk hsy hdn he2 he1 hxd hsd
        generalize g.f.data.length - g.f.syn = ln at *
        generalize fname x.seg = nm at *
        go_enter Tryz.func116, Tryz.ntmps116
        go_wp2_with (first
          | (go_at_call 67; refine hfn.mono ?_; rintro e w1 ⟨rfl, hb⟩; have m0 := HE.out w1 hb)
          | (go_at_call 48; refine (HLS.out w1 hb).mono ?_; rintro e w2 ⟨rfl, q, rfl⟩; have hbq := hb.trans ((below_drewN w1 q).mono hb.size); have m1 := HE.out _ hbq)
          | (go_at_call 162; refine (HSY.out _ hbq).mono ?_; rintro e w3 ⟨rfl, hw3⟩)
          | (go_at_call 69; refine (HDN.out _ hw3).mono ?_; rintro e w4 ⟨rfl, hw4⟩))
        go_ret
        exact ⟨rfl, hw4⟩
end Go.Proofs.YtadkgfhfjagmpaaGreatDoor

namespace Go.Proofs.YtadkgfhfjagmpaaGreatDoor
open Go.RowKit Go.Maps
set_option linter.unusedVariables false

def rollX (x : Ws) : Ws × Int × Int := if (syncX x).2 = 0 then ({ (syncX x).1 with seg := min (syncX x).1.seg 999999 + 1 }, min (syncX x).1.seg 999999 + 1, 0) else ((syncX x).1, 0, (syncX x).2)
set_option maxHeartbeats 4000000 in
theorem roll_any {w0 w : World} {pl pb mb : Nat} {gs : List Gm} {x : Ws} (h : Wl w0 w pl pb mb gs x) :
    Calls Tryz.prog 68 #[.pointer (some ⟨pl, 0, none⟩)] w fun e w' => e = .returned (.tuple #[.int .i64 (rollX x).2.1, .int .i64 (rollX x).2.2]) ∧ WlPost w0 w pl pb mb gs (rollX x).1 w' := by
  have hsy := lsync_any h
  unfold rollX
  generalize (syncX x).1 = y at hsy ⊢
  generalize (syncX x).2 = cd at hsy ⊢
  by_cases hc : cd = 0
  · rw [if_pos hc]
    subst hc
    go_enter Tryz.func68, Tryz.ntmps68
    go_wp2_with (go_at_call 116; refine hsy.mono ?_; rintro e w1 ⟨rfl, gs1, hw1, hS1⟩; have m1 := hw1.lg.cell (k := 1) rfl; have f1 := hw1.lg.frozen 1; have b1 := hw1.seg1; have b2 := hw1.seg2)
    go_ret2
    have hL : Lg (w1.setCell ⟨pl, 1, none⟩ (.int .i64 (min y.seg 999999 + 1))) pl pb (min y.seg 999999 + 1) y.dd := Blk.set hw1.lg 1 _
    have := hw1.log (stp_set rfl) hL (by omega) (by omega)
    exact ⟨rfl, gs1, this.1, hS1.trans this.2⟩
  · rw [if_neg hc]
    go_enter Tryz.func68, Tryz.ntmps68
    go_wp2_with (go_at_call 116; refine hsy.mono ?_; rintro e w1 ⟨rfl, hw1⟩)
    go_ret2
    exact ⟨rfl, hw1⟩
end Go.Proofs.YtadkgfhfjagmpaaGreatDoor

namespace Go.Proofs.YtadkgfhfjagmpaaGreatDoor
open Go.RowKit Go.Maps
set_option linter.unusedVariables false

def doneX (y : Ws) (c : Int) : Ws := { y with dd := y.dd || c == 6 }
theorem wdone_any {w0 w : World} {pl pb mb : Nat} {gs : List Gm} {x : Ws} (h : Wl w0 w pl pb mb gs x) (c : Int) :
    Calls Tryz.prog 69 #[.pointer (some ⟨pl, 0, none⟩), .int .i64 c] w fun e w' => e = .returned (.int .i64 c) ∧ WlPost w0 w pl pb mb gs (doneX x c) w' := by
  refine (done_any h.lg c).mono ?_
  rintro e w3 ⟨rfl, hL, hS⟩
  have := h.log hS hL h.seg1 h.seg2
  exact ⟨rfl, gs, this⟩
def oldL (s : List UInt8) (fs : List Fm) : Fm := match findK Fm.name s fs with | some f => f | none => emptyF s
def dappX (y : Ws) (l : List UInt8) : Ws × Int :=
  if (findK Fm.name (fname y.seg) y.fs = none ∧ 256 ≤ y.fs.length) ∨ 262144 < (oldL (fname y.seg) y.fs).data.length + l.length then (y, 5)
  else if dead y.ar y.lf then (y, 6)
  else ({ stepX y with fs := withK Fm.name ⟨fname y.seg, (oldL (fname y.seg) y.fs).data ++ l, (oldL (fname y.seg) y.fs).syn⟩ y.fs }, 0)
theorem oldL_gs {gs : List Gm} {fs : List Fm} (h : gs.map Gm.f = fs) (s : List UInt8) : oldL s fs = oldF s gs := by
  unfold oldL oldF
  rw [find_fs h]
  cases findK Gm.name s gs <;> rfl
theorem dapp_any {w0 w : World} {pl pb mb : Nat} {gs : List Gm} {y : Ws} (h : Wl w0 w pl pb mb gs y) (hs : y.seg ≤ 999999) (A : Option Addr) (n c : Nat) (l : List UInt8) (hl : Sl w A n (bv l)) (hn : n ≤ 140737488355328)
    (hA : ∀ k, (Value.slice A n c).ownBlock = some k → ¬ foot pb mb gs k) :
    Calls Tryz.prog 70 #[.pointer (some ⟨pb, 0, none⟩), .string (str (fname y.seg)), .slice A n c] w fun e w' => e = .returned (.int .i64 (dappX y l).2) ∧ WlPost w0 w pl pb mb gs (dappX y l).1 w' := by
  have hll := hl.len
  have hname : fname y.seg = wname y.seg.toNat := by unfold fname; rw [if_pos ⟨h.seg1, hs⟩]
  have hv : vname (fname y.seg) = true := by rw [hname]; exact vname_wname _
  have hc := append_any h.dr (fname y.seg) A n c l hl hn hA
  have ho := oldL_gs h.fs (fname y.seg)
  have hfn : (findK Fm.name (fname y.seg) y.fs = none ∧ 256 ≤ y.fs.length) ↔ (findK Gm.name (fname y.seg) gs = none ∧ 256 ≤ gs.length) := by
    rw [find_fs h.fs, ← h.fs, List.length_map]
    cases findK Gm.name (fname y.seg) gs <;> simp
  have hsz : sizeG (fname y.seg) gs = (oldF (fname y.seg) gs).data.length := by
    unfold sizeG oldF
    cases findK Gm.name (fname y.seg) gs <;> rfl
  have he : appE (fname y.seg) n gs y.ar y.lf = (dappX y l).2 := by
    unfold appE dappX
    rw [hv, if_neg (by decide), ho, hsz]
    simp only [hfn, hll]
    split
    · rfl
    · split <;> rfl
  refine hc.mono ?_
  rintro e w1 ⟨rfl, hw⟩
  rw [he] at hw ⊢
  refine ⟨rfl, ?_⟩
  by_cases h0 : (dappX y l).2 = 0
  · rw [if_pos h0] at hw
    obtain ⟨g, hg, hD, hS⟩ := hw
    have h1 : (dappX y l).1 = { stepX y with fs := withK Fm.name g.f y.fs } := by
      unfold dappX at h0 ⊢
      split at h0
      · cases h0
      · rename_i hc1
        split at h0
        · cases h0
        · rename_i hc2
          rw [if_neg hc1, if_neg hc2, hg, ho]
    have := h.drive hS hD (with_fs h.fs g) (fun z hz => by
      rcases mem_with hz with rfl | hz
      · rw [show z.name = fname y.seg from by rw [show z.name = z.f.name from rfl, hg]]; exact hv
      · exact h.vn z hz)
    rw [h1]
    exact ⟨_, this⟩
  · rw [if_neg h0] at hw
    have h1 : (dappX y l).1 = y := by
      unfold dappX at h0 ⊢
      split
      · rfl
      · split
        · rfl
        · rename_i hc1 hc2
          rw [if_neg hc1, if_neg hc2] at h0
          exact absurd rfl h0
    have := h.drive hw.2 hw.1 h.fs h.vn
    rw [h1]
    exact ⟨gs, this⟩
end Go.Proofs.YtadkgfhfjagmpaaGreatDoor
