/-
  The reference of the log: the numbers of the segments that are there.
-/
import Derived.Test.YtadkgfhfjagmpaaGreatDoorGWr
import Derived.Deep.CutBlock
namespace Go.Proofs.YtadkgfhfjagmpaaGreatDoor
open Go.RowKit Go.Maps
set_option linter.unusedVariables false

/-- What is read off letters as digits, whatever they are. -/
def dgv (l : List UInt8) : Int := l.foldl (fun a b => 10 * a + (b.toNat : Int) - 48) 0
theorem dgv_snoc (l : List UInt8) (b : UInt8) : dgv (l ++ [b]) = 10 * dgv l + (b.toNat : Int) - 48 := by simp [dgv]
theorem dgv_bnd (l : List UInt8) : -(23 * ((10 : Int) ^ l.length - 1)) ≤ dgv l ∧ dgv l ≤ 23 * ((10 : Int) ^ l.length - 1) := by
  rw [← List.reverse_reverse l]
  generalize l.reverse = r
  induction r with
  | nil => simp [dgv]
  | cons b r ih =>
    rw [List.reverse_cons, dgv_snoc, List.length_append, List.length_cons, List.length_nil, Int.pow_succ]
    have := b.toNat_lt
    generalize (10 : Int) ^ r.reverse.length = p at ih ⊢
    omega
theorem dgv_small {l : List UInt8} (h : l.length ≤ 6) : -23000000 ≤ dgv l ∧ dgv l ≤ 23000000 := by
  have h1 := dgv_bnd l
  have h2 : (10 : Int) ^ l.length ≤ 10 ^ 6 := by
    have := Nat.pow_le_pow_right (show 0 < 10 by decide) h
    exact_mod_cast this
  omega
def digO (s : List UInt8) : Int := if s.length = 10 then dgv (s.drop 4) else 0
theorem digO_wname {k : Nat} (h : k < 1000000) : digO (wname k) = k := by
  unfold digO
  rw [if_pos (wname_len k)]
  show dgv (six k) = k
  unfold dgv six
  simp only [List.foldl_cons, List.foldl_nil, dg_nat]
  omega
/-- The two ways of reading a number off a name tell the same. -/
theorem numI_dig {s : List UInt8} (hs : s ≠ []) : numI s = if 1 ≤ digO s ∧ digO s ≤ 999999 ∧ wname (digO s).toNat = s then digO s else 0 := by
  by_cases hp : 0 < numI s
  · obtain ⟨h1, h2⟩ := numI_pos hp
    have hd : digO s = numI s := by
      conv => lhs; rw [h2]
      rw [digO_wname (by omega)]; omega
    rw [if_pos ⟨by omega, by omega, by rw [hd]; exact h2.symm⟩, hd]
  · split
    · rename_i h
      exfalso
      apply hp
      rw [← h.2.2, numI_name (by omega) (by omega)]
      omega
    · unfold numI at hp ⊢
      split
      · rename_i he
        rw [if_pos he] at hp
        unfold fname at he
        split at he
        · omega
        · exact absurd he.symm hs
      · rfl
theorem vname_len3 {s : List UInt8} (h : vname s = true) : s.length ≤ 32 := by
  unfold vname at h
  simp at h
  omega
set_option maxRecDepth 20000 in
set_option maxHeartbeats 8000000 in
theorem rsegs_any (A : Option Addr) (n c : Nat) (fs : List Fm) (st : Int) (ar : Bool) (lf : Int) (w : World) (hF : Fl w A n fs) (hn : n ≤ 400) (hv : ∀ f ∈ fs, vname f.name = true) :
    Calls Tryz.prog 58 #[.agg #[.slice A n c, .int .i64 st, .bool ar, .int .i64 lf]] w fun e w' => ∃ A' c', e = .returned (.slice A' (segs (fs.map Fm.name)).length c') ∧
      w'.ownsRow w.heap.size 3 1 (.slice A' (segs (fs.map Fm.name)).length c') (segs (fs.map Fm.name)).length ((segs (fs.map Fm.name)).map (Value.int .i64)) ∧ Below w.heap.size w w' := by
  have hfl := hF.1
  have hb0 : Below w.heap.size w (w.alloc (dobj (dcs A n c st ar lf))) := below_alloc1 w _
  have hd0 := Blk.new w (dcs A n c st ar lf) 35
  have hs0 : w.heap.size < (w.alloc (dobj (dcs A n c st ar lf))).heap.size := by simp
  have HV := Lib.hid hv
  go_enter Tryz.func58, Tryz.ntmps58
  generalize hU : w.alloc (dobj (dcs A n c st ar lf)) = U at *
  have HU := Lib.hid (And.intro hb0 (And.intro hd0 hs0))
  clear hb0 hd0 hs0 hv
  go_wp2_with fail
  go_loopw [3, 4] (fun v j wr => ∃ (i : Nat) (xs : List Int) (A' : Option Addr) (c' : Nat), i ≤ n ∧ j = .int .i64 i ∧ v = .slice A' xs.length c' ∧ xs = segs ((fs.take i).map Fm.name) ∧ wr.ownsRow U.heap.size 3 1 (.slice A' xs.length c') xs.length (xs.map (Value.int .i64)) ∧ Below U.heap.size U wr) (fun _ j _ => n - (intOf j).toNat)
  case atStart => exact ⟨0, [], none, 0, Nat.zero_le _, rfl, rfl, rfl, World.ownsRow_nil _ _ _ _, Below.refl _ _⟩
  case round =>
    obtain ⟨i, xs, A', c', hi, rfl, rfl, hxs, hown, hbw⟩ := hrel
    have hxl : xs.length ≤ 400 := by
      have := segs_len ((fs.take i).map Fm.name)
      rw [hxs]
      simp only [List.length_map, List.length_take] at this
      omega
    have HP := Lib.hid hxs
    have c0 := (HU.out.2.1.keep (hbw.block _ HU.out.2.2)).cell (k := 0) rfl
    have HB := Lib.hid (And.intro hown hbw)
    clear hxs
    by_cases hin : i < n
    · have hcN : (i : Int) < n := by omega
      obtain ⟨b, o, f, rfl, hf, c1, c2, c3⟩ := (hF.below ((HU.out.1.trans (hbw.mono HU.out.1.size)).mono (Nat.le_refl _))).at_ hin
      have hfm := List.mem_of_getElem? hf
      have hvn := HV.out f hfm
      have hne : f.name ≠ [] := fun e => by rw [e] at hvn; revert hvn; decide
      have hnl : f.name.length ≤ 32 := vname_len3 hvn
      have hsn : segs ((fs.take (i + 1)).map Fm.name) = if 0 < numI f.name then xs ++ [numI f.name] else xs := by
        rw [List.take_add_one, hf, List.map_append]
        rw [show ((some f).toList.map Fm.name) = [f.name] from rfl, segs_snoc, HP.out]
      rw [numI_dig hne] at hsn
      have HSN := Lib.hid hsn
      generalize f.name = s at *
      have hsz := str_size s
      have HNE := Lib.hid hne
      clear hsn hf hfm hvn hne hown hbw HP
      obtain ⟨wo, hwo⟩ : ∃ wo, wo = wr := ⟨_, rfl⟩
      go_upto_block 2 with fail
      go_cut [6, 7] from 8 to 55 (fun s6 s7 wx => s6 = .int .i64 (digO s) ∧ wx = wr)
      case first =>
        subst hwo
        clear c0 c1 c2 c3 HSN
        go_wp2_with fail
        go_loopw [6, 7] (fun s6 s7 wq => ∃ (k : Nat), 4 ≤ k ∧ k ≤ max 4 s.length ∧ s7 = .int .i64 k ∧ wq = wo ∧ s6 = .int .i64 (if s.length = 10 then dgv ((s.take k).drop 4) else 0) ∧ (s.length ≠ 10 → k = 4)) (fun _ k _ => 40 - (intOf k).toNat)
        case atStart =>
          refine ⟨4, Nat.le_refl _, by omega, rfl, rfl, ?_, fun _ => rfl⟩
          split
          · rename_i h10
            rw [List.drop_of_length_le (by rw [List.length_take]; omega)]; rfl
          · rfl
        case round =>
          obtain ⟨k, hk4, hkm, rfl, rfl, rfl, hk1⟩ := hrel
          by_cases h10 : s.length = 10
          · rw [if_pos h10]
            have h10I : ((str s).size : Int) = 10 := by omega
            by_cases hk10 : k < 10
            · have hkI : (k : Int) < 10 := by omega
              have hix := at_str wr (s := s) (k := k) (by omega)
              have hbd := dgv_small (l := (s.take k).drop 4) (by rw [List.length_drop, List.length_take]; omega)
              have hst : dgv ((s.take (k + 1)).drop 4) = 10 * dgv ((s.take k).drop 4) + ((s[k]'(by omega)).toNat : Int) - 48 := by
                rw [List.take_succ_eq_append_getElem (by omega), List.drop_append_of_le_length (by rw [List.length_take]; omega), dgv_snoc]
              have hb8 := (s[k]'(by omega)).toNat_lt
              have HST := Lib.hid hst
              clear hst
              generalize dgv ((s.take k).drop 4) = D at *
              generalize (s[k]'(by omega)).toNat = B at *
              obtain ⟨hbd1, hbd2⟩ := hbd
              have hBI : (B : Int) ≤ 255 := by omega
              go_wp2_with fail
              exact ⟨⟨k + 1, by omega, by omega, by go_num, trivial, by rw [if_pos h10, HST.out], fun h => absurd h10 h⟩, by simp only [intOf]; omega⟩
            · have hkI : ¬ (k : Int) < ((str s).size : Int) := by omega
              have hdg : dgv ((s.take k).drop 4) = digO s := by
                unfold digO
                rw [if_pos h10, List.take_of_length_le (by omega)]
              rw [hdg]
              clear hdg
              go_wp2_with fail
              go_meet
              exact ⟨rfl, rfl⟩
          · rw [if_neg h10]
            obtain rfl := hk1 h10
            have hdg : digO s = 0 := by unfold digO; rw [if_neg h10]
            have h10I : ¬ ((str s).size : Int) = 10 := by omega
            clear hk1
            by_cases h4 : 4 < s.length
            · have h4I : (4 : Int) < ((str s).size : Int) := by omega
              go_wp2_with fail
              go_meet
              exact ⟨by rw [hdg], rfl⟩
            · have h4I : ¬ (4 : Int) < ((str s).size : Int) := by omega
              go_wp2_with fail
              go_meet
              exact ⟨by rw [hdg], rfl⟩
      case rest =>
        obtain ⟨rfl, rfl⟩ := hcut
        clear hwo c0 c1 c2 c3
        generalize digO s = D at *
        have hsz2 := HB.out.2.size
        by_cases h1 : 1 ≤ D
        · by_cases h9 : D ≤ 999999
          · obtain ⟨k, rfl⟩ : ∃ k : Nat, D = k := ⟨D.toNat, by omega⟩
            have hnm := fun W => name3_any k (by omega) W
            rw [rname_wname (by omega)] at hnm
            by_cases hsk : wname k = s
            · subst hsk
              go_wp2_with (first
                | (go_at_call 10; refine (hnm _).mono ?_; rintro e w2 ⟨rfl, hb2⟩)
                | (at_builtin; refine wpList_app _ rfl (.tmp 52) (.tmp 54) 22 rfl U.heap.size numEl (by decide) _ _ _ rfl ((own_keep HB.out.1 hb2).alloc _) (some ⟨w2.heap.size, 0, none⟩) 1 1 [.int .i64 (k : Int)] rfl (Sl.new _ _ _) (by intro u hu; simp at hu; subst hu; rfl) (by omega) (by have := hb2.size; simp; omega) ?_; intro A4 c4 w4 hown4 hg4 hat4))
              have hb3 := HB.out.2.trans (hb2.mono hsz2)
              have hb4 := (hb3.alloc hb3.size _).grown hg4 (by have := hb3.size; simp; omega) (own_blk (own_keep HB.out.1 hb2))
              have hs := HSN.out
              rw [show (if 1 ≤ (k : Int) ∧ (k : Int) ≤ 999999 ∧ wname ((k : Int)).toNat = wname k then (k : Int) else 0) = k from if_pos ⟨h1, h9, by rw [show ((k : Int)).toNat = k from by omega]⟩, if_pos (by omega)] at hs
              exact ⟨⟨i + 1, xs ++ [(k : Int)], A4, c4, by omega, by go_num, by simp, by rw [hs], by simpa using hown4, hb4⟩, by simp only [intOf]; omega⟩
            · have htl : ∀ l : List UInt8, (str l).toList = l := fun l => ByteArray.toList_mk l
              have f2 : ((str (wname k)).toList == (str s).toList) = false := by rw [htl, htl]; simpa using hsk
              have f3 : ¬ (str (wname k)).toList = (str s).toList := by rw [htl, htl]; exact hsk
              have hs := HSN.out
              rw [show (if 1 ≤ (k : Int) ∧ (k : Int) ≤ 999999 ∧ wname ((k : Int)).toNat = s then (k : Int) else 0) = 0 from if_neg (by rintro ⟨_, _, h⟩; exact hsk (by rwa [show ((k : Int)).toNat = k from by omega] at h)), if_neg (by omega)] at hs
              have HS := Lib.hid hs
              clear htl hsk hs
              go_wp2_with (go_at_call 10; refine (hnm _).mono ?_; rintro e w2 ⟨rfl, hb2⟩)
              exact ⟨⟨i + 1, xs, A', c', by omega, by go_num, rfl, HS.out.symm, own_keep HB.out.1 hb2, HB.out.2.trans (hb2.mono hsz2)⟩, by simp only [intOf]; omega⟩
          · have hs := HSN.out
            rw [show (if 1 ≤ D ∧ D ≤ 999999 ∧ wname D.toNat = s then D else 0) = 0 from if_neg (by rintro ⟨_, h, _⟩; exact h9 h), if_neg (by omega)] at hs
            have HS := Lib.hid hs
            clear hs
            go_wp2_with fail
            exact ⟨⟨i + 1, xs, A', c', by omega, by go_num, rfl, HS.out.symm, HB.out.1, HB.out.2⟩, by simp only [intOf]; omega⟩
        · have hs := HSN.out
          rw [show (if 1 ≤ D ∧ D ≤ 999999 ∧ wname D.toNat = s then D else 0) = 0 from if_neg (by rintro ⟨h, _⟩; exact h1 h), if_neg (by omega)] at hs
          have HS := Lib.hid hs
          clear hs
          go_wp2_with fail
          exact ⟨⟨i + 1, xs, A', c', by omega, by go_num, rfl, HS.out.symm, HB.out.1, HB.out.2⟩, by simp only [intOf]; omega⟩
    · have hcN : ¬ (i : Int) < n := by omega
      go_wp2_with fail
      go_ret
      have he : xs = segs (fs.map Fm.name) := by
        have := HP.out
        rwa [List.take_of_length_le (by omega)] at this
      subst he
      exact ⟨A', c', rfl, own_base HB.out.1 HU.out.1.size, HU.out.1.trans (HB.out.2.mono HU.out.1.size)⟩
end Go.Proofs.YtadkgfhfjagmpaaGreatDoor
