/-
  The law DriveSyncs as a walk.
-/
import Derived.Test.YtfhlhdpgahbeiaaBuilt
import Derived.Test.YtfhlhdpgahbeiaaAwk
import Derived.Test.YtfhlhdpgahbeiaaCrL
namespace Go.Proofs.Ytfhlhdpgahbeiaa
open Go.RowKit Go.Maps
set_option linter.unusedVariables false

def fil (n k : Nat) : Array Value := (List.replicate k (Value.int .i64 1099511627776) ++ List.replicate (n - k) (Value.int .i64 0)).toArray
theorem fil_size {n k : Nat} (h : k ≤ n) : (fil n k).size = n := by simp [fil]; omega
theorem fil_next {n k : Nat} (h : k < n) : (fil n k).setIfInBounds k (.int .i64 1099511627776) = fil n (k + 1) := by
  apply Array.ext'
  unfold fil
  rw [Array.toList_setIfInBounds]
  obtain ⟨m, hm⟩ : ∃ m, n - k = m + 1 := ⟨n - k - 1, by omega⟩
  have hm2 : n - (k + 1) = m := by omega
  rw [hm, hm2, List.replicate_succ' (n := k)]
  simp only
  rw [List.set_append_right _ _ (by simp)]
  simp [List.replicate_succ, List.append_assoc]
theorem fil_sl {W : World} {b n : Nat} (h : Blk W b (fil n n) 3) : Sl W (some ⟨b, 0, none⟩) n (iv (List.replicate n 1099511627776)) := by
  refine ⟨by simp [iv], fun _ => ⟨b, 0, rfl, fun j u hu => ?_⟩⟩
  rw [Nat.zero_add]
  refine h.cell ?_
  have : (fil n n).toList = iv (List.replicate n 1099511627776) := by simp [fil, iv]
  rw [← Array.getElem?_toList, this]
  exact hu
theorem fil_made (n : Nat) : madeCells (Value.int .i64 0).cells (n * 1) = fil n 0 := by
  apply Array.ext'
  have e1 : (Value.int IntKind.i64 0).cells = #[.int .i64 0] := rfl
  rw [e1, toList_madeCells_one]
  simp [fil]
theorem intEl : El Try.prog 41 3 (.int .i64 0) 8 := ⟨Try.underlying41, by kernel_rfl, rfl⟩
theorem mk_fil (W : World) : (Instr.makeSlice 41 (.int .i64 300) (.int .i64 300)).run Try.prog W = .ok (.slice (some ⟨W.heap.size, 0, none⟩) 300 300) (W.alloc (.cells (fil 300 0) 3)) := by
  obtain ⟨i, hi, hz0, hz1, hz2⟩ := info_parts intEl.hi
  have h := run_make (P := Try.prog) W 41 3 i (.int .i64 0) intEl.ht hi hz0 .i64 .i64 (300 : Int) (300 : Int) (by omega) (by omega) (by rw [hz2]; omega) (by omega)
  rw [h, hz1]
  have e : madeCells (Value.int .i64 0).cells ((300 : Int).toNat * 1) = fil 300 0 := fil_made 300
  rw [e]
  rfl

/-- Where the loop over the names stands. -/
def SyL (w wr : World) (pb mb : Nat) (gs : List Gm) (ar : Bool) (B : Nat) (A5 : Option Addr) (c5 : Nat) (i : Nat) : Prop :=
  ∃ gs' st' lf', Dr wr pb mb gs' st' ar lf' ∧ gs'.map nd = gs.map nd ∧ (∀ g ∈ gs', vname g.name = true) ∧ Syd (gs.map Gm.name) i gs' ∧ (∀ k, foot pb mb gs' k → w.heap.size ≤ k) ∧
    wr.ownsRow B 9 1 (.slice A5 gs.length c5) gs.length (gs.map fun g => sv g.name) ∧ Below w.heap.size w wr
theorem nd_names {gs hs : List Gm} (h : gs.map nd = hs.map nd) : gs.map Gm.name = hs.map Gm.name := by
  have h1 : ∀ l : List Gm, l.map Gm.name = (l.map nd).map Prod.fst := fun l => by rw [List.map_map]; rfl
  rw [h1, h1, h]
/-- One file synced. -/
theorem SyL.next {w wr w6 : World} {pb mb : Nat} {gs gs' : List Gm} {st lf st' lf' : Int} {ar : Bool} {B : Nat} {A5 : Option Addr} {c5 i : Nat} {g0 g2 g : Gm} (hlo : w.heap.size ≤ wr.heap.size)
    (hD : Dr wr pb mb gs' st' ar lf') (hnd : gs'.map nd = gs.map nd) (hv : ∀ g ∈ gs', vname g.name = true) (hsy : Syd (gs.map Gm.name) i gs') (hfo : ∀ k, foot pb mb gs' k → w.heap.size ≤ k)
    (ho : wr.ownsRow B 9 1 (.slice A5 gs.length c5) gs.length (gs.map fun g => sv g.name)) (hb : Below w.heap.size w wr) (hg0 : gs[i]? = some g0) (hg2 : g2 ∈ gs') (h2n : g2.name = g0.name)
    (hg : g.f = ⟨g0.name, g2.f.data, g2.f.data.length⟩) {stn lfn : Int} (hD6 : Dr w6 pb mb (withK Gm.name g gs') stn ar lfn) (hS : Stp wr w6 (foot pb mb gs') (foot pb mb (withK Gm.name g gs'))) :
    SyL w w6 pb mb gs ar B A5 c5 (i + 1) := by
  have hgn : g.name = g0.name := (congrArg Fm.name hg :)
  refine ⟨_, _, _, hD6, ?_, vn_with hv (by rw [hgn, ← h2n]; exact hv g2 hg2), hsy.next hD.rises (by rw [List.getElem?_map, hg0]; rfl) hgn (by rw [hg]), fun k hk => ?_, ?_, hb.trans (hS.oth.below hfo hlo)⟩
  · rw [with_same (key := Gm.name) nd (g := g2) (by rw [hgn, h2n]) (by simp [nd, hg, hgn, h2n]) hD.rises hg2]
    exact hnd
  · rcases hS.sub k hk with e | e
    · exact hfo k e
    · omega
  · refine own_at ho fun k hk => hS.oth.block k ?_ (str_foot hD ho k hk)
    obtain ⟨cur, hbk⟩ := own_blk_type ho hk
    exact hbk.lt

theorem SyL.drewN {w wr : World} {pb mb : Nat} {gs : List Gm} {ar : Bool} {B : Nat} {A5 : Option Addr} {c5 i : Nat} (h : SyL w wr pb mb gs ar B A5 c5 i) (q : Nat) : SyL w (wr.drewN q) pb mb gs ar B A5 c5 i := by
  obtain ⟨gs', st', lf', h1, h2, h3, h4, h5, h6, h7⟩ := h
  exact ⟨gs', st', lf', h1.drew q, h2, h3, h4, h5, h6, h7.trans ⟨rfl, rfl, rfl, Nat.le_refl _, fun _ _ => rfl⟩⟩

set_option maxRecDepth 40000 in
set_option maxHeartbeats 8000000 in
theorem syncs_law {w : World} {A0 : Option Addr} {n0 c0 : Nat} {os : List Od} (h : Ol w A0 n0 os) (hn : n0 ≤ 140737488355328) {K0 : Option Addr} {kn0 kc0 : Nat} {ks : List Int} (hK : Sl w K0 kn0 (iv ks)) (hkc : kn0 ≤ kc0) :
    Calls Try.prog 6 #[.slice A0 n0 c0, .slice K0 kn0 kc0] w fun e w' => e = .returned (.bool true) ∧ Below w.heap.size w w' := by
  have hbu := built_any (c0 := c0) h hn
  have HK := Lib.hid hK
  clear h hK
  go_enter Try.func6, Try.ntmps6
  go_wp2_with fail
  refine hbu.mono ?_
  rintro e w1 ⟨pb, mb, gs, st, ar, lf, A, c, rfl, hR, hb1⟩
  have hfew := hR.dr.few
  have HR := Lib.hid hR
  clear hR hbu
  go_wp2_with fail
  refine (awake_any _).mono ?_
  rintro e w2 ⟨rfl, hb2⟩
  have hb12 : Below w1.heap.size w1 w2 := ((Below.refl _ w1).alloc (Nat.le_refl _) _).trans (hb2.mono (by simp))
  have HR2 := Lib.hid (HR.out.below hb12)
  have hb02 : Below w.heap.size w w2 := hb1.trans (hb12.mono hb1.size)
  clear hb2 hb12
  have hmk := mk_fil
  go_wp2_with fail
  clear hmk
  have hbA : Below w2.heap.size w2 (w2.alloc (.cells (fil 300 0) 3)) := (Below.refl _ _).alloc (Nat.le_refl _) _
  have hbkA := Blk.new w2 (fil 300 0) 3
  generalize w2.alloc (.cells (fil 300 0) 3) = V0 at hbA hbkA ⊢
  have HA := Lib.hid (And.intro hbA hbkA)
  clear hbA hbkA
  go_loopw [28] (fun j wr => ∃ k : Nat, k ≤ 300 ∧ j = .int .i64 k ∧ Blk wr w2.heap.size (fil 300 k) 3 ∧ Below w2.heap.size w2 wr) (fun j _ => 300 - (intOf j).toNat)
  case atStart => exact ⟨0, by omega, rfl, HA.out.2, HA.out.1⟩
  case round =>
    obtain ⟨k, hk, rfl, hbk, hb⟩ := hrel
    by_cases hin : k < 300
    · have hcN : (k : Int) < 300 := by omega
      have c0 : ∃ u, wr.cell? ⟨w2.heap.size, k, none⟩ = some u := by
        have hl : k < (fil 300 k).size := by rw [fil_size hk]; exact hin
        exact ⟨_, hbk.cell (Array.getElem?_eq_getElem hl)⟩
      obtain ⟨u, c0⟩ := c0
      have f0 := hbk.frozen k
      have HB := Lib.hid (And.intro hbk hb)
      clear hbk hb
      go_wp2_with fail
      refine ⟨⟨k + 1, by omega, by go_num, ?_, ?_⟩, by simp [intOf]; omega⟩
      · rw [← fil_next hin]
        exact HB.out.1.set k _
      · exact HB.out.2.setCell (Nat.le_refl _) _
    · obtain rfl : k = 300 := by omega
      have hcN : ¬ ((300 : Nat) : Int) < 300 := by decide
      have HB := Lib.hid (And.intro hbk hb)
      clear hbk hb
      have hRr := HR2.out.below HB.out.2
      have hbwr : Below w.heap.size w wr := hb02.trans (HB.out.2.mono hb02.size)
      have hcr := crash_any hRr.dr (some ⟨w2.heap.size, 0, none⟩) 300 300 (List.replicate 300 1099511627776) (fil_sl HB.out.1) (by omega)
      have hall := crash_all (file_len hRr.dr) (K := 1099511627776) (by omega) (m := 300) (by have := hRr.dr.few; simp; omega)
      have HRR := Lib.hid hRr
      have HAL := Lib.hid hall
      clear hRr hall
      go_wp2_with fail
      refine hcr.mono ?_
      rintro e w3 ⟨pc, mc, hs, rfl, hhs, hD3, hb3, hf3⟩
      have hsm := same_any (HRR.out.dr.below hb3 (Nat.le_refl _)) hD3 (by rw [nd_map, nd_map hs, hhs]; exact HAL.out.symm) HRR.out.vn (vn_crash HRR.out.vn hhs)
      clear hcr hhs hD3 hf3
      go_wp2_with fail
      refine hsm.mono ?_
      rintro e w4 ⟨rfl, hb4⟩
      have hbr4 : Below wr.heap.size wr w4 := hb3.trans (hb4.mono hb3.size)
      have HR4 := Lib.hid (HRR.out.below hbr4)
      have hb04 : Below w.heap.size w w4 := hbwr.trans (hbr4.mono hbwr.size)
      have hnm := names_any HR4.out.dr
      clear hsm hb3 hb4
      go_wp2_with fail
      refine hnm.mono ?_
      rintro e w5 ⟨A5, c5, rfl, ho5, hb5⟩
      have HL : Hid (SyL w w5 pb mb gs ar w4.heap.size A5 c5 0) := ⟨gs, st, lf, HR4.out.dr.below hb5 (Nat.le_refl _), rfl, HR4.out.vn, Syd.start gs, HR4.out.flo, ho5, hb04.trans (hb5.mono hb04.size)⟩
      clear hnm ho5 hb5
      go_wp2_with fail
      go_loopw [44] (fun j wx => ∃ i : Nat, i ≤ gs.length ∧ j = .int .i64 i ∧ SyL w wx pb mb gs ar w4.heap.size A5 c5 i) (fun j _ => gs.length - (intOf j).toNat)
      case atStart => exact ⟨0, Nat.zero_le _, rfl, HL.out⟩
      case round =>
        obtain ⟨i, hi, rfl, gs', st', lf', hD, hnd, hv, hsy, hfo, ho, hbx⟩ := hrel
        by_cases hin : i < gs.length
        · have hcN : (i : Int) < gs.length := by omega
          obtain ⟨g0, hg0⟩ : ∃ g, gs[i]? = some g := ⟨_, List.getElem?_eq_getElem hin⟩
          obtain ⟨g2, hg2, h2n, h2d⟩ := nd_get hnd.symm hg0
          have h2m : g2 ∈ gs' := List.mem_of_getElem? hg2
          have hvn : vname g0.name = true := by rw [← h2n]; exact hv g2 h2m
          have hfk : findK Gm.name g0.name gs' = some g2 := by rw [← h2n]; exact find_mem' hD.rises h2m
          have hol : oldF g0.name gs' = g2.f := by simp [oldF, hfk]
          have hlk : lookE g0.name gs' ar lf' = code1 ar lf' := by simp [lookE, hvn, hfk]
          have hnl : g0.name.length ≤ 32 := by rw [← h2n]; exact (hD.file g2 h2m).2.2.2.2
          obtain ⟨bn, on, un, e1, hun, n1⟩ := (own_sl ho).at_ hin
          subst e1
          rw [List.getElem?_map, hg0] at hun
          have hun := (Option.some.inj hun).symm
          subst hun
          have hsn := sync_any hD g0.name
          rw [hlk, hol] at hsn
          have hlo := hbx.size
          cases hdd : dead ar lf' with
          | true =>
            rw [show code1 ar lf' = 6 from by simp [code1, hdd]] at hsn
            simp only [show ¬ ((6 : Int) = 0) from by decide, if_false] at hsn
            have HDD := Lib.hid hdd
            have HFO := Lib.hid hfo
            clear hg0 hg2 h2n h2d hfk hol hlk hdd hnd hv hsy hfo ho
            go_wp2_with fail
            refine hsn.mono ?_
            rintro e w6 ⟨rfl, hD6, hS6⟩
            have hb6 : Below w.heap.size w w6 := hbx.trans (hS6.oth.below HFO.out hlo)
            have hde := dead_any hD6
            clear hsn hD6 hS6
            go_wp2_with fail
            refine hde.mono ?_
            rintro e w7 ⟨rfl, rfl⟩
            rw [HDD.out]
            clear hde
            go_wp2_with fail
            go_ret
            exact ⟨rfl, hb6⟩
          | false =>
            rw [show code1 ar lf' = 0 from by simp [code1, hdd]] at hsn
            simp only [if_true] at hsn
            have HNX := Lib.hid (And.intro hnd (And.intro hv (And.intro hsy (And.intro hfo (And.intro ho (And.intro hg0 (And.intro h2m (And.intro h2n hD))))))))
            clear hg0 hg2 h2n h2d hfk hol hlk hdd hnd hv hsy hfo ho
            go_wp2_with fail
            refine hsn.mono ?_
            rintro e w6 ⟨rfl, g, hgf, hD6, hS6⟩
            obtain ⟨z1, z2, z3, z4, z5, z6, z7, z8, z9⟩ := HNX.out
            have hnx := SyL.next (st := st) (lf := lf) hlo z9 z1 z2 z3 z4 z5 hbx z6 z7 z8 hgf hD6 hS6
            have hgn : g.name = g0.name := (congrArg Fm.name hgf :)
            have hlg : looseG g0.name (withK Gm.name g gs') = 0 := by
              have : findK Gm.name g0.name (withK Gm.name g gs') = some g := by rw [← hgn]; exact find_mem' hD6.rises (self_with g gs')
              simp [looseG, this, hgf]
            have hlo6 := loose_any hD6 g0.name (by simp only [maxLen]; omega)
            rw [hlg] at hlo6
            have HN := Lib.hid hnx
            clear hsn hD6 hS6 hnx hgn hlg hgf z1 z2 z3 z4 z5 z6 z7 z8 z9
            go_wp2_with fail
            refine hlo6.mono ?_
            rintro e w7 ⟨rfl, q, rfl⟩
            clear hlo6
            go_wp2_with fail
            exact ⟨⟨i + 1, by omega, by go_num, HN.out.drewN q⟩, by simp [intOf]; omega⟩
        · obtain rfl : i = gs.length := by omega
          have hcN : ¬ ((gs.length : Int) < gs.length) := by omega
          have hcr := crash_any hD K0 kn0 kc0 ks (HK.out.below hbx) hkc
          have hnn := (hsy : Syd (gs.map Gm.name) gs.length gs')
          have hall := crash_synced (Syd.done (N := gs.map Gm.name) (gs := gs') (by rw [List.length_map]; exact hsy)) ks
          have HDX := Lib.hid hD
          have HAL := Lib.hid hall
          have HVX := Lib.hid hv
          clear hall hsy hnn hnd hfo ho hD hv
          go_wp2_with fail
          refine hcr.mono ?_
          rintro e w6 ⟨pc, mc, hs, rfl, hhs, hD6, hb6, hf6⟩
          have hsm := same_any (HDX.out.below hb6 (Nat.le_refl _)) hD6 (by rw [nd_map, nd_map hs, hhs]; exact HAL.out.symm) HVX.out (vn_crash HVX.out hhs)
          clear hcr hhs hD6 hf6
          go_wp2_with fail
          refine hsm.mono ?_
          rintro e w7 ⟨rfl, hb7⟩
          clear hsm
          go_wp2_with fail
          go_ret
          exact ⟨rfl, hbx.trans ((hb6.trans (hb7.mono hb6.size)).mono hbx.size)⟩
end Go.Proofs.Ytfhlhdpgahbeiaa
