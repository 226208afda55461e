/-
  What a life leaves: the law's left.
-/
import Derived.Test.YtnbomifnbhijbaaGreatDoorWaT
namespace Go.Proofs.YtnbomifnbhijbaaGreatDoor
open Go.RowKit Go.Maps Num Crc
set_option linter.unusedVariables false

theorem EachS.takes {w : World} : ∀ {vs : List Value} {ls : List (List UInt8)} (k : Nat), EachS w vs ls → EachS w (vs.take k) (ls.take k)
  | [], [], k, _ => by cases k <;> exact trivial
  | _ :: vs, _ :: ls, 0, _ => trivial
  | _ :: vs, _ :: ls, k + 1, h => ⟨h.1, EachS.takes k h.2⟩
  | [], _ :: _, _, h => h.elim
  | _ :: _, [], _, h => h.elim
theorem EachS.drops {w : World} : ∀ {vs : List Value} {ls : List (List UInt8)} (k : Nat), EachS w vs ls → EachS w (vs.drop k) (ls.drop k)
  | [], [], k, _ => by cases k <;> exact trivial
  | _ :: vs, _ :: ls, 0, h => h
  | _ :: vs, _ :: ls, k + 1, h => EachS.drops k h.2
  | [], _ :: _, _, h => h.elim
  | _ :: _, [], _, h => h.elim
set_option maxRecDepth 20000 in
set_option maxHeartbeats 3200000 in
theorem left_any (P F D : Option Addr) (np cp nf cf nd cd s m : Nat) (vp vf vd : List Value) (pl fl dl : List (List UInt8)) (w : World) (hp : Sl w P np vp) (hf : Sl w F nf vf) (hd : Sl w D nd vd) (ep : EachS w vp pl) (ef : EachS w vf fl) (ed : EachS w vd dl)
    (hcp : np ≤ cp) (hcd : nd ≤ cd) (hn : np ≤ 1000000) (hn2 : nd ≤ 1000000) (hs : s ≤ m) (hm : m ≤ dl.length) (hpl : pl = fl ++ dl.take m) :
    Calls Tryz.prog 22 #[.slice P np cp, .slice F nf cf, .slice D nd cd, .int .i64 s] w fun e w' => e = .returned (.bool true) ∧ Below w.heap.size w w' := by
  have h1 : pl.length = np := by rw [← ep.len, hp.1]
  have h2 : fl.length = nf := by rw [← ef.len, hf.1]
  have h3 : dl.length = nd := by rw [← ed.len, hd.1]
  have hnp : np = nf + m := by rw [← h1, hpl, List.length_append, List.length_take, h2]; omega
  have hmd : m ≤ nd := by omega
  subst hnp
  have hsm : (s : Int) ≤ m := by omega
  have hmdI : (m : Int) ≤ nd := by omega
  have hmcI : (m : Int) ≤ cd := by omega
  have hnfc : (nf : Int) ≤ cp := by omega
  have hnn : (nf : Int) ≤ nf + m := by omega
  have hnc : (nf : Int) + m ≤ cp := by omega
  have e1 : EachS w (vp.take nf) fl := by
    have := ep.takes nf
    rwa [hpl, List.take_left' h2] at this
  have e2 : EachS w (vp.drop nf) (dl.take m) := by
    have := ep.drops nf
    rwa [hpl, List.drop_left' h2] at this
  have s1 := same_any P F nf cp nf cf (vp.take nf) vf fl fl w.drew (hp.take (by omega)) hf (EachS.keep (w := w) (w' := w.drew) (fun _ _ => rfl) e1) (EachS.keep (w := w) (w' := w.drew) (fun _ _ => rfl) ef) (by omega) (by omega)
  rw [decide_eq_true rfl] at s1
  have HS2 : Hid (∀ (A' : Option Addr) (c' : Nat) (V : World), Below w.heap.size w V → (∀ b o, P = some ⟨b, o, none⟩ → nf < nf + m → A' = some ⟨b, o + nf, none⟩) →
      Calls Tryz.prog 14 #[.slice A' m c', .slice D m cd] V fun e w' => e = .returned (.bool true) ∧ Below V.heap.size V w') := fun A' c' V hV hA => by
    have q1 : Sl w A' (nf + m - nf) (vp.drop nf) := hp.drop (by omega) A' fun h b o e => hA b o e h
    rw [show nf + m - nf = m by omega] at q1
    have := same_any A' D m c' m cd (vp.drop nf) (vd.take m) (dl.take m) (dl.take m) V (q1.below hV) ((hd.take hmd).below hV) (e2.keep hV.block) ((ed.takes m).keep hV.block) (by omega) (by omega)
    rwa [decide_eq_true rfl] at this
  clear e1 e2 ep ef ed hp hf hd hpl h1 h2 h3
  go_enter Tryz.func22, Tryz.ntmps22
  go_wp2_with fail
  have hdm : (nf : Int) + m - nf = m := by omega
  have hb0 : Below w.heap.size w w.drew := (Below.refl _ w).drew
  by_cases hcn : cp = nf
  · obtain rfl : m = 0 := by omega
    obtain rfl : s = 0 := by omega
    subst hcn
    have s2 : ∀ V : World, Below w.heap.size w V → Calls Tryz.prog 14 #[.slice P 0 0, .slice D 0 cd] V fun e w' => e = .returned (.bool true) ∧ Below V.heap.size V w' := fun V hV => HS2.out P 0 V hV (by
      intro b o e h
      omega)
    have HT := Lib.hid s2
    clear HS2 s2
    simp only [Int.natCast_zero, Int.add_zero] at hsm hmdI hmcI hnn hnc hdm
    go_region_held (fun V => Below w.heap.size w V) (first | assumption) (first
      | (go_at_call 14; refine s1.mono ?_; rintro e w1 ⟨rfl, hb1'⟩; have hb1 : Below w.heap.size w w1 := hb0.trans hb1'; clear s1)
      | (go_at_call 14; refine (HT.out _ hb1).mono ?_; rintro e w2 ⟨rfl, hb2'⟩; have hb2 : Below w.heap.size w w2 := hb1.trans (hb2'.mono hb1.size); clear HT hb2'))
    go_wp2_with fail
    go_ret
    exact ⟨rfl, hb2⟩
  · have s2 : ∀ V : World, Below w.heap.size w V → Calls Tryz.prog 14 #[.slice (Option.map (fun x => x.add nf) P) m (cp - nf), .slice D m cd] V fun e w' => e = .returned (.bool true) ∧ Below V.heap.size V w' := fun V hV => HS2.out _ _ V hV (by
      intro b o e _
      subst e
      simp [add_plain])
    have HT := Lib.hid s2
    clear HS2 s2
    go_region_held (fun V => Below w.heap.size w V) (first | assumption) (first
      | (go_at_call 14; refine s1.mono ?_; rintro e w1 ⟨rfl, hb1'⟩; have hb1 : Below w.heap.size w w1 := hb0.trans hb1'; clear s1)
      | (go_at_call 14; refine (HT.out _ hb1).mono ?_; rintro e w2 ⟨rfl, hb2'⟩; have hb2 : Below w.heap.size w w2 := hb1.trans (hb2'.mono hb1.size); clear HT hb2'))
    go_wp2_with fail
    go_ret
    exact ⟨rfl, hb2⟩
end Go.Proofs.YtnbomifnbhijbaaGreatDoor
