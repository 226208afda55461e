/-
  Open.
-/
import Derived.Test.YtnbomifnbhijbaaGreatDoorWaI
namespace Go.Proofs.YtnbomifnbhijbaaGreatDoor
open Go.RowKit Go.Maps Num Crc
set_option linter.unusedVariables false

theorem scan_len (l : List UInt8) : (scan l).1.length ≤ l.length := by
  induction hn : l.length using Nat.strongRecOn generalizing l with
  | _ n ih =>
    by_cases h0 : (tk l).2 = 0
    · rw [scan_stop h0]; simp
    · rw [scan_step h0]
      have h1 := tk_le l
      have := ih (l.drop (tk l).2).length (by simp only [List.length_drop]; omega) (l.drop (tk l).2) rfl
      simp only [List.length_cons, List.length_drop] at this ⊢
      omega
def segO (f : Int) (ns : List Int) : Int := ns.foldl (fun a n => max a (n + 1)) f
def psO (f : Int) (gs : List Gm) (ns : List Int) : List (List UInt8) := ns.flatMap fun n => if f ≤ n then paysOf n gs else []
theorem segO_snoc (f : Int) (ns : List Int) (n : Int) : segO f (ns ++ [n]) = max (segO f ns) (n + 1) := by simp [segO]
theorem psO_snoc (f : Int) (gs : List Gm) (ns : List Int) (n : Int) : psO f gs (ns ++ [n]) = psO f gs ns ++ (if f ≤ n then paysOf n gs else []) := by simp [psO]
theorem pays_len {w : World} {pb mb : Nat} {gs : List Gm} {st lf : Int} {ar : Bool} (h : Dr w pb mb gs st ar lf) (n : Int) : (paysOf n gs).length ≤ 262144 := Nat.le_trans (scan_len _) (data_le h _)
def OpenPost (w : World) (pb : Nat) (f : Int) (gs : List Gm) (e : Ending) (w' : World) : Prop :=
  ∃ pl A c vs, e = .returned (.tuple #[.pointer (some ⟨pl, 0, none⟩), .slice A (psO f gs (segs (gs.map Gm.name))).length c, .int .i64 0]) ∧ Lg w' pl pb (segO f (segs (gs.map Gm.name))) false ∧ w.heap.size ≤ pl ∧
    w'.ownsRow (w.heap.size + 1) 36 1 (.slice A (psO f gs (segs (gs.map Gm.name))).length c) (psO f gs (segs (gs.map Gm.name))).length vs ∧ Each w' (w.heap.size + 1) vs (psO f gs (segs (gs.map Gm.name))) ∧ Below w.heap.size w w'
theorem below_set {B b k : Nat} {w V : World} {v : Value} (h : Below B w V) (hb : B ≤ b) : Below B w (V.setCell ⟨b, k, none⟩ v) :=
  ⟨h.os, h.tape, h.output, by rw [setCell_size]; exact h.size, fun i hi => (setCell_other _ _ _ (by simp only; omega)).trans (h.block i hi)⟩
theorem oth_set {S b k : Nat} {w V : World} {v : Value} (h : Oth (fun i => i = S) w V) (hb : b = S) : Oth (fun i => i = S) w (V.setCell ⟨b, k, none⟩ v) :=
  ⟨h.os, h.tape, h.output, by rw [setCell_size]; exact h.size, fun i hi hn => (setCell_other _ _ _ (by simp only; omega)).trans (h.block i hi hn)⟩
theorem oth_grown {S : Nat → Prop} {w V U : World} {blk : Option Nat} (h : Oth S w V) (hg : V.grownBy U blk) (hb : ∀ k, blk = some k → w.heap.size ≤ k) : Oth S w U :=
  ⟨hg.os.trans h.os, hg.tape.trans h.tape, hg.output.trans h.output, Nat.le_trans h.size hg.size, fun i hi hn => (hg.block i (Nat.lt_of_lt_of_le hi h.size) (fun e => by have := hb i e.symm; omega)).trans (h.block i hi hn)⟩
theorem oth_below {S : Nat → Prop} {w V U : World} (h : Oth S w V) (hb : Below V.heap.size V U) : Oth S w U :=
  ⟨hb.os.trans h.os, hb.tape.trans h.tape, hb.output.trans h.output, Nat.le_trans h.size hb.size, fun i hi hn => (hb.block i (Nat.lt_of_lt_of_le hi h.size)).trans (h.block i hi hn)⟩
theorem own_set {B e n b k : Nat} {w : World} {v u : Value} {xs : List Value} (h : w.ownsRow B e 1 v n xs) (hb : b < B) : (w.setCell ⟨b, k, none⟩ u).ownsRow B e 1 v n xs :=
  own_at h fun i hi => setCell_other _ _ _ (by have := (h.lt i hi).1; simp only; omega)
theorem each_set {B b k : Nat} {w : World} {u : Value} {vs : List Value} {ls : List (List UInt8)} (h : Each w B vs ls) (hb : b < B) : Each (w.setCell ⟨b, k, none⟩ u) B vs ls :=
  Each.imp (fun _ _ _ => rfl) (fun _ _ _ _ ho => own_set ho hb) h
theorem each_app {B : Nat} {w : World} : ∀ {vs us : List Value} {ls ks : List (List UInt8)}, Each w B vs ls → Each w B us ks → Each w B (vs ++ us) (ls ++ ks)
  | [], us, [], ks, _, h2 => h2
  | v :: vs, us, l :: ls, ks, h1, h2 => ⟨h1.1, each_app h1.2 h2⟩
set_option maxHeartbeats 8000000 in
theorem open_any {w : World} {pb mb : Nat} {gs : List Gm} {st lf : Int} {ar : Bool} (h : Rd w pb mb gs st ar lf) (f : Int) (hf1 : 1 ≤ f) (hf2 : f ≤ 999999) :
    Calls Tryz.prog 8 #[.pointer (some ⟨pb, 0, none⟩), .int .i64 f] w (OpenPost w pb f gs) := by
  have H := Lib.hid h
  have hbl : Below w.heap.size w (w.alloc (.cells #[.pointer (some ⟨pb, 0, none⟩), .int .i64 f, .bool false] 73)) := (Below.refl _ w).alloc (Nat.le_refl _) _
  have hlg : Lg (w.alloc (.cells #[.pointer (some ⟨pb, 0, none⟩), .int .i64 f, .bool false] 73)) w.heap.size pb f false := Blk.new w _ _
  have hsg := segments_any (h.below hbl).dr hlg (h.below hbl).wl
  clear h
  go_enter Tryz.func8, Tryz.ntmps8
  go_wp2_with (go_at_call 24; refine hsg.mono ?_; rintro e w2 ⟨A, c, rfl, hr, hb⟩)
  generalize hns : segs (gs.map Gm.name) = ns at *
  have hln : ns.length ≤ 256 := by
    have := segs_len (gs.map Gm.name)
    have hf := H.out.dr.few
    rw [hns] at this
    simp only [List.length_map] at this
    omega
  have hbd : ∀ n ∈ ns, 1 ≤ n ∧ n ≤ 999999 := fun n hn => segs_bound (hns ▸ hn)
  have HBD := Lib.hid hbd
  have hsz1 : (w.alloc (.cells #[.pointer (some ⟨pb, 0, none⟩), .int .i64 f, .bool false] 73)).heap.size = w.heap.size + 1 := by simp
  have hlg2 : Lg w2 w.heap.size pb f false := hlg.keep (hb.block _ hlg.lt)
  have hb2 : Below w.heap.size w w2 := hbl.trans (hb.mono hbl.size)
  have hs2 : w.heap.size + 1 ≤ w2.heap.size := by have := hb.size; omega
  have hsl := own_sl hr
  have hlt := hr.lt
  rw [hsz1] at hlt
  have HNS := Lib.hid hns
  have HSL := Lib.hid hsl
  have hA : ∀ k, (Value.slice A ns.length c).ownBlock = some k → ¬ k = w.heap.size := fun k e hk => by have := (hlt k e).1; omega
  have HA := Lib.hid hA
  have HB2 := Lib.hid hb2
  clear hbl hlg hsg hr hb hbd hns hsl hlt hA hsz1
  go_loopw [8, 24] (fun v j wr => ∃ (i : Nat) (ps : List (List UInt8)) (A' : Option Addr) (c' : Nat) (vs : List Value) (sg : Int), i ≤ ns.length ∧ j = .int .i64 i ∧ v = .slice A' ps.length c' ∧ ps = psO f gs (ns.take i) ∧ sg = segO f (ns.take i) ∧ ps.length ≤ i * 262144 ∧ 1 ≤ sg ∧ sg ≤ 1000000 ∧
    wr.ownsRow w2.heap.size 36 1 (.slice A' ps.length c') ps.length vs ∧ Each wr w2.heap.size vs ps ∧ Lg wr w.heap.size pb sg false ∧ Below w.heap.size w wr ∧ Oth (fun k => k = w.heap.size) w2 wr) (fun _ j _ => ns.length - (intOf j).toNat)
  case atStart => exact ⟨0, [], none, 0, [], f, Nat.zero_le _, rfl, rfl, rfl, rfl, Nat.zero_le _, hf1, by omega, World.ownsRow_nil _ _ _ _, trivial, hlg2, HB2.out, ⟨rfl, rfl, rfl, Nat.le_refl _, fun _ _ _ => rfl⟩⟩
  case round =>
    obtain ⟨i, ps, A', c', vs, sg, hi, rfl, rfl, hps, hsg, hpl, hg1, hg2, hown, hea, hlgr, hbr, hor⟩ := hrel
    have HP := Lib.hid hps
    have HG := Lib.hid hsg
    have HE := Lib.hid hea
    have HL := Lib.hid hlgr
    have HBR := Lib.hid hbr
    have HO := Lib.hid hor
    have HOW := Lib.hid hown
    clear hps hsg hea hlgr hbr hor hown hlg2
    by_cases hin : i < ns.length
    · have hcN : (i : Int) < ns.length := by omega
      obtain ⟨b, o, u, rfl, hu, hcell⟩ := (sl_stp (c := c) HSL.out (⟨HO.out, fun k h => Or.inl h⟩ : Stp w2 wr (fun k => k = w.heap.size) (fun k => k = w.heap.size)) (fun k e => HA.out k e)).at_ hin
      obtain ⟨n, hn⟩ : ∃ n, ns[i]? = some n := ⟨_, List.getElem?_eq_getElem hin⟩
      have hu' : u = .int .i64 n := by
        rw [List.getElem?_map, hn] at hu
        exact (Option.some.inj hu).symm
      subst hu'
      have hnb := HBD.out n (List.mem_of_getElem? hn)
      have hp1 : psO f gs (ns.take (i + 1)) = ps ++ (if f ≤ n then paysOf n gs else []) := by
        rw [List.take_add_one, hn, show (some n).toList = [n] from rfl, psO_snoc, HP.out]
      have hg3 : segO f (ns.take (i + 1)) = max sg (n + 1) := by
        rw [List.take_add_one, hn, show (some n).toList = [n] from rfl, segO_snoc, HG.out]
      have k1 : wr.cell? ⟨w.heap.size, 1, none⟩ = some (.int .i64 sg) := HL.out.cell rfl
      have k2 := HL.out.frozen 1
      have hrs : w2.heap.size ≤ wr.heap.size := HO.out.size
      clear hu hn
      by_cases hfn : f ≤ n
      · rw [if_pos hfn] at hp1
        have hpy := pays_any (H.out.below HBR.out) n (by omega)
        have hql := pays_len (H.out.below HBR.out).dr n
        generalize paysOf n gs = q at hpy hql hp1
        have HP1 := Lib.hid hp1
        have HG1 := Lib.hid hg3
        clear hp1 hg3
        go_wp2_with (first
          | (go_at_call 25; refine hpy.mono ?_; rintro e w4 ⟨A3, c3, vs3, rfl, ho3, he3, hb4⟩)
          | (at_builtin; refine wpList_app _ rfl (.tmp 31) (.tmp 34) 30 rfl w2.heap.size rowsEl (by decide) _ _ _ rfl (own_keep HOW.out hb4) A3 q.length c3 vs3 rfl (own_sl ho3) he3.one (by omega) (by have := hb4.size; omega) ?_; intro A5 c5 w5 hown5 hg5 hat5
             have L5 : Lg w5 w.heap.size pb sg false := (HL.out.keep (hb4.block _ HL.out.lt)).keep (hg5.block _ (by have := hb4.size; omega) (fun e => by have := (own_blk (own_keep HOW.out hb4)) _ e.symm; omega))
             have d1 : w5.cell? ⟨w.heap.size, 1, none⟩ = some (.int .i64 sg) := L5.cell rfl
             have d2 := L5.frozen 1))
        have ho4 := own_keep HOW.out hb4
        have he5 := (each_app (HE.out.below hb4) (he3.mono hrs)).grown ho4 hg5
        have hL := Blk.set L5 1 (.int .i64 (max sg (n + 1)))
        have hb5 : Below w.heap.size w w5 := (HBR.out.trans (hb4.mono HBR.out.size)).grown hg5 (by have := hb4.size; omega) (fun k e => by have := own_blk ho4 k e; omega)
        have ho5 := oth_grown (oth_below HO.out hb4) hg5 (own_blk ho4)
        have hpl5 : (ps ++ q).length ≤ (i + 1) * 262144 := by rw [List.length_append, Nat.add_mul]; exact Nat.add_le_add hpl (by rw [Nat.one_mul]; exact hql)
        exact ⟨⟨i + 1, ps ++ q, A5, c5, vs ++ vs3, max sg (n + 1), by omega, by go_num, by simp, HP1.out.symm, HG1.out.symm, hpl5, by omega, by omega, own_set (by rw [List.length_append]; exact hown5) (by omega), each_set he5 (by omega), hL, below_set hb5 (Nat.le_refl _), oth_set ho5 rfl⟩, by simp only [intOf]; omega⟩
      · rw [if_neg hfn, List.append_nil] at hp1
        have HP1 := Lib.hid hp1
        have HG1 := Lib.hid hg3
        clear hp1 hg3
        go_wp2_with fail
        have hL := Blk.set HL.out 1 (.int .i64 (max sg (n + 1)))
        exact ⟨⟨i + 1, ps, A', c', vs, max sg (n + 1), by omega, by go_num, rfl, HP1.out.symm, HG1.out.symm, Nat.le_trans hpl (Nat.mul_le_mul_right _ (Nat.le_succ i)), by omega, by omega, own_set HOW.out (by omega), each_set HE.out (by omega), hL, below_set HBR.out (Nat.le_refl _), oth_set HO.out rfl⟩, by simp only [intOf]; omega⟩
    · have hcN : ¬ (i : Int) < ns.length := by omega
      have k1 : List.take i ns = ns := List.take_of_length_le (by omega)
      have e1 := HP.out
      have e2 := HG.out
      rw [k1] at e1 e2
      have HE1 := Lib.hid e1
      have HE2 := Lib.hid e2
      clear e1 e2 k1
      go_wp2_with fail
      go_ret3
      unfold OpenPost
      rw [HNS.out, ← HE1.out, ← HE2.out]
      exact ⟨w.heap.size, A', c', vs, rfl, HL.out, Nat.le_refl _, own_base HOW.out hs2, HE.out.mono hs2, HBR.out⟩
end Go.Proofs.YtnbomifnbhijbaaGreatDoor
