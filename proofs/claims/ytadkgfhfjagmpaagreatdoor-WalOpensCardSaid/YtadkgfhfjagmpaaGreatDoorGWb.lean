/-
  Texts put together: WaH, WaI, WaJ, WaK.
-/
import Derived.Test.YtadkgfhfjagmpaaGreatDoorWaG
namespace Go.Proofs.YtadkgfhfjagmpaaGreatDoor
open Go.RowKit Go.Maps
set_option linter.unusedVariables false

def ddelX (x : Ws) (s : List UInt8) : Ws × Int :=
  if vname s = false then (x, 20) else if findK Fm.name s x.fs = none then (x, 4) else if dead x.ar x.lf then (x, 6) else ({ stepX x with fs := outK Fm.name s x.fs }, 0)
theorem out_fs {gs : List Gm} {fs : List Fm} (h : gs.map Gm.f = fs) (s : List UInt8) : (outK Gm.name s gs).map Gm.f = outK Fm.name s fs := by
  rw [← h]; exact out_map (key := Gm.name) (key' := Fm.name) Gm.f (fun _ => rfl) s gs
theorem ddel_any {w0 w : World} {pl pb mb : Nat} {gs : List Gm} {x : Ws} (h : Wl w0 w pl pb mb gs x) (s : List UInt8) :
    Calls Tryz.prog 182 #[.pointer (some ⟨pb, 0, none⟩), .string (str s)] w fun e w' => e = .returned (.int .i64 (ddelX x s).2) ∧ WlPost w0 w pl pb mb gs (ddelX x s).1 w' := by
  have hc := delete_any h.dr s
  have he : lookE s gs x.ar x.lf = (ddelX x s).2 := by
    unfold lookE ddelX
    rw [find_fs h.fs]
    cases vname s <;> cases findK Gm.name s gs <;> simp [code1]
    split <;> rfl
  refine hc.mono ?_
  rintro e w1 ⟨rfl, hw⟩
  rw [he] at hw ⊢
  refine ⟨rfl, ?_⟩
  by_cases h0 : (ddelX x s).2 = 0
  · rw [if_pos h0] at hw
    have h1 : (ddelX x s).1 = { stepX x with fs := outK Fm.name s x.fs } := by
      unfold ddelX at h0 ⊢
      split at h0
      · cases h0
      · rename_i hc1
        split at h0
        · cases h0
        · rename_i hc2
          split at h0
          · cases h0
          · rename_i hc3
            rw [if_neg hc1, if_neg hc2, if_neg hc3]
    have := h.drive hw.2 hw.1 (out_fs h.fs s) (fun z hz => h.vn z (List.mem_filter.1 hz).1)
    rw [h1]
    exact ⟨_, this⟩
  · rw [if_neg h0] at hw
    have h1 : (ddelX x s).1 = x := by
      unfold ddelX at h0 ⊢
      split
      · rfl
      · split
        · rfl
        · split
          · rfl
          · rename_i hc1 hc2 hc3
            rw [if_neg hc1, if_neg hc2, if_neg hc3] at h0
            exact absurd rfl h0
    have := h.drive hw.2 hw.1 h.fs h.vn
    rw [h1]
    exact ⟨gs, this⟩
theorem ddel_seg (x : Ws) (s : List UInt8) : (ddelX x s).1.seg = x.seg := by
  unfold ddelX
  split
  · rfl
  · split
    · rfl
    · split <;> rfl
def delX (x : Ws) (n : Int) : Ws × Int := (doneX (ddelX x (fname n)).1 (ddelX x (fname n)).2, (ddelX x (fname n)).2)
def dropL (before : Int) : List Int → Ws → Ws × Int
  | [], x => (x, 0)
  | n :: r, x => if before ≤ n ∨ n = x.seg then dropL before r x else if (delX x n).2 = 0 then dropL before r (delX x n).1 else delX x n
def dropX (x : Ws) (before : Int) : Ws × Int := if x.dd then (x, 6) else dropL before (segs (x.fs.map Fm.name)) x
theorem segs_bound {ns : List (List UInt8)} {n : Int} (h : n ∈ segs ns) : 1 ≤ n ∧ n ≤ 999999 := by
  unfold segs at h
  obtain ⟨h1, h2⟩ := List.mem_filter.1 h
  obtain ⟨s, hs, rfl⟩ := List.mem_map.1 h1
  have h3 : 0 < numI s := by simpa using h2
  exact ⟨by omega, (numI_pos h3).1⟩
theorem lsegs_any {w0 w : World} {pl pb mb : Nat} {gs : List Gm} {x : Ws} (h : Wl w0 w pl pb mb gs x) :
    Calls Tryz.prog 56 #[.pointer (some ⟨pl, 0, none⟩)] w fun e w' => ∃ A c, e = .returned (.slice A (segs (x.fs.map Fm.name)).length c) ∧
      w'.ownsRow w.heap.size 3 1 (.slice A (segs (x.fs.map Fm.name)).length c) (segs (x.fs.map Fm.name)).length ((segs (x.fs.map Fm.name)).map (Value.int .i64)) ∧ Below w.heap.size w w' := by
  have := segments_any h.dr h.lg h.wl
  rwa [show gs.map Gm.name = x.fs.map Fm.name from by rw [← h.fs, List.map_map]; rfl] at this
end Go.Proofs.YtadkgfhfjagmpaaGreatDoor

namespace Go.Proofs.YtadkgfhfjagmpaaGreatDoor
open Go.RowKit Go.Maps Num Crc
set_option linter.unusedVariables false

/-- A drive from which a log reads. -/
structure Rd (w : World) (pb mb : Nat) (gs : List Gm) (st : Int) (ar : Bool) (lf : Int) : Prop where
  dr : Dr w pb mb gs st ar lf
  wl : WL w
  vn : ∀ g ∈ gs, vname g.name = true
theorem Rd.below {w w' : World} {pb mb : Nat} {gs : List Gm} {st lf : Int} {ar : Bool} (h : Rd w pb mb gs st ar lf) (hb : Below w.heap.size w w') : Rd w' pb mb gs st ar lf := ⟨h.dr.below hb (Nat.le_refl _), h.wl.keep hb, h.vn⟩
/-- What a file holds. -/
def dataL (s : List UInt8) (gs : List Gm) : List UInt8 := (oldF s gs).data
theorem dread_any {w : World} {pb mb : Nat} {gs : List Gm} {st lf : Int} {ar : Bool} (h : Rd w pb mb gs st ar lf) (s : List UInt8) :
    Calls Tryz.prog 63 #[.pointer (some ⟨pb, 0, none⟩), .string (str s)] w fun e w' => ∃ A c v, e = .returned (.tuple #[.slice A (dataL s gs).length c, v]) ∧
      w'.ownsRow w.heap.size 5 1 (.slice A (dataL s gs).length c) (dataL s gs).length (bv (dataL s gs)) ∧ Below w.heap.size w w' := by
  have hr := read_any h.dr s
  have h1 : (if readE s gs = 0 then (oldF s gs).data.length else 0) = (dataL s gs).length := by
    unfold readE dataL oldF
    cases hf : findK Gm.name s gs with
    | none => cases vname s <;> simp [emptyF]
    | some g =>
      have := find_some hf
      rw [show vname s = true from by rw [← this.2]; exact h.vn g this.1]
      simp
  have h2 : (if readE s gs = 0 then (oldF s gs).data else []) = dataL s gs := by
    unfold readE dataL oldF
    cases hf : findK Gm.name s gs with
    | none => cases vname s <;> simp [emptyF]
    | some g =>
      have := find_some hf
      rw [show vname s = true from by rw [← this.2]; exact h.vn g this.1]
      simp
  rw [h1, h2] at hr
  refine hr.mono ?_
  rintro e w' ⟨A, c, rfl, h3, h4⟩
  exact ⟨A, c, _, rfl, h3, h4⟩
theorem data_le {w : World} {pb mb : Nat} {gs : List Gm} {st lf : Int} {ar : Bool} (h : Dr w pb mb gs st ar lf) (s : List UInt8) : (dataL s gs).length ≤ 262144 := by
  unfold dataL oldF
  cases hf : findK Gm.name s gs with
  | none => simp [emptyF]
  | some g => exact (h.file g (find_some hf).1).2.2.2.1
def paysOf (n : Int) (gs : List Gm) : List (List UInt8) := (scan (dataL (fname n) gs)).1
set_option maxHeartbeats 4000000 in
theorem pays_any {w : World} {pb mb : Nat} {gs : List Gm} {st lf : Int} {ar : Bool} (h : Rd w pb mb gs st ar lf) (n : Int) (hn : -9223372036854775808 ≤ n ∧ n ≤ 9223372036854775807) :
    Calls Tryz.prog 57 #[.pointer (some ⟨pb, 0, none⟩), .int .i64 n] w fun e w' => ∃ A c vs, e = .returned (.slice A (paysOf n gs).length c) ∧
      w'.ownsRow w.heap.size 28 1 (.slice A (paysOf n gs).length c) (paysOf n gs).length vs ∧ Each w' w.heap.size vs (paysOf n gs) ∧ Below w.heap.size w w' := by
  have hf1 := fileName_any n hn w h.wl
  have hrd := fun w1 (hb : Below w.heap.size w w1) => dread_any (h.below hb) (fname n)
  have hle := data_le h.dr (fname n)
  unfold paysOf
  generalize fname n = nm at *
  generalize dataL nm gs = l at *
  have HR := Lib.hid hrd
  have H := Lib.hid h
  clear h hrd
  go_enter Tryz.func57, Tryz.ntmps57
  go_wp2_with (first
    | (go_at_call 67; refine hf1.mono ?_; rintro e w1 ⟨rfl, hb⟩)
    | (go_at_call 63; refine (HR.out w1 hb).mono ?_; rintro e w2 ⟨A, c, v, rfl, hr2, hb2⟩; have hb12 := hb.trans (hb2.mono hb.size))
    | (go_at_call 107; refine (scan_any A l.length c l w2 (H.out.below hb12).wl.sums (own_sl hr2) (by omega) (own_le hr2)).mono ?_; rintro e w3 ⟨A3, c3, vs, rfl, ho, he, hb3⟩))
  go_ret
  exact ⟨A3, c3, vs, rfl, own_mono ho hb12.size, he.mono hb12.size, hb12.trans (hb3.mono hb12.size)⟩
end Go.Proofs.YtadkgfhfjagmpaaGreatDoor

namespace Go.Proofs.YtadkgfhfjagmpaaGreatDoor
open Go.RowKit Go.Maps Num Crc
set_option linter.unusedVariables false

theorem scan_len (l : List UInt8) : (scan l).1.length ≤ l.length := by
  induction hn : l.length using Nat.strongRecOn generalizing l with
  | _ n ih =>
    by_cases h0 : (tk l).2 = 0
    · rw [scan_stop h0]; simp
    · rw [scan_step h0]
      have h1 := tk_le l
      have := ih (l.drop (tk l).2).length (by simp only [List.length_drop]; omega) (l.drop (tk l).2) rfl
      simp only [List.length_cons, List.length_drop] at this ⊢
      omega
def segO (f : Int) (ns : List Int) : Int := ns.foldl (fun a n => max a (n + 1)) f
def psO (f : Int) (gs : List Gm) (ns : List Int) : List (List UInt8) := ns.flatMap fun n => if f ≤ n then paysOf n gs else []
theorem segO_snoc (f : Int) (ns : List Int) (n : Int) : segO f (ns ++ [n]) = max (segO f ns) (n + 1) := by simp [segO]
theorem psO_snoc (f : Int) (gs : List Gm) (ns : List Int) (n : Int) : psO f gs (ns ++ [n]) = psO f gs ns ++ (if f ≤ n then paysOf n gs else []) := by simp [psO]
theorem pays_len {w : World} {pb mb : Nat} {gs : List Gm} {st lf : Int} {ar : Bool} (h : Dr w pb mb gs st ar lf) (n : Int) : (paysOf n gs).length ≤ 262144 := Nat.le_trans (scan_len _) (data_le h _)
def OpenPost (w : World) (pb : Nat) (f : Int) (gs : List Gm) (e : Ending) (w' : World) : Prop :=
  ∃ pl A c vs, e = .returned (.tuple #[.pointer (some ⟨pl, 0, none⟩), .slice A (psO f gs (segs (gs.map Gm.name))).length c, .int .i64 0]) ∧ Lg w' pl pb (segO f (segs (gs.map Gm.name))) false ∧ w.heap.size ≤ pl ∧
    w'.ownsRow (w.heap.size + 1) 28 1 (.slice A (psO f gs (segs (gs.map Gm.name))).length c) (psO f gs (segs (gs.map Gm.name))).length vs ∧ Each w' (w.heap.size + 1) vs (psO f gs (segs (gs.map Gm.name))) ∧ Below w.heap.size w w'
theorem below_set {B b k : Nat} {w V : World} {v : Value} (h : Below B w V) (hb : B ≤ b) : Below B w (V.setCell ⟨b, k, none⟩ v) :=
  ⟨h.os, h.tape, h.output, by rw [setCell_size]; exact h.size, fun i hi => (setCell_other _ _ _ (by simp only; omega)).trans (h.block i hi)⟩
theorem oth_set {S b k : Nat} {w V : World} {v : Value} (h : Oth (fun i => i = S) w V) (hb : b = S) : Oth (fun i => i = S) w (V.setCell ⟨b, k, none⟩ v) :=
  ⟨h.os, h.tape, h.output, by rw [setCell_size]; exact h.size, fun i hi hn => (setCell_other _ _ _ (by simp only; omega)).trans (h.block i hi hn)⟩
theorem oth_grown {S : Nat → Prop} {w V U : World} {blk : Option Nat} (h : Oth S w V) (hg : V.grownBy U blk) (hb : ∀ k, blk = some k → w.heap.size ≤ k) : Oth S w U :=
  ⟨hg.os.trans h.os, hg.tape.trans h.tape, hg.output.trans h.output, Nat.le_trans h.size hg.size, fun i hi hn => (hg.block i (Nat.lt_of_lt_of_le hi h.size) (fun e => by have := hb i e.symm; omega)).trans (h.block i hi hn)⟩
theorem oth_below {S : Nat → Prop} {w V U : World} (h : Oth S w V) (hb : Below V.heap.size V U) : Oth S w U :=
  ⟨hb.os.trans h.os, hb.tape.trans h.tape, hb.output.trans h.output, Nat.le_trans h.size hb.size, fun i hi hn => (hb.block i (Nat.lt_of_lt_of_le hi h.size)).trans (h.block i hi hn)⟩
theorem own_set {B e n b k : Nat} {w : World} {v u : Value} {xs : List Value} (h : w.ownsRow B e 1 v n xs) (hb : b < B) : (w.setCell ⟨b, k, none⟩ u).ownsRow B e 1 v n xs :=
  own_at h fun i hi => setCell_other _ _ _ (by have := (h.lt i hi).1; simp only; omega)
theorem each_set {B b k : Nat} {w : World} {u : Value} {vs : List Value} {ls : List (List UInt8)} (h : Each w B vs ls) (hb : b < B) : Each (w.setCell ⟨b, k, none⟩ u) B vs ls :=
  Each.imp (fun _ _ _ => rfl) (fun _ _ _ _ ho => own_set ho hb) h
theorem each_app {B : Nat} {w : World} : ∀ {vs us : List Value} {ls ks : List (List UInt8)}, Each w B vs ls → Each w B us ks → Each w B (vs ++ us) (ls ++ ks)
  | [], us, [], ks, _, h2 => h2
  | v :: vs, us, l :: ls, ks, h1, h2 => ⟨h1.1, each_app h1.2 h2⟩
set_option maxHeartbeats 8000000 in
theorem open_any {w : World} {pb mb : Nat} {gs : List Gm} {st lf : Int} {ar : Bool} (h : Rd w pb mb gs st ar lf) (f : Int) (hf1 : 1 ≤ f) (hf2 : f ≤ 999999) :
    Calls Tryz.prog 13 #[.pointer (some ⟨pb, 0, none⟩), .int .i64 f] w (OpenPost w pb f gs) := by
  have H := Lib.hid h
  have hbl : Below w.heap.size w (w.alloc (.cells #[.pointer (some ⟨pb, 0, none⟩), .int .i64 f, .bool false] 111)) := (Below.refl _ w).alloc (Nat.le_refl _) _
  have hlg : Lg (w.alloc (.cells #[.pointer (some ⟨pb, 0, none⟩), .int .i64 f, .bool false] 111)) w.heap.size pb f false := Blk.new w _ _
  have hsg := segments_any (h.below hbl).dr hlg (h.below hbl).wl
  clear h
  go_enter Tryz.func13, Tryz.ntmps13
  go_wp2_with (go_at_call 56; refine hsg.mono ?_; rintro e w2 ⟨A, c, rfl, hr, hb⟩)
  generalize hns : segs (gs.map Gm.name) = ns at *
  have hln : ns.length ≤ 256 := by
    have := segs_len (gs.map Gm.name)
    have hf := H.out.dr.few
    rw [hns] at this
    simp only [List.length_map] at this
    omega
  have hbd : ∀ n ∈ ns, 1 ≤ n ∧ n ≤ 999999 := fun n hn => segs_bound (hns ▸ hn)
  have HBD := Lib.hid hbd
  have hsz1 : (w.alloc (.cells #[.pointer (some ⟨pb, 0, none⟩), .int .i64 f, .bool false] 111)).heap.size = w.heap.size + 1 := by simp
  have hlg2 : Lg w2 w.heap.size pb f false := hlg.keep (hb.block _ hlg.lt)
  have hb2 : Below w.heap.size w w2 := hbl.trans (hb.mono hbl.size)
  have hs2 : w.heap.size + 1 ≤ w2.heap.size := by have := hb.size; omega
  have hsl := own_sl hr
  have hlt := hr.lt
  rw [hsz1] at hlt
  have HNS := Lib.hid hns
  have HSL := Lib.hid hsl
  have hA : ∀ k, (Value.slice A ns.length c).ownBlock = some k → ¬ k = w.heap.size := fun k e hk => by have := (hlt k e).1; omega
  have HA := Lib.hid hA
  have HB2 := Lib.hid hb2
  clear hbl hlg hsg hr hb hbd hns hsl hlt hA hsz1
  go_loopw [8, 24] (fun v j wr => ∃ (i : Nat) (ps : List (List UInt8)) (A' : Option Addr) (c' : Nat) (vs : List Value) (sg : Int), i ≤ ns.length ∧ j = .int .i64 i ∧ v = .slice A' ps.length c' ∧ ps = psO f gs (ns.take i) ∧ sg = segO f (ns.take i) ∧ ps.length ≤ i * 262144 ∧ 1 ≤ sg ∧ sg ≤ 1000000 ∧
    wr.ownsRow w2.heap.size 28 1 (.slice A' ps.length c') ps.length vs ∧ Each wr w2.heap.size vs ps ∧ Lg wr w.heap.size pb sg false ∧ Below w.heap.size w wr ∧ Oth (fun k => k = w.heap.size) w2 wr) (fun _ j _ => ns.length - (intOf j).toNat)
  case atStart => exact ⟨0, [], none, 0, [], f, Nat.zero_le _, rfl, rfl, rfl, rfl, Nat.zero_le _, hf1, by omega, World.ownsRow_nil _ _ _ _, trivial, hlg2, HB2.out, ⟨rfl, rfl, rfl, Nat.le_refl _, fun _ _ _ => rfl⟩⟩
  case round =>
    obtain ⟨i, ps, A', c', vs, sg, hi, rfl, rfl, hps, hsg, hpl, hg1, hg2, hown, hea, hlgr, hbr, hor⟩ := hrel
    have HP := Lib.hid hps
    have HG := Lib.hid hsg
    have HE := Lib.hid hea
    have HL := Lib.hid hlgr
    have HBR := Lib.hid hbr
    have HO := Lib.hid hor
    have HOW := Lib.hid hown
    clear hps hsg hea hlgr hbr hor hown hlg2
    by_cases hin : i < ns.length
    · have hcN : (i : Int) < ns.length := by omega
      obtain ⟨b, o, u, rfl, hu, hcell⟩ := (sl_stp (c := c) HSL.out (⟨HO.out, fun k h => Or.inl h⟩ : Stp w2 wr (fun k => k = w.heap.size) (fun k => k = w.heap.size)) (fun k e => HA.out k e)).at_ hin
      obtain ⟨n, hn⟩ : ∃ n, ns[i]? = some n := ⟨_, List.getElem?_eq_getElem hin⟩
      have hu' : u = .int .i64 n := by
        rw [List.getElem?_map, hn] at hu
        exact (Option.some.inj hu).symm
      subst hu'
      have hnb := HBD.out n (List.mem_of_getElem? hn)
      have hp1 : psO f gs (ns.take (i + 1)) = ps ++ (if f ≤ n then paysOf n gs else []) := by
        rw [List.take_add_one, hn, show (some n).toList = [n] from rfl, psO_snoc, HP.out]
      have hg3 : segO f (ns.take (i + 1)) = max sg (n + 1) := by
        rw [List.take_add_one, hn, show (some n).toList = [n] from rfl, segO_snoc, HG.out]
      have k1 : wr.cell? ⟨w.heap.size, 1, none⟩ = some (.int .i64 sg) := HL.out.cell rfl
      have k2 := HL.out.frozen 1
      have hrs : w2.heap.size ≤ wr.heap.size := HO.out.size
      clear hu hn
      by_cases hfn : f ≤ n
      · rw [if_pos hfn] at hp1
        have hpy := pays_any (H.out.below HBR.out) n (by omega)
        have hql := pays_len (H.out.below HBR.out).dr n
        generalize paysOf n gs = q at hpy hql hp1
        have HP1 := Lib.hid hp1
        have HG1 := Lib.hid hg3
        clear hp1 hg3
        go_wp2_with (first
          | (go_at_call 57; refine hpy.mono ?_; rintro e w4 ⟨A3, c3, vs3, rfl, ho3, he3, hb4⟩)
          | (at_builtin; refine wpList_app _ rfl (.tmp 31) (.tmp 34) 23 rfl w2.heap.size rowsEl (by decide) _ _ _ rfl (own_keep HOW.out hb4) A3 q.length c3 vs3 rfl (own_sl ho3) he3.one (by omega) (by have := hb4.size; omega) ?_; intro A5 c5 w5 hown5 hg5 hat5
             have L5 : Lg w5 w.heap.size pb sg false := (HL.out.keep (hb4.block _ HL.out.lt)).keep (hg5.block _ (by have := hb4.size; omega) (fun e => by have := (own_blk (own_keep HOW.out hb4)) _ e.symm; omega))
             have d1 : w5.cell? ⟨w.heap.size, 1, none⟩ = some (.int .i64 sg) := L5.cell rfl
             have d2 := L5.frozen 1))
        have ho4 := own_keep HOW.out hb4
        have he5 := (each_app (HE.out.below hb4) (he3.mono hrs)).grown ho4 hg5
        have hL := Blk.set L5 1 (.int .i64 (max sg (n + 1)))
        have hb5 : Below w.heap.size w w5 := (HBR.out.trans (hb4.mono HBR.out.size)).grown hg5 (by have := hb4.size; omega) (fun k e => by have := own_blk ho4 k e; omega)
        have ho5 := oth_grown (oth_below HO.out hb4) hg5 (own_blk ho4)
        have hpl5 : (ps ++ q).length ≤ (i + 1) * 262144 := by rw [List.length_append, Nat.add_mul]; exact Nat.add_le_add hpl (by rw [Nat.one_mul]; exact hql)
        exact ⟨⟨i + 1, ps ++ q, A5, c5, vs ++ vs3, max sg (n + 1), by omega, by go_num, by simp, HP1.out.symm, HG1.out.symm, hpl5, by omega, by omega, own_set (by rw [List.length_append]; exact hown5) (by omega), each_set he5 (by omega), hL, below_set hb5 (Nat.le_refl _), oth_set ho5 rfl⟩, by simp only [intOf]; omega⟩
      · rw [if_neg hfn, List.append_nil] at hp1
        have HP1 := Lib.hid hp1
        have HG1 := Lib.hid hg3
        clear hp1 hg3
        go_wp2_with fail
        have hL := Blk.set HL.out 1 (.int .i64 (max sg (n + 1)))
        exact ⟨⟨i + 1, ps, A', c', vs, max sg (n + 1), by omega, by go_num, rfl, HP1.out.symm, HG1.out.symm, Nat.le_trans hpl (Nat.mul_le_mul_right _ (Nat.le_succ i)), by omega, by omega, own_set HOW.out (by omega), each_set HE.out (by omega), hL, below_set HBR.out (Nat.le_refl _), oth_set HO.out rfl⟩, by simp only [intOf]; omega⟩
    · have hcN : ¬ (i : Int) < ns.length := by omega
      have k1 : List.take i ns = ns := List.take_of_length_le (by omega)
      have e1 := HP.out
      have e2 := HG.out
      rw [k1] at e1 e2
      have HE1 := Lib.hid e1
      have HE2 := Lib.hid e2
      clear e1 e2 k1
      go_wp2_with fail
      go_ret3
      unfold OpenPost
      rw [HNS.out, ← HE1.out, ← HE2.out]
      exact ⟨w.heap.size, A', c', vs, rfl, HL.out, Nat.le_refl _, own_base HOW.out hs2, HE.out.mono hs2, HBR.out⟩
end Go.Proofs.YtadkgfhfjagmpaaGreatDoor

namespace Go.Proofs.YtadkgfhfjagmpaaGreatDoor
open Go.RowKit Go.Maps Num Crc
set_option linter.unusedVariables false

end Go.Proofs.YtadkgfhfjagmpaaGreatDoor
