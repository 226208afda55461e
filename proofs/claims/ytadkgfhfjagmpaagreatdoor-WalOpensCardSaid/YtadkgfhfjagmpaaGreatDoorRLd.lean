/-
  The reference's Load.
-/
import Derived.Test.YtadkgfhfjagmpaaGreatDoorRLo
import Derived.Test.YtadkgfhfjagmpaaGreatDoorSet4
import Derived.Test.YtadkgfhfjagmpaaGreatDoorReI
import Derived.StillTailTactics
namespace Go.Proofs.YtadkgfhfjagmpaaGreatDoor
open Go.RowKit Go.Maps
set_option linter.unusedVariables false

/-- The code so far. -/
def cdK (ns bs : List (List UInt8)) (n k : Nat) : Int := if ¬ (ns.take k).Nodup then 2 else if (0 < k ∧ 256 < n) ∨ (bs.take k).any long = true then 5 else 0
def dupK (ns : List (List UInt8)) (k : Nat) (s : List UInt8) : Bool := decide (s ∈ ns.take k)
def cd1 (dup : Bool) (c : Int) : Int := if dup = true then 2 else c
def cd2 (n : Nat) (lg : Bool) (c : Int) : Int := if c = 0 ∧ (256 < n ∨ lg = true) then 5 else c
theorem cdK_cases (ns bs : List (List UInt8)) (n k : Nat) : cdK ns bs n k = 0 ∨ cdK ns bs n k = 2 ∨ cdK ns bs n k = 5 := by
  unfold cdK
  split
  · exact .inr (.inl rfl)
  · split
    · exact .inr (.inr rfl)
    · exact .inl rfl
theorem cdK_next {ns bs : List (List UInt8)} {n k : Nat} {s l : List UInt8} (hs : ns[k]? = some s) (hl : bs[k]? = some l) : cd2 n (long l) (cd1 (dupK ns k s) (cdK ns bs n k)) = cdK ns bs n (k + 1) := by
  have h1 : (ns.take (k + 1)).Nodup ↔ (ns.take k).Nodup ∧ s ∉ ns.take k := by
    rw [nodup_snoc hs]
    refine and_congr_right fun _ => ?_
    constructor
    · intro h hm
      rw [List.mem_take_iff_getElem] at hm
      obtain ⟨j, hj, e⟩ := hm
      exact h j s (by omega) (by rw [List.getElem?_eq_getElem (by omega), e]) rfl
    · intro h j t hj ht e
      subst e
      apply h
      rw [List.mem_take_iff_getElem]
      obtain ⟨hjl, he⟩ := List.getElem?_eq_some_iff.1 ht
      exact ⟨j, by omega, he⟩
  have h2 := any_snoc (p := long) hl
  unfold cdK cd2 cd1 dupK
  rw [h2]
  by_cases hm : s ∈ ns.take k
  · have h3 : ¬ (ns.take (k + 1)).Nodup := fun e => (h1.1 e).2 hm
    simp [hm, h3]
  · by_cases hn : (ns.take k).Nodup
    · have h3 : (ns.take (k + 1)).Nodup := h1.2 ⟨hn, hm⟩
      by_cases h256 : 256 < n
      · by_cases h0 : 0 < k
        · simp [hm, h3, hn, h256, h0]
        · have hk0 : k = 0 := by omega
          subst hk0
          simp_all
      · cases ha : (bs.take k).any long <;> cases hb : long l <;> simp_all
    · have h3 : ¬ (ns.take (k + 1)).Nodup := fun e => hn (h1.1 e).1
      simp [hm, h3, hn]
theorem mem_with_old {x y : Fm} : ∀ {l : List Fm}, y ∈ l → y.name ≠ x.name → y ∈ withK Fm.name x l
  | [], h, _ => by cases h
  | z :: r, h, hn => by
    unfold withK
    split
    · exact List.mem_cons_of_mem _ (List.mem_filter.2 ⟨h, by simpa using hn⟩)
    · rcases List.mem_cons.1 h with e | e
      · exact e ▸ List.mem_cons_self
      · exact List.mem_cons_of_mem _ (mem_with_old e hn)
theorem fold_mem (zs : List (List UInt8 × List UInt8)) (s : List UInt8) : (∃ f ∈ foldF zs, f.name = s) ↔ ∃ p ∈ zs, p.1 = s := by
  have key : ∀ (zs : List (List UInt8 × List UInt8)) (l : List Fm), Rises Fm.name l → Rises Fm.name (zs.foldl put1 l) ∧ ((∃ f ∈ zs.foldl put1 l, f.name = s) ↔ (∃ f ∈ l, f.name = s) ∨ ∃ p ∈ zs, p.1 = s) := by
    intro zs
    induction zs with
    | nil => intro l hr; exact ⟨hr, by simp⟩
    | cons p r ih =>
      intro l hr
      have hr2 : Rises Fm.name (put1 l p) := rises_with _ hr
      obtain ⟨h1, h2⟩ := ih (put1 l p) hr2
      refine ⟨h1, ?_⟩
      rw [List.foldl_cons, h2]
      have h3 : (∃ f ∈ put1 l p, f.name = s) ↔ (∃ f ∈ l, f.name = s) ∨ p.1 = s := by
        constructor
        · rintro ⟨f, hf, e⟩
          rcases mem_with_ne (key := Fm.name) hr hf with rfl | ⟨hf, _⟩
          · exact .inr e
          · exact .inl ⟨f, hf, e⟩
        · rintro (⟨f, hf, e⟩ | e)
          · by_cases hn : f.name = p.1
            · exact ⟨⟨p.1, p.2, p.2.length⟩, self_with _ l, by show p.1 = s; rw [← hn, e]⟩
            · refine ⟨f, ?_, e⟩
              exact mem_with_old hf hn
          · exact ⟨⟨p.1, p.2, p.2.length⟩, self_with _ l, e⟩
      rw [h3]
      simp only [List.mem_cons, exists_eq_or_imp, or_assoc]
  have := (key zs [] List.Pairwise.nil).2
  simpa [foldF] using this

/-- Where the loop of the reference's Load stands. -/
def RlL (w wr : World) (fs : List Fm) : Prop := ∃ A' c', Blk wr (w.heap.size + 1) (dcs A' fs.length c' 0 false 0) 35 ∧ wr.ownsRow w.heap.size 108 3 (.slice A' fs.length c') fs.length (fcs fs) ∧ Below w.heap.size w wr ∧ Blk wr w.heap.size zcs 35
/-- What the reference's Load answers. -/
def RLoadPost (w : World) (ns bs : List (List UInt8)) (e : Ending) (w' : World) : Prop :=
  Below w.heap.size w w' ∧ if loadE ns bs = 0 then ∃ A c, e = .returned (.tuple #[.agg #[.slice A (foldF (ns.zip bs)).length c, .int .i64 0, .bool false, .int .i64 0], .int .i64 0]) ∧ w'.ownsRow w.heap.size 108 3 (.slice A (foldF (ns.zip bs)).length c) (foldF (ns.zip bs)).length (fcs (foldF (ns.zip bs)))
    else e = .returned (.tuple #[.agg #[.slice none 0 0, .int .i64 0, .bool false, .int .i64 0], .int .i64 (loadE ns bs)])
theorem at_dup {ns bs : List (List UInt8)} {k : Nat} (s : List UInt8) (hk : k ≤ (ns.zip bs).length) (hl : ns.length = bs.length) : decide (0 ≤ atK Fm.name s (foldF ((ns.zip bs).take k))) = dupK ns k s := by
  have h1 := fold_mem ((ns.zip bs).take k) s
  have h2 : (∃ p ∈ (ns.zip bs).take k, p.1 = s) ↔ s ∈ ns.take k := by
    have : ((ns.zip bs).take k).map Prod.fst = ns.take k := by rw [List.map_take, List.map_fst_zip (by omega)]
    rw [← this, List.mem_map]
  rw [h2] at h1
  unfold dupK
  cases hf : findK Fm.name s (foldF ((ns.zip bs).take k)) with
  | none =>
    rw [atK_none hf]
    have : s ∉ ns.take k := fun hm => by
      obtain ⟨f, hf2, e⟩ := h1.2 hm
      exact find_none hf f hf2 e
    simp [this]
  | some y =>
    obtain ⟨i, hi, _⟩ := atK_some hf
    rw [hi]
    have : s ∈ ns.take k := h1.1 ⟨y, (find_some hf).1, (find_some hf).2⟩
    simp [this]

theorem RlL.next {w w3 w5 : World} {fs fs' : List Fm} {A' A5 : Option Addr} {c' c5 : Nat} (hM : Blk w3 (w.heap.size + 1) (dcs A' fs.length c' 0 false 0) 35) (hR : Blk w3 w.heap.size zcs 35) (hbel : Below w.heap.size w w3)
    (hb5 : Below w3.heap.size w3 w5) (ho : w5.ownsRow w3.heap.size 108 3 (.slice A5 fs'.length c5) fs'.length (fcs fs')) :
    Blk w5 (w.heap.size + 1) (dcs A' fs.length c' 0 false 0) 35 ∧ RlL w ((((w5.setCell ⟨w.heap.size + 1, 0, none⟩ (.slice A5 fs'.length c5)).setCell ⟨w.heap.size + 1, 1, none⟩ (.int .i64 0)).setCell ⟨w.heap.size + 1, 2, none⟩ (.bool false)).setCell ⟨w.heap.size + 1, 3, none⟩ (.int .i64 0)) fs' := by
  have hM5 := hM.keep (hb5.block _ hM.lt)
  have hR5 := hR.keep (hb5.block _ hR.lt)
  refine ⟨hM5, A5, c5, hM5.box, own3_base (own3_keep ho fun q e => set4_block _ _ _ _ _ _ _ (row_ne ho hM5 (by decide) q e)) hbel.size, set4_below (hbel.trans (hb5.mono hbel.size)) (by omega) _ _ _ _, hR5.keep (set4_block _ _ _ _ _ _ _ (by omega))⟩

theorem cdK_end {ns bs : List (List UInt8)} {n : Nat} (hl : ns.length = n) (hbl : bs.length = n) (hall : ns.all vname = true) : cdK ns bs n n = loadE ns bs := by
  unfold cdK loadE
  rw [List.take_of_length_le (by omega), List.take_of_length_le (by omega), hall, hl, hbl]
  have h1 : (0 < n ∧ 256 < n) ↔ 256 < n := ⟨fun h => h.2, fun h => ⟨by omega, h⟩⟩
  simp only [h1]
  simp
theorem cdK_five {ns bs : List (List UInt8)} {n : Nat} (hl : ns.length = n) (h : cdK ns bs n n = 5) : ns.Nodup := by
  unfold cdK at h
  rw [List.take_of_length_le (by omega)] at h
  by_cases hn : ns.Nodup
  · exact hn
  · rw [if_pos hn] at h
    cases h

set_option maxRecDepth 40000 in
set_option maxHeartbeats 8000000 in
theorem rload_any (A : Option Addr) (n c : Nat) (ns : List (List UInt8)) (B : Option Addr) (m d : Nat) (bs : List (List UInt8)) (w : World) (hs : Sl w A n (ns.map sv)) (hn9 : n ≤ 300) (hns : ∀ s ∈ ns, s.length ≤ 140737488355328) (hb : Br w B m bs) (hm9 : m ≤ 300) (hb9 : ∀ l ∈ bs, l.length ≤ 140737488355328) :
    Calls Tryz.prog 12 #[.slice A n c, .slice B m d] w (RLoadPost w ns bs) := by
  have hl : ns.length = n := by have := hs.1; simpa using this
  have hbl : bs.length = m := hb.1
  have HS := Lib.hid (And.intro hs hb)
  have H9 := Lib.hid (And.intro hns hb9)
  have HL := Lib.hid (And.intro hl hbl)
  clear hs hb hns hb9
  by_cases h1 : n = m
  · subst h1
    clear hl hbl
    go_enter Tryz.func12, Tryz.ntmps12
    go_wp2_with fail
    have hstart : RlL w ((w.alloc (dobj zcs)).alloc (dobj zcs)) (foldF ((ns.zip bs).take 0)) := by
      have b2 := Blk.new (w.alloc (dobj zcs)) zcs 35
      rw [World.size_alloc] at b2
      exact ⟨none, 0, b2, own3_nil _ _, ((Below.refl _ w).alloc (Nat.le_refl _) _).alloc (by simp) _, (Blk.new w zcs 35).keep (Below.heap_alloc _ _ _ (by simp))⟩
    generalize (w.alloc (dobj zcs)).alloc (dobj zcs) = V0 at hstart ⊢
    have HST := Lib.hid hstart
    clear hstart
    go_loopw [7, 8] (fun cd j wr => ∃ k : Nat, k ≤ n ∧ j = .int .i64 k ∧ cd = .int .i64 (cdK ns bs n k) ∧ (ns.take k).all vname = true ∧ RlL w wr (foldF ((ns.zip bs).take k))) (fun _ j _ => n - (intOf j).toNat)
    case atStart => exact ⟨0, Nat.zero_le _, rfl, by simp [cdK], rfl, HST.out⟩
    case round =>
      obtain ⟨k, hk, rfl, rfl, hall, A', c', hM, ho, hbel, hR⟩ := hrel
      by_cases hin : k < n
      · have hcN : (k : Int) < n := by omega
        have hk0 : (0 : Int) ≤ k := by omega
        obtain ⟨b, o, u, e1, hu, x0⟩ := (HS.out.1.below hbel).at_ hin
        obtain ⟨s, hs⟩ : ∃ s, ns[k]? = some s := ⟨_, List.getElem?_eq_getElem (by have := HL.out.1; omega)⟩
        rw [List.getElem?_map, hs] at hu
        have hu := (Option.some.inj hu).symm
        subst hu
        subst e1
        obtain ⟨b2, p2, K, l, cl, e2, hlk, y0, hsl, hlc⟩ := (HS.out.2.below hbel).at_ hin
        subst e2
        have hnm := name_any s wr (H9.out.1 s (List.mem_of_getElem? hs))
        unfold sv at x0
        cases hvs : vname s with
        | false =>
          rw [hvs] at hnm
          have r0 : wr.cell? ⟨w.heap.size, 0, none⟩ = some (.slice none 0 0) := hR.cell rfl
          have r1 : wr.cell? ⟨w.heap.size, 1, none⟩ = some (.int .i64 0) := hR.cell rfl
          have r2 : wr.cell? ⟨w.heap.size, 2, none⟩ = some (.bool false) := hR.cell rfl
          have r3 : wr.cell? ⟨w.heap.size, 3, none⟩ = some (.int .i64 0) := hR.cell rfl
          have f0 := hR.frozen 0
          have f1 := hR.frozen 1
          have f2 := hR.frozen 2
          have f3 := hR.frozen 3
          have hE : loadE ns bs = 20 := by
            have h2 : ns.all vname = false := List.all_eq_false.2 ⟨s, List.mem_of_getElem? hs, by rw [hvs]; decide⟩
            simp [loadE, HL.out.1, HL.out.2, h2]
          have HX := Lib.hid (And.intro hE (And.intro hbel hR))
          clear hE hbel hR hM ho hs hlk hsl hvs hall
          go_wp2_with (go_at_call 52; refine hnm.mono ?_; rintro e w' ⟨rfl, rfl⟩)
          obtain ⟨hE, hbel, hR⟩ := HX.out
          refine ret_drive2 rfl rfl rfl rfl (hR.box (A := none) (n := 0) (c := 0) (st := 0) (ar := false) (lf := 0)) ⟨set4_below hbel (Nat.le_refl _) _ _ _ _, ?_⟩
          rw [hE]
          rfl
        | true =>
          rw [hvs] at hnm
          have hx := all_snoc (p := vname) hs
          rw [hall, Bool.true_and, hvs] at hx
          have hfl := own_fl ho
          have hflen : (foldF ((ns.zip bs).take k)).length ≤ k := Nat.le_trans (foldF_len _) (List.length_take_le _ _)
          have hat := at_any A' _ c' (foldF ((ns.zip bs).take k)) 0 false 0 s wr.drew hfl (by omega)
          have hdp := at_dup (ns := ns) (bs := bs) (k := k) s (by rw [List.length_zip, HL.out.1, HL.out.2]; omega) (by rw [HL.out.1, HL.out.2])
          have hnx := cdK_next (n := n) hs hlk
          have hcc := cdK_cases ns bs n k
          have hz := zip_at hs hlk
          obtain ⟨fs, hfs⟩ : ∃ fs, fs = foldF ((ns.zip bs).take k) := ⟨_, rfl⟩
          obtain ⟨C, hC⟩ : ∃ C, C = cdK ns bs n k := ⟨_, rfl⟩
          rw [← hfs] at hM ho hfl hflen hat hdp
          rw [← hC] at hnx hcc
          obtain ⟨D, hD⟩ : ∃ D, D = atK Fm.name s fs := ⟨_, rfl⟩
          rw [← hD] at hat hdp
          have d0 : wr.cell? ⟨w.heap.size + 1, 0, none⟩ = some (.slice A' fs.length c') := hM.cell rfl
          have d1 : wr.cell? ⟨w.heap.size + 1, 1, none⟩ = some (.int .i64 0) := hM.cell rfl
          have d2 : wr.cell? ⟨w.heap.size + 1, 2, none⟩ = some (.bool false) := hM.cell rfl
          have d3 : wr.cell? ⟨w.heap.size + 1, 3, none⟩ = some (.int .i64 0) := hM.cell rfl
          have HX := Lib.hid (And.intro hx (And.intro hnx (And.intro hcc (And.intro hz (And.intro hfs (And.intro hdp (And.intro hM (And.intro ho (And.intro hbel (And.intro hR hsl))))))))))
          rw [← hC]
          clear hx hnx hcc hz hfs hdp hM ho hbel hR hs hlk hsl hvs hall hfl hC hD
          have h512 : (n : Int) ≤ 512 := by omega
          have hsplit : (0 ≤ D ∧ cdK ns bs n (k + 1) = 2) ∨ (¬ 0 ≤ D ∧ ((C = 2 ∧ cdK ns bs n (k + 1) = 2) ∨ (C = 5 ∧ cdK ns bs n (k + 1) = 5) ∨ (C = 0 ∧ ((((256 : Int) < n) ∧ cdK ns bs n (k + 1) = 5) ∨ (¬ ((256 : Int) < n) ∧ ((((262144 : Int) < l.length) ∧ cdK ns bs n (k + 1) = 5) ∨ (¬ ((262144 : Int) < l.length) ∧ cdK ns bs n (k + 1) = 0))))))) := by
            obtain ⟨_, hnx, hcc, _, _, hdp, _⟩ := HX.out
            by_cases hD0 : 0 ≤ D
            · have hdt : dupK ns k s = true := by rw [← hdp]; simp [hD0]
              rw [hdt] at hnx
              exact .inl ⟨hD0, by rw [← hnx]; simp [cd1, cd2]⟩
            · have hdt : dupK ns k s = false := by rw [← hdp]; simp [hD0]
              rw [hdt] at hnx
              refine .inr ⟨hD0, ?_⟩
              rcases hcc with rfl | rfl | rfl
              · refine .inr (.inr ⟨rfl, ?_⟩)
                by_cases h256 : (256 : Int) < n
                · have h256n : 256 < n := by omega
                  exact .inl ⟨h256, by rw [← hnx]; simp [cd1, cd2, h256n]⟩
                · have h256n : ¬ 256 < n := by omega
                  refine .inr ⟨h256, ?_⟩
                  by_cases hlg : (262144 : Int) < l.length
                  · have hlt : long l = true := by unfold long; exact decide_eq_true (by omega)
                    exact .inl ⟨hlg, by rw [← hnx, hlt]; simp [cd1, cd2]⟩
                  · have hlt : long l = false := by unfold long; exact decide_eq_false (by omega)
                    exact .inr ⟨hlg, by rw [← hnx, hlt]; simp [cd1, cd2, h256n]⟩
              · exact .inl ⟨rfl, by rw [← hnx]; simp [cd1, cd2]⟩
              · exact .inr (.inl ⟨rfl, by rw [← hnx]; simp [cd1, cd2]⟩)
          have HSP := Lib.hid hsplit
          clear hsplit
          go_wp2_with (go_at_call 52; refine hnm.mono ?_; rintro e w' ⟨rfl, rfl⟩)
          obtain ⟨wo, rfl⟩ : ∃ wo : World, wo = w' := ⟨_, rfl⟩
          go_still_tail 5, (by kernel_rfl)
          change wpList _ _ _ _ _ wo.drew
          have hbd : Below wo.heap.size wo wo.drew := (Below.refl _ wo).drew
          generalize wo.drew = w2 at hat hbd ⊢
          go_wp2_with fail
          refine hat.mono ?_
          rintro e w3 ⟨rfl, hb3⟩
          have hb13 : Below wo.heap.size wo w3 := hbd.trans (hb3.mono hbd.size)
          clear hat hbd hb3 hnm
          have x0 : w3.cell? ⟨b, o + k, none⟩ = some (.string (str s)) := (hb13.cell (p := ⟨b, o + k, none⟩) (World.block_lt_of_cell? _ _ x0)).trans x0
          have y0 : w3.cell? ⟨b2, p2 + k, none⟩ = some (.slice K l.length cl) := (hb13.cell (p := ⟨b2, p2 + k, none⟩) (World.block_lt_of_cell? _ _ y0)).trans y0
          obtain ⟨hx, hnx, hcc, hz, hfs, hdp, hM, ho, hbel, hR, hsl⟩ := HX.out
          have hM3 := hM.keep (hb13.block _ hM.lt)
          have hR3 := hR.keep (hb13.block _ hR.lt)
          have ho3 := own3_below ho hb13
          have hsl3 := hsl.below hb13
          have hbel3 : Below w.heap.size w w3 := hbel.trans (hb13.mono hbel.size)
          have d0 : w3.cell? ⟨w.heap.size + 1, 0, none⟩ = some (.slice A' fs.length c') := hM3.cell rfl
          have d1 : w3.cell? ⟨w.heap.size + 1, 1, none⟩ = some (.int .i64 0) := hM3.cell rfl
          have d2 : w3.cell? ⟨w.heap.size + 1, 2, none⟩ = some (.bool false) := hM3.cell rfl
          have d3 : w3.cell? ⟨w.heap.size + 1, 3, none⟩ = some (.int .i64 0) := hM3.cell rfl
          have HY := Lib.hid (And.intro hM3 (And.intro hR3 (And.intro ho3 (And.intro hsl3 hbel3))))
          clear hx hnx hcc hz hfs hdp hM ho hbel hR hsl hM3 hR3 ho3 hsl3 hbel3 hb13
          rcases HSP.out with ⟨hD0, hcd⟩ | ⟨hD0, ⟨rfl, hcd⟩ | ⟨rfl, hcd⟩ | ⟨rfl, ⟨h256, hcd⟩ | ⟨h256, ⟨hlg, hcd⟩ | ⟨hlg, hcd⟩⟩⟩⟩
          all_goals
            have HCD := Lib.hid hcd
            clear hcd
            go_wp2_with fail
          all_goals
            have hcs : (convert 28 9 (.slice K l.length cl)).run Tryz.prog w3.drew = .ok (.string (str l)) w3.drew := run_str (P := Tryz.prog) (w := w3.drew) (c := cl) HY.out.2.2.2.1 28 5 9 Tryz.underlying28 Tryz.underlying5 Tryz.underlying9
            go_still_tail 16, (by kernel_rfl)
          all_goals
            change wpList _ _ _ _ _ w3.drew
            have hwi := with_any A' fs.length c' fs 0 false 0 ⟨s, l, l.length⟩ w3.drew (own_fl HY.out.2.2.1) (by omega)
            clear hcs
            have hbd : Below w3.heap.size w3 w3.drew := (Below.refl _ w3).drew
            have hsd : w3.drew.heap.size = w3.heap.size := rfl
            generalize w3.drew = w4 at hwi hbd hsd ⊢
            have HSD := Lib.hid hsd
            clear hsd d0 d1 d2 d3
            go_wp2_with (go_at_call 54; refine hwi.mono ?_; intro e w5 hfr
                         obtain ⟨A5, c5, rfl, ho5, hb5⟩ := hfr
                         obtain ⟨hM5, hL5⟩ := RlL.next (fs' := withK Fm.name ⟨s, l, l.length⟩ fs) HY.out.1 HY.out.2.1 HY.out.2.2.2.2 (hbd.trans (hb5.mono (by have := HSD.out; omega))) (by rw [← HSD.out]; exact ho5)
                         have d0 : w5.cell? ⟨w.heap.size + 1, 0, none⟩ = some (.slice A' fs.length c') := hM5.cell rfl
                         have d1 : w5.cell? ⟨w.heap.size + 1, 1, none⟩ = some (.int .i64 0) := hM5.cell rfl
                         have d2 : w5.cell? ⟨w.heap.size + 1, 2, none⟩ = some (.bool false) := hM5.cell rfl
                         have d3 : w5.cell? ⟨w.heap.size + 1, 3, none⟩ = some (.int .i64 0) := hM5.cell rfl
                         have f0 := hM5.frozen 0
                         have f1 := hM5.frozen 1
                         have f2 := hM5.frozen 2
                         have f3 := hM5.frozen 3
                         have HL5 := Lib.hid hL5
                         clear hM5 hL5 ho5 hb5)
            refine ⟨⟨k + 1, by omega, by go_num, by rw [HCD.out], HX.out.1, ?_⟩, by simp [intOf]; omega⟩
            rw [HX.out.2.2.2.1, foldF_snoc, ← HX.out.2.2.2.2.1]
            exact HL5.out
      · obtain rfl : k = n := by omega
        have hcN : ¬ (k : Int) < k := by omega
        rw [List.take_of_length_le (by have := HL.out.1; omega)] at hall
        have hzl : (ns.zip bs).take k = ns.zip bs := List.take_of_length_le (by rw [List.length_zip, HL.out.1, HL.out.2]; omega)
        rw [hzl] at hM ho
        have hen := cdK_end (bs := bs) HL.out.1 HL.out.2 hall
        have hcc := cdK_cases ns bs k k
        have htw := rtwice_any _ k c ns wr (HS.out.1.below hbel) (by omega)
        obtain ⟨fs, hfs⟩ : ∃ fs, fs = foldF (ns.zip bs) := ⟨_, rfl⟩
        rw [← hfs] at hM ho
        obtain ⟨C, hC⟩ : ∃ C, C = cdK ns bs k k := ⟨_, rfl⟩
        rw [← hC] at hcc hen ⊢
        have h5 : C = 5 → ns.Nodup := fun e => cdK_five HL.out.1 (hC ▸ e)
        have d0 : wr.cell? ⟨w.heap.size + 1, 0, none⟩ = some (.slice A' fs.length c') := hM.cell rfl
        have d1 : wr.cell? ⟨w.heap.size + 1, 1, none⟩ = some (.int .i64 0) := hM.cell rfl
        have d2 : wr.cell? ⟨w.heap.size + 1, 2, none⟩ = some (.bool false) := hM.cell rfl
        have d3 : wr.cell? ⟨w.heap.size + 1, 3, none⟩ = some (.int .i64 0) := hM.cell rfl
        have r0 : wr.cell? ⟨w.heap.size, 0, none⟩ = some (.slice none 0 0) := hR.cell rfl
        have r1 : wr.cell? ⟨w.heap.size, 1, none⟩ = some (.int .i64 0) := hR.cell rfl
        have r2 : wr.cell? ⟨w.heap.size, 2, none⟩ = some (.bool false) := hR.cell rfl
        have r3 : wr.cell? ⟨w.heap.size, 3, none⟩ = some (.int .i64 0) := hR.cell rfl
        have f0 := hR.frozen 0
        have f1 := hR.frozen 1
        have f2 := hR.frozen 2
        have f3 := hR.frozen 3
        have HX := Lib.hid (And.intro hen (And.intro hfs (And.intro ho (And.intro hbel hR))))
        have H5 := Lib.hid h5
        clear hen hfs ho hbel hR hM hC h5 hall hzl
        rcases hcc with rfl | rfl | rfl
        · clear htw
          go_wp2_with fail
          obtain ⟨hen, hfs, ho, hbel, hR⟩ := HX.out
          refine ret_drive2 rfl rfl rfl rfl (hR.box (n' := fs.length)) ⟨set4_below hbel (Nat.le_refl _) _ _ _ _, ?_⟩
          rw [if_pos hen.symm, ← hfs]
          exact ⟨_, _, rfl, own3_keep ho fun q e => set4_block _ _ _ _ _ _ _ (row_ne ho hR (by decide) q e)⟩
        · clear htw
          go_wp2_with fail
          obtain ⟨hen, hfs, ho, hbel, hR⟩ := HX.out
          refine ret_drive2 rfl rfl rfl rfl (hR.box (A := none) (n := 0) (c := 0) (st := 0) (ar := false) (lf := 0)) ⟨set4_below hbel (Nat.le_refl _) _ _ _ _, ?_⟩
          rw [← hen]
          rfl
        · have hnd := H5.out rfl
          rw [show decide (¬ ns.Nodup) = false from by simp [hnd]] at htw
          clear hnd
          go_wp2_with fail
          refine htw.mono ?_
          rintro e w6 ⟨rfl, hb6⟩
          obtain ⟨hen, hfs, ho, hbel, hR⟩ := HX.out
          have hR6 := hR.keep (hb6.block _ hR.lt)
          have r0 : w6.cell? ⟨w.heap.size, 0, none⟩ = some (.slice none 0 0) := hR6.cell rfl
          have r1 : w6.cell? ⟨w.heap.size, 1, none⟩ = some (.int .i64 0) := hR6.cell rfl
          have r2 : w6.cell? ⟨w.heap.size, 2, none⟩ = some (.bool false) := hR6.cell rfl
          have r3 : w6.cell? ⟨w.heap.size, 3, none⟩ = some (.int .i64 0) := hR6.cell rfl
          have f0 := hR6.frozen 0
          have f1 := hR6.frozen 1
          have f2 := hR6.frozen 2
          have f3 := hR6.frozen 3
          have HR6 := Lib.hid (And.intro hR6 (And.intro hen (hbel.trans (hb6.mono hbel.size))))
          clear hen hfs ho hbel hR hR6 htw hb6
          go_wp2_with fail
          refine ret_drive2 rfl rfl rfl rfl (HR6.out.1.box (A := none) (n := 0) (c := 0) (st := 0) (ar := false) (lf := 0)) ⟨set4_below HR6.out.2.2 (Nat.le_refl _) _ _ _ _, ?_⟩
          rw [← HR6.out.2.1]
          rfl
  · have hE : loadE ns bs = 1 := by simp [loadE, hl, hbl, h1]
    have h1i : ((n : Int) == (m : Int)) = false := by simp; omega
    have h1j : ((n : Int) != (m : Int)) = true := by simp; omega
    have HE := Lib.hid hE
    clear hl hbl hE
    go_enter Tryz.func12, Tryz.ntmps12
    go_wp2_with fail
    refine ret_drive2 rfl rfl rfl rfl (Blk.new w zcs 35) ⟨(Below.refl _ w).alloc (Nat.le_refl _) _, ?_⟩
    rw [HE.out]
    rfl
end Go.Proofs.YtadkgfhfjagmpaaGreatDoor
