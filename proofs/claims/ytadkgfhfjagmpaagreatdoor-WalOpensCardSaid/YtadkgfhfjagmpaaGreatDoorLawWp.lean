/-
  The law WalOpens as a walk.
-/
import Derived.Test.YtadkgfhfjagmpaaGreatDoorOpB
import Derived.Test.YtadkgfhfjagmpaaGreatDoorWrN
import Derived.Test.YtadkgfhfjagmpaaGreatDoorWrE
import Derived.Test.YtadkgfhfjagmpaaGreatDoorGWs
import Derived.Test.YtadkgfhfjagmpaaGreatDoorGDa
import Derived.Deep.RegionHeld
namespace Go.Proofs.YtadkgfhfjagmpaaGreatDoor
open Go.RowKit Go.Maps Num Crc
set_option linter.unusedVariables false

theorem strElO : El Tryz.prog 25 9 (.string ByteArray.empty) 16 := ⟨Tryz.underlying25, by kernel_rfl, rfl⟩
/-- Rows of different types are kept where another one grows. -/
theorem own_kept {w w' : World} {B e n B2 e2 n2 : Nat} {v v2 : Value} {xs xs2 : List Value} (h : w.ownsRow B e 1 v n xs) (h2 : w.ownsRow B2 e2 1 v2 n2 xs2) (hne : e ≠ e2) (hg : w.grownBy w' v2.ownBlock) : w'.ownsRow B e 1 v n xs :=
  own_at h fun k hk => by
    obtain ⟨cur, hb⟩ := own_blk_type h hk
    refine hg.block k hb.lt fun e3 => ?_
    obtain ⟨cur2, hb2⟩ := own_blk_type h2 e3.symm
    unfold Blk at hb hb2
    rw [hb] at hb2
    injection hb2 with hb2
    injection hb2 with _ hb2
    exact hne hb2
theorem cont_snoc (xs : List (List UInt8)) (t S : List UInt8) : (xs ++ [t]).contains S = (xs.contains S || t == S) := by
  cases h1 : (xs ++ [t]).contains S
  · have h2 : S ∉ xs ++ [t] := fun h => by rw [List.contains_iff_mem.2 h] at h1; cases h1
    have h3 : xs.contains S = false := by
      cases h : xs.contains S
      · rfl
      · exact absurd (List.mem_append_left _ (List.contains_iff_mem.1 h)) h2
    have h4 : (t == S) = false := by
      cases h : t == S
      · rfl
      · rw [beq_iff_eq] at h
        exact absurd (by rw [h]; simp) h2
    rw [h3, h4]; rfl
  · rcases List.mem_append.1 (List.contains_iff_mem.1 h1) with h | h
    · rw [List.contains_iff_mem.2 h]; rfl
    · rw [List.mem_singleton] at h
      subst h
      simp
theorem mod_name (z : Int) : ∃ n : Nat, n ≤ 1000000 ∧ wrap64 ((IntKind.u64.wrap z).tmod 1000001) = (n : Int) := by
  have h0 : 0 ≤ IntKind.u64.wrap z := by
    rw [IntKind.wrap_u64]
    omega
  have h1 : (IntKind.u64.wrap z).tmod 1000001 = (IntKind.u64.wrap z) % 1000001 := Int.tmod_eq_emod_of_nonneg h0
  have h2 : 0 ≤ (IntKind.u64.wrap z) % 1000001 := Int.emod_nonneg _ (by decide)
  have h3 : (IntKind.u64.wrap z) % 1000001 < 1000001 := Int.emod_lt_of_pos _ (by decide)
  refine ⟨((IntKind.u64.wrap z) % 1000001).toNat, by omega, ?_⟩
  rw [h1]
  unfold wrap64
  omega

theorem rowElO : El Tryz.prog 23 28 (.slice none 0 0) 24 := ⟨Tryz.underlying23, by kernel_rfl, rfl⟩
/-- A block as a row. -/
theorem blk_sl {w : World} {b : Nat} {t : TypeId} (xs : List Value) (h : Blk w b xs.toArray t) : Sl w (some ⟨b, 0, none⟩) xs.length xs :=
  ⟨rfl, fun _ => ⟨b, 0, rfl, fun j u hu => by rw [Nat.zero_add]; exact h.cell (by simpa using hu)⟩⟩
abbrev zo : Obj := .cells #[.int .u8 0, .int .u8 0, .int .u8 0, .int .u8 0, .int .u8 0] 5
abbrev two (w : World) : Obj := .cells #[.slice (some ⟨w.heap.size, 0, none⟩) 5 5, .slice (some ⟨w.heap.size + 1, 0, none⟩) 5 5] 28
theorem two_new (w : World) : Sl (((w.alloc zo).alloc zo).alloc (two w)) (some ⟨w.heap.size + 1 + 1, 0, none⟩) 2 [.slice (some ⟨w.heap.size, 0, none⟩) 5 5, .slice (some ⟨w.heap.size + 1, 0, none⟩) 5 5] := by
  have h := Blk.new ((w.alloc zo).alloc zo) #[.slice (some ⟨w.heap.size, 0, none⟩) 5 5, .slice (some ⟨w.heap.size + 1, 0, none⟩) 5 5] 28
  simp only [World.size_alloc] at h
  exact blk_sl [.slice (some ⟨w.heap.size, 0, none⟩) 5 5, .slice (some ⟨w.heap.size + 1, 0, none⟩) 5 5] h
theorem two_kept {w w' : World} {B e n : Nat} {v : Value} {xs : List Value} (h : w.ownsRow B e 1 v n xs) (hg : (((w.alloc zo).alloc zo).alloc (two w)).grownBy w' v.ownBlock) :
    Sl w' (some ⟨w.heap.size, 0, none⟩) 5 (bv z5) ∧ Sl w' (some ⟨w.heap.size + 1, 0, none⟩) 5 (bv z5) := by
  have h1 := ((Blk.new w #[.int .u8 0, .int .u8 0, .int .u8 0, .int .u8 0, .int .u8 0] 5).keep (Below.heap_alloc _ zo _ (by simp))).keep (Below.heap_alloc _ (two w) _ (by simp; omega))
  have h2 := (Blk.new (w.alloc zo) #[.int .u8 0, .int .u8 0, .int .u8 0, .int .u8 0, .int .u8 0] 5).keep (Below.heap_alloc _ (two w) _ (by simp))
  simp only [World.size_alloc] at h2
  have hne : ∀ k, w.heap.size ≤ k → v.ownBlock ≠ some k := fun k hk e => by
    obtain ⟨cur, hb⟩ := own_blk_type h e
    have := hb.lt
    omega
  have k1 := h1.keep (hg.block _ h1.lt (fun e => hne _ (Nat.le_refl _) e.symm))
  have k2 := h2.keep (hg.block _ h2.lt (fun e => hne _ (by omega) e.symm))
  exact ⟨blk_sl _ k1, blk_sl _ k2⟩
theorem fresh_step {d c e fr : Bool} (h : (d && !c) = fr) : (d && !(c || e)) = (fr && !e) := by subst h; cases d <;> cases c <;> cases e <;> rfl
theorem nodup_new {xs : List (List UInt8)} {s : List UInt8} (h : xs.Nodup) (hs : s ∉ xs) : (xs ++ [s]).Nodup :=
  List.nodup_append.2 ⟨h, by simp, fun a ha b hb e => by rw [List.mem_singleton] at hb; subst hb; subst e; exact hs ha⟩
/-- Where the loop over the files stands. -/
structure Op (w w1 wr : World) (nm fl : List (List UInt8)) (vs : List Value) (An Ai : Option Addr) (cn ci : Nat) : Prop where
  on : wr.ownsRow w1.heap.size 9 1 (.slice An nm.length cn) nm.length (nm.map sv)
  oi : wr.ownsRow w1.heap.size 28 1 (.slice Ai nm.length ci) nm.length vs
  hd : Hnd w vs fl
  bel : Below w1.heap.size w1 wr
/-- What is known of the names and the files. -/
structure On (nm fl : List (List UInt8)) : Prop where
  nd : nm.Nodup
  rn : ∀ s ∈ nm, ∃ n, n ≤ 1000000 ∧ s = rname n
  sh : ∀ l ∈ fl, l.length < 20000
  le : fl.length = nm.length
theorem On.nil : On [] [] := ⟨List.nodup_nil, by simp, by simp, rfl⟩
theorem On.snoc {nm fl : List (List UInt8)} (h : On nm fl) {s l : List UInt8} (h1 : s ∉ nm) (h2 : ∃ n, n ≤ 1000000 ∧ s = rname n) (h3 : l.length < 20000) : On (nm ++ [s]) (fl ++ [l]) :=
  ⟨nodup_new h.nd h1, fun t ht => (List.mem_append.1 ht).elim (h.rn t) fun e => by rw [List.mem_singleton] at e; subst e; exact h2,
    fun t ht => (List.mem_append.1 ht).elim (h.sh t) fun e => by rw [List.mem_singleton] at e; subst e; exact h3, by simp [h.le]⟩
set_option maxRecDepth 40000 in
set_option maxHeartbeats 40000000 in
theorem opens_law {w : World} (hW : WL w) {A0 : Option Addr} {n0 c0 : Nat} {l0 : List Int} (hs0 : Sl w A0 n0 (iv l0)) {A1 : Option Addr} {n1 c1 : Nat} {bs : List (List UInt8)} (hs1 : Br w A1 n1 bs) (x2 : Int) (hx2 : -9223372036854775808 ≤ x2 ∧ x2 ≤ 9223372036854775807) :
    Calls Tryz.prog 3 #[.slice A0 n0 c0, .slice A1 n1 c1, .int .i64 x2] w fun e w' => e = .returned (.bool true) ∧ Below w.heap.size w w' := by
  have HW := Lib.hid hW
  have H0 := Lib.hid hs0
  have H1 := Lib.hid hs1
  clear hW hs0 hs1
  go_enter Tryz.func3, Tryz.ntmps3
  go_wp2_with fail
  refine (awake3_any w HW.out).mono ?_
  rintro e w1 ⟨rfl, hb1⟩
  by_cases hn : 20 < n1
  · have hnI : (20 : Int) < n1 := by omega
    go_wp2_with fail
    refine (awake3_any w1 (HW.out.keep hb1)).mono ?_
    rintro e w2 ⟨rfl, hb2⟩
    go_wp2_with fail
    go_ret
    exact ⟨rfl, hb1.trans (hb2.mono hb1.size)⟩
  · have hnI : ¬ (20 : Int) < n1 := by omega
    go_wp2_with fail
    have hn20 : n1 ≤ 20 := by omega
    have HB1 := Lib.hid hb1
    clear hb1 hn hnI
    go_loopw [7, 8, 36] (fun s7 s8 s36 wr => ∃ (k : Nat) (nm fl : List (List UInt8)) (vs : List Value) (An Ai : Option Addr) (cn ci : Nat), k ≤ n1 ∧ s36 = .int .i64 k ∧ s7 = .slice An nm.length cn ∧ s8 = .slice Ai nm.length ci ∧ nm.length ≤ k ∧ On nm fl ∧ Op w w1 wr nm fl vs An Ai cn ci) (fun _ _ j _ => n1 - (intOf j).toNat)
    case atStart => exact ⟨0, [], [], [], none, none, 0, 0, Nat.zero_le _, rfl, rfl, rfl, Nat.le_refl _, On.nil, World.ownsRow_nil _ _ _ _, World.ownsRow_nil _ _ _ _, Hnd.nil _, Below.refl _ _⟩
    case round =>
      obtain ⟨k, nm, fl, vs, An, Ai, cn, ci, hk, rfl, rfl, rfl, hnk, hnn, hoo⟩ := hrel
      have HN := Lib.hid hnn
      have HO := Lib.hid hoo
      clear hnn hoo
      by_cases hin : k < n1
      · have hcN : (k : Int) < n1 := by omega
        obtain ⟨b1, o1, K, l, cl, rfl, hbl, x1w, hsl, hlc⟩ := H1.out.at_ hin
        have hb1w := World.block_lt_of_cell? _ _ x1w
        simp only at hb1w
        have x1 := ((HB1.out.trans (HO.out.bel.mono HB1.out.size)).cell (p := ⟨b1, o1 + k, none⟩) hb1w).trans x1w
        obtain ⟨wB, rfl⟩ : ∃ wB : World, wB = wr := ⟨_, rfl⟩
        have HSL := Lib.hid (And.intro hsl hlc)
        have HX1 := Lib.hid (And.intro hb1w x1w)
        clear hsl hlc hbl x1w hb1w
        have hkI : (k : Int) ≤ 19 := by omega
        have hcase : (∃ (b0 o0 : Nat) (z : Int), k < n0 ∧ A0 = some ⟨b0, o0, none⟩ ∧ wB.cell? ⟨b0, o0 + k, none⟩ = some (.int .i64 z)) ∨ ¬ (k : Int) < n0 := by
          by_cases hi0 : k < n0
          · obtain ⟨b0, o0, u, e0, hu, x0⟩ := (H0.out.below (HB1.out.trans (HO.out.bel.mono HB1.out.size))).at_ hi0
            simp only [iv, List.getElem?_map] at hu
            cases hz : l0[k]? with
            | none => rw [hz] at hu; cases hu
            | some z =>
              rw [hz] at hu
              have e1 : Value.int .i64 z = u := Option.some.inj hu
              exact .inl ⟨b0, o0, z, hi0, e0, by rw [e1]; exact x0⟩
          · exact .inr (by omega)
        rcases hcase with ⟨b0, o0, z, hi0, rfl, x0⟩ | hc0
        all_goals
          first | (have hc0 : (k : Int) < n0 := by omega) | skip
          go_upto_region 11 with fail
          first
            | (obtain ⟨n, hn9, hnE⟩ : ∃ n : Nat, n ≤ 1000000 ∧ wrap64 ((IntKind.u64.wrap z).tmod 1000001) = (n : Int) := mod_name z
               rw [hnE]
               clear hnE hc0)
            | (obtain ⟨n, hn9, hnE⟩ : ∃ n : Nat, n ≤ 1000000 ∧ (k : Int) + 1 = (n : Int) := ⟨k + 1, by omega, by simp⟩
               rw [hnE]
               clear hnE hc0)
          go_wp2_with fail
          refine (name3_any n hn9 wB).mono ?_
          rintro e w2 ⟨rfl, hb2⟩
          obtain ⟨S, hS⟩ : ∃ S, S = rname n := ⟨_, rfl⟩
          have HS : Hid (∃ m, m ≤ 1000000 ∧ S = rname m) := ⟨n, hn9, hS⟩
          rw [← hS]
          have hb12 : Below w1.heap.size w1 w2 := HO.out.bel.trans (hb2.mono HO.out.bel.size)
          have y1 : w2.cell? ⟨b1, o1 + k, none⟩ = some (.slice K l.length cl) := (hb2.cell (p := ⟨b1, o1 + k, none⟩) (World.block_lt_of_cell? _ _ x1)).trans x1
          have HO2 := Lib.hid (Op.mk (own_keep HO.out.on hb2) (own_keep HO.out.oi hb2) HO.out.hd hb12)
          have hn21 : nm.length ≤ 20 := by omega
          have hz12 := hb12.size
          have hz01 := HB1.out.size
          clear hS x1 hb2 hb12 HO hn9
          go_wp2_with fail
          go_loopw [12, 62] (fun s12 s62 wq => ∃ j : Nat, j ≤ nm.length ∧ s62 = .int .i64 j ∧ s12 = .bool (decide (l.length < 20000) && !(nm.take j).contains S) ∧ wq = w2) (fun _ j _ => nm.length - (intOf j).toNat)
          case atStart =>
            refine ⟨0, Nat.zero_le _, rfl, ?_, rfl⟩
            simp
            constructor <;> omega
          case round =>
            obtain ⟨j, hj, rfl, rfl, rfl⟩ := hrel
            obtain ⟨w2, rfl⟩ : ∃ w2 : World, w2 = wr := ⟨_, rfl⟩
            by_cases hjn : j < nm.length
            · have hjI : (j : Int) < nm.length := by omega
              obtain ⟨bq, oq, u, rfl, hu, x0⟩ := (own_sl HO2.out.on).at_ hjn
              obtain ⟨t, ht⟩ : ∃ t, nm[j]? = some t := ⟨_, List.getElem?_eq_getElem hjn⟩
              rw [List.getElem?_map, ht] at hu
              have hu2 := (Option.some.inj hu).symm
              subst hu2
              have hst : (nm.take (j + 1)).contains S = ((nm.take j).contains S || t == S) := by
                rw [List.take_add_one, ht, show (some t).toList = [t] from rfl]
                exact cont_snoc _ _ _
              have HST := Lib.hid hst
              have htl : ∀ l, (str l).toList = l := fun l => ByteArray.toList_mk l
              clear hu ht hst
              unfold sv at x0
              cases hfr : (decide (l.length < 20000) && !(nm.take j).contains S) with
              | false =>
                have HFR := Lib.hid hfr
                clear hfr htl
                go_wp2_with fail
                exact ⟨⟨j + 1, by omega, by go_num, by rw [HST.out, fresh_step HFR.out]; rfl, trivial⟩, by simp [intOf]; omega⟩
              | true =>
                have HFR := Lib.hid hfr
                clear hfr
                by_cases hts : t = S
                · subst hts
                  go_wp2_with fail
                  exact ⟨⟨j + 1, by omega, by go_num, by rw [HST.out, fresh_step HFR.out]; simp, trivial⟩, by simp [intOf]; omega⟩
                · have heq : (t == S) = false := by simpa using hts
                  have HTS := Lib.hid heq
                  have heq2 : (t != S) = true := by simpa using hts
                  clear hts
                  go_wp2_with fail
                  exact ⟨⟨j + 1, by omega, by go_num, by rw [HST.out, fresh_step HFR.out, HTS.out]; rfl, trivial⟩, by simp [intOf]; omega⟩
            · have hjI : ¬ (j : Int) < nm.length := by omega
              have hjj : nm.take j = nm := List.take_of_length_le (by omega)
              rw [hjj]
              clear hjj
              cases hfr : (decide (l.length < 20000) && !nm.contains S) with
              | false =>
                clear hfr
                go_wp2_with fail
                exact ⟨⟨k + 1, nm, fl, vs, An, Ai, cn, ci, by omega, by go_num, rfl, rfl, by omega, HN.out, HO2.out⟩, by simp only [intOf]; omega⟩
              | true =>
                rw [Bool.and_eq_true] at hfr
                have hl2 : l.length < 20000 := of_decide_eq_true hfr.1
                have hns : S ∉ nm := fun hm => by
                  have := hfr.2
                  rw [List.contains_iff_mem.2 hm] at this
                  cases this
                have HF := Lib.hid (And.intro hl2 hns)
                clear hfr hl2 hns
                go_wp2_with (first
                  | (at_builtin; refine wpList_app _ rfl (.tmp 74) (.tmp 76) 25 rfl w1.heap.size strElO (by decide) _ _ _ rfl (HO2.out.on.alloc _) (some ⟨w2.heap.size, 0, none⟩) 1 1 [.string (str S)] rfl (Sl.new _ _ _) (by intro u hu; simp at hu; subst hu; rfl) (by omega) (by simp; omega) ?_
                     intro A7 c7 w7 hown7 hg7 hat7
                     have hba := (Below.refl _ w2).alloc (Nat.le_refl _) (.cells #[.string (str S)] 9)
                     have hoi7 := own_kept (HO2.out.oi.alloc (.cells #[.string (str S)] 9)) (HO2.out.on.alloc (.cells #[.string (str S)] 9)) (by decide) hg7
                     have hb17 : Below w1.heap.size w1 w7 := (HO2.out.bel.alloc HO2.out.bel.size _).grown hg7 (by simp; omega) (own_blk HO2.out.on)
                     have y7 : w7.cell? ⟨b1, o1 + k, none⟩ = some (.slice K l.length cl) := ((HB1.out.trans (hb17.mono HB1.out.size)).cell (p := ⟨b1, o1 + k, none⟩) HX1.out.1).trans HX1.out.2
                     have hz17 := hb17.size
                     have H7 := Lib.hid (And.intro hown7 (And.intro hoi7 hb17))
                     clear hown7 hoi7 hb17 hg7 hat7 hba y1)
                  | (at_builtin; refine wpList_app _ rfl (.tmp 78) (.tmp 83) 23 rfl w1.heap.size rowElO (by decide) _ _ _ rfl (H7.out.2.1.alloc _) (some ⟨w7.heap.size, 0, none⟩) 1 1 [.slice K l.length cl] rfl (Sl.new _ _ _) (by intro u hu; simp at hu; subst hu; rfl) (by omega) (by simp; omega) ?_
                     intro A8 c8 w8 hown8 hg8 hat8
                     have hon8 := own_kept (H7.out.1.alloc (.cells #[.slice K l.length cl] 28)) (H7.out.2.1.alloc (.cells #[.slice K l.length cl] 28)) (by decide) hg8
                     have hb18 : Below w1.heap.size w1 w8 := (H7.out.2.2.alloc H7.out.2.2.size _).grown hg8 (by simp; omega) (own_blk H7.out.2.1)
                     have H8 := Lib.hid (And.intro hon8 (And.intro hown8 hb18))
                     clear hown8 hon8 hb18 hg8 hat8))
                have hlen : (nm ++ [S]).length = nm.length + 1 := by simp
                have hop : Op w w1 w8 (nm ++ [S]) (fl ++ [l]) (vs ++ [.slice K l.length cl]) A7 A8 c7 c8 :=
                  ⟨by rw [hlen, List.map_append]; exact H8.out.1, by rw [hlen]; exact H8.out.2.1, HO2.out.hd.snoc HSL.out.1 HSL.out.2, H8.out.2.2⟩
                exact ⟨⟨k + 1, nm ++ [S], fl ++ [l], vs ++ [.slice K l.length cl], A7, A8, c7, c8, by omega, by go_num, by rw [hlen], by rw [hlen], by rw [hlen]; omega, HN.out.snoc HF.out.2 HS.out HF.out.1, hop⟩, by simp only [intOf]; omega⟩
      · have hcN : ¬ (k : Int) < n1 := by omega
        obtain ⟨wB, rfl⟩ : ∃ wB : World, wB = wr := ⟨_, rfl⟩
        have hn21 : nm.length ≤ 20 := by omega
        have hz12 := HO.out.bel.size
        have hz01 := HB1.out.size
        go_wp2_with (first
          | (at_builtin; refine wpList_app _ rfl (.tmp 86) (.tmp 87) 25 rfl w1.heap.size strElO (by decide) _ _ _ rfl (HO.out.on.alloc _) (some ⟨wB.heap.size, 0, none⟩) 2 2 [sv n12, sv n0x] rfl (Sl.lit wB _ [sv n12, sv n0x]) (by intro u hu; simp at hu; rcases hu with e | e <;> subst e <;> rfl) (by omega) (by simp; omega) ?_
             intro A7 c7 w7 hown7 hg7 hat7
             have hoi7 := own_kept (HO.out.oi.alloc (.cells [sv n12, sv n0x].toArray 9)) (HO.out.on.alloc (.cells [sv n12, sv n0x].toArray 9)) (by decide) hg7
             have hb17 : Below w1.heap.size w1 w7 := (HO.out.bel.alloc HO.out.bel.size _).grown hg7 (by simp; omega) (own_blk HO.out.on)
             have hz17 := hb17.size
             have H7 := Lib.hid (And.intro hown7 (And.intro hoi7 hb17))
             clear hown7 hoi7 hb17 hg7 hat7)
          | (at_builtin; refine wpList_app _ rfl (.tmp 89) (.tmp 92) 23 rfl w1.heap.size rowElO (by decide) _ _ _ rfl (((H7.out.2.1.alloc zo).alloc zo).alloc (two w7)) (some ⟨w7.heap.size + 1 + 1, 0, none⟩) 2 2 [.slice (some ⟨w7.heap.size, 0, none⟩) 5 5, .slice (some ⟨w7.heap.size + 1, 0, none⟩) 5 5] rfl (two_new w7) (by intro u hu; simp at hu; rcases hu with e | e <;> subst e <;> rfl) (by omega) (by simp; omega) ?_
             intro A8 c8 w8 hown8 hg8 hat8
             have hon8 := own_kept (((H7.out.1.alloc zo).alloc zo).alloc (two w7)) (((H7.out.2.1.alloc zo).alloc zo).alloc (two w7)) (by decide) hg8
             have htk := two_kept H7.out.2.1 hg8
             have hb18 : Below w1.heap.size w1 w8 := ((((H7.out.2.2.alloc H7.out.2.2.size zo).alloc (by simp; omega) zo).alloc (by simp; omega) (two w7))).grown hg8 (by simp; omega) (own_blk H7.out.2.1)
             have H8 := Lib.hid (And.intro hon8 (And.intro hown8 (And.intro htk hb18)))
             clear hown8 hon8 hb18 hg8 hat8 htk))
        obtain ⟨hon8, hown8, ⟨ht1, ht2⟩, hb18⟩ := H8.out
        have hbL : Below w.heap.size w w8 := HB1.out.trans (hb18.mono HB1.out.size)
        have hlN : (nm ++ [n12, n0x]).length = nm.length + 2 := by simp
        have hsL : Sl w8 A7 (nm.length + 2) ((nm ++ [n12, n0x]).map sv) := by rw [List.map_append]; exact own_sl hon8
        have hhd : Hnd w8 ((vs ++ [.slice (some ⟨w7.heap.size, 0, none⟩) 5 5]) ++ [.slice (some ⟨w7.heap.size + 1, 0, none⟩) 5 5]) ((fl ++ [z5]) ++ [z5]) := ((HO.out.hd.below hbL).snoc ht1 (Nat.le_refl _)).snoc ht2 (Nat.le_refl _)
        simp only [List.append_assoc, List.singleton_append] at hhd
        have hbL2 : Br w8 A8 (nm.length + 2) (fl ++ [z5, z5]) := hhd.br hown8
        have hE := opens_zero HN.out.rn HN.out.nd HN.out.sh HN.out.le hn21
        have hall := (names_ok HN.out.rn HN.out.nd).1
        have hbb : ∀ l ∈ fl ++ [z5, z5], l.length ≤ 140737488355328 := fun l hl => by
          have := (loadE_ok hE).2.2.2.2 l hl
          omega
        have hnb : ∀ s ∈ nm ++ [n12, n0x], s.length ≤ 140737488355328 := fun s hs => by
          have := (vname_le (List.all_eq_true.1 hall s hs)).2
          omega
        have hload := load_any A7 (nm.length + 2) c7 (nm ++ [n12, n0x]) A8 (nm.length + 2) c8 (fl ++ [z5, z5]) w8 hsL (by omega) hbL2 (by omega) hbb
        have hrl := fun (V : World) (hV : Below w8.heap.size w8 V) => rload_any A7 (nm.length + 2) c7 (nm ++ [n12, n0x]) A8 (nm.length + 2) c8 (fl ++ [z5, z5]) V (hsL.below hV) (by omega) hnb (hbL2.below hV) (by omega) hbb
        unfold LoadPost at hload
        unfold RLoadPost at hrl
        simp only [hE, if_true] at hload hrl
        have HRL := Lib.hid hrl
        have HL := Lib.hid (And.intro hbL hall)
        have hob := fun (w5 w6 : World) pb mb gs A6 c6 (hb5 : Below w8.heap.size w8 w5) hD5 hgf hfo (hb6 : Below w5.heap.size w5 w6) ho6 => Ob.start (w := w) (wL := w8) (w5 := w5) (w6 := w6) (ns := nm ++ [n12, n0x]) (bs := fl ++ [z5, z5]) (pb := pb) (mb := mb) (gs := gs) (A := A6) (c := c6) HW.out hbL hb5 hD5 hgf hfo hb6 ho6 hall
        generalize foldF ((nm ++ [n12, n0x]).zip (fl ++ [z5, z5])) = fs at *
        have HOB0 := Lib.hid hob
        clear hon8 hown8 ht1 ht2 hb18 hbL hlN hsL hhd hbL2 hE hall hbb hnb hrl hob H8 H7 HO hcN hz17 hz12
        refine hload.mono ?_
        clear hload
        rintro e w5 ⟨hb5, pb, mb, gs, rfl, hD5, hgf, hfo⟩
        have hrl := HRL.out w5 hb5
        have H5 := Lib.hid (And.intro hb5 (And.intro hD5 (And.intro hgf hfo)))
        clear hb5 hD5 hgf hfo HRL
        go_wp2_with fail
        refine hrl.mono ?_
        clear hrl
        rintro e w6 ⟨hb6, A6, c6, rfl, ho6⟩
        have hob := HOB0.out w5 w6 pb mb gs A6 c6 H5.out.1 H5.out.2.1 H5.out.2.2.1 H5.out.2.2.2 hb6 ho6
        have HOB := Lib.hid hob
        clear hob HOB0 hb6 ho6 H5
        have hb56 : Below w.heap.size w (w6.alloc (dobj (dcs A6 fs.length c6 0 false 0))) := HOB.out.bel
        by_cases hx : 1 ≤ x2 ∧ x2 ≤ 999999
        · have hop := HOB.out.open_ x2 hx.1 hx.2
          obtain ⟨hnl, hs1, hs2⟩ := HOB.out.bnd x2 hx.1 hx.2
          have hro := fun V hV => (HOB.out.below (V' := V) hV).ropen x2 hx.1 hx.2
          generalize psF x2 fs (segs (fs.map Fm.name)) = ps at *
          generalize segO x2 (segs (fs.map Fm.name)) = sg at *
          have HRO := Lib.hid hro
          clear hro
          go_wp2_with fail
          generalize hU : w6.alloc (dobj (dcs A6 fs.length c6 0 false 0)) = U at *
          refine hop.mono ?_
          rintro e w9 ⟨pl, A9, c9, vs9, rfl, hlg, hpl, ho9, he9, hb9⟩
          have hob9 := HOB.out.below hb9
          have d0 := hob9.m.cell (k := 0) rfl
          have d1 := hob9.m.cell (k := 1) rfl
          have d2 := hob9.m.cell (k := 2) rfl
          have d3 := hob9.m.cell (k := 3) rfl
          have HO9 := Lib.hid (And.intro hlg (And.intro hpl (And.intro ho9 (And.intro he9 hb9))))
          clear hlg hpl ho9 he9 hob9 hop
          go_wp2_with fail
          refine (HRO.out _ hb9).mono ?_
          rintro e w10 ⟨A10, c10, vs10, rfl, ho10, he10, hb10⟩
          have hlg := HO9.out.1
          have hpl := HO9.out.2.1
          have ho9 := HO9.out.2.2.1
          have he9 := HO9.out.2.2.2.1
          have hq := HOB.out.opened (V2 := w10) hlg hpl hb9 hb10 hs1 hs2
          have hb34 : Below w10.heap.size w10 (w10.alloc (lobj (lcs sg false))) := (Below.refl _ _).alloc (Nat.le_refl _) _
          have hb23 : Below w9.heap.size w9 (w10.alloc (lobj (lcs sg false))) := hb10.trans (hb34.mono hb10.size)
          have hsm := fun W (hW : Below (w10.alloc (lobj (lcs sg false))).heap.size (w10.alloc (lobj (lcs sg false))) W) => same_any A9 A10 ps.length c9 ps.length c10 vs9 vs10 ps ps W (((own_sl ho9).below hb23).below hW) (((own_sl ho10).below hb34).below hW) ((he9.below hb23).below hW).toS ((he10.below hb34).below hW).toS (by omega) (by omega)
          rw [show decide (ps = ps) = true from by simp] at hsm
          have HSM := Lib.hid hsm
          have HQ := Lib.hid hq
          have hMX : w6.heap.size ≠ w10.heap.size := by
            have h1 := HOB.out.m.lt
            have h2 := hb9.size
            have h3 := hb10.size
            omega
          clear d0 d1 d2 d3 hlg hpl ho9 he9 ho10 he10 hb34 hb23 hsm hq HO9 HRO
          have hqs := fun W (hW : Below (w10.alloc (lobj (lcs sg false))).heap.size (w10.alloc (lobj (lcs sg false))) W) => HQ.out.below hW
          go_wp2_with fail
          generalize hU2 : w10.alloc (lobj (lcs sg false)) = U2 at *
          refine (HSM.out _ (Below.refl _ _)).mono ?_
          rintro e w11 ⟨rfl, hb11⟩
          have hq11 := hqs _ hb11
          have htl : Calls Tryz.prog 16 #[.pointer (some ⟨pb, 0, none⟩), .agg #[.slice A6 fs.length c6, .int .i64 0, .bool false, .int .i64 0]] w11 fun e w' => e = .returned (.bool true) ∧ Below w11.heap.size w11 w' := hq11.pw.tells
          have d0 : w11.cell? ⟨w6.heap.size, 0, none⟩ = some (.slice A6 fs.length c6) := hq11.m.cell (k := 0) rfl
          have d1 : w11.cell? ⟨w6.heap.size, 1, none⟩ = some (.int .i64 0) := hq11.m.cell (k := 1) rfl
          have d2 : w11.cell? ⟨w6.heap.size, 2, none⟩ = some (.bool false) := hq11.m.cell (k := 2) rfl
          have d3 : w11.cell? ⟨w6.heap.size, 3, none⟩ = some (.int .i64 0) := hq11.m.cell (k := 3) rfl
          have HTL := Lib.hid htl
          have HQ11 := Lib.hid hq11
          clear htl hq11 hqs HSM HQ hb10 hb11
          go_wp2_with fail
          refine HTL.out.mono ?_
          rintro e w12 ⟨rfl, hb12⟩
          have hq12 := HQ11.out.below hb12
          have hq12a := fun o => hq12.below ((Below.refl _ w12).alloc (Nat.le_refl _) o)
          have hap := lappend_any (hq12a (.cells #[.int .u8 7] 5)).wl (some ⟨w12.heap.size, 0, none⟩) 1 1 [7] (Sl.new w12 (.int .u8 7) 5)
          have HAP := Lib.hid hap
          have HQ12 := Lib.hid (hq12a (.cells #[.int .u8 7] 5))
          have hwx := hq12.wl.wx
          have HWX := Lib.hid hwx
          clear hq12 hq12a hap hwx d0 d1 d2 d3 HTL HQ11 hb12
          go_wp2_with fail
          refine HAP.out.mono ?_
          rintro e w13 ⟨rfl, hp13⟩
          obtain ⟨gs2, hq13⟩ := HQ12.out.call hp13
          have hq13a := hq13.below ((Below.refl _ w13).alloc (Nat.le_refl _) (.cells #[.int .u8 7] 5))
          have hrl := rlappend_any ⟨fs, 0, false, 0, sg, false⟩ HWX.out hs2 (some ⟨w13.heap.size, 0, none⟩) 1 1 [7] A6 c6 (w13.alloc (.cells #[.int .u8 7] 5)) w.heap.size (Sl.new w13 (.int .u8 7) 5) (by omega) hq13a.own hq13a.wl.bel.size
          generalize (appX ⟨fs, 0, false, 0, sg, false⟩ [7]).1 = y at *
          generalize (appX ⟨fs, 0, false, 0, sg, false⟩ [7]).2 = cd at *
          have HRL := Lib.hid hrl
          have H13 := Lib.hid hq13a
          have d0 : w13.cell? ⟨w6.heap.size, 0, none⟩ = some (.slice A6 fs.length c6) := hq13.m.cell (k := 0) rfl
          have d1 : w13.cell? ⟨w6.heap.size, 1, none⟩ = some (.int .i64 0) := hq13.m.cell (k := 1) rfl
          have d2 : w13.cell? ⟨w6.heap.size, 2, none⟩ = some (.bool false) := hq13.m.cell (k := 2) rfl
          have d3 : w13.cell? ⟨w6.heap.size, 3, none⟩ = some (.int .i64 0) := hq13.m.cell (k := 3) rfl
          have l0 : w13.cell? ⟨w10.heap.size, 0, none⟩ = some (.int .i64 sg) := hq13.l.cell (k := 0) rfl
          have l1 : w13.cell? ⟨w10.heap.size, 1, none⟩ = some (.bool false) := hq13.l.cell (k := 1) rfl
          clear hp13 HAP HQ12 HWX hq13 hq13a hrl
          go_wp2_with fail
          refine HRL.out.mono ?_
          rintro e w14 ⟨A14, c14, rfl, ho14, hb14⟩
          have hq14 := H13.out.below hb14
          have HF := Lib.hid (hq14.store hMX ho14)
          clear d0 d1 d2 d3 l0 l1
          have d0 : w14.cell? ⟨w6.heap.size, 0, none⟩ = some (.slice A6 fs.length c6) := hq14.m.cell (k := 0) rfl
          have d1 : w14.cell? ⟨w6.heap.size, 1, none⟩ = some (.int .i64 0) := hq14.m.cell (k := 1) rfl
          have d2 : w14.cell? ⟨w6.heap.size, 2, none⟩ = some (.bool false) := hq14.m.cell (k := 2) rfl
          have d3 : w14.cell? ⟨w6.heap.size, 3, none⟩ = some (.int .i64 0) := hq14.m.cell (k := 3) rfl
          have l0 : w14.cell? ⟨w10.heap.size, 0, none⟩ = some (.int .i64 sg) := hq14.l.cell (k := 0) rfl
          have l1 : w14.cell? ⟨w10.heap.size, 1, none⟩ = some (.bool false) := hq14.l.cell (k := 1) rfl
          have e0 := hq14.m.frozen 0
          have e1 := hq14.m.frozen 1
          have e2 := hq14.m.frozen 2
          have e3 := hq14.m.frozen 3
          have h0 := hq14.l.frozen 0
          have h1 := hq14.l.frozen 1
          clear hq14 ho14 hb14 HRL H13
          go_wp2_with fail
          generalize (((((w14.setCell ⟨w6.heap.size, 0, none⟩ (.slice A14 y.fs.length c14)).setCell ⟨w6.heap.size, 1, none⟩ (.int .i64 y.st)).setCell ⟨w6.heap.size, 2, none⟩ (.bool y.ar)).setCell ⟨w6.heap.size, 3, none⟩ (.int .i64 y.lf)).setCell ⟨w10.heap.size, 0, none⟩ (.int .i64 y.seg)).setCell ⟨w10.heap.size, 1, none⟩ (.bool y.dd) = V4 at *
          clear d0 d1 d2 d3 l0 l1 e0 e1 e2 e3 h0 h1
          have hkd0 : ∀ V, Below V4.heap.size V4 V → V.cell? ⟨w6.heap.size, 0, none⟩ = some (.slice A14 y.fs.length c14) := fun V hV => (HF.out.below hV).m.cell rfl
          have hkd1 : ∀ V, Below V4.heap.size V4 V → V.cell? ⟨w6.heap.size, 1, none⟩ = some (.int .i64 y.st) := fun V hV => (HF.out.below hV).m.cell rfl
          have hkd2 : ∀ V, Below V4.heap.size V4 V → V.cell? ⟨w6.heap.size, 2, none⟩ = some (.bool y.ar) := fun V hV => (HF.out.below hV).m.cell rfl
          have hkd3 : ∀ V, Below V4.heap.size V4 V → V.cell? ⟨w6.heap.size, 3, none⟩ = some (.int .i64 y.lf) := fun V hV => (HF.out.below hV).m.cell rfl
          have hkl0 : ∀ V, Below V4.heap.size V4 V → V.cell? ⟨w10.heap.size, 0, none⟩ = some (.int .i64 y.seg) := fun V hV => (HF.out.below hV).l.cell rfl
          have hseg := fun (V : World) (hV : Below V4.heap.size V4 V) => lseg_any (HF.out.below hV).wl
          have htls := fun (V : World) (hV : Below V4.heap.size V4 V) => (HF.out.below hV).pw.tells
          have HSEG := Lib.hid hseg
          have HTLS := Lib.hid htls
          have hb0 : Below V4.heap.size V4 V4.drew := (Below.refl _ _).drew
          clear hseg htls
          go_region_held (fun V => Below V4.heap.size V4 V) (with_reducible assumption) (first
            | (go_at_call 19; refine (HSEG.out _ (by assumption)).mono ?_; rintro e w' ⟨rfl, rfl⟩)
            | (go_at_call 16; refine (HTLS.out _ (by assumption)).mono ?_; rintro e w15 ⟨rfl, hb15⟩; have hb015 : Below V4.heap.size V4 w15 := Below.trans (by assumption) (hb15.mono ((by assumption : Below V4.heap.size V4 _).size))))
          go_wp2_with fail
          go_ret
          exact ⟨rfl, HF.out.wl.bel.trans (hb015.mono HF.out.wl.bel.size)⟩
        · have hx' : x2 < 1 ∨ 999999 < x2 := by omega
          have hop := fun V => wopen_bad pb x2 hx' V
          have hro := fun V => ropen_bad A6 fs.length c6 0 false 0 x2 hx' V
          have HRO := Lib.hid hro
          clear hro
          go_wp2_with fail
          generalize hU : w6.alloc (dobj (dcs A6 fs.length c6 0 false 0)) = U at *
          refine (hop U).mono ?_
          rintro e w9 ⟨rfl, hb9⟩
          have hob9 := HOB.out.below hb9
          have d0 : w9.cell? ⟨w6.heap.size, 0, none⟩ = some (.slice A6 fs.length c6) := hob9.m.cell (k := 0) rfl
          have d1 : w9.cell? ⟨w6.heap.size, 1, none⟩ = some (.int .i64 0) := hob9.m.cell (k := 1) rfl
          have d2 : w9.cell? ⟨w6.heap.size, 2, none⟩ = some (.bool false) := hob9.m.cell (k := 2) rfl
          have d3 : w9.cell? ⟨w6.heap.size, 3, none⟩ = some (.int .i64 0) := hob9.m.cell (k := 3) rfl
          have HOB9 := Lib.hid hob9
          clear hob9 hop hx hx'
          go_wp2_with fail
          refine (HRO.out _).mono ?_
          rintro e w10 ⟨rfl, hb10⟩
          have hob10 := (HOB9.out.below hb10).below ((Below.refl _ w10).alloc (Nat.le_refl _) (lobj (lcs 0 false)))
          have hsm := same_any none none 0 0 0 0 [] [] [] [] (w10.alloc (lobj (lcs 0 false))) (Sl.none_ _ _) (Sl.none_ _ _) trivial trivial (by omega) (by omega)
          rw [show decide (([] : List (List UInt8)) = []) = true from by simp] at hsm
          have HSM := Lib.hid hsm
          have HOB10 := Lib.hid hob10
          clear hob10 hsm HRO HOB9 d0 d1 d2 d3
          go_wp2_with fail
          refine HSM.out.mono ?_
          rintro e w11 ⟨rfl, hb11⟩
          have hob11 := HOB10.out.below hb11
          have htl := hob11.tells
          have hbe := hob11.bel
          have d0 : w11.cell? ⟨w6.heap.size, 0, none⟩ = some (.slice A6 fs.length c6) := hob11.m.cell (k := 0) rfl
          have d1 : w11.cell? ⟨w6.heap.size, 1, none⟩ = some (.int .i64 0) := hob11.m.cell (k := 1) rfl
          have d2 : w11.cell? ⟨w6.heap.size, 2, none⟩ = some (.bool false) := hob11.m.cell (k := 2) rfl
          have d3 : w11.cell? ⟨w6.heap.size, 3, none⟩ = some (.int .i64 0) := hob11.m.cell (k := 3) rfl
          have HTL := Lib.hid htl
          clear htl hob11 HSM HOB10 hb11
          go_wp2_with fail
          refine HTL.out.mono ?_
          rintro e w12 ⟨rfl, hb12⟩
          clear d0 d1 d2 d3
          go_wp2_with fail
          go_ret
          exact ⟨rfl, hbe.trans (hb12.mono hbe.size)⟩
end Go.Proofs.YtadkgfhfjagmpaaGreatDoor
