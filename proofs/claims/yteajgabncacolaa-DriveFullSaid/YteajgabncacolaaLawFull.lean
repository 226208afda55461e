/-
  The law DriveFull, as a walk: it answers true and writes nothing that was there.
-/
import Derived.Test.YteajgabncacolaaAwk
namespace Go.Proofs.Yteajgabncacolaa
open Go.RowKit Go.Maps
set_option linter.unusedVariables false

def nm (i : Nat) : List UInt8 := [102, UInt8.ofNat (97 + i % 16), UInt8.ofNat (97 + i / 16)]
theorem nm_inj {i j : Nat} (hi : i < 256) (hj : j < 256) (h : nm i = nm j) : i = j := by
  simp only [nm, List.cons.injEq, and_true, true_and] at h
  have h1 := congrArg UInt8.toNat h.1
  have h2 := congrArg UInt8.toNat h.2
  rw [UInt8.toNat_ofNat', UInt8.toNat_ofNat'] at h1 h2
  omega
theorem nm_ok {i : Nat} (hi : i < 256) : vname (nm i) = true := by
  have h1 : (UInt8.ofNat (97 + i % 16)).toNat = 97 + i % 16 := by rw [UInt8.toNat_ofNat']; omega
  have h2 : (UInt8.ofNat (97 + i / 16)).toNat = 97 + i / 16 := by rw [UInt8.toNat_ofNat']; omega
  have b1 : vbyte (UInt8.ofNat (97 + i % 16)) = true := by simp only [vbyte, h1, decide_eq_true_eq]; omega
  have b2 : vbyte (UInt8.ofNat (97 + i / 16)) = true := by simp only [vbyte, h2, decide_eq_true_eq]; omega
  have b0 : vbyte 102 = true := by decide
  simp only [vname, nm, List.all_cons, b0, b1, b2, List.all_nil, Bool.and_self, Bool.and_true, List.length_cons, List.length_nil]
  rfl
theorem length_new {α : Type} {key : α → List UInt8} {x : α} : ∀ {l : List α}, (∀ y ∈ l, key y ≠ key x) → (withK key x l).length = l.length + 1
  | [], _ => rfl
  | y :: r, h => by
    unfold withK
    split
    · rw [List.filter_eq_self.2 fun z hz => by simpa using h z hz]; simp
    · have := length_new (key := key) (x := x) (l := r) fun z hz => h z (List.mem_cons_of_mem _ hz)
      simp [this]
theorem keep_with {α : Type} {key : α → List UInt8} {x y : α} (hne : key y ≠ key x) : ∀ {l : List α}, y ∈ l → y ∈ withK key x l
  | [], h => by cases h
  | z :: r, h => by
    unfold withK
    split
    · exact List.mem_cons_of_mem _ (List.mem_filter.2 ⟨h, by simpa using hne⟩)
    · rcases List.mem_cons.1 h with h | h
      · simp [h]
      · exact List.mem_cons_of_mem _ (keep_with hne h)
structure FullS (i : Nat) (gs : List Gm) : Prop where
  len : gs.length = i
  emp : ∀ g ∈ gs, g.f.data = []
  ofi : ∀ g ∈ gs, ∃ j, j < i ∧ g.name = nm j
  has : ∀ j, j < i → ∃ g ∈ gs, g.name = nm j
theorem FullS.start : FullS 0 [] := ⟨rfl, by simp, by simp, fun j hj => by omega⟩
theorem FullS.no {i : Nat} {gs : List Gm} (h : FullS i gs) (hi : i < 256) : ∀ g ∈ gs, g.name ≠ nm i := by
  intro g hg e
  obtain ⟨j, hj, hn⟩ := h.ofi g hg
  have := nm_inj (by omega) hi (hn.symm.trans e)
  omega
theorem FullS.none_ {i : Nat} {gs : List Gm} (h : FullS i gs) (hi : i < 256) : findK Gm.name (nm i) gs = none := by
  simp only [findK, List.find?_eq_none]
  intro x hx
  simpa using h.no hi x hx
theorem FullS.app {i : Nat} {gs : List Gm} (h : FullS i gs) (hi : i < 256) (lf : Int) : appE (nm i) 0 gs false lf = 0 := by
  have : ¬ (256 ≤ gs.length) := by rw [h.len]; omega
  simp [appE, nm_ok hi, h.none_ hi, sizeG, dead, this]
theorem FullS.step {i : Nat} {gs : List Gm} (h : FullS i gs) (hi : i < 256) (hr : Rises Gm.name gs) {g : Gm} (hg : g.f = ⟨nm i, (oldF (nm i) gs).data ++ [], (oldF (nm i) gs).syn⟩) : FullS (i + 1) (withK Gm.name g gs) := by
  have hof : oldF (nm i) gs = emptyF (nm i) := by simp [oldF, h.none_ hi]
  rw [hof] at hg
  have hn : g.name = nm i := by rw [Gm.name, hg]
  refine ⟨?_, ?_, ?_, ?_⟩
  · rw [length_new (by rw [hn]; exact h.no hi), h.len]
  · intro y hy
    rcases mem_with hy with rfl | hy
    · rw [hg]; rfl
    · exact h.emp y hy
  · intro y hy
    rcases mem_with hy with rfl | hy
    · exact ⟨i, by omega, hn⟩
    · obtain ⟨j, hj, e⟩ := h.ofi y hy
      exact ⟨j, by omega, e⟩
  · intro j hj
    rcases Nat.lt_or_ge j i with hlt | hge
    · obtain ⟨y, hy, e⟩ := h.has j hlt
      refine ⟨y, ?_, e⟩
      have hne : y.name ≠ g.name := by rw [hn]; exact h.no hi y hy
      have hfy := find_mem' hr hy
      exact keep_with hne hy
    · have : j = i := by omega
      subst this
      exact ⟨g, self_with g gs, hn⟩

section
variable {α : Type} {key : α → List UInt8}
theorem find_with_self {x : α} {l : List α} (hr : Rises key l) : findK key (key x) (withK key x l) = some x := find_mem' (rises_with x hr) (self_with x l)
theorem find_with_other {x : α} {l : List α} (hr : Rises key l) {k : List UInt8} (hk : k ≠ key x) : findK key k (withK key x l) = findK key k l := by
  cases hf : findK key k l with
  | none =>
    simp only [findK, List.find?_eq_none]
    intro y hy
    rcases mem_with hy with rfl | hy
    · simpa using (Ne.symm hk)
    · simpa using find_none hf y hy
  | some y =>
    obtain ⟨hy, e⟩ := find_some hf
    subst e
    exact find_mem' (rises_with x hr) (keep_with hk hy)
theorem find_out_self {l : List α} (k : List UInt8) : findK key k (outK key k l) = none := by
  simp only [findK, List.find?_eq_none, outK]
  intro y hy
  simpa using (List.mem_filter.1 hy).2
theorem find_out_other {l : List α} (hr : Rises key l) {k j : List UInt8} (hk : k ≠ j) : findK key k (outK key j l) = findK key k l := by
  cases hf : findK key k l with
  | none =>
    simp only [findK, List.find?_eq_none]
    intro y hy
    simpa using find_none hf y (List.mem_filter.1 hy).1
  | some y =>
    obtain ⟨hy, e⟩ := find_some hf
    subst e
    exact find_mem' (rises_out j hr) (List.mem_filter.2 ⟨hy, by simpa using hk⟩)
theorem length_with_some {x y : α} {l : List α} (hr : Rises key l) (hf : findK key (key x) l = some y) : (withK key x l).length = l.length := by
  obtain ⟨hy, e⟩ := find_some hf
  have := congrArg List.length (with_same (f := fun _ : α => ()) (g := y) (g' := x) e.symm rfl hr hy)
  simpa using this
theorem length_with_none {x : α} {l : List α} (hf : findK key (key x) l = none) : (withK key x l).length = l.length + 1 := length_new (find_none hf)
theorem length_out_some {k : List UInt8} {y : α} : ∀ {l : List α}, Rises key l → findK key k l = some y → (outK key k l).length + 1 = l.length
  | [], _, h => by cases h
  | z :: r, hr, h => by
    obtain ⟨h1, h2⟩ := List.pairwise_cons.1 hr
    by_cases hz : key z = k
    · have : outK key k (z :: r) = r := by
        unfold outK
        rw [List.filter_cons, if_neg (by simp [hz])]
        exact List.filter_eq_self.2 fun a ha => by have := lt_ne (h1 a ha); rw [hz] at this; simpa using this.symm
      rw [this]; rfl
    · have hf : findK key k r = some y := by
        simp only [findK, List.find?_cons] at h
        rwa [show (key z == k) = false from by simpa using hz] at h
      have := length_out_some h2 hf
      have e : outK key k (z :: r) = z :: outK key k r := by
        unfold outK
        rw [List.filter_cons, if_pos (by simpa using hz)]
      rw [e]
      simp only [List.length_cons]; omega
end
theorem FullS.find {gs : List Gm} (h : FullS 256 gs) (hr : Rises Gm.name gs) {j : Nat} (hj : j < 256) : ∃ g, findK Gm.name (nm j) gs = some g ∧ g.f.data = [] := by
  obtain ⟨g, hg, e⟩ := h.has j hj
  refine ⟨g, ?_, h.emp g hg⟩
  rw [← e]; exact find_mem' hr hg
theorem FullS.nog {gs : List Gm} (h : FullS 256 gs) : findK Gm.name [103] gs = none := by
  simp only [findK, List.find?_eq_none]
  intro x hx
  obtain ⟨j, _, e⟩ := h.ofi x hx
  rw [e]
  simp [nm]

theorem mk_bytes (k : Nat) (hk : k ≤ 1000000) : ∃ M : Array Value, M = (bv (List.replicate k 0)).toArray ∧ ∀ (x : Int) (W : World), x = k → (Instr.makeSlice 33 (.int .i64 x) (.int .i64 x)).run Try.prog W = .ok (.slice (some ⟨W.heap.size, 0, none⟩) k k) (W.alloc (.cells M 5)) := by
  obtain ⟨i, hi, hz0, hz1, hz2⟩ := info_parts bytesEl.hi
  refine ⟨_, rfl, fun x W hx => ?_⟩
  subst hx
  have h := run_make (P := Try.prog) W 33 5 i (.int .u8 0) bytesEl.ht hi hz0 .i64 .i64 (k : Int) (k : Int) (by omega) (by omega) (by rw [hz2]; omega) (by omega)
  rw [h]
  have e : madeCells (Value.int .u8 0).cells ((k : Int).toNat * i.size) = (bv (List.replicate k 0)).toArray := by
    apply Array.ext'
    have e1 : (Value.int IntKind.u8 0).cells = #[.int .u8 0] := rfl
    rw [e1, toList_madeCells_one, hz1]
    simp [bv]
  rw [e]
  rfl

set_option maxRecDepth 40000 in
set_option maxHeartbeats 8000000 in
theorem full_law (n : Int) (hn : -9223372036854775808 ≤ n ∧ n ≤ 9223372036854775807) (w : World) : Calls Try.prog 7 #[.int .i64 n] w fun e w' => e = .returned (.bool true) ∧ Below w.heap.size w w' := by
  go_enter Try.func7, Try.ntmps7
  go_wp2_with fail
  refine (awake_any w).mono ?_
  rintro e w1 ⟨rfl, hb1⟩
  go_wp2_with fail
  refine (new_any _).mono ?_
  rintro e w2 ⟨rfl, hD2, hb2⟩
  have hb12 : Below w.heap.size w w2 := hb1.trans (hb2.mono hb1.size)
  have hw1 := hb1.size
  have hf2 : ∀ k, foot (w1.heap.size + 1) w1.heap.size [] k → w.heap.size ≤ k := fun k hk => by rcases hk with e | e | ⟨g, hg, _⟩; omega; omega; cases hg
  have HD2 := Lib.hid hD2
  clear hD2
  go_wp2_with fail
  obtain ⟨m, hm, hm8⟩ : ∃ m : Nat, wrap64 ((IntKind.u64.wrap n).tmod 9) = (m : Int) ∧ m ≤ 8 := by
    have h1 : IntKind.u64.wrap n = n % 18446744073709551616 := by rw [IntKind.wrap_u64]
    rw [h1]
    have h2 : (n % 18446744073709551616).tmod 9 = (n % 18446744073709551616) % 9 := Int.tmod_eq_emod_of_nonneg (by omega)
    rw [h2, wrap64_id (by omega)]
    exact ⟨((n % 18446744073709551616) % 9).toNat, by omega, by omega⟩
  rw [hm]
  have hm8' : (m : Int) ≤ 8 := by omega
  clear hm
  go_loopw [4] (fun j wr => ∃ (i : Nat) (gs : List Gm) (st lf : Int), i ≤ 256 ∧ j = .int .i64 i ∧ FullS i gs ∧ Dr wr (w1.heap.size + 1) w1.heap.size gs st false lf ∧ Below w.heap.size w wr ∧ (∀ k, foot (w1.heap.size + 1) w1.heap.size gs k → w.heap.size ≤ k)) (fun j _ => 256 - (intOf j).toNat)
  case atStart => exact ⟨0, [], 0, 0, by omega, rfl, FullS.start, HD2.out, hb12, hf2⟩
  case round =>
    obtain ⟨i, gs, st, lf, hi, rfl, hF, hD, hb, hf⟩ := hrel
    have HF := Lib.hid hF
    have HD := Lib.hid hD
    clear hF hD
    by_cases hin : i < 256
    · have hcN : (i : Int) < 256 := by omega
      have hcs : (convert 33 9 (.slice (some ⟨wr.heap.size, 0, none⟩) 3 3)).run Try.prog (wr.alloc (.cells #[.int .u8 102, .int .u8 (97 + (i : Int) % 16), .int .u8 (97 + (i : Int) / 16)] 5)) = .ok (.string (str (nm i))) (wr.alloc (.cells #[.int .u8 102, .int .u8 (97 + (i : Int) % 16), .int .u8 (97 + (i : Int) / 16)] 5)) := by
        have h1 : (UInt8.ofNat (97 + i % 16)).toNat = 97 + i % 16 := by rw [UInt8.toNat_ofNat']; omega
        have h2 : (UInt8.ofNat (97 + i / 16)).toNat = 97 + i / 16 := by rw [UInt8.toNat_ofNat']; omega
        have e : bv (nm i) = [.int .u8 102, .int .u8 (97 + (i : Int) % 16), .int .u8 (97 + (i : Int) / 16)] := by
          simp only [bv, nm, List.map_cons, List.map_nil, h1, h2]
          simp
        have h := Sl.lit wr 5 (bv (nm i))
        rw [e] at h
        have h3 := run_str (P := Try.prog) (c := 3) (l := nm i) (by rw [e]; exact h) 33 5 9 Try.underlying33 Try.underlying5 Try.underlying9
        exact h3
      have HC := Lib.hid (HF.out.app hin lf)
      go_wp2_with fail
      refine (append_ok (HD.out.alloc _) (nm i) none 0 0 [] (Sl.none_ _ _) (by decide) (fun k hk => by cases hk) HC.out).mono ?_
      rintro e w4 ⟨rfl, g, hg, hD4, hS4⟩
      obtain ⟨hf4, hb4⟩ := foot_lo hS4 hf (by have := hb.size; simp; omega)
      have hb4' : Below w.heap.size w w4 := (hb.alloc hb.size _).trans hb4
      have HD4 := Lib.hid hD4
      have HF4 := Lib.hid (HF.out.step hin HD.out.rises hg)
      clear hD4 hg hS4 hb4
      go_wp2_with fail
      exact ⟨⟨i + 1, _, _, _, by omega, by simp, HF4.out, HD4.out, hb4', hf4⟩, by simp [intOf]; omega⟩
    · have hcN : ¬ (i : Int) < 256 := by omega
      have hi256 : i = 256 := by omega
      subst hi256
      obtain ⟨k, hkm⟩ : ∃ k : Nat, k + m = 262144 := ⟨262144 - m, by omega⟩
      obtain ⟨M1, hM1, hmk1⟩ := mk_bytes k (by omega)
      obtain ⟨M2, hM2, hmk2⟩ := mk_bytes (m + 1) (by omega)
      obtain ⟨M3, hM3, hmk3⟩ := mk_bytes m (by omega)
      have hm1 := fun W => hmk1 (262144 - (m : Int)) W (by omega)
      have hm2 := fun W => hmk2 ((m : Int) + 1) W (by omega)
      have hm3 := fun W => hmk3 (m : Int) W rfl
      have HM1 := Lib.hid hM1
      have HM2 := Lib.hid hM2
      have HM3 := Lib.hid hM3
      have HKM := Lib.hid hkm
      clear hM1 hM2 hM3 hmk1 hmk2 hmk3 hkm hm8
      have hr0 := HD.out.rises
      have hl0 := HF.out.len
      obtain ⟨ga, hga, hda⟩ := HF.out.find hr0 (j := 0) (by decide)
      obtain ⟨gb, hgb, hdb⟩ := HF.out.find hr0 (j := 1) (by decide)
      obtain ⟨gc, hgc, hdc⟩ := HF.out.find hr0 (j := 2) (by decide)
      have hgg := HF.out.nog
      rw [show nm 0 = [102, 97, 97] from rfl] at hga
      rw [show nm 1 = [102, 98, 97] from rfl] at hgb
      rw [show nm 2 = [102, 99, 97] from rfl] at hgc
      have va : vname [102, 97, 97] = true := by decide
      have vb : vname [102, 98, 97] = true := by decide
      have vc : vname [102, 99, 97] = true := by decide
      have vg : vname [103] = true := by decide
      have F := Lib.hid (And.intro hr0 (And.intro hl0 (And.intro hga (And.intro hgb (And.intro hgc (And.intro hgg (And.intro hda (And.intro va (And.intro vb (And.intro vc vg))))))))))
      clear hr0 hl0 hga hgb hgc hgg hda hdb hdc va vb vc vg
      go_wp2_with fail
      -- "g" is one too many
      have hlt := fun k => HD.out.foot_lt (k := k)
      have hE : appE [103] 0 gs false lf = 5 := by
        obtain ⟨hr0, hl0, hga, hgb, hgc, hgg, hda, va, vb, vc, vg⟩ := F.out
        simp [appE, vg, hgg, hl0]
      refine (append_no (HD.out.alloc _) [103] none 0 0 [] (Sl.none_ _ _) (by decide) (fun k hk => by cases hk) hE).mono ?_
      rintro e w4 ⟨rfl, hD4, hS4⟩
      clear hE
      have HD4 := Lib.hid hD4
      obtain ⟨hf4, hb4⟩ := foot_lo hS4 hf (by have := hb.size; simp; omega)
      have hb4' : Below w.heap.size w w4 := (hb.alloc hb.size _).trans hb4
      have hbig : Sl (wr.alloc (.cells M1 5)) (some ⟨wr.heap.size, 0, none⟩) k (bv (List.replicate k 0)) := by
        have h := Sl.lit wr 5 (bv (List.replicate k 0))
        rw [← HM1.out] at h
        simpa [bv_len] using h
      have hbig4 : Sl w4 (some ⟨wr.heap.size, 0, none⟩) k (bv (List.replicate k 0)) := sl_stp (c := k) hbig hS4 fun q hq hq2 => by cases hq; exact absurd (hlt _ hq2) (Nat.lt_irrefl _)
      have HB4 := Lib.hid hbig4
      clear hD4 hS4 hb4 hbig hbig4
      go_wp2_with fail
      -- "faa" gets nearly all
      have hE : appE [102, 97, 97] k gs false lf = 0 := by
        obtain ⟨hr0, hl0, hga, hgb, hgc, hgg, hda, va, vb, vc, vg⟩ := F.out
        have := HKM.out
        simp [appE, va, hga, sizeG, hda, dead]; omega
      refine (append_ok HD4.out [102, 97, 97] _ k k _ HB4.out (by have := HKM.out; omega) (fun q hq hq2 => by cases hq; exact absurd (hlt _ hq2) (Nat.lt_irrefl _)) hE).mono ?_
      rintro e w5 ⟨rfl, g1, hg1, hD5, hS5⟩
      have hg1n : g1.name = [102, 97, 97] := by rw [Gm.name, hg1]
      have hg1d : g1.f.data.length = k := by
        obtain ⟨hr0, hl0, hga, hgb, hgc, hgg, hda, va, vb, vc, vg⟩ := F.out
        rw [hg1]; simp [oldF, hga, hda]
      obtain ⟨hf5, hb5⟩ := foot_lo hS5 hf4 hb4'.size
      have hb5' := hb4'.trans hb5
      obtain ⟨L1, hL1⟩ : ∃ L1, L1 = withK Gm.name g1 gs := ⟨_, rfl⟩
      have F1 : Hid (Rises Gm.name L1 ∧ L1.length = 256 ∧ findK Gm.name [102, 97, 97] L1 = some g1 ∧ findK Gm.name [102, 98, 97] L1 = some gb ∧ findK Gm.name [102, 99, 97] L1 = some gc) := by
        obtain ⟨hr0, hl0, hga, hgb, hgc, hgg, hda, va, vb, vc, vg⟩ := F.out
        rw [hL1]
        refine ⟨rises_with g1 hr0, ?_, ?_, ?_, ?_⟩
        · rw [length_with_some hr0 (by rw [hg1n]; exact hga), hl0]
        · have := find_with_self (key := Gm.name) (x := g1) hr0; rwa [hg1n] at this
        · rw [find_with_other hr0 (by rw [hg1n]; decide)]; exact hgb
        · rw [find_with_other hr0 (by rw [hg1n]; decide)]; exact hgc
      have HNG1 : Hid (findK Gm.name [103] L1 = none) := by
        obtain ⟨hr0, hl0, hga, hgb, hgc, hgg, hda, va, vb, vc, vg⟩ := F.out
        rw [hL1]
        show findK Gm.name [103] (withK Gm.name g1 gs) = none
        rw [find_with_other hr0 (by rw [hg1n]; decide)]
        exact hgg
      rw [← hL1] at hD5 hf5
      have HD5 := Lib.hid hD5
      have HG1 := Lib.hid (And.intro hg1n hg1d)
      clear hg1 hg1n hg1d hL1 hD5 hE hb5 hS5
      go_wp2_with fail
      -- one more is too many
      have hlt5 := fun k => HD5.out.foot_lt (k := k)
      have hE : appE [102, 97, 97] (m + 1) L1 false (lf1 false lf) = 5 := by
        obtain ⟨hr0, hl0, hga, hgb, hgc, hgg, hda, va, vb, vc, vg⟩ := F.out
        obtain ⟨r1, l1, f1, f2, f3⟩ := F1.out
        have := HKM.out
        simp [appE, va, f1, sizeG, HG1.out.2, dead]; omega
      have hs2 : Sl (w5.alloc (.cells M2 5)) (some ⟨w5.heap.size, 0, none⟩) (m + 1) (bv (List.replicate (m + 1) 0)) := by
        have h := Sl.lit w5 5 (bv (List.replicate (m + 1) 0))
        rw [← HM2.out] at h
        simpa [bv_len] using h
      refine (append_no (HD5.out.alloc _) [102, 97, 97] _ (m + 1) (m + 1) _ hs2 (by omega) (fun q hq hq2 => by cases hq; exact absurd (hlt5 _ hq2) (Nat.lt_irrefl _)) hE).mono ?_
      rintro e w6 ⟨rfl, hD6, hS6⟩
      obtain ⟨hf6, hb6⟩ := foot_lo hS6 hf5 (by have := hb5'.size; simp; omega)
      have hb6' : Below w.heap.size w w6 := (hb5'.alloc hb5'.size _).trans hb6
      have HD6 := Lib.hid hD6
      clear hD6 hE hs2 hb6 hS6
      go_wp2_with fail
      -- the rest fits
      have hlt6 := fun k => HD6.out.foot_lt (k := k)
      have hE : appE [102, 97, 97] m L1 false (lf1 false lf) = 0 := by
        obtain ⟨hr0, hl0, hga, hgb, hgc, hgg, hda, va, vb, vc, vg⟩ := F.out
        obtain ⟨r1, l1, f1, f2, f3⟩ := F1.out
        have := HKM.out
        simp [appE, va, f1, sizeG, HG1.out.2, dead]; omega
      have hs3 : Sl (w6.alloc (.cells M3 5)) (some ⟨w6.heap.size, 0, none⟩) m (bv (List.replicate m 0)) := by
        have h := Sl.lit w6 5 (bv (List.replicate m 0))
        rw [← HM3.out] at h
        simpa [bv_len] using h
      refine (append_ok (HD6.out.alloc _) [102, 97, 97] _ m m _ hs3 (by omega) (fun q hq hq2 => by cases hq; exact absurd (hlt6 _ hq2) (Nat.lt_irrefl _)) hE).mono ?_
      rintro e w7 ⟨rfl, g2, hg2, hD7, hS7⟩
      have hg2n : g2.name = [102, 97, 97] := by rw [Gm.name, hg2]
      have hg2d : g2.f.data.length = 262144 := by
        obtain ⟨r1, l1, f1, f2, f3⟩ := F1.out
        have := HKM.out
        rw [hg2]; simp [oldF, f1, HG1.out.2]; omega
      obtain ⟨hf7, hb7⟩ := foot_lo hS7 hf6 (by have := hb6'.size; simp; omega)
      have hb7' : Below w.heap.size w w7 := (hb6'.alloc hb6'.size _).trans hb7
      obtain ⟨L2, hL2⟩ : ∃ L2, L2 = withK Gm.name g2 L1 := ⟨_, rfl⟩
      have F2 : Hid (Rises Gm.name L2 ∧ L2.length = 256 ∧ findK Gm.name [102, 97, 97] L2 = some g2 ∧ findK Gm.name [102, 98, 97] L2 = some gb ∧ findK Gm.name [102, 99, 97] L2 = some gc) := by
        obtain ⟨r1, l1, f1, f2, f3⟩ := F1.out
        rw [hL2]
        refine ⟨rises_with g2 r1, ?_, ?_, ?_, ?_⟩
        · rw [length_with_some r1 (by rw [hg2n]; exact f1), l1]
        · have := find_with_self (key := Gm.name) (x := g2) r1; rwa [hg2n] at this
        · rw [find_with_other r1 (by rw [hg2n]; decide)]; exact f2
        · rw [find_with_other r1 (by rw [hg2n]; decide)]; exact f3
      have HNG2 : Hid (findK Gm.name [103] L2 = none) := by
        obtain ⟨hr0, hl0, hga, hgb, hgc, hgg, hda, va, vb, vc, vg⟩ := F.out
        obtain ⟨r1, l1, f1, f2, f3⟩ := F1.out
        rw [hL2]
        show findK Gm.name [103] (withK Gm.name g2 L1) = none
        rw [find_with_other r1 (by rw [hg2n]; decide)]
        exact HNG1.out
      rw [← hL2] at hD7 hf7
      have HD7 := Lib.hid hD7
      have HG2 := Lib.hid hg2d
      clear hg2 hg2n hg2d hL2 hD7 hE hb7 hS7 hs3
      go_wp2_with fail
      -- "fba" is called "g"
      have HNG : Hid (findK Gm.name [103] L2 = none) := HNG2
      have hE : renE [102, 98, 97] [103] L2 false (lf1 false (lf1 false lf)) = 0 := by
        obtain ⟨hr0, hl0, hga, hgb, hgc, hgg, hda, va, vb, vc, vg⟩ := F.out
        obtain ⟨r2, l2, f1, f2, f3⟩ := F2.out
        simp [renE, lookE, vg, vb, f2, code1, dead]
      refine (rename_ok HD7.out [102, 98, 97] [103] hE).mono ?_
      rintro e w8 ⟨rfl, g3, hg3, hD8, hS8⟩
      have hg3n : g3.name = [103] := by rw [Gm.name, hg3]
      obtain ⟨hf8, hb8⟩ := foot_lo hS8 hf7 hb7'.size
      have hb8' := hb7'.trans hb8
      obtain ⟨L3, hL3⟩ : ∃ L3, L3 = withK Gm.name g3 (outK Gm.name [102, 98, 97] L2) := ⟨_, rfl⟩
      have F3 : Hid (Rises Gm.name L3 ∧ 256 ≤ L3.length ∧ L3.length ≤ 256 ∧ findK Gm.name [102, 97, 97] L3 = some g2 ∧ findK Gm.name [102, 98, 97] L3 = none ∧ findK Gm.name [102, 99, 97] L3 = some gc) := by
        obtain ⟨r2, l2, f1, f2, f3⟩ := F2.out
        have ro := rises_out (key := Gm.name) [102, 98, 97] r2
        have hfew := hD8.few
        rw [hL3]
        refine ⟨rises_with g3 ro, ?_, hfew, ?_, ?_, ?_⟩
        · have h1 := length_out_some (key := Gm.name) r2 f2
          have h2 : findK Gm.name g3.name (outK Gm.name [102, 98, 97] L2) = none := by
            rw [hg3n, find_out_other r2 (by decide)]
            obtain ⟨hr0, hl0, hga, hgb, hgc, hgg, hda, va, vb, vc, vg⟩ := F.out
            exact HNG.out
          have h3 := length_with_none h2
          omega
        · rw [find_with_other ro (by rw [hg3n]; decide), find_out_other r2 (by decide)]; exact f1
        · rw [find_with_other ro (by rw [hg3n]; decide)]; exact find_out_self _
        · rw [find_with_other ro (by rw [hg3n]; decide), find_out_other r2 (by decide)]; exact f3
      rw [← hL3] at hD8 hf8
      have HD8 := Lib.hid hD8
      clear hg3 hg3n hL3 hD8 hE hb8 hS8
      go_wp2_with fail
      -- "fba" would be one too many
      have hE : appE [102, 98, 97] 0 L3 false (lf1 false (lf1 false (lf1 false lf))) = 5 := by
        obtain ⟨hr0, hl0, hga, hgb, hgc, hgg, hda, va, vb, vc, vg⟩ := F.out
        obtain ⟨r3, l3, l3', f1, f2, f3⟩ := F3.out
        simp [appE, vb, f2, l3]
      refine (append_no HD8.out [102, 98, 97] none 0 0 [] (Sl.none_ _ _) (by decide) (fun k hk => by cases hk) hE).mono ?_
      rintro e w9 ⟨rfl, hD9, hS9⟩
      obtain ⟨hf9, hb9⟩ := foot_lo hS9 hf8 hb8'.size
      have hb9' := hb8'.trans hb9
      have HD9 := Lib.hid hD9
      clear hD9 hE hb9 hS9
      go_wp2_with fail
      -- "fca" is deleted
      have hE : lookE [102, 99, 97] L3 false (lf1 false (lf1 false (lf1 false lf))) = 0 := by
        obtain ⟨hr0, hl0, hga, hgb, hgc, hgg, hda, va, vb, vc, vg⟩ := F.out
        obtain ⟨r3, l3, l3', f1, f2, f3⟩ := F3.out
        simp [lookE, vc, f3, code1, dead]
      refine (delete_ok HD9.out [102, 99, 97] hE).mono ?_
      rintro e wa ⟨rfl, hDa, hSa⟩
      obtain ⟨hfa, hba⟩ := foot_lo hSa hf9 hb9'.size
      have hba' := hb9'.trans hba
      obtain ⟨L4, hL4⟩ : ∃ L4, L4 = outK Gm.name [102, 99, 97] L3 := ⟨_, rfl⟩
      have F4 : Hid (Rises Gm.name L4 ∧ L4.length = 255 ∧ findK Gm.name [102, 97, 97] L4 = some g2 ∧ findK Gm.name [102, 98, 97] L4 = none) := by
        obtain ⟨r3, l3, l3', f1, f2, f3⟩ := F3.out
        rw [hL4]
        refine ⟨rises_out _ r3, ?_, ?_, ?_⟩
        · have h1 := length_out_some (key := Gm.name) r3 f3
          omega
        · rw [find_out_other r3 (by decide)]; exact f1
        · rw [find_out_other r3 (by decide)]; exact f2
      rw [← hL4] at hDa hfa
      have HDa := Lib.hid hDa
      clear hL4 hDa hE hba hSa
      go_wp2_with fail
      -- then "fba" fits
      have hlta := fun k => HDa.out.foot_lt (k := k)
      have hE : appE [102, 98, 97] 1 L4 false (lf1 false (lf1 false (lf1 false (lf1 false lf)))) = 0 := by
        obtain ⟨hr0, hl0, hga, hgb, hgc, hgg, hda, va, vb, vc, vg⟩ := F.out
        obtain ⟨r4, l4, f1, f2⟩ := F4.out
        simp [appE, vb, f2, l4, sizeG, dead]
      refine (append_ok (HDa.out.alloc (.cells #[.int .u8 1] 5)) [102, 98, 97] (some ⟨wa.heap.size, 0, none⟩) 1 1 [1] (Sl.new wa _ _) (by decide) (fun q hq hq2 => by cases hq; exact absurd (hlta _ hq2) (Nat.lt_irrefl _)) hE).mono ?_
      rintro e wb ⟨rfl, g5, hg5, hDb, hSb⟩
      have hg5n : g5.name = [102, 98, 97] := by rw [Gm.name, hg5]
      obtain ⟨hfb, hbb⟩ := foot_lo hSb hfa (by have := hba'.size; simp; omega)
      have hbb' : Below w.heap.size w wb := (hba'.alloc hba'.size _).trans hbb
      obtain ⟨L5, hL5⟩ : ∃ L5, L5 = withK Gm.name g5 L4 := ⟨_, rfl⟩
      have F5 : Hid (L5.length = 256 ∧ findK Gm.name [102, 97, 97] L5 = some g2) := by
        obtain ⟨r4, l4, f1, f2⟩ := F4.out
        rw [hL5]
        refine ⟨?_, ?_⟩
        · rw [length_with_none (by rw [hg5n]; exact f2), l4]
        · rw [find_with_other r4 (by rw [hg5n]; decide)]; exact f1
      rw [← hL5] at hDb
      have HDb := Lib.hid hDb
      clear hg5 hg5n hL5 hDb hE hbb hSb
      go_wp2_with fail
      have hsz := size_any HDb.out [102, 97, 97] (by decide)
      have hs5 : sizeG [102, 97, 97] L5 = 262144 := by simp [sizeG, F5.out.2, HG2.out]
      rw [hs5] at hsz
      refine hsz.mono ?_
      rintro e wc ⟨rfl, rfl⟩
      clear hsz hs5
      go_wp2_with fail
      have hnm := names_any HDb.out
      rw [F5.out.1] at hnm
      refine hnm.mono ?_
      rintro e wd ⟨Ad, cd, rfl, hown, hbd⟩
      clear hnm hown
      go_wp2_with fail
      go_ret
      exact ⟨rfl, hbb'.trans (hbd.mono hbb'.size)⟩
end Go.Proofs.Yteajgabncacolaa
