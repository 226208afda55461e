/-
  The law FrameOwn, as a walk: it answers true and writes nothing that was there.
-/
import Derived.Test.YtacpbcahmhnhbaaDoorLawTorn
import Derived.Test.YtacpbcahmhnhbaaDoorFrameJ
namespace Go.Proofs.YtacpbcahmhnhbaaDoor
open Go.RowKit Num Crc
set_option linter.unusedVariables false

/-- Below the first world's end nothing has changed but the listed blocks. -/
def Off (S : List (Option Nat)) (w w' : World) : Prop := w.heap.size ≤ w'.heap.size ∧ ∀ k, k < w.heap.size → some k ∉ S → w'.heap[k]? = w.heap[k]?
theorem Off.refl (S : List (Option Nat)) (w : World) : Off S w w := ⟨Nat.le_refl _, fun _ _ _ => rfl⟩
theorem Off.grown {S : List (Option Nat)} {w a b : World} {r : Option Nat} (h : Off S w a) (hg : a.grownBy b r) (hr : ∀ k, r = some k → r ∈ S ∨ w.heap.size ≤ k) : Off S w b := by
  refine ⟨Nat.le_trans h.1 hg.size, fun k hk hn => ?_⟩
  rw [hg.block k (Nat.lt_of_lt_of_le hk h.1) (fun e => ?_)]
  · exact h.2 k hk hn
  · rcases hr k e.symm with h1 | h1
    · exact hn (e ▸ h1)
    · omega
theorem Off.sl {S : List (Option Nat)} {w a : World} {A : Option Addr} {n c : Nat} {xs : List Value} (h : Off S w a) (hs : Sl w A n xs) (hA : ∀ k, (Value.slice A n c).ownBlock = some k → k < w.heap.size ∧ some k ∉ S) : Sl a A n xs := by
  refine ⟨hs.1, fun h0 => ?_⟩
  obtain ⟨b, o, rfl, hc⟩ := hs.2 h0
  obtain ⟨h1, h2⟩ := hA b rfl
  refine ⟨b, o, rfl, fun j u hu => ?_⟩
  rw [World.cell?_of_block (w := w) (h.2 b h1 h2)]
  exact hc j u hu

theorem Off.alloc {S : List (Option Nat)} {w a : World} (h : Off S w a) (o : Obj) : Off S w (a.alloc o) := h.grown (World.grownBy_alloc a o none) (fun k hk => by cases hk)
theorem blk_new {S : List (Option Nat)} {v v' : Value} {N M : Nat} (hP : ∀ k, v.ownBlock = some k → v.ownBlock ∈ S ∨ N ≤ k) (hat : v'.ownBlock = v.ownBlock ∨ v'.ownBlock = some M) (hM : N ≤ M) : ∀ k, v'.ownBlock = some k → v'.ownBlock ∈ S ∨ N ≤ k := by
  intro k hk
  rcases hat with e | e
  · rw [e] at hk ⊢; exact hP k hk
  · rw [e] at hk; have := Option.some.inj hk; exact .inr (by omega)
theorem dis_new {u v v' : Value} {M : Nat} (hD : ∀ k, v.ownBlock = some k → u.ownBlock ≠ some k) (hat : v'.ownBlock = v.ownBlock ∨ v'.ownBlock = some M) (hu : ∀ k, u.ownBlock = some k → k < M) : ∀ k, v'.ownBlock = some k → u.ownBlock ≠ some k := by
  intro k hk e
  rcases hat with e1 | e1
  · rw [e1] at hk; exact hD k hk e
  · rw [e1] at hk; have := Option.some.inj hk; have := hu k e; omega
theorem own_blk_ne {w : World} {B B2 e1 e2 : Nat} {v v2 : Value} {n n2 : Nat} {xs xs2 : List Value} (h : w.ownsRow B e1 1 v n xs) (ho : w.ownsRow B2 e2 1 v2 n2 xs2) (he : e1 ≠ e2) : ∀ k, v.ownBlock = some k → v2.ownBlock ≠ some k := by
  intro k hk e
  rcases h.2 with ⟨rfl, _⟩ | ⟨g, cap, cur, rfl, _, h3, _⟩
  · cases hk
  · rcases ho.2 with ⟨rfl, _⟩ | ⟨g', cap', cur', rfl, _, k3, _⟩
    · cases e
    · have h1 : g = k := Option.some.inj hk
      have h2 : g' = k := Option.some.inj e
      subst h1 h2
      rw [h3] at k3
      injection k3 with k3
      injection k3 with _ k4
      exact he k4
theorem dis_flip {u v : Value} (hD : ∀ k, v.ownBlock = some k → u.ownBlock ≠ some k) : ∀ k, u.ownBlock = some k → v.ownBlock ≠ some k := fun k hk e => hD k e hk
theorem grown_tr {a b c : World} {r : Option Nat} (h : a.grownBy b r) (k : b.grownBy c r) : a.grownBy c r :=
  ⟨k.os.trans h.os, k.tape.trans h.tape, k.output.trans h.output, Nat.le_trans h.size k.size, fun i hi hn => (k.block i (Nat.lt_of_lt_of_le hi h.size) hn).trans (h.block i hi hn)⟩
theorem own_ne {v : Value} {r : Option Nat} (h : ∀ k, v.ownBlock = some k → r ≠ some k) : v.ownBlock = none ∨ v.ownBlock ≠ r := by
  cases hv : v.ownBlock with
  | none => exact .inl rfl
  | some k => exact .inr fun e => h k hv e.symm

set_option maxRecDepth 40000 in
set_option maxHeartbeats 12800000 in
theorem own_law (A : Option Addr) (n c : Nat) (p : List UInt8) (B : Option Addr) (m d : Nat) (r : List UInt8) (w : World) (hL : Laid w) (hs : Sl w A n (bv p)) (hn : n ≤ 2000000) (hr : Sl w B m (bv r)) (hm : m ≤ 2000000) :
    Calls Tryd.prog 10 #[.slice A n c, .slice B m d] w (Good w) := by
  have hl := hs.len
  subst hl
  have hml := hr.len
  subst hml
  have GL := Lib.hid hL
  clear hL
  by_cases hbig : (4096 : Int) < p.length
  · go_enter Tryd.func10, Tryd.ntmps10
    go_wp2_with fail
    refine (awake_any w GL.out).mono ?_
    rintro e w1 ⟨rfl, hb1⟩
    go_wp2_with fail
    refine (awake_any w1 (GL.out.keep hb1)).mono ?_
    rintro e w2 ⟨rfl, hb2⟩
    go_wp2_with fail
    go_ret
    exact ⟨rfl, hb1.trans (hb2.mono hb1.size)⟩
  · have hpl : p.length ≤ 4096 := by omega
    obtain ⟨S, hS⟩ : ∃ S, S = seal_ p := ⟨_, rfl⟩
    have hSl : S.length ≤ 5000 := by
      have h10 := vint_len10 (n := p.length) (by omega)
      rw [hS, seal_len]; omega
    have hSp : 0 < S.length := by rw [hS, seal_len]; omega
    obtain ⟨X, hX⟩ : ∃ X, X = S ++ S ++ r := ⟨_, rfl⟩
    have hXl : X.length = S.length + S.length + r.length := by rw [hX]; simp; omega
    obtain ⟨L, M, hsc, hM⟩ : ∃ L M, scan X = (p :: p :: L, M) ∧ (2 * (S.length : Int)) ≤ M := by
      refine ⟨(scan r).1, (seal_ p).length + ((seal_ p).length + (scan r).2), ?_, by rw [hS]; omega⟩
      rw [hX, hS, List.append_assoc, scan_seal hpl, scan_seal hpl]
    have htk : tk X = (p, S.length) := by rw [hX, hS, List.append_assoc]; exact tk_seal hpl _
    have HSC := Lib.hid hsc
    have HTK := Lib.hid htk
    have HX := Lib.hid hX
    have HXL := Lib.hid hXl
    have HSE := Lib.hid hS
    clear hS hsc htk hX hXl
    go_enter Tryd.func10, Tryd.ntmps10
    go_wp2_with fail
    refine (awake_any w GL.out).mono ?_
    rintro e w1 ⟨rfl, hb1⟩
    go_wp2_with fail
    refine (own_any A _ c p _ (hs.below hb1) (by omega)).mono ?_
    rintro e w2 ⟨A2, c2, rfl, hown2, hb2⟩
    have hb12 := hb1.trans (hb2.mono hb1.size)
    go_wp2_with (at_builtin; refine wpList_app _ rfl (.tmp 30) (.tmp 31) 23 rfl w1.heap.size bytesEl (by decide) _ _ _ rfl (hown2.alloc _) (some ⟨w2.heap.size, 0, none⟩) 1 1 [.int .u8 7] rfl (Sl.new _ _ _) (by intro u hu; simp at hu; subst hu; rfl) (by omega) (by have := hb2.size; simp; omega) ?_; intro A3 c3 w3 hown3 hg3 hat3; have hpc3 : p.length ≤ c3 := Nat.le_trans (Nat.le_succ _) (own_le hown3))
    have hb13 := (hb12.alloc hb12.size _).grown hg3 (by have := hb12.size; simp; omega) (fun k hk => Nat.le_trans hb1.size (own_blk hown2 k hk))
    have hs3 := own_sl hown3
    have hsp3 : Sl w3 A3 p.length (bv p) := by
      have h := hs3.take (k := p.length) (by omega)
      rwa [List.take_left' (by rw [bv_len])] at h
    obtain ⟨b3, o3, u3, rfl, hu3, hc3⟩ := hs3.at_ (k := p.length) (by omega)
    have hu3' : u3 = .int .u8 7 := by
      rw [List.getElem?_append_right (by rw [bv_len]; exact Nat.le_refl _)] at hu3
      rw [bv_len] at hu3
      simp at hu3
      exact hu3.symm
    subst hu3'
    have hlt3 := World.block_lt_of_cell? _ _ hc3
    clear hown3 hg3 hat3 hown2 hu3 hb2 hs3
    have hct := seal_any (some ⟨b3, o3, none⟩) _ c3 p _ (GL.out.keep hb13) hsp3 hpl
    rw [← HSE.out] at hct
    refine hct.mono ?_
    rintro e w4 ⟨A4, c4, rfl, hown4, hb4⟩
    clear hct
    have hb14 := hb13.trans (hb4.mono hb13.size)
    have hsp4 := hsp3.below hb4
    go_wp2_with fail
    have hct := seal_any (some ⟨b3, o3, none⟩) _ c3 p _ (GL.out.keep hb14) hsp4 hpl
    rw [← HSE.out] at hct
    refine hct.mono ?_
    rintro e w5 ⟨A5, c5, rfl, hown5, hb5⟩
    clear hct
    have hb15 := hb14.trans (hb5.mono hb14.size)
    have hb35 : Below w3.heap.size w3 w5 := hb4.trans (hb5.mono hb4.size)
    have hown45 := own_keep hown4 hb5
    have hc5 : w5.cell? ⟨b3, o3 + p.length, none⟩ = some (.int .u8 7) := by rw [hb35.cell hlt3]; exact hc3
    have hcf : ∀ q, (convert 23 9 (.slice (some ⟨b3, o3, none⟩) p.length c3)).run Tryd.prog (w5.drewN q) = .ok (.string ⟨p.toArray⟩) (w5.drewN q) := fun q =>
      run_str (P := Tryd.prog) ((hsp4.below hb5).drewN q) 23 5 9 Tryd.underlying23 Tryd.underlying5 Tryd.underlying9
    have hcp : ∀ q, (convert 23 9 (.slice A p.length c)).run Tryd.prog (w5.drewN q) = .ok (.string ⟨p.toArray⟩) (w5.drewN q) := fun q =>
      run_str (P := Tryd.prog) ((hs.below hb15).drewN q) 23 5 9 Tryd.underlying23 Tryd.underlying5 Tryd.underlying9
    go_wp2_with fail
    go_quiet (fail)
    have hb16 : Below w.heap.size w (w5.drewN nq) := hb15.trans ⟨rfl, rfl, rfl, Nat.le_refl _, fun _ _ => rfl⟩
    have hown46 : (w5.drewN nq).ownsRow w3.heap.size 5 1 (.slice A4 S.length c4) S.length (bv S) := hown45
    have hown56 : (w5.drewN nq).ownsRow w4.heap.size 5 1 (.slice A5 S.length c5) S.length (bv S) := hown5
    have hlt4 : ∀ k, (Value.slice A4 S.length c4).ownBlock = some k → k < w4.heap.size := fun k hk => (hown4.lt k hk).2
    have hlt5 : ∀ k, (Value.slice A5 S.length c5).ownBlock = some k → w4.heap.size ≤ k ∧ k < (w5.drewN nq).heap.size := fun k hk => hown5.lt k hk
    have hw45 : w4.heap.size ≤ (w5.drewN nq).heap.size := hb5.size
    clear hown4 hown5 hown45 hc5 hcf hcp hb35 hsp4 hsp3 hc3 hlt3
    generalize w5.drewN nq = w6 at *
    have hb36 : w.heap.size ≤ w3.heap.size := hb13.size
    have hb46 : w.heap.size ≤ w4.heap.size := hb14.size
    clear hb12 hb13 hb14 hb15 hb4 hb5
    go_wp2_with fail
    refine (own_any A4 _ c4 S _ (own_sl hown46) (by omega)).mono ?_
    rintro e w7 ⟨A7, c7, rfl, hown7, hb7⟩
    have hb17 := hb16.trans (hb7.mono hb16.size)
    have hown47 := own_keep hown46 hb7
    go_wp2_with (first
      | (at_builtin; refine wpList_app _ rfl (.tmp 66) (.tmp 67) 23 rfl w6.heap.size bytesEl (by decide) _ _ _ rfl hown7 _ _ _ _ rfl (own_sl hown47) (bv_one _) (by omega) hb7.size ?_; intro A8 c8 w8 hown8 hg8 hat8; have hb68 := hb7.grown hg8 hb7.size (own_blk hown7); have hb18 := hb16.trans (hb68.mono hb16.size))
      | (at_builtin; refine wpList_app _ rfl (.tmp 68) (.tmp 69) 23 rfl w6.heap.size bytesEl (by decide) _ _ _ rfl hown8 B _ d (bv r) rfl (hr.below hb18) (bv_one _) (by omega) hb68.size ?_; intro A9 c9 w9 hown9 hg9 hat9; have hb69 := hb68.grown hg9 hb68.size (own_blk hown8); have hb19 := hb16.trans (hb69.mono hb16.size); have hs9 : Sl w9 A9 (S.length + S.length + r.length) (bv X) := (by have h := own_sl hown9; rwa [← bv_app, ← bv_app, ← HX.out] at h); have hcw := run_str (P := Tryd.prog) (c := c9) hs9 23 5 9 Tryd.underlying23 Tryd.underlying5 Tryd.underlying9))
    have hXn := HXL.out
    rw [← bv_app, ← bv_app, ← HX.out] at hown9
    generalize hN : S.length + S.length + r.length = N at hown9 hs9 hXn ⊢
    have hNle : N ≤ 5000000 := by omega
    have hNp : 0 < N := by omega
    have hown49 := own_keep hown46 hb69
    have hown59 := own_keep hown56 hb69
    have hlt9 : ∀ k, (Value.slice A9 N c9).ownBlock = some k → w6.heap.size ≤ k ∧ k < w9.heap.size := hown9.lt
    have hw69 : w6.heap.size ≤ w9.heap.size := hb69.size
    clear hown7 hown8 hown46 hown56 hown47 hb7 hb17 hb68 hb18 hb69 hb16 hcw
    refine (scan_apart A9 _ c9 X w9 (GL.out.keep hb19) hs9 hNle (own_le hown9)).mono ?_
    rw [HSC.out]
    rintro e w10 ⟨A10, c10, vs, rfl, hown10, heach10, hap10, hb10⟩
    obtain ⟨vp, vs, rfl⟩ : ∃ v t, vs = v :: t := by cases vs with
      | nil => exact heach10.elim
      | cons v t => exact ⟨v, t, rfl⟩
    obtain ⟨⟨Ap, cp, rfl, ho0⟩, hrest⟩ := heach10
    obtain ⟨vq, vs, rfl⟩ : ∃ v t, vs = v :: t := by cases vs with
      | nil => exact hrest.elim
      | cons v t => exact ⟨v, t, rfl⟩
    obtain ⟨⟨Aq, cq, rfl, ho1⟩, -⟩ := hrest
    have hap : ∀ k, (Value.slice Ap p.length cp).ownBlock = some k → (Value.slice Aq p.length cq).ownBlock ≠ some k := (List.pairwise_cons.1 hap10).1 _ (by simp)
    clear hap10
    have hL2 : (p :: p :: L).length = L.length + 2 := rfl
    simp only [hL2] at hown10 ⊢
    have hb110 := hb19.trans (hb10.mono hb19.size)
    have hs910 := hs9.below hb10
    have hown4a := own_keep hown49 hb10
    have hown5a := own_keep hown59 hb10
    have hown9a := own_keep hown9 hb10
    have hlt0 := ho0.lt
    have hlt1 := ho1.lt
    have hltl := hown10.lt
    go_wp2_with fail
    refine (take_any A9 _ c9 X _ (GL.out.keep hb110) hs910 (by omega) (own_le hown9)).mono ?_
    rw [HTK.out]
    rintro e w11 ⟨A11, c11, rfl, hown11, hb11⟩
    simp only at hown11 ⊢
    have hS0 : ¬ (S.length = 0) := by omega
    simp only [hS0, if_false]
    have hb111 := hb110.trans (hb11.mono hb110.size)
    have hcw : ∀ q, (convert 23 9 (.slice A9 N c9)).run Tryd.prog (w11.drewN q) = .ok (.string ⟨X.toArray⟩) (w11.drewN q) := fun q =>
      run_str (P := Tryd.prog) ((hs910.below hb11).drewN q) 23 5 9 Tryd.underlying23 Tryd.underlying5 Tryd.underlying9
    have hcw0 : (convert 23 9 (.slice A9 N c9)).run Tryd.prog w11 = .ok (.string ⟨X.toArray⟩) w11 := hcw 0
    clear hcw
    have hMn : ¬ ((M : Int) < IntKind.i64.wrap (2 * (S.length : Int))) := by
      rw [show IntKind.i64.wrap (2 * (S.length : Int)) = 2 * (S.length : Int) from IntWalk.i64_in _ (by omega)]; omega
    have hLn : ¬ (((L.length + 2 : Nat) : Int) < 2) := by omega
    have hLn2 : ¬ ((L.length : Int) + 2 < 2) := by omega
    go_wp2_with fail
    have hown9b := own_keep hown9a hb11
    have hown4b := own_keep hown4a hb11
    have hown5b := own_keep hown5a hb11
    have hownlb := own_keep hown10 hb11
    have ho0b := own_keep ho0 hb11
    have ho1b := own_keep ho1 hb11
    have hltq := hown11.lt
    have hne1 := own_blk_ne ho1b hownlb (by decide)
    have hw910 : w9.heap.size ≤ w10.heap.size := hb10.size
    have hw1011 : w10.heap.size ≤ w11.heap.size := hb11.size
    clear hown9a hown4a hown5a hown10 ho0 ho1 hown9 hown49 hown59 hs9 hs910 hcw0 hb10 hb11 hb19 hb110
    obtain ⟨b9, rfl⟩ : ∃ g, A9 = some ⟨g, 0, none⟩ := by
      rcases hown9b.2 with ⟨h, h0⟩ | ⟨g, cap, cur, h, _⟩
      · omega
      · injection h with h1 _ _; exact ⟨g, h1⟩
    have hb9 := hlt9 b9 rfl
    go_loopw [102] (fun s wr => ∃ (k : Nat) (xs : List Value), k ≤ N ∧ s = .int .i64 k ∧ wr.ownsRow w6.heap.size 5 1 (.slice (some ⟨b9, 0, none⟩) N c9) N xs ∧ w11.grownBy wr (some b9)) (fun s _ => N - (intOf s).toNat)
    case atStart => exact ⟨0, _, Nat.zero_le _, rfl, hown9b, World.grownBy.refl _ _⟩
    case round =>
      obtain ⟨k, xs, hk, rfl, hownr, hgr⟩ := hrel
      by_cases hkn : k < N
      · have hxl : xs.length = N := by simpa using hownr.1
        have hcr : wr.cell? ⟨b9, k, none⟩ = some (xs[k]) := by
          rw [hownr.cellAt k (by omega)]; exact List.getElem?_eq_getElem (by omega)
        have hcr0 : wr.cell? ⟨b9, 0 + k, none⟩ = some (xs[k]) := by rw [Nat.zero_add]; exact hcr
        have hfr := hownr.frozenAt k
        have hst := hownr.stored k (.int .u8 0)
        have HST := Lib.hid hst
        clear hst
        have hcN : (k : Int) < N := by omega
        go_wp2_with fail
        exact ⟨⟨k + 1, _, by omega, by simp, HST.out.1, grown_tr hgr HST.out.2⟩, by simp [intOf]; omega⟩
      · have hcN : ¬ (k : Int) < N := by omega
        obtain ⟨SS, hSS⟩ : ∃ SS : List (Option Nat), SS = [some b9, (Value.slice A4 S.length c4).ownBlock, (Value.slice Ap p.length cp).ownBlock, (Value.slice A10 (L.length + 2) c10).ownBlock] := ⟨_, rfl⟩
        have hm1 : ∀ k, (Value.slice Aq p.length cq).ownBlock = some k → k < w11.heap.size ∧ some k ∉ SS := fun k hk => by
          have h1 := hlt1 k hk
          refine ⟨by omega, ?_⟩
          rw [hSS]
          intro hmem
          simp only [List.mem_cons, List.not_mem_nil, or_false] at hmem
          rcases hmem with e | e | e | e
          · have := Option.some.inj e; omega
          · have := hlt4 k e.symm; omega
          · exact hap k e.symm hk
          · exact hne1 k hk e.symm
        have hmq : ∀ k, (Value.slice A11 p.length c11).ownBlock = some k → k < w11.heap.size ∧ some k ∉ SS := fun k hk => by
          have h1 := hltq k hk
          refine ⟨by omega, ?_⟩
          rw [hSS]
          intro hmem
          simp only [List.mem_cons, List.not_mem_nil, or_false] at hmem
          rcases hmem with e | e | e | e
          · have := Option.some.inj e; omega
          · have := hlt4 k e.symm; omega
          · have := hlt0 k e.symm; omega
          · have := hltl k e.symm; omega
        have hmc : ∀ k, (Value.slice A5 S.length c5).ownBlock = some k → k < w11.heap.size ∧ some k ∉ SS := fun k hk => by
          have h1 := hlt5 k hk
          refine ⟨by omega, ?_⟩
          rw [hSS]
          intro hmem
          simp only [List.mem_cons, List.not_mem_nil, or_false] at hmem
          rcases hmem with e | e | e | e
          · have := Option.some.inj e; omega
          · have := hlt4 k e.symm; omega
          · have := hlt0 k e.symm; omega
          · have := hltl k e.symm; omega
        have hoff := (Off.refl SS w11).grown hgr (fun k _ => .inl (by rw [hSS]; simp))
        have hbe := hb111.grown hgr hb111.size (fun k hk => by injection hk with hk; subst hk; omega)
        have ho4 := hown4b.kept hgr (own_ne fun k hk e => by injection e with e; have := hlt4 k hk; omega)
        have hol := own_other hownlb hown9b hgr (by decide)
        have ho0 := ho0b.kept hgr (own_ne fun k hk e => by injection e with e; have := hlt0 k hk; omega)
        have hsz := hgr.size
        clear hownr hgr hown9b hown4b ho0b hownlb
        generalize hw12 : wr = w12 at *
        clear hw12
        go_wp2_with fail
        obtain ⟨b4, rfl⟩ : ∃ g, A4 = some ⟨g, 0, none⟩ := by
          rcases ho4.2 with ⟨h, h0⟩ | ⟨g, cap, cur, h, _⟩
          · omega
          · injection h with h1 _ _; exact ⟨g, h1⟩
        have hb4 := hlt4 b4 rfl
        have hb4w := own_blk ho4 b4 rfl
        clear hlt4
        go_loopw [111] (fun s wr => ∃ (k : Nat) (xs : List Value), k ≤ S.length ∧ s = .int .i64 k ∧ wr.ownsRow w3.heap.size 5 1 (.slice (some ⟨b4, 0, none⟩) S.length c4) S.length xs ∧ w12.grownBy wr (some b4)) (fun s _ => S.length - (intOf s).toNat)
        case atStart => exact ⟨0, _, Nat.zero_le _, rfl, ho4, World.grownBy.refl _ _⟩
        case round =>
          obtain ⟨k, xs, hk, rfl, hownr, hgr⟩ := hrel
          by_cases hkn : k < S.length
          · have hxl : xs.length = S.length := by simpa using hownr.1
            have hcr : wr.cell? ⟨b4, k, none⟩ = some (xs[k]) := by
              rw [hownr.cellAt k (by omega)]; exact List.getElem?_eq_getElem (by omega)
            have hcr0 : wr.cell? ⟨b4, 0 + k, none⟩ = some (xs[k]) := by rw [Nat.zero_add]; exact hcr
            have hfr := hownr.frozenAt k
            have hst := hownr.stored k (.int .u8 1)
            have HST := Lib.hid hst
            clear hst
            have hcN : (k : Int) < S.length := by omega
            go_wp2_with fail
            exact ⟨⟨k + 1, _, by omega, by simp, HST.out.1, grown_tr hgr HST.out.2⟩, by simp [intOf]; omega⟩
          · have hcN : ¬ (k : Int) < S.length := by omega
            have hoff2 := hoff.grown hgr (fun k _ => .inl (by rw [hSS]; simp [Value.ownBlock]))
            have hbe2 := hbe.grown hgr hbe.size (fun k hk => by injection hk with hk; subst hk; omega)
            have hol2 := own_other hol ho4 hgr (by decide)
            have ho02 := ho0.kept hgr (own_ne fun k hk e => by injection e with e; have := hlt0 k hk; omega)
            have hsz2 := hgr.size
            clear hgr hoff hbe hol ho0 ho4
            generalize hw13 : wr = w13 at *
            clear hw13
            obtain ⟨bl, rfl⟩ : ∃ g, A10 = some ⟨g, 0, none⟩ := by
              rcases hol2.2 with ⟨h, h0⟩ | ⟨g, cap, cur, h, _⟩
              · omega
              · injection h with h1 _ _; exact ⟨g, h1⟩
            have hll : (Value.slice Ap p.length cp :: Value.slice Aq p.length cq :: vs).length = L.length + 2 := by simpa using hol2.1
            have hcl0 : w13.cell? ⟨bl, 0, none⟩ = some (.slice Ap p.length cp) := by rw [hol2.cellAt 0 (by omega)]; rfl
            go_wp2_with fail
            have hbl := hltl bl rfl
            have ho4b := hownr
            clear hownr hsz hsz2 hkn hcl0
            go_loopw [122] (fun s wr => ∃ (k : Nat) (xs : List Value), k ≤ p.length ∧ s = .int .i64 k ∧ wr.ownsRow w9.heap.size 5 1 (.slice Ap p.length cp) p.length xs ∧ w13.grownBy wr (Value.slice Ap p.length cp).ownBlock) (fun s _ => p.length - (intOf s).toNat)
            case atStart => exact ⟨0, _, Nat.zero_le _, rfl, ho02, World.grownBy.refl _ _⟩
            case round =>
              obtain ⟨k, xs, hk, rfl, hownr, hgr⟩ := hrel
              have holr := own_other hol2 ho02 hgr (by decide)
              by_cases hkn : k < p.length
              · have hxl : xs.length = p.length := by simpa using hownr.1
                obtain ⟨b0, rfl⟩ : ∃ g, Ap = some ⟨g, 0, none⟩ := by
                  rcases hownr.2 with ⟨h, h0⟩ | ⟨g, cap, cur, h, _⟩
                  · omega
                  · injection h with h1 _ _; exact ⟨g, h1⟩
                have hcl0 : wr.cell? ⟨bl, 0, none⟩ = some (.slice (some ⟨b0, 0, none⟩) p.length cp) := by rw [holr.cellAt 0 (by omega)]; rfl
                have hcr : wr.cell? ⟨b0, k, none⟩ = some (xs[k]) := by
                  rw [hownr.cellAt k (by omega)]; exact List.getElem?_eq_getElem (by omega)
                have hcr0 : wr.cell? ⟨b0, 0 + k, none⟩ = some (xs[k]) := by rw [Nat.zero_add]; exact hcr
                have hfr := hownr.frozenAt k
                have hst := hownr.stored k (.int .u8 2)
                have HST := Lib.hid hst
                clear hst
                have hcN : (k : Int) < p.length := by omega
                go_wp2_with fail
                exact ⟨⟨k + 1, _, by omega, by simp, HST.out.1, grown_tr hgr HST.out.2⟩, by simp [intOf]; omega⟩
              · have hcN : ¬ (k : Int) < p.length := by omega
                have hoff3 := hoff2.grown hgr (fun k _ => .inl (by rw [hSS]; simp))
                have hbe3 := hbe2.grown hgr hbe2.size (fun k hk => by have h1 := hlt0 k hk; have h2 := hb46; omega)
                have ho43 := ho4b.kept hgr (own_ne fun k hk e => by have h1 := hlt0 k e; have h2 : b4 = k := Option.some.inj hk; omega)
                clear hgr hoff2 hbe2 hol2 ho02 ho4b
                generalize hw14 : wr = w14 at *
                clear hw14
                go_wp2_with fail
                have hl0 : w14.ownsRow w.heap.size 5 1 (.slice Ap p.length cp) p.length xs := own_mono hownr (by omega)
                have hlb : w14.ownsRow w.heap.size 5 1 (.slice (some ⟨b4, 0, none⟩) S.length c4) S.length _ := own_mono ho43 hb36
                have hP0 : ∀ k, (Value.slice Ap p.length cp).ownBlock = some k → (Value.slice Ap p.length cp).ownBlock ∈ SS ∨ w11.heap.size ≤ k := fun k _ => .inl (by rw [hSS]; simp)
                have hPb : ∀ k, (Value.slice (some ⟨b4, 0, none⟩) S.length c4).ownBlock = some k → (Value.slice (some ⟨b4, 0, none⟩) S.length c4).ownBlock ∈ SS ∨ w11.heap.size ≤ k := fun k _ => .inl (by rw [hSS]; simp)
                have hD : ∀ k, (Value.slice Ap p.length cp).ownBlock = some k → (Value.slice (some ⟨b4, 0, none⟩) S.length c4).ownBlock ≠ some k := fun k hk e => by
                  have h1 := hlt0 k hk; have h2 : b4 = k := Option.some.inj e; omega
                clear hownr ho43 hlt0 hap hL2 hMn hLn hLn2 hll
                go_loopw [6, 20] (fun s6 s20 wr => ∃ (i : Nat) (A0 Ab : Option Addr) (c0 cb : Nat) (x0 xb : List Value), i ≤ 20 ∧ s20 = .int .i64 i ∧ s6 = .slice Ab (S.length + i) cb ∧
                  wr.ownsRow w.heap.size 5 1 (.slice A0 (p.length + i) c0) (p.length + i) x0 ∧ wr.ownsRow w.heap.size 5 1 (.slice Ab (S.length + i) cb) (S.length + i) xb ∧
                  wr.ownsRow w9.heap.size 23 1 (.slice (some ⟨bl, 0, none⟩) (L.length + 2) c10) (L.length + 2) (.slice A0 (p.length + i) c0 :: .slice Aq p.length cq :: vs) ∧
                  (∀ k, (Value.slice A0 (p.length + i) c0).ownBlock = some k → (Value.slice A0 (p.length + i) c0).ownBlock ∈ SS ∨ w11.heap.size ≤ k) ∧ (∀ k, (Value.slice Ab (S.length + i) cb).ownBlock = some k → (Value.slice Ab (S.length + i) cb).ownBlock ∈ SS ∨ w11.heap.size ≤ k) ∧
                  (∀ k, (Value.slice A0 (p.length + i) c0).ownBlock = some k → (Value.slice Ab (S.length + i) cb).ownBlock ≠ some k) ∧ Off SS w11 wr ∧ Below w.heap.size w wr) (fun _ s _ => 20 - (intOf s).toNat)
                case atStart => exact ⟨0, Ap, some ⟨b4, 0, none⟩, cp, c4, _, _, by omega, rfl, rfl, hl0, hlb, holr, hP0, hPb, hD, hoff3, hbe3⟩
                case round =>
                  obtain ⟨i, A0, Ab, c0, cb, x0, xb, hi, rfl, rfl, hl0, hlb, hol, hP0, hPb, hD, hoff, hbe⟩ := hrel
                  have hll : (Value.slice A0 (p.length + i) c0 :: Value.slice Aq p.length cq :: vs).length = L.length + 2 := by simpa using hol.1
                  have hcl0 : wr.cell? ⟨bl, 0, none⟩ = some (.slice A0 (p.length + i) c0) := by rw [hol.cellAt 0 (by omega)]; rfl
                  by_cases hi20 : i < 20
                  · have hiI : (i : Int) < 20 := by omega
                    have hszr := hbe.size
                    have hbo : some bl ∈ SS := by rw [hSS]; simp [Value.ownBlock]
                    go_wp2_with (first
                      | (at_builtin; refine wpList_app _ rfl (.tmp 138) (.tmp 139) 23 rfl w.heap.size bytesEl (by decide) _ _ _ rfl (hl0.alloc _) (some ⟨wr.heap.size, 0, none⟩) 1 1 [.int .u8 3] rfl (Sl.new _ _ _) (by intro u hu; simp at hu; subst hu; rfl) (by omega) (by simp; omega) ?_; intro A1 c1 w1' h01 hg1 hat1; have hol1 := own_other (hol.alloc _) (hl0.alloc _) hg1 (by decide); have hlb1 := (hlb.alloc _).kept hg1 (own_ne fun k hk e => hD k e hk); have hcl1 := hol1.cellAt 0 (by omega); rw [List.getElem?_cons_zero] at hcl1; have hfl1 := hol1.frozenAt 0; have hst := Lib.hid (hol1.stored 0 (.slice A1 (p.length + i + 1) c1)); have hlb2 := own_other hlb1 hol1 hst.out.2 (by decide); have hn4 : Sl ((w1'.setCell ⟨bl, 0, none⟩ (.slice A1 (p.length + i + 1) c1)).alloc (.cells #[.int .u8 4] 5)) (some ⟨w1'.heap.size, 0, none⟩) 1 [.int .u8 4] := (by have h := Sl.new (w1'.setCell ⟨bl, 0, none⟩ (.slice A1 (p.length + i + 1) c1)) (.int .u8 4) 5; rwa [show (w1'.setCell ⟨bl, 0, none⟩ (.slice A1 (p.length + i + 1) c1)).heap.size = w1'.heap.size by simp] at h); have hszw : w.heap.size ≤ ((w1'.setCell ⟨bl, 0, none⟩ (.slice A1 (p.length + i + 1) c1)).alloc (.cells #[.int .u8 4] 5)).heap.size := (by have h := hg1.size; simp at h ⊢; omega))
                      | (at_builtin; refine wpList_app _ rfl (.tmp 142) (.tmp 143) 23 rfl w.heap.size bytesEl (by decide) _ _ _ rfl (hlb2.alloc _) (some ⟨w1'.heap.size, 0, none⟩) 1 1 [.int .u8 4] rfl hn4 (by intro u hu; simp at hu; subst hu; rfl) (by omega) hszw ?_; intro A2' c2' w2' hb3 hg2 hat2))
                    have h02 := own_other h01 hol1 hst.out.2 (by decide)
                    have hbla : w.heap.size ≤ bl := by have := hb46; omega
                    have hD1 := dis_new hD hat1 (fun k hk => ((hlb.alloc _).lt k hk).2)
                    have hoff1 := (hoff.alloc (.cells #[.int .u8 3] 5)).grown hg1 hP0
                    have hoff2 := (hoff1.grown hst.out.2 (fun k _ => .inl hbo)).alloc (.cells #[.int .u8 4] 5)
                    have hoff3 := hoff2.grown hg2 hPb
                    have hbe1 := (hbe.alloc hbe.size (.cells #[.int .u8 3] 5)).grown hg1 (by simp; omega) (own_blk hl0)
                    have hbe2 := (hbe1.grown hst.out.2 hbe1.size (fun k hk => by have h2 : bl = k := Option.some.inj hk; omega))
                    have hbe3 := (hbe2.alloc hbe2.size (.cells #[.int .u8 4] 5)).grown hg2 hszw (own_blk hlb)
                    have h03 := (h02.alloc _).kept hg2 (own_ne fun k hk e => hD1 k hk e)
                    have hol3 := own_other (hst.out.1.alloc _) (hlb2.alloc _) hg2 (by decide)
                    have hP1 := blk_new hP0 hat1 (by have h := hoff.1; simp; omega)
                    have hP2 := blk_new hPb hat2 hoff2.1
                    have hD2 := dis_flip (dis_new (dis_flip hD1) hat2 (fun k hk => ((h02.alloc _).lt k hk).2))
                    exact ⟨⟨i + 1, A1, A2', c1, c2', _, _, by omega, by simp, rfl, h03, hb3, hol3, hP1, hP2, hD2, hoff3, hbe3⟩, by simp [intOf]; omega⟩
                  · have hiI : ¬ (i : Int) < 20 := by omega
                    have hcl1 : wr.cell? ⟨bl, 1, none⟩ = some (.slice Aq p.length cq) := by rw [hol.cellAt 1 (by omega)]; rfl
                    have hq1 : Sl wr Aq p.length (bv p) := hoff.sl (c := cq) (own_sl ho1b) hm1
                    have hqq : Sl wr A11 p.length (bv p) := hoff.sl (c := c11) (own_sl hown11) hmq
                    have hqc : Sl wr A5 S.length (bv S) := hoff.sl (c := c5) (own_sl hown5b) hmc
                    have hc1 : ∀ V : World, Below wr.heap.size wr V → ∀ c', (convert 23 9 (.slice Aq p.length c')).run Tryd.prog V = .ok (.string ⟨p.toArray⟩) V := fun V hV c' =>
                      run_str (P := Tryd.prog) (hq1.below hV) 23 5 9 Tryd.underlying23 Tryd.underlying5 Tryd.underlying9
                    have hcq : ∀ V : World, Below wr.heap.size wr V → ∀ c', (convert 23 9 (.slice A11 p.length c')).run Tryd.prog V = .ok (.string ⟨p.toArray⟩) V := fun V hV c' =>
                      run_str (P := Tryd.prog) (hqq.below hV) 23 5 9 Tryd.underlying23 Tryd.underlying5 Tryd.underlying9
                    have hcc : ∀ V : World, Below wr.heap.size wr V → ∀ c', (convert 23 9 (.slice A5 S.length c')).run Tryd.prog V = .ok (.string ⟨S.toArray⟩) V := fun V hV c' =>
                      run_str (P := Tryd.prog) (hqc.below hV) 23 5 9 Tryd.underlying23 Tryd.underlying5 Tryd.underlying9
                    have hcp : ∀ V : World, Below wr.heap.size wr V → ∀ c', (convert 23 9 (.slice A p.length c')).run Tryd.prog V = .ok (.string ⟨p.toArray⟩) V := fun V hV c' =>
                      run_str (P := Tryd.prog) ((hs.below hbe).below hV) 23 5 9 Tryd.underlying23 Tryd.underlying5 Tryd.underlying9
                    have hcl1V : ∀ V : World, Below wr.heap.size wr V → V.cell? ⟨bl, 1, none⟩ = some (.slice Aq p.length cq) := fun V hV => by rw [hV.cell (World.block_lt_of_cell? wr _ hcl1)]; exact hcl1
                    have HRS := Lib.hid (show ∀ V, Sl V A p.length (bv p) → Calls Tryd.prog 25 #[.slice A p.length c] V (Fresh V S) from fun V hV => by
                      rw [HSE.out]; exact refSeal_any A _ c p V hV (by omega))
                    go_wp2_with fail
                    go_cut [4] (fun s4 wx => s4 = .bool true ∧ Below w.heap.size w wx)
                    case first =>
                      have hb0 : Below wr.heap.size wr wr.drew := (Below.refl _ _).drew
                      go_region_held (fun V => Below wr.heap.size wr V) (first | exact hb0 | exact hb0.trans (by assumption)) (first | (go_at_call 25; refine (HRS.out _ ((hs.below hbe).below hb0)).mono ?_; rintro e wz ⟨Az, cz, rfl, hownz, hbz⟩; have hcv7 := run_str (P := Tryd.prog) (c := cz) (own_sl hownz) 23 5 9 Tryd.underlying23 Tryd.underlying5 Tryd.underlying9; have hb07 : Below wr.heap.size wr wz := hb0.trans hbz))
                      all_goals (go_wp2_with fail; go_meet; exact ⟨rfl, hbe.trans (Below.mono (by assumption) hbe.size)⟩)
                    case rest =>
                      obtain ⟨rfl, hbx⟩ := hcut
                      clear hc1 hcq hcp hcc hcl1 hcl1V
                      go_wp2_with fail
                      go_ret
                      exact ⟨rfl, hbx⟩
end Go.Proofs.YtacpbcahmhnhbaaDoor
