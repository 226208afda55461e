/-
  The reference's drive: what a loss of power leaves.
-/
import Derived.Test.YtadkgfhfjagmpaaGreatDoorReE
import Derived.Deep.RegionLaw
namespace Go.Proofs.YtadkgfhfjagmpaaGreatDoor
open Go.RowKit Go.Maps
set_option linter.unusedVariables false

/-- Where the loop of the reference's Crash stands. -/
structure RcS (w W0 wr : World) (xb : Nat) (fs : List Fm) (ks : List Int) (i k : Nat) (A' : Option Addr) (c' : Nat) (ys : List Fm) : Prop where
  hys : ys = (crash (fs.take i) ks).1
  hks : (crash (fs.take i) ks).2 = ks.drop k
  len : ys.length = i
  x : Blk wr xb #[.slice A' i c', .int .i64 0, .bool false, .int .i64 0] 35
  own : wr.ownsRow W0.heap.size 108 3 (.slice A' i c') i (fcs ys)
  oth : Oth (fun b => b = xb) W0 wr

theorem Below.heap_alloc2 (w : World) (o1 o2 : Obj) (k : Nat) (h : k < w.heap.size) : ((w.alloc o1).alloc o2).heap[k]? = w.heap[k]? := by
  rw [Below.heap_alloc _ _ _ (by simp; omega), Below.heap_alloc _ _ _ h]
theorem str_take (l : List UInt8) (n : Nat) (h : n ≤ l.length) : (str l).extract 0 n = str (l.take n) := by
  apply ByteArray.ext
  simp [str]

/-- The append of one file, as one step of a region that draws. -/
theorem step_app3 {ops : Array Oper} {o : Oper} {a : Act} {w : World} {K : Act → World → Prop} {Q : Exit → Act → World → Prop} {E : Prop}
    (hg : o.guard = none) (s x : Operand) (hop : o.op = .call { callee := .builtin .append, args := #[s, x], argTypes := #[33, 33] })
    (base : Nat) (v : Value) (n : Nat) (xs : List Fm) (hs : a.eval s = v) (hown : w.ownsRow base 108 3 v n (fcs xs))
    (b : Nat) (f : Fm) (hx : a.eval x = .slice (some ⟨b, 0, none⟩) 1 1) (hb : Blk w b #[.string (str f.name), .string (str f.data), .int .i64 f.syn] 108)
    (hlen : n ≤ 1000000) (hbase : base ≤ w.heap.size)
    (h : ∀ A' c' w', w'.ownsRow base 108 3 (.slice A' (n + 1) c') (n + 1) (fcs (xs ++ [f])) → w.grownBy w' v.ownBlock → K (a.put o.dst (.slice A' (n + 1) c')) w') :
    if Region.wanted o (yielded ops a.tmps) = true then Oper.wp Tryz.prog o a w K Q else E := by
  have hw : Region.wanted o (yielded ops a.tmps) = true := by simp [Region.wanted, hg]
  rw [if_pos hw]
  obtain ⟨i, hi, hz0, hz1, hz2⟩ := info_parts fileInfo
  obtain ⟨v', w', hrun, h2, h3, _, h5⟩ := run_append_own_at (P := Tryz.prog) w base 33 o.type 108 i _ 3 40 Tryz.underlying33 hi hz0 hz1 hz2 rfl (by omega) v n (fcs xs) hown ⟨b, 0, none⟩ 1 1 (fcs [f]) rfl
    (fun j u hu => by
      rw [add_plain, Nat.zero_add]
      have : j < 3 := by
        have := (List.getElem?_eq_some_iff.1 hu).1
        simpa [fcs, fcells] using this
      refine hb.cell ?_
      rcases j with _ | _ | _ | j
      · simpa [fcs, fcells] using hu
      · simpa [fcs, fcells] using hu
      · simpa [fcs, fcells] using hu
      · omega) (fcs_one _) (by simp only [maxLen]; omega) (by omega) hbase
  rw [← fcs_app] at h2
  have hform : ∃ A' c', v' = .slice A' (n + 1) c' := by
    rcases h2.2 with ⟨rfl, e⟩ | ⟨g, cap, cur, rfl, _⟩
    · simp at e
    · exact ⟨_, _, rfl⟩
  obtain ⟨A', c', rfl⟩ := hform
  unfold Oper.wp execOp
  simp only [hop, resolve, invoke, builtin, Sem.run_bind, Sem.run_pure, Result.andThen_ok, List.map_toArray, List.map_cons, List.map_nil, hs, hx, hrun]
  exact h A' c' w' h2 h3

theorem RcS.next {w W0 wr w5 : World} {fs : List Fm} {ks : List Int} {i k k' : Nat} {A' A5 : Option Addr} {c' c5 : Nat} {ys : List Fm} {f f' : Fm} (h : RcS w W0 wr (w.heap.size + 1 + 1) fs ks i k A' c' ys) (hW : W0.heap.size = w.heap.size + 3) (hf : fs[i]? = some f) (h1 : (cr1 f (ks.drop k)).1 = f') (h2 : (cr1 f (ks.drop k)).2 = ks.drop k')
    {W : World} (hb : Below wr.heap.size wr W) (hg : W.grownBy w5 (Value.slice A' i c').ownBlock) (hown : w5.ownsRow W0.heap.size 108 3 (.slice A5 (i + 1) c5) (i + 1) (fcs (ys ++ [f']))) :
    RcS w W0 (w5.setCell ⟨w.heap.size + 1 + 1, 0, none⟩ (.slice A5 (i + 1) c5)) (w.heap.size + 1 + 1) fs ks (i + 1) k' A5 c5 (ys ++ [f']) := by
  have ht : fs.take (i + 1) = fs.take i ++ [f] := by rw [List.take_add_one, hf]; rfl
  have hxl := h.x.lt
  have hx5 : Blk w5 (w.heap.size + 1 + 1) #[.slice A' i c', .int .i64 0, .bool false, .int .i64 0] 35 := (h.x.keep (hb.block _ hxl)).keep (hg.block _ (Nat.lt_of_lt_of_le hxl hb.size) (fun e => by have := own3_blk h.own _ e.symm; omega))
  have hk : ∀ b, b ≠ w.heap.size + 1 + 1 → (w5.setCell ⟨w.heap.size + 1 + 1, 0, none⟩ (.slice A5 (i + 1) c5)).heap[b]? = w5.heap[b]? := fun b hb => setCell_other _ _ _ hb
  refine ⟨?_, ?_, by simp [h.len], hx5.set 0 _, own3_keep hown fun q hq => hk q (by have := own3_blk hown q hq; omega), ⟨?_, ?_, ?_, ?_, fun b hb1 hb2 => ?_⟩⟩
  · rw [ht, crash_snoc, h.hks, h1, ← h.hys]
  · rw [ht, crash_snoc, h.hks, h2]
  · simp only [setCell_os]; exact hg.os.trans (hb.os.trans h.oth.os)
  · simp only [setCell_tape]; exact hg.tape.trans (hb.tape.trans h.oth.tape)
  · simp only [setCell_output]; exact hg.output.trans (hb.output.trans h.oth.output)
  · simp only [setCell_size]; have := hg.size; have := hb.size; have := h.oth.size; omega
  · have hs := h.oth.size
    rw [hk b hb2, hg.block b (by have := hb.size; omega) (fun e => by have := own3_blk h.own b e.symm; omega), hb.block b (by omega)]
    exact h.oth.block b hb1 hb2

set_option maxRecDepth 40000 in
set_option maxHeartbeats 8000000 in
theorem rcrash_any (A : Option Addr) (n c : Nat) (fs : List Fm) (st : Int) (ar : Bool) (lf : Int) (B : Option Addr) (m d : Nat) (ks : List Int) (w : World) (h : Fl w A n fs) (hn : n ≤ 256) (hk : Sl w B m (iv ks)) (hsy : ∀ f ∈ fs, f.syn ≤ f.data.length ∧ f.data.length ≤ 262144) :
    Calls Tryz.prog 35 #[.agg #[.slice A n c, .int .i64 st, .bool ar, .int .i64 lf], .slice B m d] w (FreshD w (crash fs ks).1 0 false 0) := by
  have hnl := h.1
  subst hnl
  have hsz : ∀ l, (str l).size = l.length := str_size
  go_enter Tryz.func35, Tryz.ntmps35
  go_wp2_with fail
  have b1 := Blk.new w (dcs A fs.length c st ar lf) 35
  have b2 := Blk.new (w.alloc (dobj (dcs A fs.length c st ar lf))) zcs 35
  have b3 := Blk.new ((w.alloc (dobj (dcs A fs.length c st ar lf))).alloc (dobj zcs)) zcs 35
  have hB0 : Below w.heap.size w (((w.alloc (dobj (dcs A fs.length c st ar lf))).alloc (dobj zcs)).alloc (dobj zcs)) := (((Below.refl _ w).alloc (Nat.le_refl _) _).alloc (by simp) _).alloc (by simp; omega) _
  have d1 := (b1.keep (Below.heap_alloc _ (dobj zcs) _ b1.lt)).keep (Below.heap_alloc _ (dobj zcs) _ (by simp; omega))
  have d2 := b2.keep (Below.heap_alloc _ (dobj zcs) _ b2.lt)
  have hs0 : (((w.alloc (dobj (dcs A fs.length c st ar lf))).alloc (dobj zcs)).alloc (dobj zcs)).heap.size = w.heap.size + 3 := by simp
  clear b1 b2
  rw [World.size_alloc] at d2
  rw [World.size_alloc, World.size_alloc] at b3
  generalize hW0 : (((w.alloc (dobj (dcs A fs.length c st ar lf))).alloc (dobj zcs)).alloc (dobj zcs)) = W0 at b3 hB0 d1 d2 hs0 ⊢
  clear hW0
  have HS0 := Lib.hid hs0
  clear hs0
  have h0 := h.below hB0
  have hk0 := hk.below hB0
  go_loopw [6, 7] (fun nx j wr => ∃ (i k : Nat) (A' : Option Addr) (c' : Nat) (ys : List Fm), i ≤ fs.length ∧ k ≤ i ∧ j = .int .i64 i ∧ nx = .int .i64 k ∧ RcS w W0 wr (w.heap.size + 1 + 1) fs ks i k A' c' ys) (fun _ j _ => fs.length - (intOf j).toNat)
  case atStart => exact ⟨0, 0, none, 0, [], Nat.zero_le _, Nat.le_refl _, rfl, rfl, ⟨rfl, rfl, rfl, b3, own3_nil _ _, ⟨rfl, rfl, rfl, Nat.le_refl _, fun _ _ _ => rfl⟩⟩⟩
  case round =>
    obtain ⟨i, k, A', c', ys, hi, hki, rfl, rfl, hR⟩ := hrel
    have hkp : ∀ b, b < W0.heap.size → b ≠ w.heap.size + 1 + 1 → wr.heap[b]? = W0.heap[b]? := fun b h1 h2 => hR.oth.block b h1 h2
    have hws := hR.oth.size
    have e1 := d1.keep (hkp _ d1.lt (by omega))
    have k0 : wr.cell? ⟨w.heap.size, 0, none⟩ = some (.slice A fs.length c) := e1.cell rfl
    have x0 : wr.cell? ⟨w.heap.size + 1 + 1, 0, none⟩ = some (.slice A' i c') := hR.x.cell rfl
    have xf := hR.x.frozen 0
    have xa : ∀ o1, (wr.alloc o1).cell? ⟨w.heap.size + 1 + 1, 0, none⟩ = some (.slice A' i c') := fun o1 => (hR.x.keep (Below.heap_alloc wr o1 _ hR.x.lt)).cell rfl
    have xa2 : ∀ o1 o2, ((wr.alloc o1).alloc o2).cell? ⟨w.heap.size + 1 + 1, 0, none⟩ = some (.slice A' i c') := fun o1 o2 => (hR.x.keep (Below.heap_alloc2 wr o1 o2 _ hR.x.lt)).cell rfl
    have HR := Lib.hid hR
    clear hR
    by_cases hin : i < fs.length
    · have hcN : (i : Int) < fs.length := by omega
      obtain ⟨b, o, f, rfl, hf, z1, z2, z3⟩ := h.at_ hin
      have hbl := World.block_lt_of_cell? _ _ z1
      have hwr : ∀ q, q < w.heap.size → wr.heap[q]? = w.heap[q]? := fun q hq => (hkp q (by have := HS0.out; omega) (by omega)).trans (hB0.block q hq)
      have y1 := (World.cell?_of_block (hwr b hbl)).trans z1
      have y2 := (World.cell?_of_block (hwr b hbl)).trans z2
      have y3 := (World.cell?_of_block (hwr b hbl)).trans z3
      obtain ⟨hs1, hs2⟩ := hsy f (List.mem_of_getElem? hf)
      have hlenI : (f.data.length : Int) ≤ 262144 := by omega
      have HF := Lib.hid hf
      clear z1 z2 z3 hf
      by_cases hL : (f.syn : Int) < f.data.length
      · by_cases hkm : (k : Int) < m
        · obtain ⟨kb, ko, ku, rfl, hku, hkc⟩ := hk.at_ (k := k) (by omega)
          have hkl : k < ks.length := by have := hk.1; rw [iv_len] at this; omega
          obtain ⟨k0, hk0e⟩ : ∃ k0, k0 = ks[k] := ⟨_, rfl⟩
          rw [iv_get hkl, ← hk0e] at hku
          obtain rfl := Option.some.inj hku
          have hdr : ks.drop k = k0 :: ks.drop (k + 1) := by rw [List.drop_eq_getElem_cons hkl, hk0e]
          have hkbl : kb < w.heap.size := World.block_lt_of_cell? _ _ hkc
          have hkw := (World.cell?_of_block (hwr kb hkbl)).trans hkc
          have hka : ∀ o1, (wr.alloc o1).cell? ⟨kb, ko + k, none⟩ = some (.int .i64 k0) := fun o1 => (World.cell?_of_block (Below.heap_alloc wr o1 kb (by have := HS0.out; omega))).trans hkw
          have hcr0 : cr1 f (ks.drop k) = (cutF f (max 0 (min k0 ((f.data.length - f.syn : Nat) : Int))).toNat, ks.drop (k + 1)) := by rw [hdr]; unfold cr1; rw [if_pos (by omega)]
          clear hku hk0e hdr hkc
          by_cases hk1 : (0 : Int) < k0
          · obtain ⟨K, rfl⟩ : ∃ K : Nat, k0 = (K : Int) := ⟨k0.toNat, by omega⟩
            by_cases hk2 : (K : Int) < f.data.length - f.syn
            · have hcr : (cr1 f (ks.drop k)).1 = (⟨f.name, f.data.take (f.syn + K), f.syn + K⟩ : Fm) ∧ (cr1 f (ks.drop k)).2 = ks.drop (k + 1) := by
                rw [hcr0]
                have : (max 0 (min (K : Int) ((f.data.length - f.syn : Nat) : Int))).toNat = K := by omega
                rw [this]
                exact ⟨by first | rfl | trivial, by first | rfl | trivial⟩
              clear hcr0
              have hKl : (f.syn : Int) + K ≤ f.data.length := by omega
              obtain ⟨N, hN⟩ : ∃ N : Nat, N = f.syn + K := ⟨_, rfl⟩
              have hNI : (f.syn : Int) + K = (N : Int) := by omega
              have hNl : (N : Int) ≤ f.data.length := by omega
              rw [← hN] at hcr
              clear hN hKl
              have hst : (str f.data).extract 0 N = str (f.data.take N) := str_take _ _ (by omega)
              obtain ⟨T, hT⟩ : ∃ T, T = f.data.take N := ⟨_, rfl⟩
              rw [← hT] at hst hcr
              have HT := Lib.hid hT
              clear hT
              have HCR := Lib.hid hcr
              clear hcr
              go_wp2_with fail
              go_region_law (refine step_app3 rfl (.tmp 59) (.tmp 68) rfl W0.heap.size (.slice A' i c') i ys (by simp [Act.eval]) (own3_keep HR.out.own fun q hq => Below.heap_alloc2 wr _ _ _ (own3_lt HR.out.own q hq)) _ (⟨f.name, T, N⟩ : Fm) (by simp [Act.eval]) (Blk.new _ _ _) (by omega) (by simp; omega) ?_; intro A5 c5 w5 hown5 hg5; have hx5 : Blk w5 (w.heap.size + 1 + 1) #[.slice A' i c', .int .i64 0, .bool false, .int .i64 0] 35 := (HR.out.x.keep (Below.heap_alloc2 wr _ _ _ HR.out.x.lt)).keep (hg5.block _ (by have := HR.out.x.lt; simp; omega) (fun e => by have := own3_blk HR.out.own _ e.symm; have := HS0.out; omega)); have xx0 := hx5.cell (k := 0) rfl; have xxf := hx5.frozen 0)
              all_goals
                go_wp2_with fail
                exact ⟨⟨i + 1, k + 1, A5, c5, _, by omega, by omega, by simp, by simp, HR.out.next HS0.out HF.out HCR.out.1 HCR.out.2 (((Below.refl _ wr).alloc (Nat.le_refl _) _).alloc (by simp) _).drew hg5 hown5⟩, by simp [intOf]; omega⟩
            · have hcr : (cr1 f (ks.drop k)).1 = (⟨f.name, f.data.take f.data.length, f.data.length⟩ : Fm) ∧ (cr1 f (ks.drop k)).2 = ks.drop (k + 1) := by
                rw [hcr0]
                have : (max 0 (min (K : Int) ((f.data.length - f.syn : Nat) : Int))).toNat = f.data.length - f.syn := by omega
                rw [this]
                simp only [cutF]
                rw [show f.syn + (f.data.length - f.syn) = f.data.length from by omega]
                exact ⟨by first | rfl | trivial, by first | rfl | trivial⟩
              clear hcr0
              have hst : (str f.data).extract 0 f.data.length = str (f.data.take f.data.length) := str_take _ _ (by omega)
              obtain ⟨T, hT⟩ : ∃ T, T = f.data.take f.data.length := ⟨_, rfl⟩
              rw [← hT] at hst hcr
              have HT := Lib.hid hT
              clear hT
              have HCR := Lib.hid hcr
              clear hcr
              go_wp2_with fail
              go_region_law (refine step_app3 rfl (.tmp 59) (.tmp 68) rfl W0.heap.size (.slice A' i c') i ys (by simp [Act.eval]) (own3_keep HR.out.own fun q hq => Below.heap_alloc2 wr _ _ _ (own3_lt HR.out.own q hq)) _ (⟨f.name, T, f.data.length⟩ : Fm) (by simp [Act.eval]) (Blk.new _ _ _) (by omega) (by simp; omega) ?_; intro A5 c5 w5 hown5 hg5; have hx5 : Blk w5 (w.heap.size + 1 + 1) #[.slice A' i c', .int .i64 0, .bool false, .int .i64 0] 35 := (HR.out.x.keep (Below.heap_alloc2 wr _ _ _ HR.out.x.lt)).keep (hg5.block _ (by have := HR.out.x.lt; simp; omega) (fun e => by have := own3_blk HR.out.own _ e.symm; have := HS0.out; omega)); have xx0 := hx5.cell (k := 0) rfl; have xxf := hx5.frozen 0)
              all_goals
                go_wp2_with fail
                exact ⟨⟨i + 1, k + 1, A5, c5, _, by omega, by omega, by simp, by simp, HR.out.next HS0.out HF.out HCR.out.1 HCR.out.2 (((Below.refl _ wr).alloc (Nat.le_refl _) _).alloc (by simp) _).drew hg5 hown5⟩, by simp [intOf]; omega⟩
          · have hcr : (cr1 f (ks.drop k)).1 = (⟨f.name, f.data.take f.syn, f.syn⟩ : Fm) ∧ (cr1 f (ks.drop k)).2 = ks.drop (k + 1) := by
              rw [hcr0]
              have : (max 0 (min k0 ((f.data.length - f.syn : Nat) : Int))).toNat = 0 := by omega
              rw [this]
              exact ⟨by first | rfl | trivial, by first | rfl | trivial⟩
            clear hcr0
            have hst : (str f.data).extract 0 f.syn = str (f.data.take f.syn) := str_take _ _ (by omega)
            obtain ⟨T, hT⟩ : ∃ T, T = f.data.take f.syn := ⟨_, rfl⟩
            rw [← hT] at hst hcr
            have HT := Lib.hid hT
            clear hT
            have HCR := Lib.hid hcr
            clear hcr
            go_wp2_with fail
            go_region_law (refine step_app3 rfl (.tmp 59) (.tmp 68) rfl W0.heap.size (.slice A' i c') i ys (by simp [Act.eval]) (own3_keep HR.out.own fun q hq => Below.heap_alloc2 wr _ _ _ (own3_lt HR.out.own q hq)) _ (⟨f.name, T, f.syn⟩ : Fm) (by simp [Act.eval]) (Blk.new _ _ _) (by omega) (by simp; omega) ?_; intro A5 c5 w5 hown5 hg5; have hx5 : Blk w5 (w.heap.size + 1 + 1) #[.slice A' i c', .int .i64 0, .bool false, .int .i64 0] 35 := (HR.out.x.keep (Below.heap_alloc2 wr _ _ _ HR.out.x.lt)).keep (hg5.block _ (by have := HR.out.x.lt; simp; omega) (fun e => by have := own3_blk HR.out.own _ e.symm; have := HS0.out; omega)); have xx0 := hx5.cell (k := 0) rfl; have xxf := hx5.frozen 0)
            all_goals
              go_wp2_with fail
              exact ⟨⟨i + 1, k + 1, A5, c5, _, by omega, by omega, by simp, by simp, HR.out.next HS0.out HF.out HCR.out.1 HCR.out.2 (((Below.refl _ wr).alloc (Nat.le_refl _) _).alloc (by simp) _).drew hg5 hown5⟩, by simp [intOf]; omega⟩
        · have hkl : ks.length ≤ k := by have := hk.1; rw [iv_len] at this; omega
          have hcr : (cr1 f (ks.drop k)).1 = (⟨f.name, f.data.take f.syn, f.syn⟩ : Fm) ∧ (cr1 f (ks.drop k)).2 = ks.drop (k + 1) := by
            rw [List.drop_of_length_le hkl, List.drop_of_length_le (by omega)]
            unfold cr1
            rw [if_pos (by omega)]
            exact ⟨by first | rfl | trivial, by first | rfl | trivial⟩
          have hst : (str f.data).extract 0 f.syn = str (f.data.take f.syn) := str_take _ _ (by omega)
          obtain ⟨T, hT⟩ : ∃ T, T = f.data.take f.syn := ⟨_, rfl⟩
          rw [← hT] at hst hcr
          have HT := Lib.hid hT
          clear hT
          have HCR := Lib.hid hcr
          clear hcr
          go_wp2_with fail
          go_region_law (refine step_app3 rfl (.tmp 59) (.tmp 68) rfl W0.heap.size (.slice A' i c') i ys (by simp [Act.eval]) (own3_keep HR.out.own fun q hq => Below.heap_alloc2 wr _ _ _ (own3_lt HR.out.own q hq)) _ (⟨f.name, T, f.syn⟩ : Fm) (by simp [Act.eval]) (Blk.new _ _ _) (by omega) (by simp; omega) ?_; intro A5 c5 w5 hown5 hg5; have hx5 : Blk w5 (w.heap.size + 1 + 1) #[.slice A' i c', .int .i64 0, .bool false, .int .i64 0] 35 := (HR.out.x.keep (Below.heap_alloc2 wr _ _ _ HR.out.x.lt)).keep (hg5.block _ (by have := HR.out.x.lt; simp; omega) (fun e => by have := own3_blk HR.out.own _ e.symm; have := HS0.out; omega)); have xx0 := hx5.cell (k := 0) rfl; have xxf := hx5.frozen 0)
          all_goals
            go_wp2_with fail
            exact ⟨⟨i + 1, k + 1, A5, c5, _, by omega, by omega, by simp, by simp, HR.out.next HS0.out HF.out HCR.out.1 HCR.out.2 (((Below.refl _ wr).alloc (Nat.le_refl _) _).alloc (by simp) _).drew hg5 hown5⟩, by simp [intOf]; omega⟩
      · have hcr : (cr1 f (ks.drop k)).1 = (⟨f.name, f.data, f.data.length⟩ : Fm) ∧ (cr1 f (ks.drop k)).2 = ks.drop k := by
          unfold cr1
          rw [if_neg (by omega)]
          have hse : f.syn = f.data.length := by omega
          simp [cutF, hse]
        have hst : (str f.data).extract 0 f.data.length = str f.data := by rw [str_take _ _ (Nat.le_refl _), List.take_length]
        have HCR := Lib.hid hcr
        clear hcr
        go_wp2_with fail
        go_region_law (refine step_app3 rfl (.tmp 59) (.tmp 68) rfl W0.heap.size (.slice A' i c') i ys (by simp [Act.eval]) (own3_keep HR.out.own fun q hq => Below.heap_alloc2 wr _ _ _ (own3_lt HR.out.own q hq)) _ (⟨f.name, f.data, f.data.length⟩ : Fm) (by simp [Act.eval]) (Blk.new _ _ _) (by omega) (by simp; omega) ?_; intro A5 c5 w5 hown5 hg5; have hx5 : Blk w5 (w.heap.size + 1 + 1) #[.slice A' i c', .int .i64 0, .bool false, .int .i64 0] 35 := (HR.out.x.keep (Below.heap_alloc2 wr _ _ _ HR.out.x.lt)).keep (hg5.block _ (by have := HR.out.x.lt; simp; omega) (fun e => by have := own3_blk HR.out.own _ e.symm; have := HS0.out; omega)); have xx0 := hx5.cell (k := 0) rfl; have xxf := hx5.frozen 0)
        all_goals
          go_wp2_with fail
          exact ⟨⟨i + 1, k, A5, c5, _, by omega, by omega, by simp, by simp, HR.out.next HS0.out HF.out HCR.out.1 HCR.out.2 (((Below.refl _ wr).alloc (Nat.le_refl _) _).alloc (by simp) _).drew hg5 hown5⟩, by simp [intOf]; omega⟩
    · have hcN : ¬ (i : Int) < fs.length := by omega
      have hie : i = fs.length := by omega
      subst hie
      have er := d2.keep (hkp _ d2.lt (by omega))
      have r0 : wr.cell? ⟨w.heap.size + 1, 0, none⟩ = some (.slice none 0 0) := er.cell rfl
      have r1 : wr.cell? ⟨w.heap.size + 1, 1, none⟩ = some (.int .i64 0) := er.cell rfl
      have r2 : wr.cell? ⟨w.heap.size + 1, 2, none⟩ = some (.bool false) := er.cell rfl
      have r3 : wr.cell? ⟨w.heap.size + 1, 3, none⟩ = some (.int .i64 0) := er.cell rfl
      have g0 := er.frozen 0
      have g1 := er.frozen 1
      have g2 := er.frozen 2
      have g3 := er.frozen 3
      have x1 : wr.cell? ⟨w.heap.size + 1 + 1, 1, none⟩ = some (.int .i64 0) := HR.out.x.cell rfl
      have x2 : wr.cell? ⟨w.heap.size + 1 + 1, 2, none⟩ = some (.bool false) := HR.out.x.cell rfl
      have x3 : wr.cell? ⟨w.heap.size + 1 + 1, 3, none⟩ = some (.int .i64 0) := HR.out.x.cell rfl
      have ER := Lib.hid er
      clear er
      go_wp2_with fail
      have hbw : Below w.heap.size w wr := ⟨HR.out.oth.os.trans hB0.os, HR.out.oth.tape.trans hB0.tape, HR.out.oth.output.trans hB0.output, by have := hB0.size; omega, fun q hq => (hkp q (by have := HS0.out; omega) (by omega)).trans (hB0.block q hq)⟩
      obtain ⟨p1, p2, p3⟩ := put4 (v0 := .slice A' fs.length c') (v1 := .int .i64 0) (v2 := .bool false) (v3 := .int .i64 0) ER.out (Nat.le_succ _) hbw
      have hys := HR.out.hys
      rw [List.take_length] at hys
      have hl := HR.out.len
      rw [← hys]
      refine ret_drive (R := FreshD w ys 0 false 0) rfl rfl rfl p1 ?_
      refine ⟨A', c', by rw [hl], ?_, p2⟩
      rw [hl]
      exact own3_base (own3_keep HR.out.own fun q hq => p3 q (by have := own3_blk HR.out.own q hq; have := HS0.out; omega)) (by have := HS0.out; omega)
end Go.Proofs.YtadkgfhfjagmpaaGreatDoor
