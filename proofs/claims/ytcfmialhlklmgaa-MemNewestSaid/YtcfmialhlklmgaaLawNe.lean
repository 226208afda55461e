/-
  The law MemNewest as a walk.
-/
import Derived.Test.YtcfmialhlklmgaaMeL
namespace Go.Proofs.Ytcfmialhlklmgaa
open Go.RowKit
set_option linter.unusedVariables false

/-- What Get answers is newest. -/
theorem getL_new {es : List En} (hs : Srt es) (key : List UInt8) (seq : Int) : (∀ x ∈ es, x.key = key → x.seq ≤ seq → (getL es key seq).2 = true ∧ x.seq ≤ (getL es key seq).1.seq) ∧
    ((getL es key seq).2 = true → (getL es key seq).1 ∈ es ∧ (getL es key seq).1.key = key ∧ (getL es key seq).1.seq ≤ seq) ∧ ((getL es key seq).2 = false → (getL es key seq).1 = zE) := by
  have hlen := posE_le es key seq
  have hno := posE_no hs key seq
  have hyes := posE_yes es key seq
  unfold getL
  generalize hp : posE es key seq = p at *
  refine ⟨fun x hx hk hq => ?_, ?_, ?_⟩
  · obtain ⟨j, hj⟩ := List.getElem?_of_mem hx
    have hjl := (List.getElem?_eq_some_iff.1 hj).1
    have hjp : p ≤ j := by
      rcases Nat.lt_or_ge j p with h | h
      · have := hyes j h x hj
        rw [ahead_iff] at this
        rcases this with h1 | ⟨_, h1⟩
        · rw [hk, lt_irrefl] at h1; cases h1
        · omega
      · exact h
    have hm : es[p]? = some es[p] := List.getElem?_eq_getElem (by omega)
    have hna := hno p (Nat.le_refl _) _ hm
    rw [hm]
    have hrel : es[p].key = key ∧ x.seq ≤ es[p].seq := by
      rcases Nat.lt_or_ge p j with h | h
      · have h3 := List.pairwise_iff_getElem.1 hs p j (by omega) hjl h
        rw [(List.getElem?_eq_some_iff.1 hj).2, ahead_iff, hk] at h3
        rcases h3 with h3 | ⟨h3, h4⟩
        · have : es[p].ahead key seq = true := (ahead_iff _ _ _).2 (.inl h3)
          rw [hna] at this; cases this
        · exact ⟨h3, by omega⟩
      · obtain rfl : p = j := by omega
        have : es[p] = x := (List.getElem?_eq_some_iff.1 hj).2
        rw [this]
        exact ⟨hk, Int.le_refl _⟩
    simp only [hrel.1, if_true]
    exact ⟨trivial, hrel.2⟩
  · intro h
    cases hm : es[p]? with
    | none => rw [hm] at h; cases h
    | some m =>
      rw [hm] at h
      by_cases hk : m.key = key
      · simp only [hk, if_true]
        refine ⟨List.mem_of_getElem? hm, trivial, ?_⟩
        have := hno p (Nat.le_refl _) m hm
        have h2 : ¬ (lt m.key key = true ∨ (m.key = key ∧ seq < m.seq)) := fun q => by rw [(ahead_iff _ _ _).2 q] at this; cases this
        have : ¬ seq < m.seq := fun q => h2 (.inr ⟨hk, q⟩)
        omega
      · simp only [hk, if_false] at h
        cases h
  · intro h
    cases hm : es[p]? with
    | none => rfl
    | some m =>
      rw [hm] at h
      by_cases hk : m.key = key
      · simp only [hk, if_true] at h
        cases h
      · simp only [hk, if_false]
/-- Where the first loop stands. -/
structure Ne1 (w wr : World) (tb : Nat) (i : Nat) (N : List Nd) (xs : List En) (A : Option Addr) (c : Nat) : Prop where
  t : TbW w wr tb N
  len : N.length ≤ i
  row : wr.ownsRow w.heap.size 30 4 (.slice A xs.length c) xs.length (ecs xs)
  xl : xs.length ≤ i
  mem : ∀ x, x ∈ xs ↔ x ∈ esOf N
theorem below_dN (w : World) (q : Nat) : Below w.heap.size w (w.drewN q) := ⟨rfl, rfl, rfl, Nat.le_refl _, fun _ _ => rfl⟩
theorem Ne1.below {w wr w' : World} {tb i : Nat} {N : List Nd} {xs : List En} {A : Option Addr} {c : Nat} (h : Ne1 w wr tb i N xs A c) (hb : Below wr.heap.size wr w') : Ne1 w w' tb i N xs A c := ⟨h.t.below hb, h.len, ownS_below h.row hb, h.xl, h.mem⟩
theorem Ne1.up {w wr : World} {tb i j : Nat} {N : List Nd} {xs : List En} {A : Option Addr} {c : Nat} (h : Ne1 w wr tb i N xs A c) (hj : i ≤ j) : Ne1 w wr tb j N xs A c := ⟨h.t, Nat.le_trans h.len hj, h.row, Nat.le_trans h.xl hj, h.mem⟩
/-- A row that isn't the table's stays under Put. -/
theorem row_put {w0 w w' : World} {tb : Nat} {N : List Nd} {B e s n : Nat} {v : Value} {xs : List Value} (h : TbW w0 w tb N) (ho : w.ownsRow B e s v n xs) (h1 : e ≠ 54) (h2 : e ≠ 52) (hp : Oth (tfoot tb N) w w') : w'.ownsRow B e s v n xs :=
  ownS_keep ho fun k hk => by
    obtain ⟨cur, hb⟩ := ownS_type ho hk
    exact hp.block k hb.lt (h.apart hb h1 h2)
/-- An append onto a row that isn't the table's. -/
theorem TbW.grown {w0 w w' : World} {tb : Nat} {N : List Nd} {B e s n : Nat} {v : Value} {xs : List Value} (h : TbW w0 w tb N) (ho : w.ownsRow B e s v n xs) (h1 : e ≠ 54) (h2 : e ≠ 52) (hB : w0.heap.size ≤ B) (hg : w.grownBy w' v.ownBlock) : TbW w0 w' tb N :=
  h.stay (fun k hk => hg.block k (h.tbl.tb.foot_lt hk) fun e => by
    obtain ⟨cur, hb⟩ := ownS_type ho e.symm
    exact h.apart hb h1 h2 hk) (h.bel.grown hg h.bel.size fun k e => Nat.le_trans hB (ownS_blk ho k e))
set_option maxRecDepth 40000 in
set_option maxHeartbeats 8000000 in
theorem newest_law {w : World} {A0 : Option Addr} {n0 c0 : Nat} {os : List Mo} (hR : Mls w A0 n0 os) (key : List UInt8) (seq : Int) (hsq : -9223372036854775808 ≤ seq ∧ seq ≤ 9223372036854775807) :
    Calls Try.prog 5 #[.slice A0 n0 c0, .string (str key), .int .i64 seq] w fun e w' => e = .returned (.bool true) ∧ Below w.heap.size w w' := by
  have HR := Lib.hid hR
  clear hR
  go_enter Try.func5, Try.ntmps5
  go_wp2_with fail
  refine (new_w (Below.refl _ w)).mono ?_
  rintro r w1 ⟨rfl, hT1, hb1⟩
  have HT1 := Lib.hid hT1
  clear hT1 hb1
  go_wp2_with fail
  refine (awake4_any w1).mono ?_
  rintro r w2 ⟨rfl, hb2⟩
  have H2 : Hid (Ne1 w w2 w.heap.size 0 [] [] none 0) := ⟨HT1.out.below hb2, Nat.le_refl _, ownE_nil _ _, Nat.le_refl _, by simp [esOf]⟩
  clear hb2
  go_wp2_with fail
  go_loopw [8, 9] (fun s8 s9 wr => ∃ (i : Nat) (N : List Nd) (xs : List En) (A : Option Addr) (c : Nat), i ≤ n0 ∧ i ≤ 100 ∧ s9 = .int .i64 i ∧ s8 = .slice A xs.length c ∧ Ne1 w wr w.heap.size i N xs A c) (fun _ j _ => n0 - (intOf j).toNat)
  case atStart => exact ⟨0, [], [], none, 0, Nat.zero_le _, Nat.zero_le _, rfl, rfl, H2.out⟩
  case round =>
    obtain ⟨i, N, xs, A, c, hi, hi2, rfl, rfl, hS⟩ := hrel
    have HS := Lib.hid hS
    clear hS
    by_cases hgo : i < n0 ∧ i < 100
    · obtain ⟨hin, hi100⟩ := hgo
      have hcN : (i : Int) < n0 := by omega
      have hcM : (i : Int) < 100 := by omega
      obtain ⟨b, off, o, rfl, ho, hok, c0', c1', c2', c3', c4', c5'⟩ := HR.out.at_ hin
      have hbr := HS.out.t.bel
      have k0 : ∀ V, Below w.heap.size w V → V.cell? ⟨b, off + i * 6, none⟩ = some (.bool o.ask) := fun V h => (h.cell (World.block_lt_of_cell? w _ c0')).trans c0'
      have k1 : ∀ V, Below w.heap.size w V → V.cell? ⟨b, off + i * 6 + 1, none⟩ = some (.string (str o.e.key)) := fun V h => (h.cell (World.block_lt_of_cell? w _ c1')).trans c1'
      have k2 : ∀ V, Below w.heap.size w V → V.cell? ⟨b, off + i * 6 + 2, none⟩ = some (.int .i64 o.e.seq) := fun V h => (h.cell (World.block_lt_of_cell? w _ c2')).trans c2'
      have k3 : ∀ V, Below w.heap.size w V → V.cell? ⟨b, off + i * 6 + 3, none⟩ = some (.bool o.e.del) := fun V h => (h.cell (World.block_lt_of_cell? w _ c3')).trans c3'
      have k4 : ∀ V, Below w.heap.size w V → V.cell? ⟨b, off + i * 6 + 4, none⟩ = some (.string (str o.e.val)) := fun V h => (h.cell (World.block_lt_of_cell? w _ c4')).trans c4'
      have k5 : ∀ V, Below w.heap.size w V → V.cell? ⟨b, off + i * 6 + 5, none⟩ = some (.int .i64 o.ht) := fun V h => (h.cell (World.block_lt_of_cell? w _ c5')).trans c5'
      have K := Lib.hid (And.intro k0 (And.intro k1 (And.intro k2 (And.intro k3 (And.intro k4 k5)))))
      have d0 := k0 wr hbr
      have d1 := k1 wr hbr
      have d2 := k2 wr hbr
      have d3 := k3 wr hbr
      have d4 := k4 wr hbr
      have d5 := k5 wr hbr
      clear c0' c1' c2' c3' c4' c5' k0 k1 k2 k3 k4 k5 ho
      cases ha : o.ask with
      | true =>
        rw [ha] at d0
        clear ha hbr
        go_wp2_with fail
        go_quiet (fail)
        clear d0 d1 d2 d3 d4 d5
        go_wp2_with fail
        exact ⟨⟨i + 1, N, xs, A, c, by omega, by omega, by go_num, rfl, (HS.out.below (below_dN wr nq)).up (Nat.le_succ _)⟩, by simp only [intOf]; omega⟩
      | false =>
        rw [ha] at d0
        have hp := put_w (HS.out.t.below (below_dN wr 1)) (by have := HS.out.len; omega) o.e o.ht hok.1
        change Calls _ _ _ wr.drew (PutW w wr.drew w.heap.size N o.e) at hp
        rw [ev_lit] at hp
        obtain ⟨cd, hcd⟩ : ∃ cd, cd = putC (esOf N) o.e := ⟨_, rfl⟩
        unfold PutW at hp
        rw [← hcd] at hp
        have HP := Lib.hid hp
        have HCD := Lib.hid hcd
        clear ha hbr hp hcd
        by_cases hc : cd = 0
        · subst hc
          go_wp2_with fail
          go_still_tail 18, (by kernel_rfl)
          change wpList _ _ _ _ _ wr.drew
          · have hR0 : wr.drew.ownsRow w.heap.size 30 4 (.slice A xs.length c) xs.length (ecs xs) := HS.out.row
            have hT0 := HS.out.t.below (below_dN wr 1)
            change TbW w wr.drew _ _ at hT0
            have HR0 := Lib.hid (And.intro hR0 hT0)
            clear hR0 hT0 d0 d1 d2 d3 d4 d5
            generalize wr.drew = w4 at HP HR0 ⊢
            go_wp2_with fail
            refine HP.out.mono ?_
            rintro r wc ⟨rfl, ho5, N5, hT5, -, hN5⟩
            obtain ⟨hl5, he5⟩ : N5.length = N.length + 1 ∧ esOf N5 = insE (esOf N) o.e := by
              rcases hN5 with ⟨h1, _⟩ | ⟨_, h2, h3, _⟩
              · exact absurd rfl h1
              · exact ⟨h2, h3⟩
            clear hN5
            have hrow5 := row_put HR0.out.2 HR0.out.1 (by decide) (by decide) ho5
            have e1 := K.out.2.1 wc hT5.bel
            have e2 := K.out.2.2.1 wc hT5.bel
            have e3 := K.out.2.2.2.1 wc hT5.bel
            have e4 := K.out.2.2.2.2.1 wc hT5.bel
            have H5 := Lib.hid (And.intro hT5 (And.intro hl5 he5))
            have hsz := hT5.bel.size
            have hxl := HS.out.xl
            clear hT5 hl5 he5 ho5
            go_wp2_with (at_builtin; refine wpList_appE _ rfl (.tmp 53) (.tmp 59) rfl w.heap.size _ _ xs rfl (ownS_below hrow5 ((Below.refl _ wc).alloc (Nat.le_refl _) _)) (some ⟨wc.heap.size, 0, none⟩) 1 1 [o.e] rfl (Sle.new wc o.e) (by simp) (by omega) (by simp; omega) ?_; intro A7 c7 w7 hown7 hg7)
            have hT7 := (H5.out.1.alloc (.cells #[.string (str o.e.key), .int .i64 o.e.seq, .bool o.e.del, .string (str o.e.val)] 30)).grown (ownS_below hrow5 ((Below.refl _ wc).alloc (Nat.le_refl _) _)) (by decide) (by decide) (Nat.le_refl _) hg7
            refine ⟨⟨i + 1, N5, xs ++ [o.e], A7, c7, by omega, by omega, by go_num, by simp, ⟨hT7, ?_, by simpa using hown7, by simp; exact hxl, fun x => ?_⟩⟩, by simp only [intOf]; omega⟩
            · rw [H5.out.2.1]; have := HS.out.len; omega
            · rw [H5.out.2.2, mem_ins, List.mem_append, List.mem_singleton, HS.out.mem x]
              exact ⟨fun h => h.symm, fun h => h.symm⟩
        · go_wp2_with fail
          go_still_tail 18, (by kernel_rfl)
          change wpList _ _ _ _ _ wr.drew
          · have hR0 : wr.drew.ownsRow w.heap.size 30 4 (.slice A xs.length c) xs.length (ecs xs) := HS.out.row
            have hT0 := HS.out.t.below (below_dN wr 1)
            change TbW w wr.drew _ _ at hT0
            have HR0 := Lib.hid (And.intro hR0 hT0)
            clear hR0 hT0 d0 d1 d2 d3 d4 d5
            generalize wr.drew = w4 at HP HR0 ⊢
            go_wp2_with fail
            refine HP.out.mono ?_
            rintro r wc ⟨rfl, ho5, N5, hT5, -, hN5⟩
            obtain rfl : N5 = N := by
              rcases hN5 with ⟨_, h1⟩ | ⟨h2, _⟩
              · exact h1
              · exact absurd h2 hc
            clear hN5
            have hrow5 := row_put HR0.out.2 HR0.out.1 (by decide) (by decide) ho5
            have H5 := Lib.hid (And.intro hT5 hrow5)
            clear hT5 ho5 hrow5
            go_wp2_with fail
            exact ⟨⟨i + 1, N5, xs, A, c, by omega, by omega, by go_num, rfl, ⟨H5.out.1, Nat.le_trans HS.out.len (Nat.le_succ _), H5.out.2, Nat.le_trans HS.out.xl (Nat.le_succ _), HS.out.mem⟩⟩, by simp only [intOf]; omega⟩
    · have hend : ¬ ((i : Int) < n0) ∨ ((i : Int) < n0 ∧ ¬ ((i : Int) < 100)) := by omega
      have hge := get_w HS.out.t key seq
      have hnew := getL_new HS.out.t.tbl.srt key seq
      generalize getL (esOf N) key seq = g at hge hnew
      obtain ⟨ge, gok⟩ := g
      simp only at hge hnew
      rw [ev_lit] at hge
      have HNW := Lib.hid hnew
      have hxl := HS.out.xl
      clear hnew
      rcases hend with hend | ⟨hend1, hend2⟩
      all_goals
        go_wp2_with fail
        refine hge.mono ?_
        rintro r w4 ⟨rfl, hb4⟩
        have hrow4 := ownS_below HS.out.row hb4
        have hb04 := HS.out.t.bel.trans (hb4.mono HS.out.t.bel.size)
        have hbk : Blk (w4.alloc (.cells #[.string (str ge.key), .int .i64 ge.seq, .bool ge.del, .string (str ge.val)] 30)) w4.heap.size #[.string (str ge.key), .int .i64 ge.seq, .bool ge.del, .string (str ge.val)] 30 := Blk.new w4 _ _
        have hb05 : Below w.heap.size w (w4.alloc (.cells #[.string (str ge.key), .int .i64 ge.seq, .bool ge.del, .string (str ge.val)] 30)) := hb04.alloc hb04.size _
        have hrow5 := own_sle (ownS_below hrow4 ((Below.refl _ w4).alloc (Nat.le_refl _) (.cells #[.string (str ge.key), .int .i64 ge.seq, .bool ge.del, .string (str ge.val)] 30)))
        obtain ⟨w5, hw5⟩ : ∃ w5, w5 = w4.alloc (.cells #[.string (str ge.key), .int .i64 ge.seq, .bool ge.del, .string (str ge.val)] 30) := ⟨_, rfl⟩
        rw [← hw5] at hbk hb05 hrow5
        have HW5 := Lib.hid (And.intro hbk (And.intro hb05 hrow5))
        have HWE := Lib.hid hw5
        clear hge hb4 hrow4 hb04 hbk hb05 hrow5 hw5
        go_wp2_with fail
        rw [← HWE.out]
        go_loopw [12, 70] (fun s12 s70 wr => ∃ (k : Nat) (fd : Bool), k ≤ xs.length ∧ s70 = .int .i64 k ∧ s12 = .bool fd ∧ (fd = true ↔ ge ∈ xs.take k) ∧ Below w5.heap.size w5 wr) (fun _ j _ => xs.length - (intOf j).toNat)
        case atStart => exact ⟨0, false, Nat.zero_le _, rfl, rfl, by simp, Below.refl _ _⟩
        case round =>
          obtain ⟨k, fd, hk, rfl, rfl, hfd, hbw⟩ := hrel
          have HFD := Lib.hid hfd
          have HB := Lib.hid hbw
          clear hfd hbw
          by_cases hin : k < xs.length
          · have hcN : (k : Int) < xs.length := by omega
            obtain ⟨b, o, x, rfl, hx, c0, c1, c2, c3⟩ := (HW5.out.2.2.below HB.out).at_ hin
            have hbk := HW5.out.1.keep (HB.out.block _ HW5.out.1.lt)
            have g0 : ∀ o, (wr.alloc o).cell? ⟨w4.heap.size, 0, none⟩ = some (.string (str ge.key)) := fun o => (hbk.keep (Below.heap_alloc wr o _ hbk.lt)).cell rfl
            have g1 : ∀ o, (wr.alloc o).cell? ⟨w4.heap.size, 1, none⟩ = some (.int .i64 ge.seq) := fun o => (hbk.keep (Below.heap_alloc wr o _ hbk.lt)).cell rfl
            have g2 : ∀ o, (wr.alloc o).cell? ⟨w4.heap.size, 2, none⟩ = some (.bool ge.del) := fun o => (hbk.keep (Below.heap_alloc wr o _ hbk.lt)).cell rfl
            have g3 : ∀ o, (wr.alloc o).cell? ⟨w4.heap.size, 3, none⟩ = some (.string (str ge.val)) := fun o => (hbk.keep (Below.heap_alloc wr o _ hbk.lt)).cell rfl
            have HX := Lib.hid hx
            obtain ⟨eb, heb⟩ : ∃ eb : Bool, (eb = true ↔ x = ge) := by classical exact ⟨decide (x = ge), by simp⟩
            have HEB := Lib.hid heb
            have hxm : x ∈ esOf N := (HS.out.mem x).1 (List.mem_of_getElem? hx)
            have hcond : (¬ x.key = key) ∨ (x.key = key ∧ ¬ x.seq ≤ seq) ∨ (x.key = key ∧ x.seq ≤ seq ∧ gok = true ∧ x.seq ≤ ge.seq) := by
              by_cases q1 : x.key = key
              · by_cases q2 : x.seq ≤ seq
                · exact .inr (.inr ⟨q1, q2, HNW.out.1 x hxm q1 q2⟩)
                · exact .inr (.inl ⟨q1, q2⟩)
              · exact .inl q1
            have htl : ∀ l : List UInt8, (str l).toList = l := fun l => ByteArray.toList_mk l
            clear hx hbk heb hxm
            go_upto_region 15 with fail
            go_cut [12] (fun s12 wx => s12 = .bool (fd || eb) ∧ wx = wr.alloc (.cells #[.string (str x.key), .int .i64 x.seq, .bool x.del, .string (str x.val)] 30))
            case first =>
              cases fd with
              | true =>
                clear htl
                go_wp2_with fail
                go_meet
                exact ⟨rfl, rfl⟩
              | false =>
                by_cases hk : x.key = ge.key
                · by_cases hq : x.seq = ge.seq
                  · by_cases hd : x.del = ge.del
                    · by_cases hv : x.val = ge.val
                      · have hE := Lib.hid (show eb = true from HEB.out.2 (by cases x; cases ge; simp only at hk hq hd hv; subst hk hq hd hv; rfl))
                        rw [← hk] at g0
                        rw [← hq] at g1
                        rw [← hd] at g2
                        rw [← hv] at g3
                        clear htl hk hq hd hv
                        go_wp2_with fail
                        go_meet
                        exact ⟨by rw [hE.out]; rfl, rfl⟩
                      · have hE := Lib.hid (show eb = false by cases eb; rfl; exact absurd (HEB.out.1 rfl) (fun e => hv (by rw [e])))
                        have f2 : ((str x.val).toList == (str ge.val).toList) = false := by rw [htl, htl]; simpa using hv
                        have f3 : ¬ (str x.val).toList = (str ge.val).toList := by rw [htl, htl]; exact hv
                        rw [← hk] at g0
                        rw [← hq] at g1
                        rw [← hd] at g2
                        clear htl hk hq hd hv
                        go_wp2_with fail
                        go_meet
                        exact ⟨by rw [hE.out]; rfl, rfl⟩
                    · have hE := Lib.hid (show eb = false by cases eb; rfl; exact absurd (HEB.out.1 rfl) (fun e => hd (by rw [e])))
                      have f2 : (x.del == ge.del) = false := by simpa using hd
                      rw [← hk] at g0
                      rw [← hq] at g1
                      clear htl hk hq
                      go_wp2_with fail
                      go_meet
                      exact ⟨by rw [hE.out]; rfl, rfl⟩
                  · have hE := Lib.hid (show eb = false by cases eb; rfl; exact absurd (HEB.out.1 rfl) (fun e => hq (by rw [e])))
                    rw [← hk] at g0
                    clear htl hk
                    go_wp2_with fail
                    go_meet
                    exact ⟨by rw [hE.out]; simp, rfl⟩
                · have hE := Lib.hid (show eb = false by cases eb; rfl; exact absurd (HEB.out.1 rfl) (fun e => hk (by rw [e])))
                  have f2 : ((str x.key).toList == (str ge.key).toList) = false := by rw [htl, htl]; simpa using hk
                  have f3 : ¬ (str x.key).toList = (str ge.key).toList := by rw [htl, htl]; exact hk
                  clear htl hk
                  go_wp2_with fail
                  go_meet
                  exact ⟨by rw [hE.out]; rfl, rfl⟩
            case rest =>
              obtain ⟨rfl, rfl⟩ := hcut
              have hrel : ∀ fd', (fd' = true ↔ ge ∈ xs.take (k + 1)) ↔ (fd' = (fd || eb)) := fun fd' => by
                have h1 : ge ∈ xs.take (k + 1) ↔ (fd || eb) = true := by
                  rw [List.take_add_one, HX.out, List.mem_append, ← HFD.out, Bool.or_eq_true, HEB.out]
                  simp [eq_comm]
                rw [h1]
                cases fd' <;> cases (fd || eb) <;> simp
              have HREL := Lib.hid hrel
              clear hrel
              have hbx := HB.out.alloc HB.out.size (.cells #[.string (str x.key), .int .i64 x.seq, .bool x.del, .string (str x.val)] 30)
              have HBX := Lib.hid hbx
              clear hbx c0 c1 c2 c3
              rcases hcond with q1 | ⟨q1, q2⟩ | ⟨q1, q2, q3, q4⟩
              · have f2 : ((str x.key).toList == (str key).toList) = false := by rw [htl, htl]; simpa using q1
                have f3 : ¬ (str x.key).toList = (str key).toList := by rw [htl, htl]; exact q1
                clear htl q1
                go_wp2_with fail
                exact ⟨⟨k + 1, fd || eb, by omega, by go_num, rfl, (HREL.out _).2 rfl, HBX.out⟩, by simp only [intOf]; omega⟩
              · rw [q1] at HBX ⊢
                clear htl q1
                go_wp2_with fail
                exact ⟨⟨k + 1, fd || eb, by omega, by go_num, rfl, (HREL.out _).2 rfl, HBX.out⟩, by simp only [intOf]; omega⟩
              · rw [q1] at HBX ⊢
                subst q3
                have q5 : ¬ ge.seq < x.seq := by omega
                clear htl q1
                go_wp2_with fail
                exact ⟨⟨k + 1, fd || eb, by omega, by go_num, rfl, (HREL.out _).2 rfl, HBX.out⟩, by simp only [intOf]; omega⟩
          · have hcN : ¬ (k : Int) < xs.length := by omega
            have hall : xs.take k = xs := List.take_of_length_le (by omega)
            have hbk := HW5.out.1.keep (HB.out.block _ HW5.out.1.lt)
            have g0 : wr.cell? ⟨w4.heap.size, 0, none⟩ = some (.string (str ge.key)) := hbk.cell rfl
            have g1 : wr.cell? ⟨w4.heap.size, 1, none⟩ = some (.int .i64 ge.seq) := hbk.cell rfl
            have g2 : wr.cell? ⟨w4.heap.size, 2, none⟩ = some (.bool ge.del) := hbk.cell rfl
            have g3 : wr.cell? ⟨w4.heap.size, 3, none⟩ = some (.string (str ge.val)) := hbk.cell rfl
            have hbr := HW5.out.2.1.trans (HB.out.mono HW5.out.2.1.size)
            cases gok with
            | false =>
              have hz := HNW.out.2.2 rfl
              rw [hz] at g0 g1 g2 g3
              clear hbk hall hz
              change _ = some (Value.string ⟨#[]⟩) at g0
              change _ = some (Value.int .i64 0) at g1
              change _ = some (Value.bool false) at g2
              change _ = some (Value.string ⟨#[]⟩) at g3
              go_wp2_with fail
              go_ret
              exact ⟨rfl, hbr⟩
            | true =>
              obtain ⟨h1, h2, h3⟩ := HNW.out.2.1 rfl
              have hfd : fd = true := HFD.out.2 (by rw [hall]; exact (HS.out.mem ge).2 h1)
              subst hfd
              rw [h2] at g0
              clear hbk hall h1 h2
              go_wp2_with fail
              go_ret
              exact ⟨rfl, hbr⟩
theorem newest_lawB {w : World} {A0 : Option Addr} {n0 c0 : Nat} {os : List Mo} (hR : Mls w A0 n0 os) (s : ByteArray) (seq : Int) (hsq : -9223372036854775808 ≤ seq ∧ seq ≤ 9223372036854775807) :
    Calls Try.prog 5 #[.slice A0 n0 c0, .string s, .int .i64 seq] w fun e w' => e = .returned (.bool true) ∧ Below w.heap.size w w' := by
  have := newest_law (c0 := c0) hR s.data.toList seq hsq
  rwa [← str_of s] at this
end Go.Proofs.Ytcfmialhlklmgaa
