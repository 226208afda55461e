/-
  The law MemHeights as a walk.
-/
import Derived.Test.YtnbomifnbhijbaaMeQ
namespace Go.Proofs.Ytnbomifnbhijbaa
open Go.RowKit
set_option linter.unusedVariables false

/-- Every node's number is one of those that the table has given. -/
def Num (N : List Nd) : Prop := ∀ n ∈ N, n.num ≤ (N.length : Int)
theorem Num.ins {N : List Nd} (h : Num N) {p : Nat} (hp1 : p ≤ N.length) {e : En} {b ht : Nat} : Num (ins N p ⟨e, ((N.length + 1 : Nat) : Int), b, ht⟩) := by
  intro n hn
  rw [ins_len hp1]
  rcases List.mem_append.1 hn with hm | hm
  · have := h n (List.mem_of_mem_take hm); omega
  · rcases List.mem_cons.1 hm with rfl | hm
    · exact Int.le_refl _
    · have := h n (List.mem_of_mem_drop hm); omega
noncomputable def putL (es : List En) (e : En) : List En := if putC es e = 0 then insE es e else es
theorem put_step {w0 V V' : World} {t u : Nat} {N M : List Nd} {e : En} {r : Ending} (h1 : TbW w0 V t N) (h2 : TbW w0 V u M) (ap : ∀ k, tfoot t N k → ¬ tfoot u M k) (hn : Num N) (hp : PutW w0 V t N e r V') :
    r = .returned (.int .i64 (putC (esOf N) e)) ∧ Oth (tfoot t N) V V' ∧ ∃ N', TbW w0 V' t N' ∧ TbW w0 V' u M ∧ Num N' ∧ (∀ k, tfoot t N' k → ¬ tfoot u M k) ∧ esOf N' = putL (esOf N) e ∧ N'.length ≤ N.length + 1 := by
  obtain ⟨hr, ho, N', hT, hfo, hN⟩ := hp
  have hu : TbW w0 V' u M := h2.stay (fun k hk => ho.block k (h2.tbl.tb.foot_lt hk) (fun e => ap k e hk)) hT.bel
  refine ⟨hr, ho, N', hT, hu, ?_, fun k hk hk2 => ?_, ?_, ?_⟩
  · rcases hN with ⟨_, rfl⟩ | ⟨_, _, _, b, ht, rfl⟩
    · exact hn
    · exact hn.ins (by have := posE_le (esOf N) e.key e.seq; simpa [esOf] using this)
  · rcases hfo k hk with h | h
    · exact ap k h hk2
    · have := h2.tbl.tb.foot_lt hk2; omega
  · unfold putL
    rcases hN with ⟨hc, rfl⟩ | ⟨hc, _, he, _⟩
    · rw [if_neg hc]
    · rw [if_pos hc, he]
  · rcases hN with ⟨_, rfl⟩ | ⟨_, hl, _⟩
    · exact Nat.le_succ _
    · rw [hl]; exact Nat.le_refl _
/-- Two tables side by side. -/
structure Hes (w wr : World) (t u i : Nat) (N M : List Nd) : Prop where
  t1 : TbW w wr t N
  t2 : TbW w wr u M
  es : esOf M = esOf N
  len : N.length ≤ i
  n1 : Num N
  n2 : Num M
  ap : ∀ k, tfoot t N k → ¬ tfoot u M k
theorem Hes.below {w wr w' : World} {t u i : Nat} {N M : List Nd} (h : Hes w wr t u i N M) (hb : Below wr.heap.size wr w') : Hes w w' t u i N M := ⟨h.t1.below hb, h.t2.below hb, h.es, h.len, h.n1, h.n2, h.ap⟩
theorem Hes.up {w wr : World} {t u i j : Nat} {N M : List Nd} (h : Hes w wr t u i N M) (hj : i ≤ j) : Hes w wr t u j N M := ⟨h.t1, h.t2, h.es, Nat.le_trans h.len hj, h.n1, h.n2, h.ap⟩
theorem Hes.len2 {w wr : World} {t u i : Nat} {N M : List Nd} (h : Hes w wr t u i N M) : M.length = N.length := by have := congrArg List.length h.es; simpa [esOf] using this
theorem xor_range (a b : Int) : -9223372036854775808 ≤ bits .xor .i64 a b ∧ bits .xor .i64 a b ≤ 9223372036854775807 := by
  unfold bits
  simp only [IntKind.wrap_i64]
  omega
theorem own_cap {w : World} {B e s n c : Nat} {A : Option Addr} {xs : List Value} (h : w.ownsRow B e s (.slice A n c) n xs) : n ≤ c := by
  rcases h.2 with ⟨h1, h2⟩ | ⟨g, cap, cur, h1, _, _, h3, _⟩
  · omega
  · injection h1 with _ _ hc
    omega
set_option maxRecDepth 40000 in
set_option maxHeartbeats 8000000 in
theorem heights_law {w : World} {A0 : Option Addr} {n0 c0 : Nat} {os : List Mo} (hR : Mls w A0 n0 os) (turn : Int) (hsq : -9223372036854775808 ≤ turn ∧ turn ≤ 9223372036854775807) :
    Calls Try.prog 4 #[.slice A0 n0 c0, .int .i64 turn] w fun e w' => e = .returned (.bool true) ∧ Below w.heap.size w w' := by
  have HR := Lib.hid hR
  clear hR
  go_enter Try.func4, Try.ntmps4
  go_wp2_with fail
  refine (new_w (Below.refl _ w)).mono ?_
  rintro r w1 ⟨rfl, hT1, hb1⟩
  have HT1 := Lib.hid hT1
  clear hT1 hb1
  go_wp2_with fail
  refine (new_w HT1.out.bel).mono ?_
  rintro r w2 ⟨rfl, hU2, hb2⟩
  obtain ⟨t, htq⟩ : ∃ t, t = w.heap.size := ⟨_, rfl⟩
  obtain ⟨u, huq⟩ : ∃ u, u = w1.heap.size := ⟨_, rfl⟩
  have H2 : Hid (Hes w w2 t u 0 [] []) := by
    rw [htq, huq]
    refine ⟨HT1.out.below hb2, hU2, rfl, Nat.le_refl _, fun n hn => (by cases hn), fun n hn => (by cases hn), ?_⟩
    rintro k (rfl | ⟨n, hn, _⟩)
    · rintro (h | ⟨n, hn, _⟩)
      · have := HT1.out.tbl.tb.foot_lt (.inl rfl); omega
      · cases hn
    · cases hn
  rw [← htq, ← huq]
  clear hU2 hb2 htq huq HT1
  go_wp2_with fail
  refine (awake4_any w2).mono ?_
  rintro r w3 ⟨rfl, hb3⟩
  have H3 : Hid (Hes w w3 t u 0 [] []) := H2.out.below hb3
  clear hb3 H2
  go_wp2_with fail
  go_loopw [7] (fun s7 wr => ∃ (i : Nat) (N M : List Nd), i ≤ n0 ∧ i ≤ 100 ∧ s7 = .int .i64 i ∧ Hes w wr t u i N M) (fun j _ => n0 - (intOf j).toNat)
  case atStart => exact ⟨0, [], [], Nat.zero_le _, Nat.zero_le _, rfl, H3.out⟩
  case round =>
    obtain ⟨i, N, M, hi, hi2, rfl, hS⟩ := hrel
    have HS := Lib.hid hS
    clear hS H3
    by_cases hgo : i < n0 ∧ i < 100
    · obtain ⟨hin, hi100⟩ := hgo
      have hcN : (i : Int) < n0 := by omega
      have hcM : (i : Int) < 100 := by omega
      obtain ⟨b, off, o, rfl, ho, hok, c0', c1', c2', c3', c4', c5'⟩ := HR.out.at_ hin
      have hbr := HS.out.t1.bel
      have d0 : wr.cell? ⟨b, off + i * 6, none⟩ = some (.bool o.ask) := (hbr.cell (World.block_lt_of_cell? w _ c0')).trans c0'
      have d1 : wr.cell? ⟨b, off + i * 6 + 1, none⟩ = some (.string (str o.e.key)) := (hbr.cell (World.block_lt_of_cell? w _ c1')).trans c1'
      have d2 : wr.cell? ⟨b, off + i * 6 + 2, none⟩ = some (.int .i64 o.e.seq) := (hbr.cell (World.block_lt_of_cell? w _ c2')).trans c2'
      have d3 : wr.cell? ⟨b, off + i * 6 + 3, none⟩ = some (.bool o.e.del) := (hbr.cell (World.block_lt_of_cell? w _ c3')).trans c3'
      have d4 : wr.cell? ⟨b, off + i * 6 + 4, none⟩ = some (.string (str o.e.val)) := (hbr.cell (World.block_lt_of_cell? w _ c4')).trans c4'
      have d5 : wr.cell? ⟨b, off + i * 6 + 5, none⟩ = some (.int .i64 o.ht) := (hbr.cell (World.block_lt_of_cell? w _ c5')).trans c5'
      clear c0' c1' c2' c3' c4' c5' ho hbr
      obtain ⟨V, hV⟩ : ∃ V, V = wr.alloc (.cells #[.bool o.ask, .string (str o.e.key), .int .i64 o.e.seq, .bool o.e.del, .string (str o.e.val), .int .i64 o.ht] 32) := ⟨_, rfl⟩
      have hBk : Blk V wr.heap.size #[.bool o.ask, .string (str o.e.key), .int .i64 o.e.seq, .bool o.e.del, .string (str o.e.val), .int .i64 o.ht] 32 := by rw [hV]; exact Blk.new wr _ _
      have HSV : Hid (Hes w V t u i N M) := by rw [hV]; exact HS.out.below ((Below.refl _ wr).alloc (Nat.le_refl _) _)
      cases ha : o.ask with
      | true =>
        rw [ha] at d0 hV hBk
        have HV := Lib.hid (And.intro hV hBk)
        clear hV hBk
        have hg1 := fun (W : World) (h : Below V.heap.size V W) => get_w ((HSV.out.below h).t1) o.e.key o.e.seq
        have hg2 := fun (W : World) (h : Below V.heap.size V W) => get_w ((HSV.out.below h).t2) o.e.key o.e.seq
        simp only [HSV.out.es] at hg2
        generalize getL (esOf N) o.e.key o.e.seq = g at hg1 hg2
        obtain ⟨ge, gok⟩ := g
        simp only [ev_lit] at hg1 hg2
        have G1 := Lib.hid hg1
        have G2 := Lib.hid hg2
        clear hg1 hg2
        go_wp2_with fail
        rw [← HV.out.1]
        refine (G1.out V (Below.refl _ _)).mono ?_
        rintro r w4 ⟨rfl, hb4⟩
        have hbk4 : ∀ o', Blk (w4.alloc o') wr.heap.size _ _ := fun o' => (HV.out.2.keep (hb4.block _ HV.out.2.lt)).keep (Below.heap_alloc w4 o' _ (Nat.lt_of_lt_of_le HV.out.2.lt hb4.size))
        have f1 := fun o' => (hbk4 o').cell (k := 1) rfl
        have f2 := fun o' => (hbk4 o').cell (k := 2) rfl
        have B4 : Hid (∀ o', Below V.heap.size V (w4.alloc o')) := fun o' => hb4.alloc hb4.size o'
        clear hbk4 hb4 d0 d1 d2 d3 d4 d5
        go_wp2_with fail
        refine (G2.out _ (B4.out _)).mono ?_
        rintro r w5 ⟨rfl, hb5⟩
        have hbe : ∀ o', Blk (w5.alloc o') w4.heap.size #[.string (str ge.key), .int .i64 ge.seq, .bool ge.del, .string (str ge.val)] 30 := fun o' =>
          ((Blk.new w4 _ _).keep (hb5.block _ (by simp))).keep (Below.heap_alloc w5 o' _ (by have := hb5.size; simp at this; omega))
        have q0 := fun o' => (hbe o').cell (k := 0) rfl
        have q1 := fun o' => (hbe o').cell (k := 1) rfl
        have q2 := fun o' => (hbe o').cell (k := 2) rfl
        have q3 := fun o' => (hbe o').cell (k := 3) rfl
        have B5 : Hid (∀ o', Below V.heap.size V (w5.alloc o')) := fun o' => ((B4.out _).trans (hb5.mono (B4.out _).size)).alloc (Nat.le_trans (B4.out _).size hb5.size) o'
        clear hbe hb5 f1 f2
        go_wp2_with fail
        exact ⟨⟨i + 1, N, M, by omega, by omega, by go_num, (HSV.out.below (B5.out _)).up (Nat.le_succ _)⟩, by simp only [intOf]; omega⟩
      | false =>
        rw [ha] at d0 hV hBk
        obtain ⟨cd, hcd⟩ : ∃ cd, cd = putC (esOf N) o.e := ⟨_, rfl⟩
        obtain ⟨cs, hcs⟩ : ∃ cs : Array Value, cs = #[.bool false, .string (str o.e.key), .int .i64 o.e.seq, .bool o.e.del, .string (str o.e.val), .int .i64 o.ht] := ⟨_, rfl⟩
        have hop : ∀ {tb : Nat} {X : List Nd} {W W' : World} {x : Nat}, TbW w W tb X → Blk W x cs 32 → Oth (tfoot tb X) W W' → Blk W' x cs 32 := fun hX hB hO => hB.keep (hO.block _ hB.lt (hX.apart hB (by decide) (by decide)))
        have HP1 : Hid (∀ W, Hes w W t u i N M → Blk W wr.heap.size cs 32 → Calls Try.prog 20 #[.pointer (some ⟨t, 0, none⟩), .agg #[.string (str o.e.key), .int .i64 o.e.seq, .bool o.e.del, .string (str o.e.val)], .int .i64 o.ht] W fun r W' => r = .returned (.int .i64 cd) ∧ Blk W' wr.heap.size cs 32 ∧
            ∃ N', TbW w W' t N' ∧ TbW w W' u M ∧ Num N' ∧ (∀ k, tfoot t N' k → ¬ tfoot u M k) ∧ esOf N' = putL (esOf N) o.e ∧ N'.length ≤ N.length + 1) := fun W hH hB => by
          have hp := put_w hH.t1 (by have := hH.len; omega) o.e o.ht hok.1
          rw [ev_lit] at hp
          exact hp.mono fun r W' hq => by
            obtain ⟨q1, q2, N', q3⟩ := put_step hH.t1 hH.t2 hH.ap hH.n1 hq
            exact ⟨by rw [q1, hcd], hop hH.t1 hB q2, N', q3⟩
        have HP2 : Hid (∀ W N' h, (-9223372036854775808 ≤ h ∧ h ≤ 9223372036854775807) → (TbW w W t N' ∧ TbW w W u M ∧ Num N' ∧ (∀ k, tfoot t N' k → ¬ tfoot u M k) ∧ esOf N' = putL (esOf N) o.e ∧ N'.length ≤ N.length + 1) → Blk W wr.heap.size cs 32 →
            Calls Try.prog 20 #[.pointer (some ⟨u, 0, none⟩), .agg #[.string (str o.e.key), .int .i64 o.e.seq, .bool o.e.del, .string (str o.e.val)], .int .i64 h] W fun r W' => r = .returned (.int .i64 cd) ∧ Blk W' wr.heap.size cs 32 ∧ ∃ N' M', Hes w W' t u (i + 1) N' M') := fun W N' h hh hm hB => by
          obtain ⟨m1, m2, m3, m4, m5, m6⟩ := hm
          have hp := put_w m2 (by rw [HSV.out.len2]; have := HSV.out.len; omega) o.e h hh
          rw [ev_lit] at hp
          exact hp.mono fun r W' hq => by
            obtain ⟨q1, q2, M', q3, q4, q5, q6, q7, q8⟩ := put_step m2 m1 (fun k h1 h2 => m4 k h2 h1) HSV.out.n2 hq
            rw [HSV.out.es] at q1 q7
            exact ⟨by rw [q1, hcd], hop m2 hB q2, N', M', q4, q3, by rw [q7, m5], by have := HSV.out.len; omega, m3, q5, fun k h1 h2 => q6 k h2 h1⟩
        have k1 : ∀ W, Blk W wr.heap.size cs 32 → W.cell? ⟨wr.heap.size, 1, none⟩ = some (.string (str o.e.key)) := fun W hW => hW.cell (by rw [hcs]; rfl)
        have k2 : ∀ W, Blk W wr.heap.size cs 32 → W.cell? ⟨wr.heap.size, 2, none⟩ = some (.int .i64 o.e.seq) := fun W hW => hW.cell (by rw [hcs]; rfl)
        have k3 : ∀ W, Blk W wr.heap.size cs 32 → W.cell? ⟨wr.heap.size, 3, none⟩ = some (.bool o.e.del) := fun W hW => hW.cell (by rw [hcs]; rfl)
        have k4 : ∀ W, Blk W wr.heap.size cs 32 → W.cell? ⟨wr.heap.size, 4, none⟩ = some (.string (str o.e.val)) := fun W hW => hW.cell (by rw [hcs]; rfl)
        have k5 : ∀ W, Blk W wr.heap.size cs 32 → W.cell? ⟨wr.heap.size, 5, none⟩ = some (.int .i64 o.ht) := fun W hW => hW.cell (by rw [hcs]; rfl)
        rw [← hcs] at hBk
        have HV := Lib.hid (And.intro hV hBk)
        clear hV hcs hcd hop
        go_wp2_with fail
        rw [← HV.out.1]
        have hS0 : Hes w V t u i N M := HSV.out
        have hrg := xor_range turn i
        clear d0 d1 d2 d3 d4 d5
        go_region_held (fun W => Blk W wr.heap.size cs 32) (first | assumption) (first
          | (go_at_call 20; refine (HP1.out _ (by first | exact hS0 | exact hS0.below (below_dN4 V 1)) (by assumption)).mono ?_; rintro e w4 ⟨rfl, hB4, N', hM4⟩; clear HP1)
          | (go_at_call 20; refine (HP2.out _ N' _ hrg (by assumption) (by assumption)).mono ?_; rintro e w5 ⟨rfl, hB5, N5, M5, hM5⟩))
        go_wp2_with fail
        exact ⟨⟨i + 1, N5, M5, by omega, by omega, by go_num, hM5⟩, by simp only [intOf]; omega⟩
    · have hend : ¬ ((i : Int) < n0) ∨ ((i : Int) < n0 ∧ ¬ ((i : Int) < 100)) := by omega
      rcases hend with hend | ⟨hend1, hend2⟩
      all_goals
        have hl2 := HS.out.len2
        have ha2 := fun (W : World) (h : Below wr.heap.size wr W) => all_any ((HS.out.below h).t2.tbl) HS.out.n2 (by have := HS.out.len; omega)
        simp only [HS.out.es, hl2] at ha2
        have he2 := fun (W : World) (h : Below wr.heap.size wr W) => len_any ((HS.out.below h).t2.tbl.tb)
        have hy2 := fun (W : World) (h : Below wr.heap.size wr W) => bytes_any ((HS.out.below h).t2.tbl.tb)
        simp only [HS.out.es, hl2] at he2 hy2
        have HX := Lib.hid (And.intro ha2 (And.intro he2 hy2))
        have hNl := HS.out.len
        clear ha2 he2 hy2 hl2
        go_wp2_with fail
        refine (all_any HS.out.t1.tbl HS.out.n1 (by omega)).mono ?_
        rintro r w4 ⟨A1, c1, rfl, hr1, hb4⟩
        have H4 := Lib.hid (And.intro hr1 hb4)
        clear hr1 hb4
        go_wp2_with fail
        refine (HX.out.1 w4 H4.out.2).mono ?_
        rintro r w5 ⟨A2, c2, rfl, hr2, hb5⟩
        have hs1 := own_sle (ownS_below H4.out.1 hb5)
        have hs2 := own_sle hr2
        have hk1 := own_cap H4.out.1
        have hk2 := own_cap hr2
        have hb5' := H4.out.2.trans (hb5.mono H4.out.2.size)
        have H5 := Lib.hid (And.intro hs1 (And.intro hs2 hb5'))
        clear hs1 hs2 hr2 hb5 hb5'
        go_wp2_with fail
        refine (same4_any _ _ _ _ _ _ w5 H5.out.1 H5.out.2.1 (by omega) hk1 hk2).mono ?_
        rintro r w6 ⟨rfl, hb6⟩
        have H6 := Lib.hid (H5.out.2.2.trans (hb6.mono H5.out.2.2.size))
        clear hb6
        have v1 := len_any ((HS.out.below H6.out).t1.tbl.tb)
        have v2 := HX.out.2.1 w6 H6.out
        have v3 := bytes_any ((HS.out.below H6.out).t1.tbl.tb)
        have v4 := HX.out.2.2 w6 H6.out
        have v5 := HS.out.t1.bel.trans (H6.out.mono HS.out.t1.bel.size)
        generalize bsum (esOf N) = bs at v3 v4
        have HV := Lib.hid (And.intro v1 (And.intro v2 (And.intro v3 (And.intro v4 v5))))
        clear v1 v2 v3 v4 v5
        go_wp2_with fail
        refine HV.out.1.mono ?_
        rintro r w7 ⟨rfl, rfl⟩
        go_wp2_with fail
        refine HV.out.2.1.mono ?_
        rintro r w7 ⟨rfl, rfl⟩
        go_wp2_with fail
        refine HV.out.2.2.1.mono ?_
        rintro r w7 ⟨rfl, rfl⟩
        go_wp2_with fail
        refine HV.out.2.2.2.1.mono ?_
        rintro r w7 ⟨rfl, rfl⟩
        go_wp2_with fail
        go_ret
        exact ⟨rfl, HV.out.2.2.2.2⟩
end Go.Proofs.Ytnbomifnbhijbaa
