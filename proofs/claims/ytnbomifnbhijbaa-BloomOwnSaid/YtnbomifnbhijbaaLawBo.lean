/-
  The law BloomOwn as a walk.
-/
import Derived.Test.YtnbomifnbhijbaaBlL
import Derived.Deep.RegionHeldLaw
namespace Go.Proofs.Ytnbomifnbhijbaa
open Go.RowKit
set_option linter.unusedVariables false

theorem sl_atB {w w' : World} {A : Option Addr} {n : Nat} {xs : List Value} (h : Sl w A n xs) (hk : ∀ b o, A = some ⟨b, o, none⟩ → w'.heap[b]? = w.heap[b]?) : Sl w' A n xs :=
  ⟨h.1, fun hn => by
    obtain ⟨b, o, e, hc⟩ := h.2 hn
    exact ⟨b, o, e, fun j u hu => (World.cell?_of_block (w := w) (a := ⟨b, o + j, none⟩) (hk b o e)).trans (hc j u hu)⟩⟩
theorem headB {w : World} {B e n c : Nat} {A : Option Addr} {xs : List Value} (h : w.ownsRow B e 1 (.slice A n c) n xs) (hn : 0 < n) : ∃ b, A = some ⟨b, 0, none⟩ ∧ B ≤ b ∧ b < w.heap.size := by
  rcases h.2 with ⟨_, h0⟩ | ⟨g, cap, cur, hv, h3, h4, h5, _⟩
  · omega
  · injection hv with h1 h2 h6
    subst h1
    exact ⟨g, rfl, h3, (Array.getElem?_eq_some_iff.1 h4).1⟩
theorem sl_lt {w : World} {B e n c : Nat} {A : Option Addr} {xs : List Value} (h : w.ownsRow B e 1 (.slice A n c) n xs) : ∀ b o, A = some ⟨b, o, none⟩ → b < w.heap.size := fun b o e => by
  subst e
  exact (h.lt b rfl).2
theorem grow_set {a b : World} {g k : Nat} {u : Value} (h : a.grownBy b (some g)) : a.grownBy (b.setCell ⟨g, k, none⟩ u) (some g) :=
  have hb := (Below.refl 0 b).setCell (p := ⟨g, k, none⟩) (Nat.zero_le _) u
  ⟨hb.os.trans h.os, hb.tape.trans h.tape, hb.output.trans h.output, Nat.le_trans h.size hb.size, fun i hi hn => (heap_setCell_other b ⟨g, k, none⟩ i u (fun e : i = g => hn (by rw [e]))).trans (h.block i hi hn)⟩
theorem grow_app {a b c : World} {g : Nat} {v : Value} (h : a.grownBy b (some g)) (k : b.grownBy c v.ownBlock) (hv : ∀ q, v.ownBlock = some q → q = g ∨ a.heap.size ≤ q) : a.grownBy c (some g) :=
  ⟨k.os.trans h.os, k.tape.trans h.tape, k.output.trans h.output, Nat.le_trans h.size k.size, fun i hi hn => (k.block i (Nat.lt_of_lt_of_le hi h.size) (fun e => by
    rcases hv i e.symm with h1 | h1
    · exact hn (by rw [h1])
    · omega)).trans (h.block i hi hn)⟩
theorem grow_below {a b : World} {g : Nat} (h : a.grownBy b (some g)) (w : World) (hw : Below w.heap.size w a) (hg : w.heap.size ≤ g) : Below w.heap.size w b :=
  ⟨h.os.trans hw.os, h.tape.trans hw.tape, h.output.trans hw.output, Nat.le_trans hw.size h.size, fun k hk => (h.block k (Nat.lt_of_lt_of_le hk hw.size) (fun e => by cases e; omega)).trans (hw.block k hk)⟩
set_option maxRecDepth 20000 in
set_option maxHeartbeats 4000000 in
theorem own5_law {w : World} {A0 : Option Addr} {n0 c0 : Nat} {ks : List (List UInt8)} (hs : Sl w A0 n0 (ks.map svB)) (hn : n0 ≤ 140737488355328) (hc : n0 ≤ c0) (hm : ∀ s ∈ ks, s.length ≤ 140737488355328) (per : Int) (hp : -9223372036854775808 ≤ per ∧ per ≤ 9223372036854775807) :
    Calls Try.prog 10 #[.slice A0 n0 c0, .int .i64 per] w fun e w' => e = .returned (.bool true) ∧ Below w.heap.size w w' := by
  have HS := Lib.hid hs
  clear hs
  obtain ⟨T, hT⟩ : ∃ T, T = ks.take 200 := ⟨_, rfl⟩
  have hTm : ∀ s ∈ T, s.length ≤ 4611686018427387904 := fun s h => by
    rw [hT] at h
    have := hm s (List.mem_of_mem_take h)
    omega
  have hT2 : T.length ≤ 200 := by rw [hT, List.length_take]; omega
  have hcut := fun (V : World) (hV : Below w.heap.size w V) => cut5_any A0 n0 c0 ks V (HS.out.below hV) hn hc
  rw [← hT] at hcut
  obtain ⟨k, hk⟩ : ∃ k, T.length = k := ⟨_, rfl⟩
  have hTT : T.take 200 = T := List.take_of_length_le hT2
  clear hT
  rw [hk] at hcut hT2
  have HC := Lib.hid hcut
  have HK := Lib.hid (And.intro hk hTT)
  clear hcut hk hTT
  go_enter Try.func10, Try.ntmps10
  go_wp2_with fail
  refine (awake5_any _).mono ?_
  rintro e w1 ⟨rfl, hb1⟩
  have hcu := HC.out w1 hb1
  go_wp2_with fail
  refine hcu.mono ?_
  rintro e w2 ⟨A2, c2, rfl, ho2, hb2⟩
  have hbw2 := hb1.trans (hb2.mono hb1.size)
  have hcu2 := cut5_any A2 k c2 T w2 (own_sl ho2) (by omega) (own_le ho2)
  rw [HK.out.2, HK.out.1] at hcu2
  have hle2 := own_le ho2
  have H2 := Lib.hid (And.intro (own_sl ho2) (And.intro hbw2 (sl_lt ho2)))
  clear hcu ho2 hb2 hb1 hbw2
  go_wp2_with fail
  refine hcu2.mono ?_
  rintro e w3 ⟨A3, c3, rfl, ho3, hb3⟩
  have HO3 := Lib.hid (And.intro ho3 hb3)
  have hsz3 := hb3.size
  clear hcu2 ho3 hb3
  go_wp2_with (at_builtin; refine wpList_app _ rfl (.tmp 16) (.tmp 17) 48 rfl w2.heap.size strElB (by decide) _ k (T.map svB) rfl (HO3.out.1.alloc _) (some ⟨w3.heap.size, 0, none⟩) 1 1 [.string ⟨#[115, 112, 97, 114, 101]⟩] rfl (Sl.new _ _ _) (by intro u hu; simp at hu; subst hu; rfl) (by omega) (by simp; omega) ?_
               intro A4 c4 w4 hown4 hg4 hat4
               have hkc : (k : Int) ≤ c4 := by have := own_le hown4; omega)
  obtain ⟨br, rfl, hbr1, hbr2⟩ := headB hown4 (by omega)
  have hb24 : Below w2.heap.size w2 w4 := (HO3.out.2.alloc hsz3 (.cells #[.string ⟨#[115, 112, 97, 114, 101]⟩] 9)).grown hg4 (by simp; omega) (own_blk HO3.out.1)
  have hroom := own_sl hown4
  have hrl : (T.map svB).length = k := by rw [List.length_map, HK.out.1]
  have hbu := fun (V : World) (hV : Below w4.heap.size w4 V) => build_c k c4 (some ⟨br, 0, none⟩) T per hp V (by
    have h1 := (hroom.below hV).take (k := k) (by omega)
    rwa [List.take_append_of_le_length (by omega), List.take_of_length_le (by omega)] at h1) (by omega) (by omega) hTm
  obtain ⟨S, hS⟩ : ∃ S, S = Bl.sizeF k per := ⟨_, rfl⟩
  have hS8 := Bl.size_ge k per
  have hS9 := Bl.size_le k per (by omega)
  rw [← hS] at hbu hS8 hS9
  obtain ⟨F, hF⟩ : ∃ F, F = Bl.build T per := ⟨_, rfl⟩
  rw [← hF] at hbu
  have hfst := hbu w4 (Below.refl _ _)
  have H4 := Lib.hid (And.intro hroom (And.intro hb24 hbu))
  have HF := Lib.hid (And.intro hS hF)
  have hsz4 := hb24.size
  clear hown4 hg4 hat4 hroom hb24 hbu hS hF HO3
  refine hfst.mono ?_
  rintro e w5 ⟨A5, c5, rfl, ho5, hb5⟩
  obtain ⟨bf, rfl, hbf1, hbf2⟩ := headB ho5 (by omega)
  have hsnd := H4.out.2.2 w5 hb5
  have H5 := Lib.hid (And.intro ho5 hb5)
  have hsz5 := hb5.size
  clear hfst ho5 hb5
  go_wp2_with fail
  refine hsnd.mono ?_
  rintro e w6 ⟨A6, c6, rfl, ho6, hb6⟩
  have hb46 : Below w4.heap.size w4 w6 := H5.out.2.trans (hb6.mono H5.out.2.size)
  have hb26 : Below w2.heap.size w2 w6 := H4.out.2.1.trans (hb46.mono H4.out.2.1.size)
  have hbw6 := H2.out.2.1.trans (hb26.mono H2.out.2.1.size)
  have hsz6 := hb6.size
  have hrowF : w6.ownsRow w4.heap.size 5 1 (.slice (some ⟨bf, 0, none⟩) (S + 1) c5) (S + 1) (bv F) := H5.out.1.kept (row := none) ⟨hb6.os, hb6.tape, hb6.output, hb6.size, fun i hi _ => hb6.block i hi⟩ (.inr (by simp [Value.ownBlock]))
  have hg6 : ∀ b o, A6 = some ⟨b, o, none⟩ → b ≠ bf := fun b o e h => by
    subst e
    have := (ho6.lt b rfl).1
    omega
  have hk2 : ∀ b o, A2 = some ⟨b, o, none⟩ → b ≠ bf := fun b o e h => by
    have := H2.out.2.2 b o e
    omega
  have H6 := Lib.hid (And.intro (own_sl ho6) (And.intro (sl_lt ho6) (And.intro hg6 (And.intro (H4.out.1.below hb46) (And.intro (H2.out.1.below hb26) (And.intro hk2 (And.intro hbw6 hrowF)))))))
  have hbrf : br ≠ bf := by omega
  have hbr6 : br < w6.heap.size := by omega
  have hk26 : ∀ b o, A2 = some ⟨b, o, none⟩ → b < w6.heap.size := fun b o e => by have := H2.out.2.2 b o e; have := hb26.size; omega
  have HK26 := Lib.hid hk26
  clear hsnd ho6 hb6 hb46 hb26 hbw6 hrowF hg6 hk2 hk26
  go_wp2_with fail
  go_loopw [33] (fun s33 wr => ∃ i : Nat, i ≤ k ∧ s33 = .int .i64 i ∧ Below w6.heap.size w6 wr) (fun j _ => k - (intOf j).toNat)
  case atStart => exact ⟨0, Nat.zero_le _, rfl, Below.refl _ _⟩
  case round =>
    obtain ⟨i, hi, rfl, hbr⟩ := hrel
    have HB := Lib.hid hbr
    have hsz7 := hbr.size
    by_cases hin : i < k
    · have hcN : (i : Int) < k := by omega
      have hi0 : (0 : Int) ≤ i := by omega
      have hcN1 : (i : Int) < (k : Int) + 1 := by omega
      have hs2 := H6.out.2.2.2.2.1.below hbr
      have hsr := H6.out.2.2.2.1.below hbr
      obtain ⟨b, o, u, hA2, hu, x0⟩ := hs2.at_ hin
      obtain ⟨b', o', u', hA4, hu', x1⟩ := hsr.at_ (k := i) (by omega)
      cases hA4
      subst hA2
      have huu : u' = u := by
        rw [List.getElem?_append_left (by omega), hu] at hu'
        exact (Option.some.inj hu').symm
      subst huu
      obtain ⟨key, hkey, rfl⟩ : ∃ key, T[i]? = some key ∧ u' = svB key := by
        rw [List.getElem?_map] at hu
        cases h : T[i]? with
        | none => rw [h] at hu; cases hu
        | some key => rw [h] at hu; exact ⟨key, rfl, (Option.some.inj hu).symm⟩
      unfold svB at x0 x1
      rw [Nat.zero_add] at x1
      clear hs2 hsr hu hu' hkey hbr
      go_wp2_with fail
      go_quiet (fail)
      clear x0 x1
      go_wp2_with fail
      exact ⟨⟨i + 1, by omega, by go_num, HB.out.trans ((below_drawnB wr nq).mono hsz7)⟩, by simp only [intOf]; omega⟩
    · have hcN : ¬ (i : Int) < k := by omega
      clear hbr
      obtain ⟨w7, rfl⟩ : ∃ w7 : World, w7 = wr := ⟨_, rfl⟩
      go_wp2_with fail
      have hrow7 := H6.out.2.2.2.2.2.2.2.kept (w' := w7) (row := none) ⟨HB.out.os, HB.out.tape, HB.out.output, HB.out.size, fun i hi _ => HB.out.block i hi⟩ (.inr (by simp [Value.ownBlock]))
      have H7 : Hid (∃ xs : List Value, w7.ownsRow w4.heap.size 5 1 (.slice (some ⟨bf, 0, none⟩) (S + 1) c5) (S + 1) xs) := ⟨_, hrow7⟩
      have hbf7 : bf < w7.heap.size := by omega
      clear hrow7
      go_loopw [48] (fun s48 wr => ∃ i : Nat, i ≤ S + 1 ∧ s48 = .int .i64 i ∧ (∃ xs : List Value, wr.ownsRow w4.heap.size 5 1 (.slice (some ⟨bf, 0, none⟩) (S + 1) c5) (S + 1) xs) ∧ w7.grownBy wr (some bf)) (fun j _ => S + 1 - (intOf j).toNat)
      case atStart => exact ⟨0, Nat.zero_le _, rfl, H7.out, World.grownBy.refl _ _⟩
      case round =>
        obtain ⟨i2, hi2, rfl, ⟨xs, hx⟩, hgr⟩ := hrel
        by_cases hin2 : i2 < S + 1
        · have hcN2 : (i2 : Int) < (S : Int) + 1 := by omega
          have hi0 : (0 : Int) ≤ i2 := by omega
          have hxl := hx.1
          obtain ⟨u0, x0⟩ : ∃ u, wr.cell? ⟨bf, i2, none⟩ = some u := ⟨xs[i2]'(by omega), by rw [hx.cellAt i2 (by omega)]; exact List.getElem?_eq_getElem _⟩
          have f0 := hx.frozenAt i2
          have HX := Lib.hid (And.intro hx hgr)
          clear hx hgr hxl
          go_wp2_with fail
          exact ⟨⟨i2 + 1, by omega, by go_num, ⟨_, (HX.out.1.stored i2 _).1⟩, grow_set HX.out.2⟩, by simp [intOf]; omega⟩
        · have hcN2 : ¬ (i2 : Int) < (S : Int) + 1 := by omega
          have HX : Hid ((∃ xs : List Value, wr.ownsRow w4.heap.size 5 1 (.slice (some ⟨bf, 0, none⟩) (S + 1) c5) (S + 1) xs) ∧ w7.grownBy wr (some bf)) := ⟨⟨xs, hx⟩, hgr⟩
          clear hx hgr
          obtain ⟨w8, rfl⟩ : ∃ w8 : World, w8 = wr := ⟨_, rfl⟩
          go_wp2_with fail
          go_loopw [6, 10] (fun s6 s10 wr => ∃ (j : Nat) (A : Option Addr) (n c : Nat) (xs : List Value), j ≤ 20 ∧ n ≤ S + 1 + j ∧ s10 = .int .i64 j ∧ s6 = .slice A n c ∧ wr.ownsRow w4.heap.size 5 1 (.slice A n c) n xs ∧ w7.grownBy wr (some bf) ∧ (∀ q, (Value.slice A n c).ownBlock = some q → q = bf ∨ w7.heap.size ≤ q)) (fun _ j _ => 20 - (intOf j).toNat)
          case atStart =>
            obtain ⟨⟨xs, hx⟩, hgr⟩ := HX.out
            exact ⟨0, _, _, _, xs, Nat.zero_le _, Nat.le_refl _, rfl, rfl, hx, hgr, fun q hq => .inl (by simpa [Value.ownBlock] using hq.symm)⟩
          case round =>
            obtain ⟨j, A, n, c, xs, hj, hnj, rfl, rfl, hx, hgr, hq⟩ := hrel
            have HY := Lib.hid (And.intro hx (And.intro hgr hq))
            have hszr := hgr.size
            have hbase : w4.heap.size ≤ wr.heap.size := by omega
            by_cases hin3 : j < 20
            · have hcN3 : (j : Int) < 20 := by omega
              obtain ⟨wB, rfl⟩ : ∃ wB : World, wB = wr := ⟨_, rfl⟩
              clear hx hgr hq
              go_wp2_with (at_builtin; refine wpList_app _ rfl (.tmp 59) (.tmp 60) 50 rfl w4.heap.size bytesElB (by decide) _ n xs rfl (HY.out.1.alloc _) (some ⟨wB.heap.size, 0, none⟩) 1 1 [.int .u8 1] rfl (Sl.new _ _ _) (by intro u hu; simp at hu; subst hu; rfl) (by omega) (by simp; omega) ?_
                           intro A9 c9 w9 hown9 hg9 hat9
                           have hgA : w7.grownBy (wB.alloc (.cells #[.int .u8 1] 5)) (some bf) := HY.out.2.1.trans (World.grownBy_alloc wB _ _)
                           have hg79 : w7.grownBy w9 (some bf) := grow_app hgA hg9 HY.out.2.2
                           have hq9 : ∀ q, (Value.slice A9 (n + 1) c9).ownBlock = some q → q = bf ∨ w7.heap.size ≤ q := fun q h => by
                             rcases hat9 with e | e
                             · exact HY.out.2.2 q (e ▸ h)
                             · rw [e] at h
                               have : (wB.alloc (.cells #[.int .u8 1] 5)).heap.size = wB.heap.size + 1 := by simp
                               cases h
                               right; omega
                           have H9 := Lib.hid (And.intro hown9 (And.intro hg79 hq9))
                           clear hown9 hg9 hat9 hgA hg79 hq9)
              exact ⟨⟨j + 1, A9, n + 1, c9, _, by omega, by omega, by go_num, rfl, H9.out.1, H9.out.2.1, H9.out.2.2⟩, by simp [intOf]; omega⟩
            · have hcN3 : ¬ (j : Int) < 20 := by omega
              clear hx hgr hq
              obtain ⟨w9, rfl⟩ : ∃ w9 : World, w9 = wr := ⟨_, rfl⟩
              have hsame : ∀ q, q < w6.heap.size → q ≠ bf → w9.heap[q]? = w6.heap[q]? := fun q h1 h2 => (HY.out.2.1.block q (by omega) (fun e => h2 (by cases e; rfl))).trans (HB.out.block q h1)
              have hbw9 : Below w.heap.size w w9 := grow_below HY.out.2.1 w (H6.out.2.2.2.2.2.2.1.trans (HB.out.mono H6.out.2.2.2.2.2.2.1.size)) (by have := H2.out.2.1.size; omega)
              have hsG : Sl w9 A6 (S + 1) (bv F) := sl_atB H6.out.1 fun b o e => hsame b (H6.out.2.1 b o e) (H6.out.2.2.1 b o e)
              have hsR : Sl w9 (some ⟨br, 0, none⟩) (k + 1) (T.map svB ++ [.string ⟨#[115, 112, 97, 114, 101]⟩]) := sl_atB H6.out.2.2.2.1 fun b o e => by cases e; exact hsame br hbr6 hbrf
              have hsK : Sl w9 A2 k (T.map svB) := sl_atB H6.out.2.2.2.2.1 fun b o e => hsame b (HK26.out b o e) (H6.out.2.2.2.2.2.1 b o e)
              obtain ⟨b', o', u', hA4, hu', x1⟩ := hsR.at_ (k := k) (by omega)
              cases hA4
              rw [List.getElem?_append_right (by omega), hrl, Nat.sub_self] at hu'
              obtain rfl : Value.string ⟨#[115, 112, 97, 114, 101]⟩ = u' := Option.some.inj hu'
              rw [Nat.zero_add] at x1
              have hkk : (k : Int) < (k : Int) + 1 := by omega
              have hcG : ∀ V : World, Below w9.heap.size w9 V → (convert 50 9 (.slice A6 (S + 1) c6)).run Try.prog V = .ok (.string (str F)) V := fun V hV =>
                run_str (P := Try.prog) (c := c6) (hsG.below hV) 50 5 9 Try.underlying50 Try.underlying5 Try.underlying9
              have hcX : ∀ V : World, Below w9.heap.size w9 V → V.cell? ⟨br, k, none⟩ = some (.string ⟨#[115, 112, 97, 114, 101]⟩) := fun V hV => (hV.cell (World.block_lt_of_cell? w9 _ x1)).trans x1
              have HRB : Hid (∀ V : World, Below w9.heap.size w9 V → Calls Try.prog 24 #[.slice A2 k c2, .int .i64 per] V fun e w' => ∃ A' c', e = .returned (.slice A' (S + 1) c') ∧ w'.ownsRow V.heap.size 5 1 (.slice A' (S + 1) c') (S + 1) (bv F) ∧ Below V.heap.size V w') := fun V hV => by
                have := rbuild_any k c2 A2 T per hp V (hsK.below hV) (by omega) hle2 hTm
                rwa [← HF.out.1, ← HF.out.2] at this
              have HBW := Lib.hid hbw9
              clear hsame hbw9 hsG hsR hsK hu'
              go_wp2_with fail
              have hb0 : Below w9.heap.size w9 w9.drew := (Below.refl _ _).drew
              have y1 : w9.drew.cell? ⟨br, k, none⟩ = some (.string ⟨#[115, 112, 97, 114, 101]⟩) := x1
              go_region_held (fun V => Below w9.heap.size w9 V ∧ V.cell? ⟨br, k, none⟩ = some (.string ⟨#[115, 112, 97, 114, 101]⟩)) (first | exact ⟨hb0, y1⟩ | exact ⟨hb10, y2⟩) (first
                | (go_at_call 24; refine (HRB.out _ (by assumption)).mono ?_; rintro e w10 ⟨A10, c10, rfl, hown10, hb10'⟩; have hcv10 : (convert 50 9 (.slice A10 (S + 1) c10)).run Try.prog w10 = .ok (.string (str F)) w10 := run_str (P := Try.prog) (c := c10) (own_sl hown10) 50 5 9 Try.underlying50 Try.underlying5 Try.underlying9; have hb10 : Below w9.heap.size w9 w10 := hb0.trans (hb10'.mono hb0.size); have y2 := hcX w10 hb10; clear hown10 hb10'))
              go_wp2_with fail
              go_ret
              refine ⟨?_, HBW.out.trans (hb10.mono HBW.out.size)⟩
              first | rfl | simp
end Go.Proofs.Ytnbomifnbhijbaa
