/-
  The reference's drive: a file taken out; names; what is wrong with a step.
-/
import Derived.Test.YtfhlhdpgahbeiaaReB
namespace Go.Proofs.Ytfhlhdpgahbeiaa
open Go.RowKit Go.Maps
set_option linter.unusedVariables false

def OPre (s : List UInt8) (fs : List Fm) (i : Nat) (xs : List Fm) : Prop := xs = outK Fm.name s (fs.take i)
theorem OPre.s1 {s : List UInt8} {x : Fm} {fs xs : List Fm} {i : Nat} (h : OPre s fs i xs) (hx : fs[i]? = some x) (hne : x.name ≠ s) : OPre s fs (i + 1) (xs ++ [x]) := by
  unfold OPre at h ⊢
  rw [List.take_add_one, hx, h]
  simp [outK, List.filter_append, hne]
theorem OPre.s2 {s : List UInt8} {x : Fm} {fs xs : List Fm} {i : Nat} (h : OPre s fs i xs) (hx : fs[i]? = some x) (hne : x.name = s) : OPre s fs (i + 1) xs := by
  unfold OPre at h ⊢
  rw [List.take_add_one, hx, h]
  simp [outK, List.filter_append, hne]

set_option maxRecDepth 40000 in
set_option maxHeartbeats 8000000 in
theorem without_any (A : Option Addr) (n c : Nat) (fs : List Fm) (st : Int) (ar : Bool) (lf : Int) (s : List UInt8) (w : World) (h : Fl w A n fs) (hn : n ≤ 400) :
    Calls Try.prog 59 #[.agg #[.slice A n c, .int .i64 st, .bool ar, .int .i64 lf], .string (str s)] w (FreshD w (outK Fm.name s fs) st ar lf) := by
  have hnl := h.1
  subst hnl
  have htl : ∀ l, (str l).toList = l := fun l => ByteArray.toList_mk l
  go_enter Try.func59, Try.ntmps59
  go_wp2_with fail
  have b1 := Blk.new w #[.slice A fs.length c, .int .i64 st, .bool ar, .int .i64 lf] 26
  have b3 := Blk.new (w.alloc (.cells #[.slice A fs.length c, .int .i64 st, .bool ar, .int .i64 lf] 26)) #[.slice none 0 0, .int .i64 0, .bool false, .int .i64 0] 26
  have hB0 : Below w.heap.size w ((w.alloc (.cells #[.slice A fs.length c, .int .i64 st, .bool ar, .int .i64 lf] 26)).alloc (.cells #[.slice none 0 0, .int .i64 0, .bool false, .int .i64 0] 26)) := ((Below.refl _ w).alloc (Nat.le_refl _) _).alloc (by simp) _
  have d1 := b1.keep (Below.heap_alloc _ (.cells #[.slice none 0 0, .int .i64 0, .bool false, .int .i64 0] 26) _ b1.lt)
  have hs0 : ((w.alloc (.cells #[.slice A fs.length c, .int .i64 st, .bool ar, .int .i64 lf] 26)).alloc (.cells #[.slice none 0 0, .int .i64 0, .bool false, .int .i64 0] 26)).heap.size = w.heap.size + 2 := by simp
  clear b1
  rw [World.size_alloc] at b3
  generalize ((w.alloc (.cells #[.slice A fs.length c, .int .i64 st, .bool ar, .int .i64 lf] 26)).alloc (.cells #[.slice none 0 0, .int .i64 0, .bool false, .int .i64 0] 26)) = W0 at b3 hB0 d1 hs0 ⊢
  have HS0 := Lib.hid hs0
  clear hs0
  have h0 := h.below hB0
  go_loopw [5, 6] (fun v j wr => ∃ (i : Nat) (xs : List Fm) (A' : Option Addr) (c' : Nat), i ≤ fs.length ∧ j = .int .i64 i ∧ v = .slice A' xs.length c' ∧ OPre s fs i xs ∧ xs.length ≤ i ∧ wr.ownsRow W0.heap.size 70 3 (.slice A' xs.length c') xs.length (fcs xs) ∧ Below W0.heap.size W0 wr) (fun _ j _ => fs.length - (intOf j).toNat)
  case atStart => exact ⟨0, [], none, 0, Nat.zero_le _, rfl, rfl, rfl, Nat.le_refl _, own3_nil _ _, Below.refl _ _⟩
  case round =>
    obtain ⟨i, xs, A', c', hi, rfl, rfl, hpre, hxl, hown, hbw⟩ := hrel
    have HP := Lib.hid hpre
    clear hpre
    have cell : ∀ V, Below W0.heap.size W0 V → V.cell? ⟨w.heap.size, 0, none⟩ = some (.slice A fs.length c) := fun V hV => (d1.keep (hV.block _ d1.lt)).cell rfl
    by_cases hin : i < fs.length
    · have hcN : (i : Int) < fs.length := by omega
      have k1 := cell wr hbw
      obtain ⟨b, o, x, rfl, hx, x1, x2, x3⟩ := h0.at_ hin
      have hl := World.block_lt_of_cell? _ _ x1
      have y1 : wr.cell? ⟨b, o + i * 3, none⟩ = some (.string (str x.name)) := (World.cell?_of_block (hbw.block b hl)).trans x1
      have y2 : wr.cell? ⟨b, o + i * 3 + 1, none⟩ = some (.string (str x.data)) := (World.cell?_of_block (hbw.block b hl)).trans x2
      have y3 : wr.cell? ⟨b, o + i * 3 + 2, none⟩ = some (.int .i64 x.syn) := (World.cell?_of_block (hbw.block b hl)).trans x3
      have HX := Lib.hid hx
      clear hx x1 x2 x3
      by_cases heq : x.name = s
      · have e1 : (x.name == s) = true := by simp [heq]
        have HE := Lib.hid heq
        clear heq
        go_wp2_with fail
        exact ⟨⟨i + 1, xs, A', c', by omega, by simp, rfl, HP.out.s2 HX.out HE.out, by omega, hown, hbw⟩, by simp [intOf]; omega⟩
      · have e1 : (x.name == s) = false := by simpa using heq
        have HE := Lib.hid heq
        clear heq
        go_wp2_with (at_builtin; refine wpList_app3 _ rfl (.tmp 22) (.tmp 28) rfl W0.heap.size (.slice A' xs.length c') xs.length xs rfl rfl (own3_keep hown fun k hk => Below.heap_alloc _ _ _ (own3_lt hown k hk)) _ x rfl (Blk.new _ _ _) (by omega) (by have := hbw.size; simp; omega) ?_; intro A5 c5 w5 hown5 hg5; have hb5 := (hbw.alloc hbw.size _).grown hg5 (by have := hbw.size; simp; omega) (own3_blk hown))
        exact ⟨⟨i + 1, xs ++ [x], A5, c5, by omega, by simp, by simp, HP.out.s1 HX.out HE.out, by (try simp only [List.length_append, List.length_cons, List.length_nil]); omega, by simpa using hown5, hb5⟩, by simp [intOf]; omega⟩
    · have hcN : ¬ (i : Int) < fs.length := by omega
      have fin : ∀ V, Below W0.heap.size W0 V → V.cell? ⟨w.heap.size, 0, none⟩ = some (.slice A fs.length c) ∧ V.cell? ⟨w.heap.size, 1, none⟩ = some (.int .i64 st) ∧ V.cell? ⟨w.heap.size, 2, none⟩ = some (.bool ar) ∧ V.cell? ⟨w.heap.size, 3, none⟩ = some (.int .i64 lf) ∧ V.frozen? ⟨w.heap.size, 0, none⟩ = false := fun V hV =>
        have D := d1.keep (hV.block _ d1.lt)
        ⟨D.cell rfl, D.cell rfl, D.cell rfl, D.cell rfl, D.frozen 0⟩
      have finr : ∀ V, Below W0.heap.size W0 V → V.cell? ⟨w.heap.size + 1, 0, none⟩ = some (.slice none 0 0) ∧ V.cell? ⟨w.heap.size + 1, 1, none⟩ = some (.int .i64 0) ∧ V.cell? ⟨w.heap.size + 1, 2, none⟩ = some (.bool false) ∧ V.cell? ⟨w.heap.size + 1, 3, none⟩ = some (.int .i64 0) ∧ V.frozen? ⟨w.heap.size + 1, 0, none⟩ = false ∧ V.frozen? ⟨w.heap.size + 1, 1, none⟩ = false ∧ V.frozen? ⟨w.heap.size + 1, 2, none⟩ = false ∧ V.frozen? ⟨w.heap.size + 1, 3, none⟩ = false := fun V hV =>
        have D := b3.keep (hV.block _ b3.lt)
        ⟨D.cell rfl, D.cell rfl, D.cell rfl, D.cell rfl, D.frozen 0, D.frozen 1, D.frozen 2, D.frozen 3⟩
      obtain ⟨q0, q1, q2, q3, q4⟩ := fin wr hbw
      obtain ⟨r0, r1, r2, r3, r4, r5, r6, r7⟩ := finr wr hbw
      go_wp2_with fail
      have he : xs = outK Fm.name s fs := by have := HP.out; unfold OPre at this; rwa [List.take_of_length_le (by omega)] at this
      rw [he] at hown ⊢
      exact set_fin hB0 (Nat.le_refl _) (by omega) d1.lt b3.lt (by omega) b3 hbw hown rfl rfl rfl rfl

set_option maxRecDepth 40000 in
set_option maxHeartbeats 8000000 in
theorem name_any (s : List UInt8) (w : World) (hs : s.length ≤ 140737488355328) : Calls Try.prog 32 #[.string (str s)] w fun e w' => e = .returned (.bool (vname s)) ∧ w' = w := by
  have hsz : (str s).size = s.length := str_size s
  go_enter Try.func32, Try.ntmps32
  go_wp2_with fail
  go_loopw [3] (fun j wr => ∃ k : Nat, k ≤ s.length ∧ j = .int .i64 k ∧ PreV s k ∧ wr = w) (fun j _ => s.length - (intOf j).toNat)
  case atStart => exact ⟨0, Nat.zero_le _, rfl, rfl, rfl⟩
  case round =>
    obtain ⟨k, hk, rfl, hall, rfl⟩ := hrel
    have HA := Lib.hid hall
    clear hall
    by_cases hkn : k < s.length
    · have hcN : (k : Int) < s.length := by omega
      have hix := at_str wr hkn
      have hbad : vbyte s[k] = false → vname s = false := fun hvb => by
        have : ¬ s.all vbyte = true := by
          intro h
          rw [List.all_eq_true] at h
          have := h _ (List.getElem_mem hkn)
          rw [hvb] at this; cases this
        simp only [Bool.not_eq_true] at this
        simp [vname, this]
      have hgood := fun hv => HA.out.step hkn hv
      obtain ⟨n, hn⟩ : ∃ n : Int, n = (s[k].toNat : Int) := ⟨_, rfl⟩
      have hv : vbyte s[k] = decide (97 ≤ n ∧ n ≤ 122 ∨ 48 ≤ n ∧ n ≤ 57 ∨ n = 45 ∨ n = 46) := by rw [hn]; rfl
      rw [hv] at hbad hgood
      rw [← hn] at hix
      have HBAD := Lib.hid hbad
      have HGOOD := Lib.hid hgood
      clear hv hn hbad hgood
      by_cases h1 : 97 ≤ n <;> by_cases h2 : n ≤ 122 <;> by_cases h3 : 48 ≤ n <;> by_cases h4 : n ≤ 57 <;> by_cases h5 : n = 45 <;> by_cases h6 : n = 46 <;> (first | (exfalso; omega) | skip)
      all_goals
        first
          | (have hd : decide (97 ≤ n ∧ n ≤ 122 ∨ 48 ≤ n ∧ n ≤ 57 ∨ n = 45 ∨ n = 46) = true := decide_eq_true (by omega)
             have HG := Lib.hid (HGOOD.out hd)
             clear hd
             go_wp2_with fail
             exact ⟨⟨k + 1, by omega, by simp, HG.out, trivial⟩, by simp [intOf]; omega⟩)
          | (have hd : decide (97 ≤ n ∧ n ≤ 122 ∨ 48 ≤ n ∧ n ≤ 57 ∨ n = 45 ∨ n = 46) = false := decide_eq_false (by omega)
             have HG := Lib.hid (HBAD.out hd)
             clear hd
             go_wp2_with fail
             all_goals first
               | (go_ret; exact ⟨by rw [HG.out]; rfl, rfl⟩)
               | (exfalso; rename_i hx; rcases hx with hx | hx <;> simp at hx <;> omega))
    · have hcN : ¬ (k : Int) < s.length := by omega
      have hall : s.all vbyte = true := by have := HA.out; unfold PreV at this; rwa [List.take_of_length_le (by omega)] at this
      by_cases h1 : (1 : Int) ≤ s.length
      · by_cases h2 : (s.length : Int) ≤ 32
        · have hr : vname s = true := by simp only [vname, hall, Bool.and_true, decide_eq_true_eq]; omega
          have HR := Lib.hid hr
          clear hr hall
          go_wp2_with fail
          go_ret
          exact ⟨by rw [HR.out]; rfl, rfl⟩
        · have hr : vname s = false := by simp only [vname, hall, Bool.and_true, decide_eq_false_iff_not]; omega
          have HR := Lib.hid hr
          clear hr hall
          go_wp2_with fail
          go_ret
          exact ⟨by rw [HR.out]; rfl, rfl⟩
      · have hr : vname s = false := by simp only [vname, hall, Bool.and_true, decide_eq_false_iff_not]; omega
        have HR := Lib.hid hr
        clear hr hall
        go_wp2_with fail
        go_ret
        exact ⟨by rw [HR.out]; rfl, rfl⟩

/-- What is wrong with a step on a file that must be there. -/
def lookF (s : List UInt8) (fs : List Fm) (ar : Bool) (lf : Int) : Int :=
  if vname s = false then 20 else match findK Fm.name s fs with
    | none => 4
    | some _ => code1 ar lf

set_option maxRecDepth 40000 in
set_option maxHeartbeats 8000000 in
theorem look_any (A : Option Addr) (n c : Nat) (fs : List Fm) (st : Int) (ar : Bool) (lf : Int) (s : List UInt8) (w : World) (h : Fl w A n fs) (hn : n ≤ 400) (hs : s.length ≤ 140737488355328) :
    Calls Try.prog 58 #[.agg #[.slice A n c, .int .i64 st, .bool ar, .int .i64 lf], .string (str s)] w fun e w' => e = .returned (.int .i64 (lookF s fs ar lf)) ∧ Below w.heap.size w w' := by
  have hb0 : Below w.heap.size w (w.alloc (.cells #[.slice A n c, .int .i64 st, .bool ar, .int .i64 lf] 26)) := (Below.refl _ w).alloc (Nat.le_refl _) _
  have hnm := name_any s (w.alloc (.cells #[.slice A n c, .int .i64 st, .bool ar, .int .i64 lf] 26)) hs
  cases hv : vname s with
  | false =>
    rw [hv] at hnm
    have hE : lookF s fs ar lf = 20 := by simp [lookF, hv]
    rw [hE]
    have HB := Lib.hid hb0
    clear hE hv hb0
    go_enter Try.func58, Try.ntmps58
    go_wp2_with (go_at_call 32; refine hnm.mono ?_; rintro e w' ⟨rfl, rfl⟩)
    go_ret
    exact ⟨rfl, HB.out⟩
  | true =>
    rw [hv] at hnm
    have hat := at_any A n c fs st ar lf s (w.alloc (.cells #[.slice A n c, .int .i64 st, .bool ar, .int .i64 lf] 26)) (h.alloc _) (by omega)
    have b1 := Blk.new w #[.slice A n c, .int .i64 st, .bool ar, .int .i64 lf] 26
    cases hf : findK Fm.name s fs with
    | none =>
      rw [atK_none hf] at hat
      have hE : lookF s fs ar lf = 4 := by simp [lookF, hv, hf]
      rw [hE]
      have HB := Lib.hid hb0
      clear hE hv hb0 hf
      go_enter Try.func58, Try.ntmps58
      go_wp2_with (first
        | (go_at_call 32; refine hnm.mono ?_; rintro e w' ⟨rfl, rfl⟩)
        | (go_at_call 33; refine hat.mono ?_; rintro e w2 ⟨rfl, hb2⟩))
      go_ret
      exact ⟨rfl, HB.out.trans (hb2.mono HB.out.size)⟩
    | some f =>
      obtain ⟨i, hi, -, -⟩ := atK_some hf
      rw [hi] at hat
      have hE : lookF s fs ar lf = code1 ar lf := by simp [lookF, hv, hf]
      rw [hE]
      have hi0 : ¬ (i : Int) < 0 := by omega
      have HB := Lib.hid hb0
      have hdd := fun W => rdead_any A n c st ar lf W
      have hcells : ∀ V, Below (w.alloc (.cells #[.slice A n c, .int .i64 st, .bool ar, .int .i64 lf] 26)).heap.size (w.alloc (.cells #[.slice A n c, .int .i64 st, .bool ar, .int .i64 lf] 26)) V → V.cell? ⟨w.heap.size, 0, none⟩ = some (.slice A n c) ∧ V.cell? ⟨w.heap.size, 1, none⟩ = some (.int .i64 st) ∧ V.cell? ⟨w.heap.size, 2, none⟩ = some (.bool ar) ∧ V.cell? ⟨w.heap.size, 3, none⟩ = some (.int .i64 lf) := fun V hV =>
        have D := b1.keep (hV.block _ b1.lt)
        ⟨D.cell rfl, D.cell rfl, D.cell rfl, D.cell rfl⟩
      clear hE hv hb0 hf hi b1
      cases hd : dead ar lf with
      | true =>
        rw [hd] at hdd
        have hc : code1 ar lf = 6 := by simp [code1, hd]
        rw [hc]
        clear hc hd
        go_enter Try.func58, Try.ntmps58
        go_wp2_with (first
          | (go_at_call 32; refine hnm.mono ?_; rintro e w' ⟨rfl, rfl⟩)
          | (go_at_call 33; refine hat.mono ?_; rintro e w2 ⟨rfl, hb2⟩; obtain ⟨k0, k1, k2, k3⟩ := hcells w2 hb2)
          | (go_at_call 36; refine (hdd _).mono ?_; rintro e w3 ⟨rfl, hb3⟩))
        go_ret
        exact ⟨rfl, HB.out.trans ((hb2.trans (hb3.mono hb2.size)).mono HB.out.size)⟩
      | false =>
        rw [hd] at hdd
        have hc : code1 ar lf = 0 := by simp [code1, hd]
        rw [hc]
        clear hc hd
        go_enter Try.func58, Try.ntmps58
        go_wp2_with (first
          | (go_at_call 32; refine hnm.mono ?_; rintro e w' ⟨rfl, rfl⟩)
          | (go_at_call 33; refine hat.mono ?_; rintro e w2 ⟨rfl, hb2⟩; obtain ⟨k0, k1, k2, k3⟩ := hcells w2 hb2)
          | (go_at_call 36; refine (hdd _).mono ?_; rintro e w3 ⟨rfl, hb3⟩))
        go_ret
        exact ⟨rfl, HB.out.trans ((hb2.trans (hb3.mono hb2.size)).mono HB.out.size)⟩
end Go.Proofs.Ytfhlhdpgahbeiaa
