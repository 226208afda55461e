/-
  drive.Load.
-/
import Derived.Test.YtadkgfhfjagmpaaGreatDoorLoA
import Derived.Test.YtadkgfhfjagmpaaGreatDoorGDr
namespace Go.Proofs.YtadkgfhfjagmpaaGreatDoor
open Go.RowKit Go.Maps
set_option linter.unusedVariables false

set_option maxHeartbeats 4000000 in
theorem check_any (A : Option Addr) (n c : Nat) (ns : List (List UInt8)) (B : Option Addr) (m d : Nat) (bs : List (List UInt8)) (w : World) (hs : Sl w A n (ns.map sv)) (hn9 : n ≤ 1000000) (hb : Br w B m bs) (hm9 : m ≤ 1000000) (hb9 : ∀ l ∈ bs, l.length ≤ 140737488355328) :
    Calls Tryz.prog 50 #[.slice A n c, .slice B m d] w fun e w' => e = .returned (.int .i64 (loadE ns bs)) ∧ Below w.heap.size w w' := by
  have hl : ns.length = n := by have := hs.1; simpa using this
  have hbl : bs.length = m := hb.1
  have hva := allValid_any A n c ns w hs hn9
  have htw := twice_any A n c ns w hs hn9
  have hco := fun V (hV : Below w.heap.size w V) => contains_any B m d bs V (hb.below hV) hm9 hb9
  have HC := Lib.hid hco
  clear hs hb hb9 hco
  by_cases h1 : n = m
  · subst h1
    cases h2 : ns.all vname with
    | false =>
      rw [h2] at hva
      have he : loadE ns bs = 20 := by simp [loadE, hl, hbl, h2]
      rw [he]
      clear h2 he hl hbl htw
      go_enter Tryz.func50, Tryz.ntmps50
      go_wp2_with (go_at_call 100; refine hva.mono ?_; rintro e w' ⟨rfl, rfl⟩)
      go_ret
      exact ⟨rfl, Below.refl _ _⟩
    | true =>
      rw [h2] at hva
      by_cases h3 : ns.Nodup
      · rw [show decide (¬ ns.Nodup) = false from by simp [h3]] at htw
        by_cases h4 : 256 < n
        · have he : loadE ns bs = 5 := by simp [loadE, hl, hbl, h2, h3, h4]
          rw [he]
          have h4i : (256 : Int) < n := by omega
          clear h2 he hl hbl h3
          go_enter Tryz.func50, Tryz.ntmps50
          go_wp2_with (first
            | (go_at_call 100; refine hva.mono ?_; rintro e w' ⟨rfl, rfl⟩)
            | (go_at_call 101; refine htw.mono ?_; rintro e w2 ⟨rfl, hb2⟩))
          go_ret
          exact ⟨rfl, hb2⟩
        · have h4i : ¬ (256 : Int) < n := by omega
          cases h5 : bs.any long with
          | true =>
            have he : loadE ns bs = 5 := by simp [loadE, hl, hbl, h2, h3, h5]
            have HC5 : Hid (∀ V, Below w.heap.size w V → Calls Tryz.prog 102 #[.slice B n d, .func (.func 103) #[] #[]] V fun e w' => e = .returned (.bool true) ∧ w' = V) := fun V hV => by have := HC.out V hV; rwa [h5] at this
            rw [he]
            clear h2 he hl hbl h3 h5
            go_enter Tryz.func50, Tryz.ntmps50
            go_wp2_with (first
              | (go_at_call 100; refine hva.mono ?_; rintro e w' ⟨rfl, rfl⟩)
              | (go_at_call 101; refine htw.mono ?_; rintro e w2 ⟨rfl, hb2⟩)
              | (go_at_call 102; refine (HC5.out _ hb2).mono ?_; rintro e w3 ⟨rfl, rfl⟩))
            go_ret
            exact ⟨rfl, hb2⟩
          | false =>
            have he : loadE ns bs = 0 := by simp [loadE, hl, hbl, h2, h3, h4, h5]
            have HC5 : Hid (∀ V, Below w.heap.size w V → Calls Tryz.prog 102 #[.slice B n d, .func (.func 103) #[] #[]] V fun e w' => e = .returned (.bool false) ∧ w' = V) := fun V hV => by have := HC.out V hV; rwa [h5] at this
            rw [he]
            clear h2 he hl hbl h3 h5
            go_enter Tryz.func50, Tryz.ntmps50
            go_wp2_with (first
              | (go_at_call 100; refine hva.mono ?_; rintro e w' ⟨rfl, rfl⟩)
              | (go_at_call 101; refine htw.mono ?_; rintro e w2 ⟨rfl, hb2⟩)
              | (go_at_call 102; refine (HC5.out _ hb2).mono ?_; rintro e w3 ⟨rfl, rfl⟩))
            go_ret
            exact ⟨rfl, hb2⟩
      · rw [show decide (¬ ns.Nodup) = true from by simp [h3]] at htw
        have he : loadE ns bs = 2 := by simp [loadE, hl, hbl, h2, h3]
        rw [he]
        clear h2 he hl hbl h3
        go_enter Tryz.func50, Tryz.ntmps50
        go_wp2_with (first
          | (go_at_call 100; refine hva.mono ?_; rintro e w' ⟨rfl, rfl⟩)
          | (go_at_call 101; refine htw.mono ?_; rintro e w2 ⟨rfl, hb2⟩))
        go_ret
        exact ⟨rfl, hb2⟩
  · have he : loadE ns bs = 1 := by simp [loadE, hl, hbl, h1]
    have h1i : ((n : Int) == (m : Int)) = false := by simp; omega
    have h1j : ((n : Int) != (m : Int)) = true := by simp; omega
    rw [he]
    clear he hl hbl hva htw
    go_enter Tryz.func50, Tryz.ntmps50
    go_wp2_with fail
    go_ret
    exact ⟨rfl, Below.refl _ _⟩

def put1 (l : List Fm) (p : List UInt8 × List UInt8) : List Fm := withK Fm.name ⟨p.1, p.2, p.2.length⟩ l
def foldF (zs : List (List UInt8 × List UInt8)) : List Fm := zs.foldl put1 []
theorem foldF_snoc (zs : List (List UInt8 × List UInt8)) (p : List UInt8 × List UInt8) : foldF (zs ++ [p]) = put1 (foldF zs) p := by simp [foldF, List.foldl_append]
theorem foldF_len (zs : List (List UInt8 × List UInt8)) : (foldF zs).length ≤ zs.length := by
  have key : ∀ (zs : List (List UInt8 × List UInt8)) (l : List Fm), (zs.foldl put1 l).length ≤ l.length + zs.length := by
    intro zs
    induction zs with
    | nil => intro l; simp
    | cons p r ih =>
      intro l
      have h1 := ih (put1 l p)
      have h2 : (put1 l p).length ≤ l.length + 1 := length_with _ l
      simp only [List.foldl_cons, List.length_cons]
      omega
  simpa [foldF] using key zs []
theorem zip_at {ns bs : List (List UInt8)} {k : Nat} {s l : List UInt8} (h1 : ns[k]? = some s) (h2 : bs[k]? = some l) : (ns.zip bs).take (k + 1) = (ns.zip bs).take k ++ [(s, l)] := by
  have h : (ns.zip bs)[k]? = some (s, l) := by
    rw [List.getElem?_zip_eq_some]
    exact ⟨h1, h2⟩
  rw [List.take_add_one, h]
  rfl
theorem loadE_ok {ns bs : List (List UInt8)} (h : loadE ns bs = 0) : ns.length = bs.length ∧ ns.all vname = true ∧ ns.Nodup ∧ ns.length ≤ 256 ∧ ∀ l ∈ bs, l.length ≤ 262144 := by
  unfold loadE at h
  split at h
  · cases h
  · split at h
    · cases h
    · split at h
      · cases h
      · split at h
        · cases h
        · rename_i a b c d
          refine ⟨by simpa using a, by simpa using b, by simpa using c, by omega, fun l hl => ?_⟩
          have : bs.any long ≠ true := fun e => d (.inr e)
          apply Classical.byContradiction
          intro hn
          exact this (List.any_eq_true.2 ⟨l, hl, by simp [long]; omega⟩)

/-- What Load leaves. -/
def LoadPost (w : World) (ns bs : List (List UInt8)) (e : Ending) (w' : World) : Prop :=
  Below w.heap.size w w' ∧ if loadE ns bs = 0 then ∃ pb mb gs, e = .returned (.tuple #[.pointer (some ⟨pb, 0, none⟩), .int .i64 0]) ∧ Dr w' pb mb gs 0 false 0 ∧ gs.map Gm.f = foldF (ns.zip bs) ∧ ∀ k, foot pb mb gs k → w.heap.size ≤ k
    else e = .returned (.tuple #[.pointer none, .int .i64 (loadE ns bs)])
/-- Where the loop of Load stands. -/
def LoL (w wr : World) (pb mb : Nat) (zs : List (List UInt8 × List UInt8)) : Prop := ∃ gs, Dr wr pb mb gs 0 false 0 ∧ gs.map Gm.f = foldF zs ∧ (∀ k, foot pb mb gs k → w.heap.size ≤ k) ∧ Below w.heap.size w wr

set_option maxRecDepth 40000 in
set_option maxHeartbeats 4000000 in
theorem load_any (A : Option Addr) (n c : Nat) (ns : List (List UInt8)) (B : Option Addr) (m d : Nat) (bs : List (List UInt8)) (w : World) (hs : Sl w A n (ns.map sv)) (hn9 : n ≤ 1000000) (hb : Br w B m bs) (hm9 : m ≤ 1000000) (hb9 : ∀ l ∈ bs, l.length ≤ 140737488355328) :
    Calls Tryz.prog 11 #[.slice A n c, .slice B m d] w (LoadPost w ns bs) := by
  have hck := check_any A n c ns B m d bs w hs hn9 hb hm9 hb9
  have hl : ns.length = n := by have := hs.1; simpa using this
  have hbl : bs.length = m := hb.1
  have HS := Lib.hid (And.intro hs hb)
  clear hs hb hb9
  by_cases hE : loadE ns bs = 0
  · obtain ⟨o1, o2, o3, o4, o5⟩ := loadE_ok hE
    rw [hE] at hck
    have HO := Lib.hid (And.intro hE (And.intro hl (And.intro hbl (And.intro o1 (And.intro o2 o5)))))
    have hn256 : n ≤ 256 := by omega
    obtain rfl : n = m := by omega
    clear hE hl hbl o1 o2 o3 o4 o5
    go_enter Tryz.func11, Tryz.ntmps11
    go_wp2_with fail
    refine hck.mono ?_
    rintro e w1 ⟨rfl, hb1⟩
    clear hck
    go_wp2_with fail
    refine (new_any w1).mono ?_
    rintro e w2 ⟨rfl, hD2, hb2⟩
    have hstart : LoL w w2 (w1.heap.size + 1) w1.heap.size ((ns.zip bs).take 0) := ⟨[], hD2, rfl, (fun k hk => by
      have := hb1.size
      rcases hk with rfl | rfl | ⟨g, hg, _⟩
      · omega
      · omega
      · cases hg), hb1.trans (hb2.mono hb1.size)⟩
    have HST := Lib.hid hstart
    clear hstart hD2 hb2 hb1
    go_wp2_with fail
    go_loopw [19] (fun j wr => ∃ k : Nat, k ≤ n ∧ j = .int .i64 k ∧ LoL w wr (w1.heap.size + 1) w1.heap.size ((ns.zip bs).take k)) (fun j _ => n - (intOf j).toNat)
    case atStart => exact ⟨0, Nat.zero_le _, rfl, HST.out⟩
    case round =>
      obtain ⟨k, hk, rfl, gs, hD, hgf, hfo, hbel⟩ := hrel
      by_cases hin : k < n
      · have hcN : (k : Int) < n := by omega
        have hk0 : (0 : Int) ≤ k := by omega
        obtain ⟨hE, hl, hbl, o1, o2, o5⟩ := HO.out
        obtain ⟨b, o, u, rfl, hu, x0⟩ := (HS.out.1.below hbel).at_ hin
        obtain ⟨s, hs⟩ : ∃ s, ns[k]? = some s := ⟨_, List.getElem?_eq_getElem (by omega)⟩
        rw [List.getElem?_map, hs] at hu
        have hu := (Option.some.inj hu).symm
        subst hu
        obtain ⟨b2, p2, K, l, cl, rfl, hlk, y0, hsl, hlc⟩ := (HS.out.2.below hbel).at_ hin
        have hvs : vname s = true := List.all_eq_true.1 o2 s (List.mem_of_getElem? hs)
        have hgl : gs.length ≤ k := by
          have h1 := foldF_len ((ns.zip bs).take k)
          rw [← hgf, List.length_map] at h1
          have h2 := List.length_take_le k (ns.zip bs)
          omega
        have had := addSynced_any hD s (vname_le hvs).2 K l.length cl l hsl (o5 l (List.mem_of_getElem? hlk)) (fun g _ => by have := length_with (key := Gm.name) g gs; omega)
        have hz := zip_at hs hlk
        have HX := Lib.hid (And.intro hz (And.intro hgf (And.intro hfo hbel)))
        clear hE hl hbl o1 o2 o5 hs hlk hsl hvs hgl hz hD hgf hfo hbel
        go_wp2_with (go_at_call 51; refine had.mono ?_; rintro e w3 ⟨rfl, g, hg, hD3, hS3⟩; have H3 := Lib.hid (And.intro hg (And.intro hD3 hS3)); clear hg hD3 hS3)
        obtain ⟨hz, hgf, hfo, hbel⟩ := HX.out
        obtain ⟨hg, hD3, hS3⟩ := H3.out
        refine ⟨⟨k + 1, by omega, by go_num, withK Gm.name g gs, hD3, ?_, fun q hq => ?_, hbel.trans (hS3.oth.below hfo hbel.size)⟩, by simp [intOf]; omega⟩
        · rw [with_map (key := Gm.name) (key' := Fm.name) Gm.f (fun _ => rfl), hz, foldF_snoc, ← hgf, hg]
          rfl
        · rcases hS3.sub q hq with e | e
          · exact hfo q e
          · have := hbel.size; omega
      · obtain rfl : k = n := by omega
        have hcN : ¬ (k : Int) < k := by omega
        have HX := Lib.hid (And.intro hD (And.intro hgf (And.intro hfo hbel)))
        clear hD hgf hfo hbel
        go_wp2_with fail
        go_ret2
        obtain ⟨hD, hgf, hfo, hbel⟩ := HX.out
        refine ⟨hbel, ?_⟩
        rw [if_pos HO.out.1]
        refine ⟨_, _, gs, rfl, hD, ?_, hfo⟩
        rw [hgf, List.take_of_length_le]
        have := HO.out.2.1
        rw [List.length_zip]; omega
  · have HE := Lib.hid hE
    obtain ⟨E, hEE⟩ : ∃ E, E = loadE ns bs := ⟨_, rfl⟩
    rw [← hEE] at hck
    have hne : (E == 0) = false := by simp; omega
    have hne2 : ¬ E = 0 := by omega
    have HEE := Lib.hid hEE
    clear hE hEE
    go_enter Tryz.func11, Tryz.ntmps11
    go_wp2_with fail
    refine hck.mono ?_
    rintro e w1 ⟨rfl, hb1⟩
    clear hck
    go_wp2_with fail
    go_ret2
    refine ⟨hb1, ?_⟩
    rw [if_neg HE.out, ← HEE.out]
    rfl
end Go.Proofs.YtadkgfhfjagmpaaGreatDoor
