/-
  Plain mathematics of the filters: a key's hash, its places, the bits that are set, what a filter answers. No program.
-/
import Derived.WalkKit
namespace Go.Proofs.Ytnbomifnbhijbaa.Bl

def hstep (h : Nat) (b : UInt8) : Nat := (h ^^^ b.toNat) * 16777619 % 4294967296
def hash (l : List UInt8) : Nat := l.foldl hstep 2166136261
theorem hstep_lt (h : Nat) (b : UInt8) : hstep h b < 4294967296 := Nat.mod_lt _ (by omega)
theorem hash_lt (l : List UInt8) : hash l < 4294967296 := by
  unfold hash
  have : ∀ (l : List UInt8) (h : Nat), h < 4294967296 → l.foldl hstep h < 4294967296 := by
    intro l
    induction l with
    | nil => intro h hh; rw [List.foldl_nil]; exact hh
    | cons b r ih => intro h _; rw [List.foldl_cons]; exact ih _ (hstep_lt _ _)
  exact this l _ (by decide)
theorem hash_snoc (l : List UInt8) (b : UInt8) : hash (l ++ [b]) = hstep (hash l) b := by
  unfold hash
  generalize 2166136261 = z
  rw [List.foldl_append, List.foldl_cons, List.foldl_nil]
theorem hash_take {l : List UInt8} {k : Nat} (h : k < l.length) : hash (l.take (k + 1)) = hstep (hash (l.take k)) l[k] := by
  rw [← hash_snoc, List.take_append_getElem h]

def rot (h : Nat) : Nat := h / 131072 + h % 131072 * 32768
theorem rot_lt {h : Nat} (hh : h < 4294967296) : rot h < 4294967296 := by unfold rot; omega
/-- The hash behind i turns. -/
def turned (h : Nat) : Nat → Nat
  | 0 => h
  | i + 1 => (turned h i + rot h) % 4294967296
theorem turned_lt {h : Nat} (hh : h < 4294967296) : ∀ i, turned h i < 4294967296
  | 0 => hh
  | _ + 1 => Nat.mod_lt _ (by omega)
def plc (key : List UInt8) (n i : Nat) : Nat := turned (hash key) i % n
def places (key : List UInt8) (n k : Nat) : List Nat := (List.range k).map (plc key n)
theorem places_len (key : List UInt8) (n k : Nat) : (places key n k).length = k := by simp [places]
theorem places_succ (key : List UInt8) (n k : Nat) : places key n (k + 1) = places key n k ++ [plc key n k] := by
  simp [places, List.range_succ]
theorem places_take (key : List UInt8) (n k j : Nat) (h : j ≤ k) : (places key n k).take j = places key n j := by
  unfold places
  rw [← List.map_take, List.take_range, Nat.min_eq_left h]
theorem places_get (key : List UInt8) (n k j : Nat) (h : j < k) : (places key n k)[j]? = some (plc key n j) := by
  simp [places, h]
theorem plc_lt (key : List UInt8) {n : Nat} (hn : 0 < n) (i : Nat) : plc key n i < n := Nat.mod_lt _ hn
theorem places_lt (key : List UInt8) {n : Nat} (hn : 0 < n) (k : Nat) : ∀ p ∈ places key n k, p < n := by
  intro p hp
  obtain ⟨i, _, rfl⟩ := List.mem_map.1 hp
  exact plc_lt key hn i

/-- Bit p of a filter. -/
def has (f : List UInt8) (p : Nat) : Bool := (f.getD (p / 8) 0).toNat.testBit (p % 8)
def setB (f : List UInt8) (p : Nat) : List UInt8 := f.set (p / 8) (UInt8.ofNat ((f.getD (p / 8) 0).toNat ||| 2 ^ (p % 8)))
theorem setB_len (f : List UInt8) (p : Nat) : (setB f p).length = f.length := by simp [setB]
theorem pow_lt (p : Nat) : 2 ^ (p % 8) < 256 := by
  have : p % 8 < 8 := Nat.mod_lt _ (by omega)
  exact Nat.lt_of_lt_of_le (Nat.pow_lt_pow_right (a := 2) (by omega) this) (by omega)
theorem or_lt (b : UInt8) (p : Nat) : b.toNat ||| 2 ^ (p % 8) < 256 := Nat.or_lt_two_pow (n := 8) (by have := b.toNat_lt; omega) (pow_lt p)
theorem getD_setB (f : List UInt8) (p i : Nat) (hp : p / 8 < f.length) :
    (setB f p).getD i 0 = if p / 8 = i then UInt8.ofNat ((f.getD (p / 8) 0).toNat ||| 2 ^ (p % 8)) else f.getD i 0 := by
  unfold setB
  rw [List.getD_eq_getElem?_getD, List.getElem?_set]
  split
  · simp [hp]
  · simp [List.getD_eq_getElem?_getD]
theorem has_setB_self (f : List UInt8) (p : Nat) (hp : p / 8 < f.length) : has (setB f p) p = true := by
  unfold has
  rw [getD_setB f p _ hp, if_pos rfl, UInt8.toNat_ofNat', Nat.mod_eq_of_lt (or_lt _ p), Nat.testBit_or]
  simp [Nat.testBit_two_pow_self]
theorem has_setB_mono (f : List UInt8) (p q : Nat) (h : has f q = true) : has (setB f p) q = true := by
  by_cases hp : p / 8 < f.length
  · unfold has at h ⊢
    rw [getD_setB f p _ hp]
    split
    · rename_i he
      rw [UInt8.toNat_ofNat', Nat.mod_eq_of_lt (or_lt _ p), Nat.testBit_or, he, h]
      rfl
    · exact h
  · have : setB f p = f := by unfold setB; exact List.set_eq_of_length_le (by omega)
    rw [this]; exact h
theorem setB_app (f : List UInt8) (x : UInt8) (p : Nat) (hp : p / 8 < f.length) : setB (f ++ [x]) p = setB f p ++ [x] := by
  unfold setB
  rw [List.set_append_left _ _ hp]
  congr 3
  simp [List.getD_eq_getElem?_getD, List.getElem?_append_left hp]

def addK (n k : Nat) (f : List UInt8) (key : List UInt8) : List UInt8 := (places key n k).foldl setB f
def adds (n k : Nat) (f : List UInt8) (keys : List (List UInt8)) : List UInt8 := keys.foldl (addK n k) f
theorem fold_len (ps : List Nat) : ∀ f : List UInt8, (ps.foldl setB f).length = f.length := by
  induction ps with
  | nil => intro f; rw [List.foldl_nil]
  | cons p r ih => exact fun f => (ih _).trans (setB_len f p)
theorem addK_len (n k : Nat) (f : List UInt8) (key : List UInt8) : (addK n k f key).length = f.length := fold_len _ f
theorem adds_len (n k : Nat) (keys : List (List UInt8)) : ∀ f : List UInt8, (adds n k f keys).length = f.length := by
  induction keys with
  | nil => exact fun f => rfl
  | cons key r ih => exact fun f => (ih _).trans (addK_len n k f key)
theorem adds_snoc (n k : Nat) (f : List UInt8) (keys : List (List UInt8)) (key : List UInt8) : adds n k f (keys ++ [key]) = addK n k (adds n k f keys) key := by simp [adds]
theorem adds_app (n k : Nat) (f : List UInt8) (a b : List (List UInt8)) : adds n k f (a ++ b) = adds n k (adds n k f a) b := by simp [adds]
theorem addK_step (n k : Nat) (f : List UInt8) (key : List UInt8) : addK n (k + 1) f key = setB (addK n k f key) (plc key n k) := by
  simp [addK, places_succ]
theorem fold_mono (ps : List Nat) : ∀ (f : List UInt8) (q : Nat), has f q = true → has (ps.foldl setB f) q = true := by
  induction ps with
  | nil => exact fun f q h => h
  | cons p r ih => exact fun f q h => ih _ q (has_setB_mono f p q h)
theorem adds_mono (n k : Nat) (keys : List (List UInt8)) : ∀ (f : List UInt8) (q : Nat), has f q = true → has (adds n k f keys) q = true := by
  induction keys with
  | nil => exact fun f q h => h
  | cons key r ih => exact fun f q h => ih _ q (fold_mono _ f q h)
theorem fold_has (ps : List Nat) : ∀ (f : List UInt8), (∀ p ∈ ps, p / 8 < f.length) → ∀ q ∈ ps, has (ps.foldl setB f) q = true := by
  induction ps with
  | nil => intro f _ q hq; cases hq
  | cons p r ih =>
    intro f hp q hq
    rcases List.mem_cons.1 hq with rfl | hq
    · exact fold_mono r _ q (has_setB_self f q (hp q (List.mem_cons_self ..)))
    · exact ih _ (fun x hx => by rw [setB_len]; exact hp x (List.mem_cons_of_mem _ hx)) q hq
theorem fold_app (ps : List Nat) (x : UInt8) : ∀ (f : List UInt8), (∀ p ∈ ps, p / 8 < f.length) → ps.foldl setB (f ++ [x]) = ps.foldl setB f ++ [x] := by
  induction ps with
  | nil => exact fun f _ => rfl
  | cons p r ih =>
    intro f hp
    rw [List.foldl_cons, List.foldl_cons, setB_app f x p (hp p (List.mem_cons_self ..))]
    exact ih _ fun q hq => by rw [setB_len]; exact hp q (List.mem_cons_of_mem _ hq)
theorem plc_div (key : List UInt8) {s : Nat} (hs : 0 < s) (k : Nat) : ∀ p ∈ places key (8 * s) k, p / 8 < s := by
  intro p hp
  have := places_lt key (n := 8 * s) (by omega) k p hp
  omega
theorem adds_last (k : Nat) (x : UInt8) {s : Nat} (hs : 0 < s) (keys : List (List UInt8)) : ∀ (f : List UInt8), f.length = s → adds (8 * s) k (f ++ [x]) keys = adds (8 * s) k f keys ++ [x] := by
  induction keys with
  | nil => exact fun f _ => rfl
  | cons key r ih =>
    intro f hf
    show adds (8 * s) k (addK (8 * s) k (f ++ [x]) key) r = adds (8 * s) k (addK (8 * s) k f key) r ++ [x]
    have : addK (8 * s) k (f ++ [x]) key = addK (8 * s) k f key ++ [x] := fold_app _ x f (by rw [hf]; exact plc_div key hs k)
    rw [this]
    exact ih _ (by rw [addK_len, hf])

/-- What a list of bytes answers as a filter. -/
def may (f : List UInt8) (key : List UInt8) : Bool :=
  if f.length < 2 ∨ 1048577 ≤ f.length then true
  else
    if (f.getD (f.length - 1) 0).toNat < 1 ∨ 16 < (f.getD (f.length - 1) 0).toNat then true
    else (places key (8 * (f.length - 1)) (f.getD (f.length - 1) 0).toNat).all (has f)

def perC (per : Int) : Nat := (max 1 (min per 24)).toNat
def sizeF (n : Nat) (per : Int) : Nat := (max 64 (n * perC per) + 7) / 8
def kF (per : Int) : Nat := max 1 (perC per * 69 / 100)
theorem perC_pos (per : Int) : 1 ≤ perC per := by unfold perC; omega
theorem perC_le (per : Int) : perC per ≤ 24 := by unfold perC; omega
theorem kF_pos (per : Int) : 1 ≤ kF per := by unfold kF; omega
theorem kF_le (per : Int) : kF per ≤ 16 := by have := perC_le per; unfold kF; omega
theorem size_ge (n : Nat) (per : Int) : 8 ≤ sizeF n per := by unfold sizeF; omega
theorem size_le (n : Nat) (per : Int) (hn : n ≤ 65536) : sizeF n per ≤ 196608 := by
  have h1 := perC_le per
  have h2 : n * perC per ≤ 65536 * 24 := Nat.mul_le_mul hn h1
  unfold sizeF; omega
def build (keys : List (List UInt8)) (per : Int) : List UInt8 :=
  adds (8 * sizeF keys.length per) (kF per) (List.replicate (sizeF keys.length per) 0) keys ++ [UInt8.ofNat (kF per)]
theorem build_len (keys : List (List UInt8)) (per : Int) : (build keys per).length = sizeF keys.length per + 1 := by simp [build, adds_len]
theorem build_last (keys : List (List UInt8)) (per : Int) : ((build keys per).getD (sizeF keys.length per) 0).toNat = kF per := by
  unfold build
  rw [List.getD_eq_getElem?_getD, List.getElem?_append_right (by simp [adds_len])]
  have := kF_le per
  simp [adds_len]
  omega
theorem has_app (f : List UInt8) (x : UInt8) (p : Nat) (hp : p / 8 < f.length) : has (f ++ [x]) p = has f p := by
  unfold has
  simp [List.getD_eq_getElem?_getD, List.getElem?_append_left hp]
/-- What a built filter answers. -/
theorem may_build (keys : List (List UInt8)) (per : Int) (hn : keys.length ≤ 65536) (key : List UInt8) :
    may (build keys per) key = (places key (8 * sizeF keys.length per) (kF per)).all (has (adds (8 * sizeF keys.length per) (kF per) (List.replicate (sizeF keys.length per) 0) keys)) := by
  have h1 := size_ge keys.length per
  have h2 := size_le keys.length per hn
  have h3 := kF_pos per
  have h4 := kF_le per
  unfold may
  rw [build_len, Nat.add_sub_cancel, build_last, if_neg (by omega), if_neg (by omega)]
  have hd := plc_div key (s := sizeF keys.length per) (by omega) (kF per)
  rw [Bool.eq_iff_iff, List.all_eq_true, List.all_eq_true]
  have : ∀ p ∈ places key (8 * sizeF keys.length per) (kF per), has (build keys per) p = has (adds (8 * sizeF keys.length per) (kF per) (List.replicate (sizeF keys.length per) 0) keys) p :=
    fun p hp => by unfold build; exact has_app _ _ p (by simpa [adds_len] using hd p hp)
  constructor
  · intro h p hp; rw [← this p hp]; exact h p hp
  · intro h p hp; rw [this p hp]; exact h p hp
/-- No key is forgotten. -/
theorem may_keeps (keys : List (List UInt8)) (per : Int) (hn : keys.length ≤ 65536) (key : List UInt8) (hk : key ∈ keys) : may (build keys per) key = true := by
  rw [may_build keys per hn, List.all_eq_true]
  intro p hp
  obtain ⟨a, b, rfl⟩ := List.append_of_mem hk
  have hs := size_ge (a ++ key :: b).length per
  generalize hS : sizeF (a ++ key :: b).length per = s at hp hs ⊢
  rw [adds_app]
  show has (adds (8 * s) (kF per) (addK (8 * s) (kF per) (adds (8 * s) (kF per) (List.replicate s 0) a) key) b) p = true
  refine adds_mono _ _ b _ p (fold_has _ _ ?_ p hp)
  rw [adds_len, List.length_replicate]
  exact plc_div key (by omega) _
/-- A filter of no keys says no. -/
theorem may_none (per : Int) (key : List UInt8) : may (build [] per) key = false := by
  rw [may_build [] per (by simp)]
  have hk := kF_pos per
  rw [Bool.eq_false_iff]
  intro h
  rw [List.all_eq_true] at h
  have := h _ (List.mem_iff_getElem?.2 ⟨0, places_get key _ (kF per) 0 (by omega)⟩)
  simp [adds, has, List.getD_eq_getElem?_getD, List.getElem?_replicate] at this
  split at this <;> simp_all
/-- One of fewer keys says no where one of more does, if they have the same room. -/
theorem may_fewer (a b : List (List UInt8)) (per : Int) (hn : (a ++ b).length ≤ 65536) (hs : sizeF a.length per = sizeF (a ++ b).length per) (key : List UInt8) (h : may (build a per) key = true) : may (build (a ++ b) per) key = true := by
  rw [may_build a per (by simp at hn; omega), List.all_eq_true, hs] at h
  rw [may_build (a ++ b) per hn, List.all_eq_true]
  intro p hp
  rw [adds_app]
  exact adds_mono _ _ b _ p (h p hp)
end Go.Proofs.Ytnbomifnbhijbaa.Bl
