/-
  What the law WalCrashes is handed: lives; where its loops stand.
-/
import Derived.Test.YtnbomifnbhijbaaGreatDoorWcC
namespace Go.Proofs.YtnbomifnbhijbaaGreatDoor
open Go.RowKit Go.Maps Num Crc
set_option linter.unusedVariables false

/-- A life as it lies in memory. -/
structure Lr where
  P : Option Addr
  np : Nat
  cp : Nat
  ls : List (List UInt8)
  ev : Int
  lf : Int
  K : Option Addr
  kn : Nat
  kc : Nat
  ks : List Int
def Lr.cells (o : Lr) : List Value := [.slice o.P o.np o.cp, .int .i64 o.ev, .int .i64 o.lf, .slice o.K o.kn o.kc]
structure Lr.Ok (w : World) (o : Lr) : Prop where
  br : Br w o.P o.np o.ls
  len : ∀ p ∈ o.ls, p.length ≤ 140737488355328
  nn : o.np ≤ 140737488355328
  ev : -9223372036854775808 ≤ o.ev ∧ o.ev ≤ 9223372036854775807
  lf : -9223372036854775808 ≤ o.lf ∧ o.lf ≤ 9223372036854775807
  sk : Sl w o.K o.kn (iv o.ks)
  kc : o.kn ≤ o.kc
structure Lvs (w : World) (A : Option Addr) (n : Nat) (os : List Lr) : Prop where
  len : os.length = n
  ok : ∀ o ∈ os, o.Ok w
  cell : 0 < n → ∃ b off : Nat, A = some ⟨b, off, none⟩ ∧ ∀ k o, os[k]? = some o → ∀ j u, o.cells[j]? = some u → w.cell? ⟨b, off + k * 4 + j, none⟩ = some u
theorem Lvs.none_ (w : World) : Lvs w none 0 [] := ⟨rfl, fun o h => by (cases h), fun h => by omega⟩
theorem Lvs.at_ {w : World} {A : Option Addr} {n k : Nat} {os : List Lr} (h : Lvs w A n os) (hk : k < n) : ∃ (b off : Nat) (o : Lr), A = some ⟨b, off, none⟩ ∧ o.Ok w ∧
    w.cell? ⟨b, off + k * 4, none⟩ = some (.slice o.P o.np o.cp) ∧ w.cell? ⟨b, off + k * 4 + 1, none⟩ = some (.int .i64 o.ev) ∧ w.cell? ⟨b, off + k * 4 + 2, none⟩ = some (.int .i64 o.lf) ∧ w.cell? ⟨b, off + k * 4 + 3, none⟩ = some (.slice o.K o.kn o.kc) := by
  obtain ⟨b, off, e, hc⟩ := h.cell (by omega)
  have hl : k < os.length := by rw [h.len]; exact hk
  have hg : os[k]? = some os[k] := List.getElem?_eq_getElem hl
  exact ⟨b, off, os[k], e, h.ok _ (List.getElem_mem hl), hc k _ hg 0 _ rfl, hc k _ hg 1 _ rfl, hc k _ hg 2 _ rfl, hc k _ hg 3 _ rfl⟩
/-- Where the loop over the lives stands. -/
structure Cr (w wr : World) (pb mb : Nat) (gs : List Gm) (st lf : Int) (rs : List Sg) (b : Nat) (F : List (List UInt8)) (Af : Option Addr) (cf : Nat) (vf : List Value) : Prop where
  bel : Below w.heap.size w wr
  dr : Dr wr pb mb gs st false lf
  lo : ∀ k, foot pb mb gs k → w.heap.size ≤ k
  fs : gs.map Gm.f = rs.map Sg.f
  sg : Segs b rs
  b1 : 1 ≤ b
  sy : AllSyn rs
  con : (tcon rs).map Prod.snd = F
  row : wr.ownsRow w.heap.size 36 1 (.slice Af F.length cf) F.length vf
  each : Each wr w.heap.size vf F
  ap : Ap wr (foot pb mb gs) vf
/-- A log whose drive was armed. -/
theorem Wl.armed {w w2 w3 : World} {pl pb mb : Nat} {gs : List Gm} {x : Ws} {n : Int} (h : Wl w w2 pl pb mb gs x) (hD : Dr w3 pb mb gs x.st true n) (hS : Stp w2 w3 (foot pb mb gs) (foot pb mb gs)) : Wl w w3 pl pb mb gs { x with ar := true, lf := n } ∧ Stp w2 w3 (wfoot pl pb mb gs) (wfoot pl pb mb gs) :=
  ⟨⟨h.lay, h.bel.trans (hS.oth.below (fun k hk => h.lo k (.inr hk)) h.bel.size), hD, h.lg.keep (hS.oth.block pl h.lg.lt h.out), h.fs, h.seg1, h.seg2, h.vn, h.lo⟩,
   ⟨⟨hS.oth.os, hS.oth.tape, hS.oth.output, hS.oth.size, fun k hk hn => hS.oth.block k hk fun e => hn (.inr e)⟩, fun k hk => .inl hk⟩⟩
/-- A life begins. -/
theorem gl_start {rs : List Sg} {st lf : Int} {ar : Bool} {s N : Nat} {F : List (List UInt8)} (hs : Segs s rs) (h1 : 1 ≤ s) (hN : s ≤ N) (hy : AllSyn rs) (hF : (tcon rs).map Prod.snd = F) :
    Gl ⟨rs.map Sg.f, st, ar, lf, (s : Int), false⟩ ⟨rs, s, [], 0⟩ N F [] 0 0 ar := by
  obtain ⟨h2, h3⟩ := is_opened (st := st) (lf := lf) (ar := ar) hs h1 hN hy
  refine ⟨h2, h3, rfl, ?_, Nat.le_refl _, fun _ => rfl, ?_, fun e => by cases e⟩
  · simp [Gh.con, hF]
  · rw [← hF]; simp [Gh.safe]
/-- What a loss of power leaves of a life. -/
theorem gl_crash {x : Ws} {g : Gh} {N : Nat} {F done : List (List UInt8)} {m safe : Nat} {ar : Bool} (h : Gl x g N F done m safe ar) (ks : List Int) :
    ∃ rs m2, (crash x.fs ks).1 = rs.map Sg.f ∧ Segs (g.seg + 1) rs ∧ AllSyn rs ∧ safe ≤ m2 ∧ m2 ≤ done.length ∧ (tcon rs).map Prod.snd = F ++ done.take m2 := by
  obtain ⟨rs, h1, h2, h3, k, k1, k2, k3⟩ := crash_is h.is h.ok ks
  have hl := h.le
  have hsf := h.sf
  have hm1 := h.m1
  refine ⟨rs, k - F.length, h1, h2, h3, by omega, by omega, ?_⟩
  rw [k3, h.con, List.take_append, List.take_of_length_le (by omega), List.take_take, Nat.min_eq_left (by omega)]
end Go.Proofs.YtnbomifnbhijbaaGreatDoor
