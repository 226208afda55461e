/-
  A life over an open log, as plain lists: what is begun, what is safe.
-/
import Derived.Test.YtnbomifnbhijbaaGreatDoorWcA
import Derived.Test.YtnbomifnbhijbaaGreatDoorWoA
namespace Go.Proofs.YtnbomifnbhijbaaGreatDoor
open Go.RowKit Go.Maps Num Crc
set_option linter.unusedVariables false

/-- Behind what there was (F) stand the first m of what was begun (done); so many are safe. -/
structure Gl (x : Ws) (g : Gh) (N : Nat) (F done : List (List UInt8)) (m safe : Nat) (ar : Bool) : Prop where
  is : Is x g
  ok : g.Ok N
  arr : x.ar = ar
  con : g.con.map Prod.snd = F ++ done.take m
  m1 : m ≤ done.length
  m2 : x.dd = false → m = done.length
  sf : F.length + safe ≤ g.safe
  da : x.dd = true → ar = true
theorem Gl.le {x : Ws} {g : Gh} {N : Nat} {F done : List (List UInt8)} {m safe : Nat} {ar : Bool} (h : Gl x g N F done m safe ar) : safe ≤ m ∧ g.con.length = F.length + m := by
  have h1 := safe_le h.ok
  have h2 := congrArg List.length h.con
  rw [List.length_map, List.length_append, List.length_take, Nat.min_eq_left h.m1] at h2
  have := h.sf
  omega
theorem dead_ar {a : Bool} {l : Int} (e : dead a l = true) : a = true := by
  unfold dead at e
  cases a
  · simp at e
  · rfl
theorem gl_app {x : Ws} {g : Gh} {N : Nat} {F done : List (List UInt8)} {m safe : Nat} {ar : Bool} (h : Gl x g N F done m safe ar) (hN : N ≤ 249) {q : List UInt8} (hq : q.length ≤ 700) :
    ∃ g' m', Gl (appX x q).1 g' (N + 1) F (if x.dd then done else done ++ [q]) m' safe ar ∧
      (((appX x q).2 = 0 ∧ (appX x q).1.dd = false ∧ x.dd = false) ∨ ((appX x q).2 = 6 ∧ (appX x q).1.dd = true ∧ ar = true)) := by
  cases hd : x.dd with
  | true =>
    have e : appX x q = (x, 6) := by unfold appX; rw [if_neg (by omega), hd, if_pos rfl]
    rw [e]
    exact ⟨g, m, ⟨h.is, h.ok.mono (Nat.le_succ _), h.arr, h.con, h.m1, fun e => by rw [hd] at e; (cases e), h.sf, h.da⟩, .inr ⟨rfl, hd, h.da hd⟩⟩
  | false =>
    obtain ⟨e1, g', e2, e3, e4, e5⟩ := app_is h.is h.ok hN hd hq
    have hm := h.m2 hd
    have hc := h.con
    rw [hm, List.take_length] at hc
    rcases e5 with ⟨a1, a2, a3⟩ | ⟨a1, a2, a3, a4⟩
    · refine ⟨g', done.length + 1, ⟨e2, e3, e1.trans h.arr, ?_, by simp, fun _ => by simp, Nat.le_trans h.sf e4, fun e => by rw [a2] at e; cases e⟩, .inl ⟨a1, a2, rfl⟩⟩
      rw [a3, List.map_append, hc, if_neg (by simp), List.take_of_length_le (by simp), List.append_assoc]
      rfl
    · refine ⟨g', done.length, ⟨e2, e3, e1.trans h.arr, ?_, by simp, fun e => by rw [a2] at e; (cases e), Nat.le_trans h.sf e4, fun _ => by rw [← h.arr]; exact a3⟩, .inr ⟨a1, a2, by rw [← h.arr]; exact a3⟩⟩
      rw [a4, hc, if_neg (by simp), List.take_left' rfl]
theorem gl_sync {x : Ws} {g : Gh} {N : Nat} {F done : List (List UInt8)} {m safe : Nat} {ar : Bool} (h : Gl x g N F done m safe ar) (hN : N ≤ 250) :
    ∃ g', Gl (syncX x).1 g' N F done m (if (syncX x).2 = 0 then done.length else safe) ar ∧ (((syncX x).2 = 0 ∧ (syncX x).1.dd = false ∧ x.dd = false) ∨ ((syncX x).2 = 6 ∧ (syncX x).1.dd = true ∧ ar = true)) := by
  cases hd : x.dd with
  | true =>
    have e : syncX x = (x, 6) := by simp [syncX, hd]
    rw [e]
    exact ⟨g, h, .inr ⟨rfl, hd, h.da hd⟩⟩
  | false =>
    have hm := h.m2 hd
    rcases sync_is h.is h.ok hN hd with ⟨h1, h2, h3, h4⟩ | ⟨h1, h2, h3⟩
    · rw [h1, if_pos rfl]
      refine ⟨g.synced, ⟨h4, h.ok.synced, h3.trans h.arr, h.con, h.m1, fun _ => hm, ?_, fun e => by rw [h2] at e; cases e⟩, .inl ⟨rfl, h2, rfl⟩⟩
      have h5 := h.le.2
      have h6 : g.synced.safe = g.con.length := by
        unfold Gh.safe Gh.con Gh.synced
        rw [List.length_append, List.length_map]
      rw [h6, h5, hm]
      exact Nat.le_refl _
    · rw [h1, if_neg (by decide), h3]
      have har : ar = true := by rw [← h.arr]; exact dead_ar h2
      exact ⟨g, ⟨⟨h.is.fs, h.is.seg⟩, h.ok, h.arr, h.con, h.m1, fun e => by (cases e), h.sf, fun _ => har⟩, .inr ⟨rfl, rfl, har⟩⟩

/-- Where a life stands in memory: the log, the row of what was begun, the life's own copy. -/
structure Lm (w0 w wr : World) (pl pb mb B : Nat) (cs : Array Value) (done : List (List UInt8)) (Ad : Option Addr) (cd : Nat) (vs : List Value) (gs0 gs : List Gm) (x : Ws) : Prop where
  wl : Wl w0 wr pl pb mb gs x
  row : wr.ownsRow w.heap.size 36 1 (.slice Ad done.length cd) done.length vs
  each : Each wr w.heap.size vs done
  ap : Ap wr (wfoot pl pb mb gs) vs
  box : Blk wr B cs 61
  stp : Stp w wr (wfoot pl pb mb gs0) (wfoot pl pb mb gs)
theorem plain_life : plainT 61 := by unfold plainT; decide
section
variable {w0 w wr w' : World} {pl pb mb B : Nat} {cs : Array Value} {done : List (List UInt8)} {Ad : Option Addr} {cd : Nat} {vs : List Value} {gs0 gs gs' : List Gm} {x y : Ws}
theorem Lm.below (h : Lm w0 w wr pl pb mb B cs done Ad cd vs gs0 gs x) (hb : Below wr.heap.size wr w') : Lm w0 w w' pl pb mb B cs done Ad cd vs gs0 gs x :=
  ⟨h.wl.below hb, own_keep h.row hb, h.each.below hb, h.ap.same hb.size, h.box.keep (hb.block _ h.box.lt), h.stp.trans (Below.stp hb)⟩
theorem Lm.step (h : Lm w0 w wr pl pb mb B cs done Ad cd vs gs0 gs x) (hW : Wl w0 w' pl pb mb gs' y) (hS : Stp wr w' (wfoot pl pb mb gs) (wfoot pl pb mb gs')) : Lm w0 w w' pl pb mb B cs done Ad cd vs gs0 gs' y :=
  ⟨hW, h.wl.row h.row plain_rows hS, h.each.step h.ap hS, h.ap.step hS, h.box.keep (hS.oth.block _ h.box.lt (h.wl.apart h.box plain_life)), h.stp.trans hS⟩
theorem Lm.lo (h : Lm w0 w wr pl pb mb B cs done Ad cd vs gs0 gs x) : w.heap.size ≤ wr.heap.size := h.stp.oth.size
/-- One more is begun. -/
theorem Lm.more {o : Obj} {A6 A7 : Option Addr} {c6 c7 : Nat} {p : List UInt8} (h : Lm w0 w wr pl pb mb B cs done Ad cd vs gs0 gs x) (hw0 : w0.heap.size ≤ w.heap.size) (hp : wr.ownsRow w.heap.size 5 1 (.slice A6 p.length c6) p.length (bv p))
    (hpf : ∀ k, (Value.slice A6 p.length c6).ownBlock = some k → ¬ wfoot pl pb mb gs k)
    (h7 : w'.ownsRow w.heap.size 36 1 (.slice A7 (done.length + 1) c7) (done.length + 1) (vs ++ [.slice A6 p.length c6])) (hg : (wr.alloc o).grownBy w' (Value.slice Ad done.length cd).ownBlock) :
    Lm w0 w w' pl pb mb B cs (done ++ [p]) A7 c7 (vs ++ [.slice A6 p.length c6]) gs0 gs x := by
  have hal : Below wr.heap.size wr (wr.alloc o) := (Below.refl _ wr).alloc (Nat.le_refl _) o
  have hA := h.below hal
  have hsz : wr.heap.size ≤ w'.heap.size := by have := hg.size; simp at this; omega
  have hdl : (done ++ [p]).length = done.length + 1 := by simp
  refine ⟨hA.wl.grown hA.row plain_rows hw0 hg, by rw [hdl]; exact h7, (hA.each.snoc (own_keep hp hal)).grown hA.row hg, ?_, ?_, ?_⟩
  · intro v hv k hk
    rcases List.mem_append.1 hv with hv | hv
    · have := h.ap v hv k hk
      exact ⟨by omega, this.2⟩
    · obtain rfl := List.mem_singleton.1 hv
      have := hp.lt k hk
      exact ⟨by omega, hpf k hk⟩
  · refine hA.box.keep (hg.block _ hA.box.lt fun e => ?_)
    obtain ⟨cur, hb2⟩ := own_blk_type hA.row e.symm
    have hb1 := hA.box
    unfold Blk at hb1 hb2
    rw [hb1] at hb2
    injection hb2 with hb2
    injection hb2 with _ h5
    exact absurd h5 (by decide)
  · refine ⟨⟨hg.os.trans hA.stp.oth.os, hg.tape.trans hA.stp.oth.tape, hg.output.trans hA.stp.oth.output, Nat.le_trans hA.stp.oth.size hg.size, fun k hk hn => (hg.block k (Nat.lt_of_lt_of_le hk hA.stp.oth.size) fun e => ?_).trans (hA.stp.oth.block k hk hn)⟩, hA.stp.sub⟩
    have := own_blk hA.row k e.symm
    omega
end
end Go.Proofs.YtnbomifnbhijbaaGreatDoor
