/-
  A call of the law's script as it lies in memory, and a script of such calls.
-/
import Derived.Test.YtfhlhdpgahbeiaaDrI
namespace Go.Proofs.Ytfhlhdpgahbeiaa
open Go.RowKit Go.Maps
set_option linter.unusedVariables false

structure Od where
  k : Int
  s : List UInt8
  tn : List UInt8
  B : Option Addr
  l : List UInt8
  bc : Nat
  N : Int
  K : Option Addr
  ks : List Int
  kc : Nat
def Od.cells (o : Od) : List Value := [.int .i64 o.k, .string (str o.s), .string (str o.tn), .slice o.B o.l.length o.bc, .int .i64 o.N, .slice o.K o.ks.length o.kc]
def Od.v (o : Od) : Value := .agg #[.int .i64 o.k, .string (str o.s), .string (str o.tn), .slice o.B o.l.length o.bc, .int .i64 o.N, .slice o.K o.ks.length o.kc]
structure Od.Ok (w : World) (o : Od) : Prop where
  sB : Sl w o.B o.l.length (bv o.l)
  sK : Sl w o.K o.ks.length (iv o.ks)
  kc : o.ks.length ≤ o.kc
  hs : o.s.length ≤ 140737488355328
  ht : o.tn.length ≤ 140737488355328
  hl : o.l.length ≤ 140737488355328
theorem Od.Ok.below {w w' : World} {o : Od} (h : o.Ok w) (hb : Below w.heap.size w w') : o.Ok w' := ⟨h.sB.below hb, h.sK.below hb, h.kc, h.hs, h.ht, h.hl⟩

/-- A slice that reads as a script. -/
def Ol (w : World) (A : Option Addr) (n : Nat) (os : List Od) : Prop :=
  os.length = n ∧ (∀ o ∈ os, o.Ok w) ∧ (0 < n → ∃ b off : Nat, A = some ⟨b, off, none⟩ ∧ ∀ i o, os[i]? = some o → ∀ j u, o.cells[j]? = some u → w.cell? ⟨b, off + i * 6 + j, none⟩ = some u)
theorem Ol.none_ (w : World) : Ol w none 0 [] := ⟨rfl, by simp, fun h => by omega⟩
theorem Ol.keep {w w' : World} {A : Option Addr} {n : Nat} {os : List Od} (h : Ol w A n os) (hb : Below w.heap.size w w') : Ol w' A n os :=
  ⟨h.1, fun o ho => (h.2.1 o ho).below hb, fun hn => by
    obtain ⟨b, off, e, hc⟩ := h.2.2 hn
    refine ⟨b, off, e, fun i o ho j u hu => ?_⟩
    have hcj := hc i o ho j u hu
    exact (World.cell?_of_block (w := w) (hb.block _ (World.block_lt_of_cell? w _ hcj))).trans hcj⟩
theorem Ol.at_ {w : World} {A : Option Addr} {n : Nat} {os : List Od} {i : Nat} (h : Ol w A n os) (hi : i < n) : ∃ (b off : Nat) (o : Od), A = some ⟨b, off, none⟩ ∧ os[i]? = some o ∧ o.Ok w ∧
    w.cell? ⟨b, off + i * 6, none⟩ = some (.int .i64 o.k) ∧ w.cell? ⟨b, off + i * 6 + 1, none⟩ = some (.string (str o.s)) ∧ w.cell? ⟨b, off + i * 6 + 2, none⟩ = some (.string (str o.tn)) ∧
    w.cell? ⟨b, off + i * 6 + 3, none⟩ = some (.slice o.B o.l.length o.bc) ∧ w.cell? ⟨b, off + i * 6 + 4, none⟩ = some (.int .i64 o.N) ∧ w.cell? ⟨b, off + i * 6 + 5, none⟩ = some (.slice o.K o.ks.length o.kc) := by
  obtain ⟨b, off, e, hc⟩ := h.2.2 (by omega)
  have hl : i < os.length := by have := h.1; omega
  have hg : os[i]? = some os[i] := List.getElem?_eq_getElem hl
  exact ⟨b, off, os[i], e, hg, h.2.1 _ (List.getElem_mem hl), hc i _ hg 0 _ rfl, hc i _ hg 1 _ rfl, hc i _ hg 2 _ rfl, hc i _ hg 3 _ rfl, hc i _ hg 4 _ rfl, hc i _ hg 5 _ rfl⟩
end Go.Proofs.Ytfhlhdpgahbeiaa
