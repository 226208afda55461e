/-
  One call of the law's script, of whatever kind; a whole script.
-/
import Derived.Test.YtfhlhdpgahbeiaaPlH
import Derived.Test.YtfhlhdpgahbeiaaPlE
import Derived.Test.YtfhlhdpgahbeiaaPlF
import Derived.Test.YtfhlhdpgahbeiaaPlG
import Derived.Test.YtfhlhdpgahbeiaaOd
namespace Go.Proofs.Ytfhlhdpgahbeiaa
open Go.RowKit Go.Maps
set_option linter.unusedVariables false

theorem play_any {W0 w : World} {pb mb : Nat} {gs : List Gm} {st lf : Int} {ar : Bool} {A : Option Addr} {c : Nat} (h : Rel w W0.heap.size pb mb gs st ar lf A c) (hb : Below W0.heap.size W0 w) (o : Od) (ho : o.Ok W0) :
    Calls Try.prog 14 #[.pointer (some ⟨pb, 0, none⟩), .agg #[.slice A gs.length c, .int .i64 st, .bool ar, .int .i64 lf], .agg #[.int .i64 o.k, .string (str o.s), .string (str o.tn), .slice o.B o.l.length o.bc, .int .i64 o.N, .slice o.K o.ks.length o.kc]] w (PlayPost w W0.heap.size (foot pb mb gs)) := by
  obtain ⟨k, s, tn, B, l, bc, N, K, ks, kc⟩ := o
  obtain ⟨hB, hK, hkc, hs, ht, hl⟩ := ho
  simp only at hB hK hkc hs ht hl ⊢
  by_cases k1 : k = 1
  · subst k1
    exact play_append h s tn B l bc N K ks.length kc (fun V hV => hB.below (hb.trans hV)) hs hl
  · by_cases k2 : k = 2
    · subst k2
      exact play_sync h s tn B l.length bc N K ks.length kc hs
    · by_cases k3 : k = 3
      · subst k3
        exact play_rename h s tn B l.length bc N K ks.length kc hs ht
      · by_cases k4 : k = 4
        · subst k4
          exact play_delete h s tn B l.length bc N K ks.length kc hs
        · by_cases k5 : k = 5
          · subst k5
            exact play_arm h s tn B l.length bc N K ks.length kc
          · by_cases k6 : k = 6
            · subst k6
              exact play_k6 h s tn B l.length bc N K ks.length kc ks (hK.below hb) hkc
            · exact play_k0 h k s tn B l.length bc N K ks.length kc k1 k2 k3 k4 k5 k6
end Go.Proofs.Ytfhlhdpgahbeiaa
