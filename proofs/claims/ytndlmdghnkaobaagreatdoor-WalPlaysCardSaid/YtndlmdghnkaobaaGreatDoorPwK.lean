/-
  One call of the wal's script, of whatever kind.
-/
import Derived.Test.YtndlmdghnkaobaaGreatDoorPwB
import Derived.Test.YtndlmdghnkaobaaGreatDoorPwC
import Derived.Test.YtndlmdghnkaobaaGreatDoorPwD
import Derived.Test.YtndlmdghnkaobaaGreatDoorPwE
import Derived.Test.YtndlmdghnkaobaaGreatDoorPwG
import Derived.Test.YtndlmdghnkaobaaGreatDoorPwH
import Derived.Test.YtndlmdghnkaobaaGreatDoorPwI
import Derived.Test.YtndlmdghnkaobaaGreatDoorPwJ
import Derived.Test.YtndlmdghnkaobaaGreatDoorGPo
namespace Go.Proofs.YtndlmdghnkaobaaGreatDoor
open Go.RowKit Go.Maps Num Crc
set_option linter.unusedVariables false

theorem pw_any {w0 w : World} {pl pb mb : Nat} {gs : List Gm} {x : Ws} {A : Option Addr} {c : Nat} (h : Pw w0 w pl pb mb gs x A c) (o : Ow) (ho : o.Ok w0) (N : Int) (hN : -9223372036854775808 ≤ N ∧ N ≤ 9223372036854775807) (h5 : o.k = 5 → 1 ≤ N ∧ N ≤ 999999) :
    Calls Tryz.prog 8 #[.pointer (some ⟨pb, 0, none⟩), .pointer (some ⟨pl, 0, none⟩), xdr A c x, xlg x, .agg #[.int .i64 o.k, .slice o.P o.p.length o.cp, .int .i64 N, .slice o.K o.ks.length o.kc]] w (PlayW w0 w (wfoot pl pb mb gs)) := by
  obtain ⟨k, P, p, cp, N0, K, ks, kc⟩ := o
  obtain ⟨sP, cP, lP, sK, cK, -⟩ := ho
  simp only at sP cP lP sK cK h5 ⊢
  by_cases k1 : k = 1
  · subst k1; exact pw_sync h P p.length cp N K ks.length kc
  · by_cases k2 : k = 2
    · subst k2; exact pw_roll h P p.length cp N K ks.length kc
    · by_cases k3 : k = 3
      · subst k3; exact pw_drop h P p.length cp N K ks.length kc hN
      · by_cases k6 : k = 6
        · subst k6; exact pw_arm h P p.length cp N K ks.length kc
        · by_cases k4 : k = 4
          · subst k4
            by_cases hr : 1 ≤ N ∧ N ≤ 999999
            · exact pw_open h P p.length cp N hr.1 hr.2 K ks.length kc
            · exact pw_open_bad h P p.length cp N (by omega) K ks.length kc
          · by_cases k5 : k = 5
            · subst k5; exact pw_crash h P p.length cp N (h5 rfl).1 (h5 rfl).2 K ks.length kc ks (fun V hV => sK.below hV) cK
            · exact pw_append h k k1 k2 k3 k4 k5 k6 P p.length cp p (fun V hV => sP.below hV) lP cP N K ks.length kc
end Go.Proofs.YtndlmdghnkaobaaGreatDoor
