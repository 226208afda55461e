/-
  No cell of these rows narrows 'for every input' (looked for: loops, veiled, ifaces, maps, wideKeys, modest, calm, conditions, laid).
  DERIVED. THE GIVEN ROWS OF THIS SEAT. 8 by the template 'for every input the law returns true; each argument reads behind the call as it read before'; 0 by the template 'total and deterministic' (their statements: YtnbomifnbhijbaaTotals.lean).
  GIVEN WITH THE SEED: the statements are not yours to turn. If you find one false, say at which input.
  Laid BY PROGRAM, IN A SANDBOX (cutbox-rows.mjs): the forced cells as the released guide's own fill.sh prints them over the translation 5458cb4660e65e1d… (all of the seat's roots in one cut). By AI agents, Wed Nov 11 2026. No macro, syntax, notation, axiom, sorry.
-/
import Derived.Test.YtnbomifnbhijbaaChecked
import GoSem.Claim
import GoSem.ClaimJoined
import GoSem.ClaimMapViews
import Derived.JoinedTies
import Derived.KernelRfl
namespace Go.Proofs.Ytnbomifnbhijbaa
/- THE CELL 'sum', in the pinned program and in every row, IS THE sha256 OF THE DUMP (.gsa) THAT YtnbomifnbhijbaaProg.lean LOADS. Nothing in Lean hashes anything: it is a label: what it is worth is what the hold of that sum in a sandbox is worth. -/
noncomputable def Try.pinned : Pinned := { name := "ytnbomifnbhijbaa", sum := "5458cb4660e65e1d4307338b817c8f601dd7eea48dc33966f5942e376dfcd3c0", checked := Try.checked }
namespace Rows
def none {H : Type} : Left H := { results := [], args := [] }

/-- 'convoylaw04.MemPlays': WHATEVER THE INPUT: true; the input reads as it did. -/
def memPlaysSpec : ChangeSpec := { name := "memPlays", fn := fun _ => fun
  | [d1, d2] => { results := [.lit (.bool true)], args := [d1, d2] }
  | _ => none }
def memPlaysRow : OpenClaim := { program := "ytnbomifnbhijbaa", sum := "5458cb4660e65e1d4307338b817c8f601dd7eea48dc33966f5942e376dfcd3c0", func := "convoy/convoylaw04.MemPlays", spec := "memPlays", unfollowed := true, recurses := true, apart := false }
def MemPlaysSaid : Prop := memPlaysRow.holds Try.pinned (OpenSpec.ofChange memPlaysSpec)

/-- ITS FALSE NEIGHBOUR: 'it returns false'. Refute it at one input. -/
def memPlaysWrong : ChangeSpec := { name := "memPlays", fn := fun _ => fun
  | [d1, d2] => { results := [.lit (.bool false)], args := [d1, d2] }
  | _ => none }
def MemPlaysWrongFalsely : Prop := memPlaysRow.holds Try.pinned (OpenSpec.ofChange memPlaysWrong)

/-- 'convoylaw04.MemHeights': WHATEVER THE INPUT: true; the input reads as it did. -/
def memHeightsSpec : ChangeSpec := { name := "memHeights", fn := fun _ => fun
  | [d1, d2] => { results := [.lit (.bool true)], args := [d1, d2] }
  | _ => none }
def memHeightsRow : OpenClaim := { program := "ytnbomifnbhijbaa", sum := "5458cb4660e65e1d4307338b817c8f601dd7eea48dc33966f5942e376dfcd3c0", func := "convoy/convoylaw04.MemHeights", spec := "memHeights", unfollowed := true, recurses := true, apart := false }
def MemHeightsSaid : Prop := memHeightsRow.holds Try.pinned (OpenSpec.ofChange memHeightsSpec)

/-- ITS FALSE NEIGHBOUR: 'it returns false'. Refute it at one input. -/
def memHeightsWrong : ChangeSpec := { name := "memHeights", fn := fun _ => fun
  | [d1, d2] => { results := [.lit (.bool false)], args := [d1, d2] }
  | _ => none }
def MemHeightsWrongFalsely : Prop := memHeightsRow.holds Try.pinned (OpenSpec.ofChange memHeightsWrong)

/-- 'convoylaw04.MemOwn': WHATEVER THE INPUT: true; the input reads as it did. -/
def memOwnSpec : ChangeSpec := { name := "memOwn", fn := fun _ => fun
  | [d1, d2, d3] => { results := [.lit (.bool true)], args := [d1, d2, d3] }
  | _ => none }
def memOwnRow : OpenClaim := { program := "ytnbomifnbhijbaa", sum := "5458cb4660e65e1d4307338b817c8f601dd7eea48dc33966f5942e376dfcd3c0", func := "convoy/convoylaw04.MemOwn", spec := "memOwn", unfollowed := true, recurses := true, apart := false }
def MemOwnSaid : Prop := memOwnRow.holds Try.pinned (OpenSpec.ofChange memOwnSpec)

/-- ITS FALSE NEIGHBOUR: 'it returns false'. Refute it at one input. -/
def memOwnWrong : ChangeSpec := { name := "memOwn", fn := fun _ => fun
  | [d1, d2, d3] => { results := [.lit (.bool false)], args := [d1, d2, d3] }
  | _ => none }
def MemOwnWrongFalsely : Prop := memOwnRow.holds Try.pinned (OpenSpec.ofChange memOwnWrong)

/-- 'convoylaw05.BloomBuilds': WHATEVER THE INPUT: true; the input reads as it did. -/
def bloomBuildsSpec : ChangeSpec := { name := "bloomBuilds", fn := fun _ => fun
  | [d1, d2, d3] => { results := [.lit (.bool true)], args := [d1, d2, d3] }
  | _ => none }
def bloomBuildsRow : OpenClaim := { program := "ytnbomifnbhijbaa", sum := "5458cb4660e65e1d4307338b817c8f601dd7eea48dc33966f5942e376dfcd3c0", func := "convoy/convoylaw05.BloomBuilds", spec := "bloomBuilds", unfollowed := true, recurses := true, apart := false }
def BloomBuildsSaid : Prop := bloomBuildsRow.holds Try.pinned (OpenSpec.ofChange bloomBuildsSpec)

/-- ITS FALSE NEIGHBOUR: 'it returns false'. Refute it at one input. -/
def bloomBuildsWrong : ChangeSpec := { name := "bloomBuilds", fn := fun _ => fun
  | [d1, d2, d3] => { results := [.lit (.bool false)], args := [d1, d2, d3] }
  | _ => none }
def BloomBuildsWrongFalsely : Prop := bloomBuildsRow.holds Try.pinned (OpenSpec.ofChange bloomBuildsWrong)

/-- 'convoylaw05.BloomMay': WHATEVER THE INPUT: true; the input reads as it did. -/
def bloomMaySpec : ChangeSpec := { name := "bloomMay", fn := fun _ => fun
  | [d1, d2] => { results := [.lit (.bool true)], args := [d1, d2] }
  | _ => none }
def bloomMayRow : OpenClaim := { program := "ytnbomifnbhijbaa", sum := "5458cb4660e65e1d4307338b817c8f601dd7eea48dc33966f5942e376dfcd3c0", func := "convoy/convoylaw05.BloomMay", spec := "bloomMay", unfollowed := true, recurses := true, apart := false }
def BloomMaySaid : Prop := bloomMayRow.holds Try.pinned (OpenSpec.ofChange bloomMaySpec)

/-- ITS FALSE NEIGHBOUR: 'it returns false'. Refute it at one input. -/
def bloomMayWrong : ChangeSpec := { name := "bloomMay", fn := fun _ => fun
  | [d1, d2] => { results := [.lit (.bool false)], args := [d1, d2] }
  | _ => none }
def BloomMayWrongFalsely : Prop := bloomMayRow.holds Try.pinned (OpenSpec.ofChange bloomMayWrong)

/-- 'convoylaw05.BloomKeeps': WHATEVER THE INPUT: true; the input reads as it did. -/
def bloomKeepsSpec : ChangeSpec := { name := "bloomKeeps", fn := fun _ => fun
  | [d1, d2] => { results := [.lit (.bool true)], args := [d1, d2] }
  | _ => none }
def bloomKeepsRow : OpenClaim := { program := "ytnbomifnbhijbaa", sum := "5458cb4660e65e1d4307338b817c8f601dd7eea48dc33966f5942e376dfcd3c0", func := "convoy/convoylaw05.BloomKeeps", spec := "bloomKeeps", unfollowed := true, recurses := true, apart := false }
def BloomKeepsSaid : Prop := bloomKeepsRow.holds Try.pinned (OpenSpec.ofChange bloomKeepsSpec)

/-- ITS FALSE NEIGHBOUR: 'it returns false'. Refute it at one input. -/
def bloomKeepsWrong : ChangeSpec := { name := "bloomKeeps", fn := fun _ => fun
  | [d1, d2] => { results := [.lit (.bool false)], args := [d1, d2] }
  | _ => none }
def BloomKeepsWrongFalsely : Prop := bloomKeepsRow.holds Try.pinned (OpenSpec.ofChange bloomKeepsWrong)

/-- 'convoylaw05.BloomTells': WHATEVER THE INPUT: true; the input reads as it did. -/
def bloomTellsSpec : ChangeSpec := { name := "bloomTells", fn := fun _ => fun
  | [d1, d2, d3] => { results := [.lit (.bool true)], args := [d1, d2, d3] }
  | _ => none }
def bloomTellsRow : OpenClaim := { program := "ytnbomifnbhijbaa", sum := "5458cb4660e65e1d4307338b817c8f601dd7eea48dc33966f5942e376dfcd3c0", func := "convoy/convoylaw05.BloomTells", spec := "bloomTells", unfollowed := true, recurses := true, apart := false }
def BloomTellsSaid : Prop := bloomTellsRow.holds Try.pinned (OpenSpec.ofChange bloomTellsSpec)

/-- ITS FALSE NEIGHBOUR: 'it returns false'. Refute it at one input. -/
def bloomTellsWrong : ChangeSpec := { name := "bloomTells", fn := fun _ => fun
  | [d1, d2, d3] => { results := [.lit (.bool false)], args := [d1, d2, d3] }
  | _ => none }
def BloomTellsWrongFalsely : Prop := bloomTellsRow.holds Try.pinned (OpenSpec.ofChange bloomTellsWrong)

/-- 'convoylaw05.BloomOwn': WHATEVER THE INPUT: true; the input reads as it did. -/
def bloomOwnSpec : ChangeSpec := { name := "bloomOwn", fn := fun _ => fun
  | [d1, d2] => { results := [.lit (.bool true)], args := [d1, d2] }
  | _ => none }
def bloomOwnRow : OpenClaim := { program := "ytnbomifnbhijbaa", sum := "5458cb4660e65e1d4307338b817c8f601dd7eea48dc33966f5942e376dfcd3c0", func := "convoy/convoylaw05.BloomOwn", spec := "bloomOwn", unfollowed := true, recurses := true, apart := false }
def BloomOwnSaid : Prop := bloomOwnRow.holds Try.pinned (OpenSpec.ofChange bloomOwnSpec)

/-- ITS FALSE NEIGHBOUR: 'it returns false'. Refute it at one input. -/
def bloomOwnWrong : ChangeSpec := { name := "bloomOwn", fn := fun _ => fun
  | [d1, d2] => { results := [.lit (.bool false)], args := [d1, d2] }
  | _ => none }
def BloomOwnWrongFalsely : Prop := bloomOwnRow.holds Try.pinned (OpenSpec.ofChange bloomOwnWrong)

/- THE SECOND FORM. 'bulk': how many values and letters a reading holds, each counted each time it is reached (what is shared counts as often as it is met; a slice's spare places count too). A statement '..UptoSaid' is the law's where the arguments, and the package variables that the reading takes, are together of bulk at most 1048576: NARROWER than '..Said'. Prove '..Said' where nothing that the law and all that it calls make is longer than what came in: it says more and counts as full. Else prove '..UptoSaid'. A law counts once. -/
mutual
def uptoBulk {H : Type} : DataW H → Nat
  | .lit (.string bytes) => bytes.length + 1
  | .lit _ => 1
  | .nil => 1
  | .ptr d => uptoBulk d + 1
  | .slice elems spare => uptoBulkAll elems + uptoBulkAll spare + 1
  | .agg parts => uptoBulkAll parts + 1
  | .iface _ d => uptoBulk d + 1
  | .map entries => uptoBulkEntries entries + 1
  | .held _ => 1
def uptoBulkAll {H : Type} : List (DataW H) → Nat
  | [] => 0
  | d :: r => uptoBulk d + uptoBulkAll r
def uptoBulkEntries {H : Type} : List (Lit × DataW H) → Nat
  | [] => 0
  | x :: r => uptoBulkEntry x + uptoBulkEntries r
def uptoBulkEntry {H : Type} : Lit × DataW H → Nat
  | (.string bytes, d) => bytes.length + uptoBulk d + 1
  | (_, d) => uptoBulk d + 1
 end
def uptoSmall : (H : Type) → List (DataW H) → Bool := fun _ ds => decide (uptoBulkAll ds ≤ 1048576)
def OpenSpec.upto (s : _root_.Go.ChangeSpec) : _root_.Go.OpenSpec := { _root_.Go.OpenSpec.ofChange s with cond := some uptoSmall }

/-- 'convoylaw04.MemPlays', WHERE WHAT IT READS IS OF BULK AT MOST 1048576: true; the input reads as it did. -/
def memPlaysUptoRow : OpenClaim := { program := "ytnbomifnbhijbaa", sum := "5458cb4660e65e1d4307338b817c8f601dd7eea48dc33966f5942e376dfcd3c0", func := "convoy/convoylaw04.MemPlays", spec := "memPlays", unfollowed := true, recurses := true, apart := false, narrowed := true }
def MemPlaysUptoSaid : Prop := memPlaysUptoRow.holds Try.pinned (OpenSpec.upto memPlaysSpec)

/-- 'convoylaw04.MemHeights', WHERE WHAT IT READS IS OF BULK AT MOST 1048576: true; the input reads as it did. -/
def memHeightsUptoRow : OpenClaim := { program := "ytnbomifnbhijbaa", sum := "5458cb4660e65e1d4307338b817c8f601dd7eea48dc33966f5942e376dfcd3c0", func := "convoy/convoylaw04.MemHeights", spec := "memHeights", unfollowed := true, recurses := true, apart := false, narrowed := true }
def MemHeightsUptoSaid : Prop := memHeightsUptoRow.holds Try.pinned (OpenSpec.upto memHeightsSpec)

/-- 'convoylaw04.MemOwn', WHERE WHAT IT READS IS OF BULK AT MOST 1048576: true; the input reads as it did. -/
def memOwnUptoRow : OpenClaim := { program := "ytnbomifnbhijbaa", sum := "5458cb4660e65e1d4307338b817c8f601dd7eea48dc33966f5942e376dfcd3c0", func := "convoy/convoylaw04.MemOwn", spec := "memOwn", unfollowed := true, recurses := true, apart := false, narrowed := true }
def MemOwnUptoSaid : Prop := memOwnUptoRow.holds Try.pinned (OpenSpec.upto memOwnSpec)

/-- 'convoylaw05.BloomBuilds', WHERE WHAT IT READS IS OF BULK AT MOST 1048576: true; the input reads as it did. -/
def bloomBuildsUptoRow : OpenClaim := { program := "ytnbomifnbhijbaa", sum := "5458cb4660e65e1d4307338b817c8f601dd7eea48dc33966f5942e376dfcd3c0", func := "convoy/convoylaw05.BloomBuilds", spec := "bloomBuilds", unfollowed := true, recurses := true, apart := false, narrowed := true }
def BloomBuildsUptoSaid : Prop := bloomBuildsUptoRow.holds Try.pinned (OpenSpec.upto bloomBuildsSpec)

/-- 'convoylaw05.BloomMay', WHERE WHAT IT READS IS OF BULK AT MOST 1048576: true; the input reads as it did. -/
def bloomMayUptoRow : OpenClaim := { program := "ytnbomifnbhijbaa", sum := "5458cb4660e65e1d4307338b817c8f601dd7eea48dc33966f5942e376dfcd3c0", func := "convoy/convoylaw05.BloomMay", spec := "bloomMay", unfollowed := true, recurses := true, apart := false, narrowed := true }
def BloomMayUptoSaid : Prop := bloomMayUptoRow.holds Try.pinned (OpenSpec.upto bloomMaySpec)

/-- 'convoylaw05.BloomKeeps', WHERE WHAT IT READS IS OF BULK AT MOST 1048576: true; the input reads as it did. -/
def bloomKeepsUptoRow : OpenClaim := { program := "ytnbomifnbhijbaa", sum := "5458cb4660e65e1d4307338b817c8f601dd7eea48dc33966f5942e376dfcd3c0", func := "convoy/convoylaw05.BloomKeeps", spec := "bloomKeeps", unfollowed := true, recurses := true, apart := false, narrowed := true }
def BloomKeepsUptoSaid : Prop := bloomKeepsUptoRow.holds Try.pinned (OpenSpec.upto bloomKeepsSpec)

/-- 'convoylaw05.BloomTells', WHERE WHAT IT READS IS OF BULK AT MOST 1048576: true; the input reads as it did. -/
def bloomTellsUptoRow : OpenClaim := { program := "ytnbomifnbhijbaa", sum := "5458cb4660e65e1d4307338b817c8f601dd7eea48dc33966f5942e376dfcd3c0", func := "convoy/convoylaw05.BloomTells", spec := "bloomTells", unfollowed := true, recurses := true, apart := false, narrowed := true }
def BloomTellsUptoSaid : Prop := bloomTellsUptoRow.holds Try.pinned (OpenSpec.upto bloomTellsSpec)

/-- 'convoylaw05.BloomOwn', WHERE WHAT IT READS IS OF BULK AT MOST 1048576: true; the input reads as it did. -/
def bloomOwnUptoRow : OpenClaim := { program := "ytnbomifnbhijbaa", sum := "5458cb4660e65e1d4307338b817c8f601dd7eea48dc33966f5942e376dfcd3c0", func := "convoy/convoylaw05.BloomOwn", spec := "bloomOwn", unfollowed := true, recurses := true, apart := false, narrowed := true }
def BloomOwnUptoSaid : Prop := bloomOwnUptoRow.holds Try.pinned (OpenSpec.upto bloomOwnSpec)

end Rows
end Go.Proofs.Ytnbomifnbhijbaa
