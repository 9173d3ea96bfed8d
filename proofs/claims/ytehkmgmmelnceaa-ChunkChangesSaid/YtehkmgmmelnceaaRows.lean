/-
  No cell of these rows narrows 'for every input' (looked for: loops, veiled, ifaces, maps, wideKeys, modest, calm, conditions, laid).
  DERIVED. THE GIVEN ROWS OF THIS SEAT. 8 by the template 'for every input the law returns true; each argument reads behind the call as it read before'; 0 by the template 'total and deterministic' (their statements: YtehkmgmmelnceaaTotals.lean).
  GIVEN WITH THE SEED: the statements are not yours to turn. If you find one false, say at which input.
  Laid BY PROGRAM, IN A SANDBOX (cutbox-rows.mjs): the forced cells as the released guide's own fill.sh prints them over the translation 1d5d513c035a5230… (all of the seat's roots in one cut). By AI agents, Wed Nov 11 2026. No macro, syntax, notation, axiom, sorry.
-/
import Derived.Test.YtehkmgmmelnceaaChecked
import GoSem.Claim
import GoSem.ClaimJoined
import GoSem.ClaimMapViews
import Derived.JoinedTies
import Derived.KernelRfl
namespace Go.Proofs.Ytehkmgmmelnceaa
/- THE CELL 'sum', in the pinned program and in every row, IS THE sha256 OF THE DUMP (.gsa) THAT YtehkmgmmelnceaaProg.lean LOADS. Nothing in Lean hashes anything: it is a label: what it is worth is what the hold of that sum in a sandbox is worth. -/
noncomputable def Try.pinned : Pinned := { name := "ytehkmgmmelnceaa", sum := "1d5d513c035a523018a8cce54a1dc7864b46f5b41610d47fec6147f1cce1f6f3", checked := Try.checked }
namespace Rows
def none {H : Type} : Left H := { results := [], args := [] }

/-- 'quicksetlaw01.SipSums': WHATEVER THE INPUT: true; the input reads as it did. -/
def sipSumsSpec : ChangeSpec := { name := "sipSums", fn := fun _ => fun
  | [d1, d2] => { results := [.lit (.bool true)], args := [d1, d2] }
  | _ => none }
def sipSumsRow : OpenClaim := { program := "ytehkmgmmelnceaa", sum := "1d5d513c035a523018a8cce54a1dc7864b46f5b41610d47fec6147f1cce1f6f3", func := "quickset/quicksetlaw01.SipSums", spec := "sipSums", apart := false }
def SipSumsSaid : Prop := sipSumsRow.holds Try.pinned (OpenSpec.ofChange sipSumsSpec)

/-- ITS FALSE NEIGHBOUR: 'it returns false'. Refute it at one input. -/
def sipSumsWrong : ChangeSpec := { name := "sipSums", fn := fun _ => fun
  | [d1, d2] => { results := [.lit (.bool false)], args := [d1, d2] }
  | _ => none }
def SipSumsWrongFalsely : Prop := sipSumsRow.holds Try.pinned (OpenSpec.ofChange sipSumsWrong)

/-- 'quicksetlaw01.SipTails': WHATEVER THE INPUT: true; the input reads as it did. -/
def sipTailsSpec : ChangeSpec := { name := "sipTails", fn := fun _ => fun
  | [d1, d2, d3] => { results := [.lit (.bool true)], args := [d1, d2, d3] }
  | _ => none }
def sipTailsRow : OpenClaim := { program := "ytehkmgmmelnceaa", sum := "1d5d513c035a523018a8cce54a1dc7864b46f5b41610d47fec6147f1cce1f6f3", func := "quickset/quicksetlaw01.SipTails", spec := "sipTails", apart := false }
def SipTailsSaid : Prop := sipTailsRow.holds Try.pinned (OpenSpec.ofChange sipTailsSpec)

/-- ITS FALSE NEIGHBOUR: 'it returns false'. Refute it at one input. -/
def sipTailsWrong : ChangeSpec := { name := "sipTails", fn := fun _ => fun
  | [d1, d2, d3] => { results := [.lit (.bool false)], args := [d1, d2, d3] }
  | _ => none }
def SipTailsWrongFalsely : Prop := sipTailsRow.holds Try.pinned (OpenSpec.ofChange sipTailsWrong)

/-- 'quicksetlaw01.SipHashes': WHATEVER THE INPUT: true; the input reads as it did. -/
def sipHashesSpec : ChangeSpec := { name := "sipHashes", fn := fun _ => fun
  | [d1, d2, d3] => { results := [.lit (.bool true)], args := [d1, d2, d3] }
  | _ => none }
def sipHashesRow : OpenClaim := { program := "ytehkmgmmelnceaa", sum := "1d5d513c035a523018a8cce54a1dc7864b46f5b41610d47fec6147f1cce1f6f3", func := "quickset/quicksetlaw01.SipHashes", spec := "sipHashes", apart := false }
def SipHashesSaid : Prop := sipHashesRow.holds Try.pinned (OpenSpec.ofChange sipHashesSpec)

/-- ITS FALSE NEIGHBOUR: 'it returns false'. Refute it at one input. -/
def sipHashesWrong : ChangeSpec := { name := "sipHashes", fn := fun _ => fun
  | [d1, d2, d3] => { results := [.lit (.bool false)], args := [d1, d2, d3] }
  | _ => none }
def SipHashesWrongFalsely : Prop := sipHashesRow.holds Try.pinned (OpenSpec.ofChange sipHashesWrong)

/-- 'quicksetlaw01.SipMasks': WHATEVER THE INPUT: true; the input reads as it did. -/
def sipMasksSpec : ChangeSpec := { name := "sipMasks", fn := fun _ => fun
  | [d1, d2, d3, d4] => { results := [.lit (.bool true)], args := [d1, d2, d3, d4] }
  | _ => none }
def sipMasksRow : OpenClaim := { program := "ytehkmgmmelnceaa", sum := "1d5d513c035a523018a8cce54a1dc7864b46f5b41610d47fec6147f1cce1f6f3", func := "quickset/quicksetlaw01.SipMasks", spec := "sipMasks", apart := false }
def SipMasksSaid : Prop := sipMasksRow.holds Try.pinned (OpenSpec.ofChange sipMasksSpec)

/-- ITS FALSE NEIGHBOUR: 'it returns false'. Refute it at one input. -/
def sipMasksWrong : ChangeSpec := { name := "sipMasks", fn := fun _ => fun
  | [d1, d2, d3, d4] => { results := [.lit (.bool false)], args := [d1, d2, d3, d4] }
  | _ => none }
def SipMasksWrongFalsely : Prop := sipMasksRow.holds Try.pinned (OpenSpec.ofChange sipMasksWrong)

/-- 'quicksetlaw02.ChunkLevels': WHATEVER THE INPUT: true; the input reads as it did. -/
def chunkLevelsSpec : ChangeSpec := { name := "chunkLevels", fn := fun _ => fun
  | [d1, d2] => { results := [.lit (.bool true)], args := [d1, d2] }
  | _ => none }
def chunkLevelsRow : OpenClaim := { program := "ytehkmgmmelnceaa", sum := "1d5d513c035a523018a8cce54a1dc7864b46f5b41610d47fec6147f1cce1f6f3", func := "quickset/quicksetlaw02.ChunkLevels", spec := "chunkLevels", apart := false }
def ChunkLevelsSaid : Prop := chunkLevelsRow.holds Try.pinned (OpenSpec.ofChange chunkLevelsSpec)

/-- ITS FALSE NEIGHBOUR: 'it returns false'. Refute it at one input. -/
def chunkLevelsWrong : ChangeSpec := { name := "chunkLevels", fn := fun _ => fun
  | [d1, d2] => { results := [.lit (.bool false)], args := [d1, d2] }
  | _ => none }
def ChunkLevelsWrongFalsely : Prop := chunkLevelsRow.holds Try.pinned (OpenSpec.ofChange chunkLevelsWrong)

/-- 'quicksetlaw02.ChunkSets': WHATEVER THE INPUT: true; the input reads as it did. -/
def chunkSetsSpec : ChangeSpec := { name := "chunkSets", fn := fun _ => fun
  | [d1, d2, d3] => { results := [.lit (.bool true)], args := [d1, d2, d3] }
  | _ => none }
def chunkSetsRow : OpenClaim := { program := "ytehkmgmmelnceaa", sum := "1d5d513c035a523018a8cce54a1dc7864b46f5b41610d47fec6147f1cce1f6f3", func := "quickset/quicksetlaw02.ChunkSets", spec := "chunkSets", unfollowed := true, recurses := true, apart := false }
def ChunkSetsSaid : Prop := chunkSetsRow.holds Try.pinned (OpenSpec.ofChange chunkSetsSpec)

/-- ITS FALSE NEIGHBOUR: 'it returns false'. Refute it at one input. -/
def chunkSetsWrong : ChangeSpec := { name := "chunkSets", fn := fun _ => fun
  | [d1, d2, d3] => { results := [.lit (.bool false)], args := [d1, d2, d3] }
  | _ => none }
def ChunkSetsWrongFalsely : Prop := chunkSetsRow.holds Try.pinned (OpenSpec.ofChange chunkSetsWrong)

/-- 'quicksetlaw02.ChunkChanges': WHATEVER THE INPUT: true; the input reads as it did. -/
def chunkChangesSpec : ChangeSpec := { name := "chunkChanges", fn := fun _ => fun
  | [d1, d2, d3] => { results := [.lit (.bool true)], args := [d1, d2, d3] }
  | _ => none }
def chunkChangesRow : OpenClaim := { program := "ytehkmgmmelnceaa", sum := "1d5d513c035a523018a8cce54a1dc7864b46f5b41610d47fec6147f1cce1f6f3", func := "quickset/quicksetlaw02.ChunkChanges", spec := "chunkChanges", unfollowed := true, recurses := true, apart := false }
def ChunkChangesSaid : Prop := chunkChangesRow.holds Try.pinned (OpenSpec.ofChange chunkChangesSpec)

/-- ITS FALSE NEIGHBOUR: 'it returns false'. Refute it at one input. -/
def chunkChangesWrong : ChangeSpec := { name := "chunkChanges", fn := fun _ => fun
  | [d1, d2, d3] => { results := [.lit (.bool false)], args := [d1, d2, d3] }
  | _ => none }
def ChunkChangesWrongFalsely : Prop := chunkChangesRow.holds Try.pinned (OpenSpec.ofChange chunkChangesWrong)

/-- 'quicksetlaw02.ChunkRanks': WHATEVER THE INPUT: true; the input reads as it did. -/
def chunkRanksSpec : ChangeSpec := { name := "chunkRanks", fn := fun _ => fun
  | [d1, d2] => { results := [.lit (.bool true)], args := [d1, d2] }
  | _ => none }
def chunkRanksRow : OpenClaim := { program := "ytehkmgmmelnceaa", sum := "1d5d513c035a523018a8cce54a1dc7864b46f5b41610d47fec6147f1cce1f6f3", func := "quickset/quicksetlaw02.ChunkRanks", spec := "chunkRanks", unfollowed := true, recurses := true, apart := false }
def ChunkRanksSaid : Prop := chunkRanksRow.holds Try.pinned (OpenSpec.ofChange chunkRanksSpec)

/-- ITS FALSE NEIGHBOUR: 'it returns false'. Refute it at one input. -/
def chunkRanksWrong : ChangeSpec := { name := "chunkRanks", fn := fun _ => fun
  | [d1, d2] => { results := [.lit (.bool false)], args := [d1, d2] }
  | _ => none }
def ChunkRanksWrongFalsely : Prop := chunkRanksRow.holds Try.pinned (OpenSpec.ofChange chunkRanksWrong)

/- THE SECOND FORM. 'bulk': how many values and letters a reading holds, each counted each time it is reached (what is shared counts as often as it is met; a slice's spare places count too). A statement '..UptoSaid' is the law's where the arguments, and the package variables that the reading takes, are together of bulk at most 1048576: NARROWER than '..Said'. Prove '..Said' where nothing that the law and all that it calls make is longer than what came in: it says more and counts as full. Else prove '..UptoSaid'. A law counts once. -/
mutual
def uptoBulk {H : Type} : DataW H → Nat
  | .lit (.string bytes) => bytes.length + 1
  | .lit _ => 1
  | .nil => 1
  | .ptr d => uptoBulk d + 1
  | .slice elems spare => uptoBulkAll elems + uptoBulkAll spare + 1
  | .agg parts => uptoBulkAll parts + 1
  | .iface _ d => uptoBulk d + 1
  | .map entries => uptoBulkEntries entries + 1
  | .held _ => 1
def uptoBulkAll {H : Type} : List (DataW H) → Nat
  | [] => 0
  | d :: r => uptoBulk d + uptoBulkAll r
def uptoBulkEntries {H : Type} : List (Lit × DataW H) → Nat
  | [] => 0
  | x :: r => uptoBulkEntry x + uptoBulkEntries r
def uptoBulkEntry {H : Type} : Lit × DataW H → Nat
  | (.string bytes, d) => bytes.length + uptoBulk d + 1
  | (_, d) => uptoBulk d + 1
 end
def uptoSmall : (H : Type) → List (DataW H) → Bool := fun _ ds => decide (uptoBulkAll ds ≤ 1048576)
def OpenSpec.upto (s : _root_.Go.ChangeSpec) : _root_.Go.OpenSpec := { _root_.Go.OpenSpec.ofChange s with cond := some uptoSmall }

/-- 'quicksetlaw01.SipSums', WHERE WHAT IT READS IS OF BULK AT MOST 1048576: true; the input reads as it did. -/
def sipSumsUptoRow : OpenClaim := { program := "ytehkmgmmelnceaa", sum := "1d5d513c035a523018a8cce54a1dc7864b46f5b41610d47fec6147f1cce1f6f3", func := "quickset/quicksetlaw01.SipSums", spec := "sipSums", apart := false, narrowed := true }
def SipSumsUptoSaid : Prop := sipSumsUptoRow.holds Try.pinned (OpenSpec.upto sipSumsSpec)

/-- 'quicksetlaw01.SipTails', WHERE WHAT IT READS IS OF BULK AT MOST 1048576: true; the input reads as it did. -/
def sipTailsUptoRow : OpenClaim := { program := "ytehkmgmmelnceaa", sum := "1d5d513c035a523018a8cce54a1dc7864b46f5b41610d47fec6147f1cce1f6f3", func := "quickset/quicksetlaw01.SipTails", spec := "sipTails", apart := false, narrowed := true }
def SipTailsUptoSaid : Prop := sipTailsUptoRow.holds Try.pinned (OpenSpec.upto sipTailsSpec)

/-- 'quicksetlaw01.SipHashes', WHERE WHAT IT READS IS OF BULK AT MOST 1048576: true; the input reads as it did. -/
def sipHashesUptoRow : OpenClaim := { program := "ytehkmgmmelnceaa", sum := "1d5d513c035a523018a8cce54a1dc7864b46f5b41610d47fec6147f1cce1f6f3", func := "quickset/quicksetlaw01.SipHashes", spec := "sipHashes", apart := false, narrowed := true }
def SipHashesUptoSaid : Prop := sipHashesUptoRow.holds Try.pinned (OpenSpec.upto sipHashesSpec)

/-- 'quicksetlaw01.SipMasks', WHERE WHAT IT READS IS OF BULK AT MOST 1048576: true; the input reads as it did. -/
def sipMasksUptoRow : OpenClaim := { program := "ytehkmgmmelnceaa", sum := "1d5d513c035a523018a8cce54a1dc7864b46f5b41610d47fec6147f1cce1f6f3", func := "quickset/quicksetlaw01.SipMasks", spec := "sipMasks", apart := false, narrowed := true }
def SipMasksUptoSaid : Prop := sipMasksUptoRow.holds Try.pinned (OpenSpec.upto sipMasksSpec)

/-- 'quicksetlaw02.ChunkLevels', WHERE WHAT IT READS IS OF BULK AT MOST 1048576: true; the input reads as it did. -/
def chunkLevelsUptoRow : OpenClaim := { program := "ytehkmgmmelnceaa", sum := "1d5d513c035a523018a8cce54a1dc7864b46f5b41610d47fec6147f1cce1f6f3", func := "quickset/quicksetlaw02.ChunkLevels", spec := "chunkLevels", apart := false, narrowed := true }
def ChunkLevelsUptoSaid : Prop := chunkLevelsUptoRow.holds Try.pinned (OpenSpec.upto chunkLevelsSpec)

/-- 'quicksetlaw02.ChunkSets', WHERE WHAT IT READS IS OF BULK AT MOST 1048576: true; the input reads as it did. -/
def chunkSetsUptoRow : OpenClaim := { program := "ytehkmgmmelnceaa", sum := "1d5d513c035a523018a8cce54a1dc7864b46f5b41610d47fec6147f1cce1f6f3", func := "quickset/quicksetlaw02.ChunkSets", spec := "chunkSets", unfollowed := true, recurses := true, apart := false, narrowed := true }
def ChunkSetsUptoSaid : Prop := chunkSetsUptoRow.holds Try.pinned (OpenSpec.upto chunkSetsSpec)

/-- 'quicksetlaw02.ChunkChanges', WHERE WHAT IT READS IS OF BULK AT MOST 1048576: true; the input reads as it did. -/
def chunkChangesUptoRow : OpenClaim := { program := "ytehkmgmmelnceaa", sum := "1d5d513c035a523018a8cce54a1dc7864b46f5b41610d47fec6147f1cce1f6f3", func := "quickset/quicksetlaw02.ChunkChanges", spec := "chunkChanges", unfollowed := true, recurses := true, apart := false, narrowed := true }
def ChunkChangesUptoSaid : Prop := chunkChangesUptoRow.holds Try.pinned (OpenSpec.upto chunkChangesSpec)

/-- 'quicksetlaw02.ChunkRanks', WHERE WHAT IT READS IS OF BULK AT MOST 1048576: true; the input reads as it did. -/
def chunkRanksUptoRow : OpenClaim := { program := "ytehkmgmmelnceaa", sum := "1d5d513c035a523018a8cce54a1dc7864b46f5b41610d47fec6147f1cce1f6f3", func := "quickset/quicksetlaw02.ChunkRanks", spec := "chunkRanks", unfollowed := true, recurses := true, apart := false, narrowed := true }
def ChunkRanksUptoSaid : Prop := chunkRanksUptoRow.holds Try.pinned (OpenSpec.upto chunkRanksSpec)

end Rows
end Go.Proofs.Ytehkmgmmelnceaa
