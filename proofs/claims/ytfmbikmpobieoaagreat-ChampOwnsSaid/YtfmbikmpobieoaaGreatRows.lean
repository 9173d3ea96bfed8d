/-
  No cell of these rows narrows 'for every input' (looked for: loops, veiled, ifaces, maps, wideKeys, modest, calm, conditions, laid).
  DERIVED. THE GIVEN ROWS OF THIS SEAT. 6 by the template 'for every input the law returns true; each argument reads behind the call as it read before'; 0 by the template 'total and deterministic' (their statements: YtfmbikmpobieoaaGreatTotals.lean).
  GIVEN WITH THE SEED: the statements are not yours to turn. If you find one false, say at which input.
  Laid BY PROGRAM, IN A SANDBOX (cutbox-rows.mjs): the forced cells as the released guide's own fill.sh prints them over the translation 97ac797dde1cb984… (all of the seat's roots in one cut). By AI agents, Wed Nov 11 2026. No macro, syntax, notation, axiom, sorry.
-/
import Derived.Test.YtfmbikmpobieoaaGreatChecked
import GoSem.Claim
import GoSem.ClaimJoined
import GoSem.ClaimMapViews
import Derived.JoinedTies
import Derived.KernelRfl
namespace Go.Proofs.YtfmbikmpobieoaaGreat
/- THE CELL 'sum', in the pinned program and in every row, IS THE sha256 OF THE DUMP (.gsa) THAT YtfmbikmpobieoaaGreatProg.lean LOADS. Nothing in Lean hashes anything: it is a label: what it is worth is what the hold of that sum in a sandbox is worth. -/
noncomputable def Tryz.pinned : Pinned := { name := "ytfmbikmpobieoaagreat", sum := "97ac797dde1cb98405fcc7632ac9b967292fc44fd3d1e509a22496669a5f900e", checked := Tryz.checked }
namespace Rows
def none {H : Type} : Left H := { results := [], args := [] }

/-- 'quicksetlaw06.ChampPlays': WHATEVER THE INPUT: true; the input reads as it did. -/
def champPlaysSpec : ChangeSpec := { name := "champPlays", fn := fun _ => fun
  | [d1, d2, d3] => { results := [.lit (.bool true)], args := [d1, d2, d3] }
  | _ => none }
def champPlaysRow : OpenClaim := { program := "ytfmbikmpobieoaagreat", sum := "97ac797dde1cb98405fcc7632ac9b967292fc44fd3d1e509a22496669a5f900e", func := "quickset/quicksetlaw06.ChampPlays", spec := "champPlays", inPlace := ["internal/bytealg.abigen_runtime_cmpstring", "slices.overlaps[quickset/pair.Pair]", "slices.overlaps[*quickset/node.Node]"], unfollowed := true, recurses := true, apart := false }
def ChampPlaysSaid : Prop := champPlaysRow.holds Tryz.pinned (OpenSpec.ofChange champPlaysSpec)

/-- ITS FALSE NEIGHBOUR: 'it returns false'. Refute it at one input. -/
def champPlaysWrong : ChangeSpec := { name := "champPlays", fn := fun _ => fun
  | [d1, d2, d3] => { results := [.lit (.bool false)], args := [d1, d2, d3] }
  | _ => none }
def ChampPlaysWrongFalsely : Prop := champPlaysRow.holds Tryz.pinned (OpenSpec.ofChange champPlaysWrong)

/-- 'quicksetlaw06.ChampVersions': WHATEVER THE INPUT: true; the input reads as it did. -/
def champVersionsSpec : ChangeSpec := { name := "champVersions", fn := fun _ => fun
  | [d1, d2] => { results := [.lit (.bool true)], args := [d1, d2] }
  | _ => none }
def champVersionsRow : OpenClaim := { program := "ytfmbikmpobieoaagreat", sum := "97ac797dde1cb98405fcc7632ac9b967292fc44fd3d1e509a22496669a5f900e", func := "quickset/quicksetlaw06.ChampVersions", spec := "champVersions", inPlace := ["internal/bytealg.abigen_runtime_cmpstring", "slices.overlaps[quickset/pair.Pair]", "slices.overlaps[*quickset/node.Node]"], unfollowed := true, recurses := true, apart := false }
def ChampVersionsSaid : Prop := champVersionsRow.holds Tryz.pinned (OpenSpec.ofChange champVersionsSpec)

/-- ITS FALSE NEIGHBOUR: 'it returns false'. Refute it at one input. -/
def champVersionsWrong : ChangeSpec := { name := "champVersions", fn := fun _ => fun
  | [d1, d2] => { results := [.lit (.bool false)], args := [d1, d2] }
  | _ => none }
def ChampVersionsWrongFalsely : Prop := champVersionsRow.holds Tryz.pinned (OpenSpec.ofChange champVersionsWrong)

/-- 'quicksetlaw06.ChampOwns': WHATEVER THE INPUT: true; the input reads as it did. -/
def champOwnsSpec : ChangeSpec := { name := "champOwns", fn := fun _ => fun
  | [d1, d2, d3, d4] => { results := [.lit (.bool true)], args := [d1, d2, d3, d4] }
  | _ => none }
def champOwnsRow : OpenClaim := { program := "ytfmbikmpobieoaagreat", sum := "97ac797dde1cb98405fcc7632ac9b967292fc44fd3d1e509a22496669a5f900e", func := "quickset/quicksetlaw06.ChampOwns", spec := "champOwns", inPlace := ["internal/bytealg.abigen_runtime_cmpstring", "slices.overlaps[quickset/pair.Pair]", "slices.overlaps[*quickset/node.Node]"], unfollowed := true, recurses := true, apart := false }
def ChampOwnsSaid : Prop := champOwnsRow.holds Tryz.pinned (OpenSpec.ofChange champOwnsSpec)

/-- ITS FALSE NEIGHBOUR: 'it returns false'. Refute it at one input. -/
def champOwnsWrong : ChangeSpec := { name := "champOwns", fn := fun _ => fun
  | [d1, d2, d3, d4] => { results := [.lit (.bool false)], args := [d1, d2, d3, d4] }
  | _ => none }
def ChampOwnsWrongFalsely : Prop := champOwnsRow.holds Tryz.pinned (OpenSpec.ofChange champOwnsWrong)

/-- 'quicksetlaw06.ChampOrders': WHATEVER THE INPUT: true; the input reads as it did. -/
def champOrdersSpec : ChangeSpec := { name := "champOrders", fn := fun _ => fun
  | [d1, d2, d3, d4] => { results := [.lit (.bool true)], args := [d1, d2, d3, d4] }
  | _ => none }
def champOrdersRow : OpenClaim := { program := "ytfmbikmpobieoaagreat", sum := "97ac797dde1cb98405fcc7632ac9b967292fc44fd3d1e509a22496669a5f900e", func := "quickset/quicksetlaw06.ChampOrders", spec := "champOrders", inPlace := ["internal/bytealg.abigen_runtime_cmpstring", "slices.overlaps[quickset/pair.Pair]", "slices.overlaps[*quickset/node.Node]"], unfollowed := true, recurses := true, apart := false }
def ChampOrdersSaid : Prop := champOrdersRow.holds Tryz.pinned (OpenSpec.ofChange champOrdersSpec)

/-- ITS FALSE NEIGHBOUR: 'it returns false'. Refute it at one input. -/
def champOrdersWrong : ChangeSpec := { name := "champOrders", fn := fun _ => fun
  | [d1, d2, d3, d4] => { results := [.lit (.bool false)], args := [d1, d2, d3, d4] }
  | _ => none }
def ChampOrdersWrongFalsely : Prop := champOrdersRow.holds Tryz.pinned (OpenSpec.ofChange champOrdersWrong)

/-- 'quicksetlaw06.ChampNil': WHATEVER THE INPUT: true; the input reads as it did. -/
def champNilSpec : ChangeSpec := { name := "champNil", fn := fun _ => fun
  | [d1, d2] => { results := [.lit (.bool true)], args := [d1, d2] }
  | _ => none }
def champNilRow : OpenClaim := { program := "ytfmbikmpobieoaagreat", sum := "97ac797dde1cb98405fcc7632ac9b967292fc44fd3d1e509a22496669a5f900e", func := "quickset/quicksetlaw06.ChampNil", spec := "champNil", inPlace := ["internal/bytealg.abigen_runtime_cmpstring", "slices.overlaps[quickset/pair.Pair]", "slices.overlaps[*quickset/node.Node]"], unfollowed := true, recurses := true, apart := false }
def ChampNilSaid : Prop := champNilRow.holds Tryz.pinned (OpenSpec.ofChange champNilSpec)

/-- ITS FALSE NEIGHBOUR: 'it returns false'. Refute it at one input. -/
def champNilWrong : ChangeSpec := { name := "champNil", fn := fun _ => fun
  | [d1, d2] => { results := [.lit (.bool false)], args := [d1, d2] }
  | _ => none }
def ChampNilWrongFalsely : Prop := champNilRow.holds Tryz.pinned (OpenSpec.ofChange champNilWrong)

/-- 'quicksetlaw06.ChampShrinks': WHATEVER THE INPUT: true; the input reads as it did. -/
def champShrinksSpec : ChangeSpec := { name := "champShrinks", fn := fun _ => fun
  | [d1, d2, d3, d4] => { results := [.lit (.bool true)], args := [d1, d2, d3, d4] }
  | _ => none }
def champShrinksRow : OpenClaim := { program := "ytfmbikmpobieoaagreat", sum := "97ac797dde1cb98405fcc7632ac9b967292fc44fd3d1e509a22496669a5f900e", func := "quickset/quicksetlaw06.ChampShrinks", spec := "champShrinks", inPlace := ["internal/bytealg.abigen_runtime_cmpstring", "slices.overlaps[quickset/pair.Pair]", "slices.overlaps[*quickset/node.Node]"], unfollowed := true, recurses := true, apart := false }
def ChampShrinksSaid : Prop := champShrinksRow.holds Tryz.pinned (OpenSpec.ofChange champShrinksSpec)

/-- ITS FALSE NEIGHBOUR: 'it returns false'. Refute it at one input. -/
def champShrinksWrong : ChangeSpec := { name := "champShrinks", fn := fun _ => fun
  | [d1, d2, d3, d4] => { results := [.lit (.bool false)], args := [d1, d2, d3, d4] }
  | _ => none }
def ChampShrinksWrongFalsely : Prop := champShrinksRow.holds Tryz.pinned (OpenSpec.ofChange champShrinksWrong)

/- THE SECOND FORM. 'bulk': how many values and letters a reading holds, each counted each time it is reached (what is shared counts as often as it is met; a slice's spare places count too). A statement '..UptoSaid' is the law's where the arguments, and the package variables that the reading takes, are together of bulk at most 1048576: NARROWER than '..Said'. Prove '..Said' where nothing that the law and all that it calls make is longer than what came in: it says more and counts as full. Else prove '..UptoSaid'. A law counts once. -/
mutual
def uptoBulk {H : Type} : DataW H → Nat
  | .lit (.string bytes) => bytes.length + 1
  | .lit _ => 1
  | .nil => 1
  | .ptr d => uptoBulk d + 1
  | .slice elems spare => uptoBulkAll elems + uptoBulkAll spare + 1
  | .agg parts => uptoBulkAll parts + 1
  | .iface _ d => uptoBulk d + 1
  | .map entries => uptoBulkEntries entries + 1
  | .held _ => 1
def uptoBulkAll {H : Type} : List (DataW H) → Nat
  | [] => 0
  | d :: r => uptoBulk d + uptoBulkAll r
def uptoBulkEntries {H : Type} : List (Lit × DataW H) → Nat
  | [] => 0
  | x :: r => uptoBulkEntry x + uptoBulkEntries r
def uptoBulkEntry {H : Type} : Lit × DataW H → Nat
  | (.string bytes, d) => bytes.length + uptoBulk d + 1
  | (_, d) => uptoBulk d + 1
 end
def uptoSmall : (H : Type) → List (DataW H) → Bool := fun _ ds => decide (uptoBulkAll ds ≤ 1048576)
def OpenSpec.upto (s : _root_.Go.ChangeSpec) : _root_.Go.OpenSpec := { _root_.Go.OpenSpec.ofChange s with cond := some uptoSmall }

/-- 'quicksetlaw06.ChampPlays', WHERE WHAT IT READS IS OF BULK AT MOST 1048576: true; the input reads as it did. -/
def champPlaysUptoRow : OpenClaim := { program := "ytfmbikmpobieoaagreat", sum := "97ac797dde1cb98405fcc7632ac9b967292fc44fd3d1e509a22496669a5f900e", func := "quickset/quicksetlaw06.ChampPlays", spec := "champPlays", inPlace := ["internal/bytealg.abigen_runtime_cmpstring", "slices.overlaps[quickset/pair.Pair]", "slices.overlaps[*quickset/node.Node]"], unfollowed := true, recurses := true, apart := false, narrowed := true }
def ChampPlaysUptoSaid : Prop := champPlaysUptoRow.holds Tryz.pinned (OpenSpec.upto champPlaysSpec)

/-- 'quicksetlaw06.ChampVersions', WHERE WHAT IT READS IS OF BULK AT MOST 1048576: true; the input reads as it did. -/
def champVersionsUptoRow : OpenClaim := { program := "ytfmbikmpobieoaagreat", sum := "97ac797dde1cb98405fcc7632ac9b967292fc44fd3d1e509a22496669a5f900e", func := "quickset/quicksetlaw06.ChampVersions", spec := "champVersions", inPlace := ["internal/bytealg.abigen_runtime_cmpstring", "slices.overlaps[quickset/pair.Pair]", "slices.overlaps[*quickset/node.Node]"], unfollowed := true, recurses := true, apart := false, narrowed := true }
def ChampVersionsUptoSaid : Prop := champVersionsUptoRow.holds Tryz.pinned (OpenSpec.upto champVersionsSpec)

/-- 'quicksetlaw06.ChampOwns', WHERE WHAT IT READS IS OF BULK AT MOST 1048576: true; the input reads as it did. -/
def champOwnsUptoRow : OpenClaim := { program := "ytfmbikmpobieoaagreat", sum := "97ac797dde1cb98405fcc7632ac9b967292fc44fd3d1e509a22496669a5f900e", func := "quickset/quicksetlaw06.ChampOwns", spec := "champOwns", inPlace := ["internal/bytealg.abigen_runtime_cmpstring", "slices.overlaps[quickset/pair.Pair]", "slices.overlaps[*quickset/node.Node]"], unfollowed := true, recurses := true, apart := false, narrowed := true }
def ChampOwnsUptoSaid : Prop := champOwnsUptoRow.holds Tryz.pinned (OpenSpec.upto champOwnsSpec)

/-- 'quicksetlaw06.ChampOrders', WHERE WHAT IT READS IS OF BULK AT MOST 1048576: true; the input reads as it did. -/
def champOrdersUptoRow : OpenClaim := { program := "ytfmbikmpobieoaagreat", sum := "97ac797dde1cb98405fcc7632ac9b967292fc44fd3d1e509a22496669a5f900e", func := "quickset/quicksetlaw06.ChampOrders", spec := "champOrders", inPlace := ["internal/bytealg.abigen_runtime_cmpstring", "slices.overlaps[quickset/pair.Pair]", "slices.overlaps[*quickset/node.Node]"], unfollowed := true, recurses := true, apart := false, narrowed := true }
def ChampOrdersUptoSaid : Prop := champOrdersUptoRow.holds Tryz.pinned (OpenSpec.upto champOrdersSpec)

/-- 'quicksetlaw06.ChampNil', WHERE WHAT IT READS IS OF BULK AT MOST 1048576: true; the input reads as it did. -/
def champNilUptoRow : OpenClaim := { program := "ytfmbikmpobieoaagreat", sum := "97ac797dde1cb98405fcc7632ac9b967292fc44fd3d1e509a22496669a5f900e", func := "quickset/quicksetlaw06.ChampNil", spec := "champNil", inPlace := ["internal/bytealg.abigen_runtime_cmpstring", "slices.overlaps[quickset/pair.Pair]", "slices.overlaps[*quickset/node.Node]"], unfollowed := true, recurses := true, apart := false, narrowed := true }
def ChampNilUptoSaid : Prop := champNilUptoRow.holds Tryz.pinned (OpenSpec.upto champNilSpec)

/-- 'quicksetlaw06.ChampShrinks', WHERE WHAT IT READS IS OF BULK AT MOST 1048576: true; the input reads as it did. -/
def champShrinksUptoRow : OpenClaim := { program := "ytfmbikmpobieoaagreat", sum := "97ac797dde1cb98405fcc7632ac9b967292fc44fd3d1e509a22496669a5f900e", func := "quickset/quicksetlaw06.ChampShrinks", spec := "champShrinks", inPlace := ["internal/bytealg.abigen_runtime_cmpstring", "slices.overlaps[quickset/pair.Pair]", "slices.overlaps[*quickset/node.Node]"], unfollowed := true, recurses := true, apart := false, narrowed := true }
def ChampShrinksUptoSaid : Prop := champShrinksUptoRow.holds Tryz.pinned (OpenSpec.upto champShrinksSpec)

end Rows
end Go.Proofs.YtfmbikmpobieoaaGreat
