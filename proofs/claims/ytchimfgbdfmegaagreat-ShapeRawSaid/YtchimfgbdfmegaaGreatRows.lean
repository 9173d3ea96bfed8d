/-
  No cell of these rows narrows 'for every input' (looked for: loops, veiled, ifaces, maps, wideKeys, modest, calm, conditions, laid).
  DERIVED. THE GIVEN ROWS OF THIS SEAT. 5 by the template 'for every input the law returns true; each argument reads behind the call as it read before'; 0 by the template 'total and deterministic' (their statements: YtchimfgbdfmegaaGreatTotals.lean).
  GIVEN WITH THE SEED: the statements are not yours to turn. If you find one false, say at which input.
  Laid BY PROGRAM, IN A SANDBOX (cutbox-rows.mjs): the forced cells as the released guide's own fill.sh prints them over the translation fd36fed25095bd3a… (all of the seat's roots in one cut). By AI agents, Wed Nov 11 2026. No macro, syntax, notation, axiom, sorry.
-/
import Derived.Test.YtchimfgbdfmegaaGreatChecked
import GoSem.Claim
import GoSem.ClaimJoined
import GoSem.ClaimMapViews
import Derived.JoinedTies
import Derived.KernelRfl
namespace Go.Proofs.YtchimfgbdfmegaaGreat
/- THE CELL 'sum', in the pinned program and in every row, IS THE sha256 OF THE DUMP (.gsa) THAT YtchimfgbdfmegaaGreatProg.lean LOADS. Nothing in Lean hashes anything: it is a label: what it is worth is what the hold of that sum in a sandbox is worth. -/
noncomputable def Tryz.pinned : Pinned := { name := "ytchimfgbdfmegaagreat", sum := "fd36fed25095bd3ad4467d407fe231494b8940a842b96579b0a2630c40e1cea7", checked := Tryz.checked }
namespace Rows
def none {H : Type} : Left H := { results := [], args := [] }

/-- 'quicksetlaw07.ShapeTries': WHATEVER THE INPUT: true; the input reads as it did. -/
def shapeTriesSpec : ChangeSpec := { name := "shapeTries", fn := fun _ => fun
  | [d1, d2, d3] => { results := [.lit (.bool true)], args := [d1, d2, d3] }
  | _ => none }
def shapeTriesRow : OpenClaim := { program := "ytchimfgbdfmegaagreat", sum := "fd36fed25095bd3ad4467d407fe231494b8940a842b96579b0a2630c40e1cea7", func := "quickset/quicksetlaw07.ShapeTries", spec := "shapeTries", inPlace := ["internal/bytealg.abigen_runtime_cmpstring", "slices.overlaps[quickset/pair.Pair]", "slices.overlaps[*quickset/node.Node]"], unfollowed := true, recurses := true, apart := false }
def ShapeTriesSaid : Prop := shapeTriesRow.holds Tryz.pinned (OpenSpec.ofChange shapeTriesSpec)

/-- ITS FALSE NEIGHBOUR: 'it returns false'. Refute it at one input. -/
def shapeTriesWrong : ChangeSpec := { name := "shapeTries", fn := fun _ => fun
  | [d1, d2, d3] => { results := [.lit (.bool false)], args := [d1, d2, d3] }
  | _ => none }
def ShapeTriesWrongFalsely : Prop := shapeTriesRow.holds Tryz.pinned (OpenSpec.ofChange shapeTriesWrong)

/-- 'quicksetlaw07.ShapeRaw': WHATEVER THE INPUT: true; the input reads as it did. -/
def shapeRawSpec : ChangeSpec := { name := "shapeRaw", fn := fun _ => fun
  | [d1, d2] => { results := [.lit (.bool true)], args := [d1, d2] }
  | _ => none }
def shapeRawRow : OpenClaim := { program := "ytchimfgbdfmegaagreat", sum := "fd36fed25095bd3ad4467d407fe231494b8940a842b96579b0a2630c40e1cea7", func := "quickset/quicksetlaw07.ShapeRaw", spec := "shapeRaw", inPlace := ["slices.overlaps[*quickset/node.Node]", "internal/bytealg.abigen_runtime_cmpstring", "slices.overlaps[quickset/pair.Pair]"], unfollowed := true, recurses := true, apart := false }
def ShapeRawSaid : Prop := shapeRawRow.holds Tryz.pinned (OpenSpec.ofChange shapeRawSpec)

/-- ITS FALSE NEIGHBOUR: 'it returns false'. Refute it at one input. -/
def shapeRawWrong : ChangeSpec := { name := "shapeRaw", fn := fun _ => fun
  | [d1, d2] => { results := [.lit (.bool false)], args := [d1, d2] }
  | _ => none }
def ShapeRawWrongFalsely : Prop := shapeRawRow.holds Tryz.pinned (OpenSpec.ofChange shapeRawWrong)

/-- 'quicksetlaw07.ShapeBends': WHATEVER THE INPUT: true; the input reads as it did. -/
def shapeBendsSpec : ChangeSpec := { name := "shapeBends", fn := fun _ => fun
  | [d1, d2, d3, d4, d5] => { results := [.lit (.bool true)], args := [d1, d2, d3, d4, d5] }
  | _ => none }
def shapeBendsRow : OpenClaim := { program := "ytchimfgbdfmegaagreat", sum := "fd36fed25095bd3ad4467d407fe231494b8940a842b96579b0a2630c40e1cea7", func := "quickset/quicksetlaw07.ShapeBends", spec := "shapeBends", inPlace := ["internal/bytealg.abigen_runtime_cmpstring", "slices.overlaps[quickset/pair.Pair]", "slices.overlaps[*quickset/node.Node]"], unfollowed := true, recurses := true, apart := false }
def ShapeBendsSaid : Prop := shapeBendsRow.holds Tryz.pinned (OpenSpec.ofChange shapeBendsSpec)

/-- ITS FALSE NEIGHBOUR: 'it returns false'. Refute it at one input. -/
def shapeBendsWrong : ChangeSpec := { name := "shapeBends", fn := fun _ => fun
  | [d1, d2, d3, d4, d5] => { results := [.lit (.bool false)], args := [d1, d2, d3, d4, d5] }
  | _ => none }
def ShapeBendsWrongFalsely : Prop := shapeBendsRow.holds Tryz.pinned (OpenSpec.ofChange shapeBendsWrong)

/-- 'quicksetlaw07.ShapeOwners': WHATEVER THE INPUT: true; the input reads as it did. -/
def shapeOwnersSpec : ChangeSpec := { name := "shapeOwners", fn := fun _ => fun
  | [d1, d2] => { results := [.lit (.bool true)], args := [d1, d2] }
  | _ => none }
def shapeOwnersRow : OpenClaim := { program := "ytchimfgbdfmegaagreat", sum := "fd36fed25095bd3ad4467d407fe231494b8940a842b96579b0a2630c40e1cea7", func := "quickset/quicksetlaw07.ShapeOwners", spec := "shapeOwners", inPlace := ["internal/bytealg.abigen_runtime_cmpstring", "slices.overlaps[quickset/pair.Pair]", "slices.overlaps[*quickset/node.Node]"], unfollowed := true, recurses := true, apart := false }
def ShapeOwnersSaid : Prop := shapeOwnersRow.holds Tryz.pinned (OpenSpec.ofChange shapeOwnersSpec)

/-- ITS FALSE NEIGHBOUR: 'it returns false'. Refute it at one input. -/
def shapeOwnersWrong : ChangeSpec := { name := "shapeOwners", fn := fun _ => fun
  | [d1, d2] => { results := [.lit (.bool false)], args := [d1, d2] }
  | _ => none }
def ShapeOwnersWrongFalsely : Prop := shapeOwnersRow.holds Tryz.pinned (OpenSpec.ofChange shapeOwnersWrong)

/-- 'quicksetlaw07.ShapeHashers': WHATEVER THE INPUT: true; the input reads as it did. -/
def shapeHashersSpec : ChangeSpec := { name := "shapeHashers", fn := fun _ => fun
  | [d1, d2, d3] => { results := [.lit (.bool true)], args := [d1, d2, d3] }
  | _ => none }
def shapeHashersRow : OpenClaim := { program := "ytchimfgbdfmegaagreat", sum := "fd36fed25095bd3ad4467d407fe231494b8940a842b96579b0a2630c40e1cea7", func := "quickset/quicksetlaw07.ShapeHashers", spec := "shapeHashers", inPlace := ["internal/bytealg.abigen_runtime_cmpstring", "slices.overlaps[quickset/pair.Pair]", "slices.overlaps[*quickset/node.Node]"], unfollowed := true, recurses := true, apart := false }
def ShapeHashersSaid : Prop := shapeHashersRow.holds Tryz.pinned (OpenSpec.ofChange shapeHashersSpec)

/-- ITS FALSE NEIGHBOUR: 'it returns false'. Refute it at one input. -/
def shapeHashersWrong : ChangeSpec := { name := "shapeHashers", fn := fun _ => fun
  | [d1, d2, d3] => { results := [.lit (.bool false)], args := [d1, d2, d3] }
  | _ => none }
def ShapeHashersWrongFalsely : Prop := shapeHashersRow.holds Tryz.pinned (OpenSpec.ofChange shapeHashersWrong)

/- THE SECOND FORM. 'bulk': how many values and letters a reading holds, each counted each time it is reached (what is shared counts as often as it is met; a slice's spare places count too). A statement '..UptoSaid' is the law's where the arguments, and the package variables that the reading takes, are together of bulk at most 1048576: NARROWER than '..Said'. Prove '..Said' where nothing that the law and all that it calls make is longer than what came in: it says more and counts as full. Else prove '..UptoSaid'. A law counts once. -/
mutual
def uptoBulk {H : Type} : DataW H → Nat
  | .lit (.string bytes) => bytes.length + 1
  | .lit _ => 1
  | .nil => 1
  | .ptr d => uptoBulk d + 1
  | .slice elems spare => uptoBulkAll elems + uptoBulkAll spare + 1
  | .agg parts => uptoBulkAll parts + 1
  | .iface _ d => uptoBulk d + 1
  | .map entries => uptoBulkEntries entries + 1
  | .held _ => 1
def uptoBulkAll {H : Type} : List (DataW H) → Nat
  | [] => 0
  | d :: r => uptoBulk d + uptoBulkAll r
def uptoBulkEntries {H : Type} : List (Lit × DataW H) → Nat
  | [] => 0
  | x :: r => uptoBulkEntry x + uptoBulkEntries r
def uptoBulkEntry {H : Type} : Lit × DataW H → Nat
  | (.string bytes, d) => bytes.length + uptoBulk d + 1
  | (_, d) => uptoBulk d + 1
 end
def uptoSmall : (H : Type) → List (DataW H) → Bool := fun _ ds => decide (uptoBulkAll ds ≤ 1048576)
def OpenSpec.upto (s : _root_.Go.ChangeSpec) : _root_.Go.OpenSpec := { _root_.Go.OpenSpec.ofChange s with cond := some uptoSmall }

/-- 'quicksetlaw07.ShapeTries', WHERE WHAT IT READS IS OF BULK AT MOST 1048576: true; the input reads as it did. -/
def shapeTriesUptoRow : OpenClaim := { program := "ytchimfgbdfmegaagreat", sum := "fd36fed25095bd3ad4467d407fe231494b8940a842b96579b0a2630c40e1cea7", func := "quickset/quicksetlaw07.ShapeTries", spec := "shapeTries", inPlace := ["internal/bytealg.abigen_runtime_cmpstring", "slices.overlaps[quickset/pair.Pair]", "slices.overlaps[*quickset/node.Node]"], unfollowed := true, recurses := true, apart := false, narrowed := true }
def ShapeTriesUptoSaid : Prop := shapeTriesUptoRow.holds Tryz.pinned (OpenSpec.upto shapeTriesSpec)

/-- 'quicksetlaw07.ShapeRaw', WHERE WHAT IT READS IS OF BULK AT MOST 1048576: true; the input reads as it did. -/
def shapeRawUptoRow : OpenClaim := { program := "ytchimfgbdfmegaagreat", sum := "fd36fed25095bd3ad4467d407fe231494b8940a842b96579b0a2630c40e1cea7", func := "quickset/quicksetlaw07.ShapeRaw", spec := "shapeRaw", inPlace := ["slices.overlaps[*quickset/node.Node]", "internal/bytealg.abigen_runtime_cmpstring", "slices.overlaps[quickset/pair.Pair]"], unfollowed := true, recurses := true, apart := false, narrowed := true }
def ShapeRawUptoSaid : Prop := shapeRawUptoRow.holds Tryz.pinned (OpenSpec.upto shapeRawSpec)

/-- 'quicksetlaw07.ShapeBends', WHERE WHAT IT READS IS OF BULK AT MOST 1048576: true; the input reads as it did. -/
def shapeBendsUptoRow : OpenClaim := { program := "ytchimfgbdfmegaagreat", sum := "fd36fed25095bd3ad4467d407fe231494b8940a842b96579b0a2630c40e1cea7", func := "quickset/quicksetlaw07.ShapeBends", spec := "shapeBends", inPlace := ["internal/bytealg.abigen_runtime_cmpstring", "slices.overlaps[quickset/pair.Pair]", "slices.overlaps[*quickset/node.Node]"], unfollowed := true, recurses := true, apart := false, narrowed := true }
def ShapeBendsUptoSaid : Prop := shapeBendsUptoRow.holds Tryz.pinned (OpenSpec.upto shapeBendsSpec)

/-- 'quicksetlaw07.ShapeOwners', WHERE WHAT IT READS IS OF BULK AT MOST 1048576: true; the input reads as it did. -/
def shapeOwnersUptoRow : OpenClaim := { program := "ytchimfgbdfmegaagreat", sum := "fd36fed25095bd3ad4467d407fe231494b8940a842b96579b0a2630c40e1cea7", func := "quickset/quicksetlaw07.ShapeOwners", spec := "shapeOwners", inPlace := ["internal/bytealg.abigen_runtime_cmpstring", "slices.overlaps[quickset/pair.Pair]", "slices.overlaps[*quickset/node.Node]"], unfollowed := true, recurses := true, apart := false, narrowed := true }
def ShapeOwnersUptoSaid : Prop := shapeOwnersUptoRow.holds Tryz.pinned (OpenSpec.upto shapeOwnersSpec)

/-- 'quicksetlaw07.ShapeHashers', WHERE WHAT IT READS IS OF BULK AT MOST 1048576: true; the input reads as it did. -/
def shapeHashersUptoRow : OpenClaim := { program := "ytchimfgbdfmegaagreat", sum := "fd36fed25095bd3ad4467d407fe231494b8940a842b96579b0a2630c40e1cea7", func := "quickset/quicksetlaw07.ShapeHashers", spec := "shapeHashers", inPlace := ["internal/bytealg.abigen_runtime_cmpstring", "slices.overlaps[quickset/pair.Pair]", "slices.overlaps[*quickset/node.Node]"], unfollowed := true, recurses := true, apart := false, narrowed := true }
def ShapeHashersUptoSaid : Prop := shapeHashersUptoRow.holds Tryz.pinned (OpenSpec.upto shapeHashersSpec)

end Rows
end Go.Proofs.YtchimfgbdfmegaaGreat
