/-
  No cell of these rows narrows 'for every input' (looked for: loops, veiled, ifaces, maps, wideKeys, modest, calm, conditions, laid).
  DERIVED. THE GIVEN ROWS OF THIS SEAT. 4 by the template 'for every input the law returns true; each argument reads behind the call as it read before'; 0 by the template 'total and deterministic' (their statements: YtgbedoffgahhaaaTotals.lean).
  GIVEN WITH THE SEED: the statements are not yours to turn. If you find one false, say at which input.
  Laid BY PROGRAM, IN A SANDBOX (cutbox-rows.mjs): the forced cells as the released guide's own fill.sh prints them over the translation 60f651c832e1b226… (all of the seat's roots in one cut). By AI agents, Wed Nov 11 2026. No macro, syntax, notation, axiom, sorry.
-/
import Derived.Test.YtgbedoffgahhaaaChecked
import GoSem.Claim
import GoSem.ClaimJoined
import GoSem.ClaimMapViews
import Derived.JoinedTies
import Derived.KernelRfl
namespace Go.Proofs.Ytgbedoffgahhaaa
/- THE CELL 'sum', in the pinned program and in every row, IS THE sha256 OF THE DUMP (.gsa) THAT YtgbedoffgahhaaaProg.lean LOADS. Nothing in Lean hashes anything: it is a label: what it is worth is what the hold of that sum in a sandbox is worth. -/
noncomputable def Try.pinned : Pinned := { name := "ytgbedoffgahhaaa", sum := "60f651c832e1b2268681a979639e74d5f12c9d437950c3e44537ac92c112a8d8", checked := Try.checked }
namespace Rows
def none {H : Type} : Left H := { results := [], args := [] }

/-- 'quiltlaw12.RegionClash': WHATEVER THE INPUT: true; the input reads as it did. -/
def regionClashSpec : ChangeSpec := { name := "regionClash", fn := fun _ => fun
  | [d1, d2] => { results := [.lit (.bool true)], args := [d1, d2] }
  | _ => none }
def regionClashRow : OpenClaim := { program := "ytgbedoffgahhaaa", sum := "60f651c832e1b2268681a979639e74d5f12c9d437950c3e44537ac92c112a8d8", func := "quilt/quiltlaw12.RegionClash", spec := "regionClash", unfollowed := true, recurses := true, apart := false }
def RegionClashSaid : Prop := regionClashRow.holds Try.pinned (OpenSpec.ofChange regionClashSpec)

/-- ITS FALSE NEIGHBOUR: 'it returns false'. Refute it at one input. -/
def regionClashWrong : ChangeSpec := { name := "regionClash", fn := fun _ => fun
  | [d1, d2] => { results := [.lit (.bool false)], args := [d1, d2] }
  | _ => none }
def RegionClashWrongFalsely : Prop := regionClashRow.holds Try.pinned (OpenSpec.ofChange regionClashWrong)

/-- 'quiltlaw12.RegionParts': WHATEVER THE INPUT: true; the input reads as it did. -/
def regionPartsSpec : ChangeSpec := { name := "regionParts", fn := fun _ => fun
  | [d1, d2, d3] => { results := [.lit (.bool true)], args := [d1, d2, d3] }
  | _ => none }
def regionPartsRow : OpenClaim := { program := "ytgbedoffgahhaaa", sum := "60f651c832e1b2268681a979639e74d5f12c9d437950c3e44537ac92c112a8d8", func := "quilt/quiltlaw12.RegionParts", spec := "regionParts", unfollowed := true, recurses := true, apart := false }
def RegionPartsSaid : Prop := regionPartsRow.holds Try.pinned (OpenSpec.ofChange regionPartsSpec)

/-- ITS FALSE NEIGHBOUR: 'it returns false'. Refute it at one input. -/
def regionPartsWrong : ChangeSpec := { name := "regionParts", fn := fun _ => fun
  | [d1, d2, d3] => { results := [.lit (.bool false)], args := [d1, d2, d3] }
  | _ => none }
def RegionPartsWrongFalsely : Prop := regionPartsRow.holds Try.pinned (OpenSpec.ofChange regionPartsWrong)

/-- 'quiltlaw12.RegionMoves': WHATEVER THE INPUT: true; the input reads as it did. -/
def regionMovesSpec : ChangeSpec := { name := "regionMoves", fn := fun _ => fun
  | [d1, d2, d3] => { results := [.lit (.bool true)], args := [d1, d2, d3] }
  | _ => none }
def regionMovesRow : OpenClaim := { program := "ytgbedoffgahhaaa", sum := "60f651c832e1b2268681a979639e74d5f12c9d437950c3e44537ac92c112a8d8", func := "quilt/quiltlaw12.RegionMoves", spec := "regionMoves", unfollowed := true, recurses := true, apart := false }
def RegionMovesSaid : Prop := regionMovesRow.holds Try.pinned (OpenSpec.ofChange regionMovesSpec)

/-- ITS FALSE NEIGHBOUR: 'it returns false'. Refute it at one input. -/
def regionMovesWrong : ChangeSpec := { name := "regionMoves", fn := fun _ => fun
  | [d1, d2, d3] => { results := [.lit (.bool false)], args := [d1, d2, d3] }
  | _ => none }
def RegionMovesWrongFalsely : Prop := regionMovesRow.holds Try.pinned (OpenSpec.ofChange regionMovesWrong)

/-- 'quiltlaw12.RegionNodes': WHATEVER THE INPUT: true; the input reads as it did. -/
def regionNodesSpec : ChangeSpec := { name := "regionNodes", fn := fun _ => fun
  | [d1, d2] => { results := [.lit (.bool true)], args := [d1, d2] }
  | _ => none }
def regionNodesRow : OpenClaim := { program := "ytgbedoffgahhaaa", sum := "60f651c832e1b2268681a979639e74d5f12c9d437950c3e44537ac92c112a8d8", func := "quilt/quiltlaw12.RegionNodes", spec := "regionNodes", unfollowed := true, recurses := true, apart := false }
def RegionNodesSaid : Prop := regionNodesRow.holds Try.pinned (OpenSpec.ofChange regionNodesSpec)

/-- ITS FALSE NEIGHBOUR: 'it returns false'. Refute it at one input. -/
def regionNodesWrong : ChangeSpec := { name := "regionNodes", fn := fun _ => fun
  | [d1, d2] => { results := [.lit (.bool false)], args := [d1, d2] }
  | _ => none }
def RegionNodesWrongFalsely : Prop := regionNodesRow.holds Try.pinned (OpenSpec.ofChange regionNodesWrong)

/- THE SECOND FORM. 'bulk': how many values and letters a reading holds, each counted each time it is reached (what is shared counts as often as it is met; a slice's spare places count too). A statement '..UptoSaid' is the law's where the arguments, and the package variables that the reading takes, are together of bulk at most 1048576: NARROWER than '..Said'. Prove '..Said' where nothing that the law and all that it calls make is longer than what came in: it says more and counts as full. Else prove '..UptoSaid'. A law counts once. -/
mutual
def uptoBulk {H : Type} : DataW H → Nat
  | .lit (.string bytes) => bytes.length + 1
  | .lit _ => 1
  | .nil => 1
  | .ptr d => uptoBulk d + 1
  | .slice elems spare => uptoBulkAll elems + uptoBulkAll spare + 1
  | .agg parts => uptoBulkAll parts + 1
  | .iface _ d => uptoBulk d + 1
  | .map entries => uptoBulkEntries entries + 1
  | .held _ => 1
def uptoBulkAll {H : Type} : List (DataW H) → Nat
  | [] => 0
  | d :: r => uptoBulk d + uptoBulkAll r
def uptoBulkEntries {H : Type} : List (Lit × DataW H) → Nat
  | [] => 0
  | x :: r => uptoBulkEntry x + uptoBulkEntries r
def uptoBulkEntry {H : Type} : Lit × DataW H → Nat
  | (.string bytes, d) => bytes.length + uptoBulk d + 1
  | (_, d) => uptoBulk d + 1
 end
def uptoSmall : (H : Type) → List (DataW H) → Bool := fun _ ds => decide (uptoBulkAll ds ≤ 1048576)
def OpenSpec.upto (s : _root_.Go.ChangeSpec) : _root_.Go.OpenSpec := { _root_.Go.OpenSpec.ofChange s with cond := some uptoSmall }

/-- 'quiltlaw12.RegionClash', WHERE WHAT IT READS IS OF BULK AT MOST 1048576: true; the input reads as it did. -/
def regionClashUptoRow : OpenClaim := { program := "ytgbedoffgahhaaa", sum := "60f651c832e1b2268681a979639e74d5f12c9d437950c3e44537ac92c112a8d8", func := "quilt/quiltlaw12.RegionClash", spec := "regionClash", unfollowed := true, recurses := true, apart := false, narrowed := true }
def RegionClashUptoSaid : Prop := regionClashUptoRow.holds Try.pinned (OpenSpec.upto regionClashSpec)

/-- 'quiltlaw12.RegionParts', WHERE WHAT IT READS IS OF BULK AT MOST 1048576: true; the input reads as it did. -/
def regionPartsUptoRow : OpenClaim := { program := "ytgbedoffgahhaaa", sum := "60f651c832e1b2268681a979639e74d5f12c9d437950c3e44537ac92c112a8d8", func := "quilt/quiltlaw12.RegionParts", spec := "regionParts", unfollowed := true, recurses := true, apart := false, narrowed := true }
def RegionPartsUptoSaid : Prop := regionPartsUptoRow.holds Try.pinned (OpenSpec.upto regionPartsSpec)

/-- 'quiltlaw12.RegionMoves', WHERE WHAT IT READS IS OF BULK AT MOST 1048576: true; the input reads as it did. -/
def regionMovesUptoRow : OpenClaim := { program := "ytgbedoffgahhaaa", sum := "60f651c832e1b2268681a979639e74d5f12c9d437950c3e44537ac92c112a8d8", func := "quilt/quiltlaw12.RegionMoves", spec := "regionMoves", unfollowed := true, recurses := true, apart := false, narrowed := true }
def RegionMovesUptoSaid : Prop := regionMovesUptoRow.holds Try.pinned (OpenSpec.upto regionMovesSpec)

/-- 'quiltlaw12.RegionNodes', WHERE WHAT IT READS IS OF BULK AT MOST 1048576: true; the input reads as it did. -/
def regionNodesUptoRow : OpenClaim := { program := "ytgbedoffgahhaaa", sum := "60f651c832e1b2268681a979639e74d5f12c9d437950c3e44537ac92c112a8d8", func := "quilt/quiltlaw12.RegionNodes", spec := "regionNodes", unfollowed := true, recurses := true, apart := false, narrowed := true }
def RegionNodesUptoSaid : Prop := regionNodesUptoRow.holds Try.pinned (OpenSpec.upto regionNodesSpec)

end Rows
end Go.Proofs.Ytgbedoffgahhaaa
