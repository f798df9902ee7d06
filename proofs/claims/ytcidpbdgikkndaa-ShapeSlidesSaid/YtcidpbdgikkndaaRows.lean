/-
  No cell of these rows narrows 'for every input' (looked for: loops, veiled, ifaces, maps, wideKeys, modest, calm, conditions, laid).
  DERIVED. THE GIVEN ROWS OF THIS SEAT. 8 by the template 'for every input the law returns true; each argument reads behind the call as it read before'; 0 by the template 'total and deterministic' (their statements: YtcidpbdgikkndaaTotals.lean).
  GIVEN WITH THE SEED: the statements are not yours to turn. If you find one false, say at which input.
  Laid BY PROGRAM, IN A SANDBOX (cutbox-rows.mjs): the forced cells as the released guide's own fill.sh prints them over the translation 7619aea8fdaccda6… (all of the seat's roots in one cut). By AI agents, Wed Nov 11 2026. No macro, syntax, notation, axiom, sorry.
-/
import Derived.Test.YtcidpbdgikkndaaChecked
import GoSem.Claim
import GoSem.ClaimJoined
import GoSem.ClaimMapViews
import Derived.JoinedTies
import Derived.KernelRfl
namespace Go.Proofs.Ytcidpbdgikkndaa
/- THE CELL 'sum', in the pinned program and in every row, IS THE sha256 OF THE DUMP (.gsa) THAT YtcidpbdgikkndaaProg.lean LOADS. Nothing in Lean hashes anything: it is a label: what it is worth is what the hold of that sum in a sandbox is worth. -/
noncomputable def Try.pinned : Pinned := { name := "ytcidpbdgikkndaa", sum := "7619aea8fdaccda6731abf20ff0b7d6bd4e37c4a48e4b35d68d925bac263b96d", checked := Try.checked }
namespace Rows
def none {H : Type} : Left H := { results := [], args := [] }

/-- 'quiltlaw02.ShapeAll': WHATEVER THE INPUT: true; the input reads as it did. -/
def shapeAllSpec : ChangeSpec := { name := "shapeAll", fn := fun _ => fun
  | [d1, d2] => { results := [.lit (.bool true)], args := [d1, d2] }
  | _ => none }
def shapeAllRow : OpenClaim := { program := "ytcidpbdgikkndaa", sum := "7619aea8fdaccda6731abf20ff0b7d6bd4e37c4a48e4b35d68d925bac263b96d", func := "quilt/quiltlaw02.ShapeAll", spec := "shapeAll", unfollowed := true, recurses := true, apart := false }
def ShapeAllSaid : Prop := shapeAllRow.holds Try.pinned (OpenSpec.ofChange shapeAllSpec)

/-- ITS FALSE NEIGHBOUR: 'it returns false'. Refute it at one input. -/
def shapeAllWrong : ChangeSpec := { name := "shapeAll", fn := fun _ => fun
  | [d1, d2] => { results := [.lit (.bool false)], args := [d1, d2] }
  | _ => none }
def ShapeAllWrongFalsely : Prop := shapeAllRow.holds Try.pinned (OpenSpec.ofChange shapeAllWrong)

/-- 'quiltlaw02.ShapeWindows': WHATEVER THE INPUT: true; the input reads as it did. -/
def shapeWindowsSpec : ChangeSpec := { name := "shapeWindows", fn := fun _ => fun
  | [d1, d2, d3] => { results := [.lit (.bool true)], args := [d1, d2, d3] }
  | _ => none }
def shapeWindowsRow : OpenClaim := { program := "ytcidpbdgikkndaa", sum := "7619aea8fdaccda6731abf20ff0b7d6bd4e37c4a48e4b35d68d925bac263b96d", func := "quilt/quiltlaw02.ShapeWindows", spec := "shapeWindows", unfollowed := true, recurses := true, apart := false }
def ShapeWindowsSaid : Prop := shapeWindowsRow.holds Try.pinned (OpenSpec.ofChange shapeWindowsSpec)

/-- ITS FALSE NEIGHBOUR: 'it returns false'. Refute it at one input. -/
def shapeWindowsWrong : ChangeSpec := { name := "shapeWindows", fn := fun _ => fun
  | [d1, d2, d3] => { results := [.lit (.bool false)], args := [d1, d2, d3] }
  | _ => none }
def ShapeWindowsWrongFalsely : Prop := shapeWindowsRow.holds Try.pinned (OpenSpec.ofChange shapeWindowsWrong)

/-- 'quiltlaw02.ShapeIndexes': WHATEVER THE INPUT: true; the input reads as it did. -/
def shapeIndexesSpec : ChangeSpec := { name := "shapeIndexes", fn := fun _ => fun
  | [d] => { results := [.lit (.bool true)], args := [d] }
  | _ => none }
def shapeIndexesRow : OpenClaim := { program := "ytcidpbdgikkndaa", sum := "7619aea8fdaccda6731abf20ff0b7d6bd4e37c4a48e4b35d68d925bac263b96d", func := "quilt/quiltlaw02.ShapeIndexes", spec := "shapeIndexes", unfollowed := true, recurses := true, apart := false }
def ShapeIndexesSaid : Prop := shapeIndexesRow.holds Try.pinned (OpenSpec.ofChange shapeIndexesSpec)

/-- ITS FALSE NEIGHBOUR: 'it returns false'. Refute it at one input. -/
def shapeIndexesWrong : ChangeSpec := { name := "shapeIndexes", fn := fun _ => fun
  | [d] => { results := [.lit (.bool false)], args := [d] }
  | _ => none }
def ShapeIndexesWrongFalsely : Prop := shapeIndexesRow.holds Try.pinned (OpenSpec.ofChange shapeIndexesWrong)

/-- 'quiltlaw02.ShapeReaches': WHATEVER THE INPUT: true; the input reads as it did. -/
def shapeReachesSpec : ChangeSpec := { name := "shapeReaches", fn := fun _ => fun
  | [d1, d2, d3] => { results := [.lit (.bool true)], args := [d1, d2, d3] }
  | _ => none }
def shapeReachesRow : OpenClaim := { program := "ytcidpbdgikkndaa", sum := "7619aea8fdaccda6731abf20ff0b7d6bd4e37c4a48e4b35d68d925bac263b96d", func := "quilt/quiltlaw02.ShapeReaches", spec := "shapeReaches", unfollowed := true, recurses := true, apart := false }
def ShapeReachesSaid : Prop := shapeReachesRow.holds Try.pinned (OpenSpec.ofChange shapeReachesSpec)

/-- ITS FALSE NEIGHBOUR: 'it returns false'. Refute it at one input. -/
def shapeReachesWrong : ChangeSpec := { name := "shapeReaches", fn := fun _ => fun
  | [d1, d2, d3] => { results := [.lit (.bool false)], args := [d1, d2, d3] }
  | _ => none }
def ShapeReachesWrongFalsely : Prop := shapeReachesRow.holds Try.pinned (OpenSpec.ofChange shapeReachesWrong)

/-- 'quiltlaw02.ShapeSlides': WHATEVER THE INPUT: true; the input reads as it did. -/
def shapeSlidesSpec : ChangeSpec := { name := "shapeSlides", fn := fun _ => fun
  | [d1, d2, d3] => { results := [.lit (.bool true)], args := [d1, d2, d3] }
  | _ => none }
def shapeSlidesRow : OpenClaim := { program := "ytcidpbdgikkndaa", sum := "7619aea8fdaccda6731abf20ff0b7d6bd4e37c4a48e4b35d68d925bac263b96d", func := "quilt/quiltlaw02.ShapeSlides", spec := "shapeSlides", unfollowed := true, recurses := true, apart := false }
def ShapeSlidesSaid : Prop := shapeSlidesRow.holds Try.pinned (OpenSpec.ofChange shapeSlidesSpec)

/-- ITS FALSE NEIGHBOUR: 'it returns false'. Refute it at one input. -/
def shapeSlidesWrong : ChangeSpec := { name := "shapeSlides", fn := fun _ => fun
  | [d1, d2, d3] => { results := [.lit (.bool false)], args := [d1, d2, d3] }
  | _ => none }
def ShapeSlidesWrongFalsely : Prop := shapeSlidesRow.holds Try.pinned (OpenSpec.ofChange shapeSlidesWrong)

/-- 'quiltlaw02.ShapeSteps': WHATEVER THE INPUT: true; the input reads as it did. -/
def shapeStepsSpec : ChangeSpec := { name := "shapeSteps", fn := fun _ => fun
  | [d1, d2] => { results := [.lit (.bool true)], args := [d1, d2] }
  | _ => none }
def shapeStepsRow : OpenClaim := { program := "ytcidpbdgikkndaa", sum := "7619aea8fdaccda6731abf20ff0b7d6bd4e37c4a48e4b35d68d925bac263b96d", func := "quilt/quiltlaw02.ShapeSteps", spec := "shapeSteps", unfollowed := true, recurses := true, apart := false }
def ShapeStepsSaid : Prop := shapeStepsRow.holds Try.pinned (OpenSpec.ofChange shapeStepsSpec)

/-- ITS FALSE NEIGHBOUR: 'it returns false'. Refute it at one input. -/
def shapeStepsWrong : ChangeSpec := { name := "shapeSteps", fn := fun _ => fun
  | [d1, d2] => { results := [.lit (.bool false)], args := [d1, d2] }
  | _ => none }
def ShapeStepsWrongFalsely : Prop := shapeStepsRow.holds Try.pinned (OpenSpec.ofChange shapeStepsWrong)

/-- 'quiltlaw02.ShapeRefuses': WHATEVER THE INPUT: true; the input reads as it did. -/
def shapeRefusesSpec : ChangeSpec := { name := "shapeRefuses", fn := fun _ => fun
  | [d1, d2] => { results := [.lit (.bool true)], args := [d1, d2] }
  | _ => none }
def shapeRefusesRow : OpenClaim := { program := "ytcidpbdgikkndaa", sum := "7619aea8fdaccda6731abf20ff0b7d6bd4e37c4a48e4b35d68d925bac263b96d", func := "quilt/quiltlaw02.ShapeRefuses", spec := "shapeRefuses", unfollowed := true, recurses := true, apart := false }
def ShapeRefusesSaid : Prop := shapeRefusesRow.holds Try.pinned (OpenSpec.ofChange shapeRefusesSpec)

/-- ITS FALSE NEIGHBOUR: 'it returns false'. Refute it at one input. -/
def shapeRefusesWrong : ChangeSpec := { name := "shapeRefuses", fn := fun _ => fun
  | [d1, d2] => { results := [.lit (.bool false)], args := [d1, d2] }
  | _ => none }
def ShapeRefusesWrongFalsely : Prop := shapeRefusesRow.holds Try.pinned (OpenSpec.ofChange shapeRefusesWrong)

/-- 'quiltlaw02.ShapeWhole': WHATEVER THE INPUT: true; the input reads as it did. -/
def shapeWholeSpec : ChangeSpec := { name := "shapeWhole", fn := fun _ => fun
  | [d1, d2, d3] => { results := [.lit (.bool true)], args := [d1, d2, d3] }
  | _ => none }
def shapeWholeRow : OpenClaim := { program := "ytcidpbdgikkndaa", sum := "7619aea8fdaccda6731abf20ff0b7d6bd4e37c4a48e4b35d68d925bac263b96d", func := "quilt/quiltlaw02.ShapeWhole", spec := "shapeWhole", unfollowed := true, recurses := true, apart := false }
def ShapeWholeSaid : Prop := shapeWholeRow.holds Try.pinned (OpenSpec.ofChange shapeWholeSpec)

/-- ITS FALSE NEIGHBOUR: 'it returns false'. Refute it at one input. -/
def shapeWholeWrong : ChangeSpec := { name := "shapeWhole", fn := fun _ => fun
  | [d1, d2, d3] => { results := [.lit (.bool false)], args := [d1, d2, d3] }
  | _ => none }
def ShapeWholeWrongFalsely : Prop := shapeWholeRow.holds Try.pinned (OpenSpec.ofChange shapeWholeWrong)

/- THE SECOND FORM. 'bulk': how many values and letters a reading holds, each counted each time it is reached (what is shared counts as often as it is met; a slice's spare places count too). A statement '..UptoSaid' is the law's where the arguments, and the package variables that the reading takes, are together of bulk at most 1048576: NARROWER than '..Said'. Prove '..Said' where nothing that the law and all that it calls make is longer than what came in: it says more and counts as full. Else prove '..UptoSaid'. A law counts once. -/
mutual
def uptoBulk {H : Type} : DataW H → Nat
  | .lit (.string bytes) => bytes.length + 1
  | .lit _ => 1
  | .nil => 1
  | .ptr d => uptoBulk d + 1
  | .slice elems spare => uptoBulkAll elems + uptoBulkAll spare + 1
  | .agg parts => uptoBulkAll parts + 1
  | .iface _ d => uptoBulk d + 1
  | .map entries => uptoBulkEntries entries + 1
  | .held _ => 1
def uptoBulkAll {H : Type} : List (DataW H) → Nat
  | [] => 0
  | d :: r => uptoBulk d + uptoBulkAll r
def uptoBulkEntries {H : Type} : List (Lit × DataW H) → Nat
  | [] => 0
  | x :: r => uptoBulkEntry x + uptoBulkEntries r
def uptoBulkEntry {H : Type} : Lit × DataW H → Nat
  | (.string bytes, d) => bytes.length + uptoBulk d + 1
  | (_, d) => uptoBulk d + 1
 end
def uptoSmall : (H : Type) → List (DataW H) → Bool := fun _ ds => decide (uptoBulkAll ds ≤ 1048576)
def OpenSpec.upto (s : _root_.Go.ChangeSpec) : _root_.Go.OpenSpec := { _root_.Go.OpenSpec.ofChange s with cond := some uptoSmall }

/-- 'quiltlaw02.ShapeAll', WHERE WHAT IT READS IS OF BULK AT MOST 1048576: true; the input reads as it did. -/
def shapeAllUptoRow : OpenClaim := { program := "ytcidpbdgikkndaa", sum := "7619aea8fdaccda6731abf20ff0b7d6bd4e37c4a48e4b35d68d925bac263b96d", func := "quilt/quiltlaw02.ShapeAll", spec := "shapeAll", unfollowed := true, recurses := true, apart := false, narrowed := true }
def ShapeAllUptoSaid : Prop := shapeAllUptoRow.holds Try.pinned (OpenSpec.upto shapeAllSpec)

/-- 'quiltlaw02.ShapeWindows', WHERE WHAT IT READS IS OF BULK AT MOST 1048576: true; the input reads as it did. -/
def shapeWindowsUptoRow : OpenClaim := { program := "ytcidpbdgikkndaa", sum := "7619aea8fdaccda6731abf20ff0b7d6bd4e37c4a48e4b35d68d925bac263b96d", func := "quilt/quiltlaw02.ShapeWindows", spec := "shapeWindows", unfollowed := true, recurses := true, apart := false, narrowed := true }
def ShapeWindowsUptoSaid : Prop := shapeWindowsUptoRow.holds Try.pinned (OpenSpec.upto shapeWindowsSpec)

/-- 'quiltlaw02.ShapeIndexes', WHERE WHAT IT READS IS OF BULK AT MOST 1048576: true; the input reads as it did. -/
def shapeIndexesUptoRow : OpenClaim := { program := "ytcidpbdgikkndaa", sum := "7619aea8fdaccda6731abf20ff0b7d6bd4e37c4a48e4b35d68d925bac263b96d", func := "quilt/quiltlaw02.ShapeIndexes", spec := "shapeIndexes", unfollowed := true, recurses := true, apart := false, narrowed := true }
def ShapeIndexesUptoSaid : Prop := shapeIndexesUptoRow.holds Try.pinned (OpenSpec.upto shapeIndexesSpec)

/-- 'quiltlaw02.ShapeReaches', WHERE WHAT IT READS IS OF BULK AT MOST 1048576: true; the input reads as it did. -/
def shapeReachesUptoRow : OpenClaim := { program := "ytcidpbdgikkndaa", sum := "7619aea8fdaccda6731abf20ff0b7d6bd4e37c4a48e4b35d68d925bac263b96d", func := "quilt/quiltlaw02.ShapeReaches", spec := "shapeReaches", unfollowed := true, recurses := true, apart := false, narrowed := true }
def ShapeReachesUptoSaid : Prop := shapeReachesUptoRow.holds Try.pinned (OpenSpec.upto shapeReachesSpec)

/-- 'quiltlaw02.ShapeSlides', WHERE WHAT IT READS IS OF BULK AT MOST 1048576: true; the input reads as it did. -/
def shapeSlidesUptoRow : OpenClaim := { program := "ytcidpbdgikkndaa", sum := "7619aea8fdaccda6731abf20ff0b7d6bd4e37c4a48e4b35d68d925bac263b96d", func := "quilt/quiltlaw02.ShapeSlides", spec := "shapeSlides", unfollowed := true, recurses := true, apart := false, narrowed := true }
def ShapeSlidesUptoSaid : Prop := shapeSlidesUptoRow.holds Try.pinned (OpenSpec.upto shapeSlidesSpec)

/-- 'quiltlaw02.ShapeSteps', WHERE WHAT IT READS IS OF BULK AT MOST 1048576: true; the input reads as it did. -/
def shapeStepsUptoRow : OpenClaim := { program := "ytcidpbdgikkndaa", sum := "7619aea8fdaccda6731abf20ff0b7d6bd4e37c4a48e4b35d68d925bac263b96d", func := "quilt/quiltlaw02.ShapeSteps", spec := "shapeSteps", unfollowed := true, recurses := true, apart := false, narrowed := true }
def ShapeStepsUptoSaid : Prop := shapeStepsUptoRow.holds Try.pinned (OpenSpec.upto shapeStepsSpec)

/-- 'quiltlaw02.ShapeRefuses', WHERE WHAT IT READS IS OF BULK AT MOST 1048576: true; the input reads as it did. -/
def shapeRefusesUptoRow : OpenClaim := { program := "ytcidpbdgikkndaa", sum := "7619aea8fdaccda6731abf20ff0b7d6bd4e37c4a48e4b35d68d925bac263b96d", func := "quilt/quiltlaw02.ShapeRefuses", spec := "shapeRefuses", unfollowed := true, recurses := true, apart := false, narrowed := true }
def ShapeRefusesUptoSaid : Prop := shapeRefusesUptoRow.holds Try.pinned (OpenSpec.upto shapeRefusesSpec)

/-- 'quiltlaw02.ShapeWhole', WHERE WHAT IT READS IS OF BULK AT MOST 1048576: true; the input reads as it did. -/
def shapeWholeUptoRow : OpenClaim := { program := "ytcidpbdgikkndaa", sum := "7619aea8fdaccda6731abf20ff0b7d6bd4e37c4a48e4b35d68d925bac263b96d", func := "quilt/quiltlaw02.ShapeWhole", spec := "shapeWhole", unfollowed := true, recurses := true, apart := false, narrowed := true }
def ShapeWholeUptoSaid : Prop := shapeWholeUptoRow.holds Try.pinned (OpenSpec.upto shapeWholeSpec)

end Rows
end Go.Proofs.Ytcidpbdgikkndaa
