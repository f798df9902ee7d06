/- KernKeeps's walk, of any values. -/
import Derived.Test.YtbkigldffcgodaaMQb
namespace Go.Proofs.Ytbkigldffcgodaa
open Go.ChangeShapes Go.WideShapes Go.ChangeAt Go.RowKit
set_option linter.unusedVariables false
set_option maxRecDepth 20000

theorem keeps_walk5 (W : World) (dv : Value) (x : DataD) (hx : IsData W dv x) :
    Calls Try.prog 6 #[dv] W fun e w' => e = .returned (.bool true) ∧ Past W w' := by
  by_cases hp : pairOk x.l
  · exact keeps_yes W dv x hx hp
  · exact keeps_no W dv x hx hp
end Go.Proofs.Ytbkigldffcgodaa
