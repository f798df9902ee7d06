/- KernBeside's walk, of any values. -/
import Derived.Test.YtbkigldffcgodaaMBb
import Derived.Test.YtbkigldffcgodaaMDc
namespace Go.Proofs.Ytbkigldffcgodaa
open Go.ChangeShapes Go.WideShapes Go.ChangeAt Go.RowKit
set_option linter.unusedVariables false
set_option maxRecDepth 20000

theorem beside_walk (W : World) (dv : Value) (x : DataD) (hx : IsData W dv x) (wv : Value) (ws : List Int) (hw : IsNums .i8 W wv ws) :
    Calls Try.prog 9 #[dv, wv] W fun e w' => e = .returned (.bool true) ∧ Past W w' := by
  by_cases hp : pairOk x.l
  · exact beside_yes W dv x hx wv ws hw hp
  · exact beside_no W dv x hx wv ws hw hp
end Go.Proofs.Ytbkigldffcgodaa
