/- KernSums's walk, of any values. -/
import Derived.Test.YtbkigldffcgodaaMSb
namespace Go.Proofs.Ytbkigldffcgodaa
open Go.ChangeShapes Go.WideShapes Go.ChangeAt Go.RowKit
set_option linter.unusedVariables false
set_option maxRecDepth 20000

theorem sums_walk (W : World) (dv : Value) (x : DataD) (hx : IsData W dv x) (mul : Int) (w1 : (Lit.int .i64 mul).wf = true) (shift : Int) (w2 : (Lit.int .i64 shift).wf = true) :
    Calls Try.prog 5 #[dv, .int .i64 mul, .int .i64 shift] W fun e w' => e = .returned (.bool true) ∧ Past W w' := by
  by_cases hp : pairOk x.l
  · exact sums_yes W dv x hx mul shift hp
  · exact sums_no W dv x hx mul shift hp
end Go.Proofs.Ytbkigldffcgodaa
