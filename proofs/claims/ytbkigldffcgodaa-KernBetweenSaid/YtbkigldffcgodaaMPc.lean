/- KernBetween's walk, of any values. -/
import Derived.Test.YtbkigldffcgodaaMPb
import Derived.Test.YtbkigldffcgodaaMDb
namespace Go.Proofs.Ytbkigldffcgodaa
open Go.ChangeShapes Go.WideShapes Go.ChangeAt Go.RowKit
set_option linter.unusedVariables false
set_option maxRecDepth 20000

theorem between_walk (W : World) (dv : Value) (x : DataD) (hx : IsData W dv x) (av : Value) (y : Int × Int) (hy : av = .agg #[.int .u8 y.1, .int .u8 y.2] ∧ (Lit.int .u8 y.1).wf = true ∧ (Lit.int .u8 y.2).wf = true) :
    Calls Try.prog 7 #[dv, av] W fun e w' => e = .returned (.bool true) ∧ Past W w' := by
  obtain ⟨rfl, h1, h2⟩ := hy
  by_cases hp : pairOk x.l
  · exact between_yes W dv x hx y.1 y.2 h1 h2 hp
  · exact between_no W dv x hx y.1 y.2 h1 h2 hp
end Go.Proofs.Ytbkigldffcgodaa
