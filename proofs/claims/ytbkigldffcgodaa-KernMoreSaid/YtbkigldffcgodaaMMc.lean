/- KernMore's walk, of any node. -/
import Derived.Test.YtbkigldffcgodaaMMb
import Derived.Test.YtbkigldffcgodaaMDb
namespace Go.Proofs.Ytbkigldffcgodaa
open Go.ChangeShapes Go.WideShapes Go.ChangeAt Go.RowKit
set_option linter.unusedVariables false
set_option maxRecDepth 20000

theorem more_walk (W : World) (nv : Value) (n0 : NodeD) (hn : IsNode W nv n0) (lv : Value) (l0 : List ValD) (hl : IsVals W lv l0) (av : Value) (x : Int × Int) (hx : av = .agg #[.int .u8 x.1, .int .u8 x.2] ∧ (Lit.int .u8 x.1).wf = true ∧ (Lit.int .u8 x.2).wf = true) :
    Calls Try.prog 4 #[nv, lv, av] W fun e w' => e = .returned (.bool true) ∧ Past W w' := by
  obtain ⟨rfl, h1, h2⟩ := hx
  by_cases hE : valueE (fewD n0) (l0.take 3) = 0
  · exact more_ok W nv n0 hn lv l0 hl x.1 x.2 h1 h2 hE
  · exact more_bad W nv n0 hn lv l0 hl x.1 x.2 h1 h2 hE
end Go.Proofs.Ytbkigldffcgodaa
