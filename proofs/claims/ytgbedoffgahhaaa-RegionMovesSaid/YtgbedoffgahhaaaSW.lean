/- RegionMoves: its walk. -/
import Derived.Test.YtgbedoffgahhaaaSW0
import Derived.Test.YtgbedoffgahhaaaSW1
import Derived.Test.YtgbedoffgahhaaaSW2
namespace Go.Proofs.Ytgbedoffgahhaaa
open Go.ChangeShapes Go.WideShapes Go.ChangeAt Go.RowKit
set_option maxRecDepth 20000
set_option linter.unusedVariables false
set_option linter.unusedSimpArgs false
theorem moves_walk (W : World) (va : Value) (a : SpD) (hva : IsSpan va a ∧ SpWf a) (vb : Value) (b : SpD) (hvb : IsSpan vb b ∧ SpWf b) (by' : Int) (hy : (Lit.int .u8 by').wf = true) : Calls Try.prog 5 #[va, vb, .int .u8 by'] W fun e w' => e = .returned (.bool true) ∧ Past W w' := by
  obtain ⟨rfl, _⟩ := hva
  obtain ⟨rfl, _⟩ := hvb
  rcases Bool.eq_false_or_eq_true a.w with ha | ha
  · exact moves_0 W a b ha by' hy
  · rcases Bool.eq_false_or_eq_true b.w with hb | hb
    · exact moves_1 W a b ha hb by' hy
    · exact moves_2 W a b ha hb by' hy
end Go.Proofs.Ytgbedoffgahhaaa
