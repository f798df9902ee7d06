/- Small: a Bool for what may be; nodes and graphs part by part. -/
import Derived.Test.YtbfdoonlohijiaaRead
namespace Go.Proofs.Ytbfdoonlohijiaa
open Go.ChangeShapes Go.WideShapes Go.ChangeAt Go.RowKit
set_option linter.unusedVariables false

theorem bool_any (p : Prop) : ∃ t : Bool, (t = true ↔ p) := by
  rcases Classical.em p with h | h
  · exact ⟨true, by simp [h]⟩
  · exact ⟨false, by simp [h]⟩

theorem nodes_ext {xs ys : List NodeD} (h : xs.length = ys.length) : xs = ys ↔ ∀ j, j < xs.length → xs.getD j default = ys.getD j default := by
  constructor
  · rintro rfl j _; rfl
  · intro k
    refine List.ext_getElem h (fun i h1 h2 => ?_)
    have := k i h1
    simpa [List.getD, h1, h2] using this

theorem graph_eq (a b : GraphD) : a = b ↔ a.ins = b.ins ∧ a.nodes = b.nodes ∧ a.outs = b.outs := by
  cases a
  cases b
  simp

end Go.Proofs.Ytbfdoonlohijiaa
