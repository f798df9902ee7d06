/- MemApart: its walk and how its arguments are read. -/
import Derived.Test.YtlpcppdpodedmaaJa
import Derived.Test.YtlpcppdpodedmaaKO
import Derived.OpenShut
namespace Go.Proofs.Ytlpcppdpodedmaa
open Go.ChangeShapes Go.WideShapes Go.ChangeAt Go.RowKit
set_option linter.unusedVariables false
variable {H : Type} {enc : TypeId × Value → H} {P : Program} {w : World} {base : Nat} {spare : Nat → Bool} {held : Bool}
theorem trod_array2 {t e : TypeId} {fuel : Nat} {c d : Value} {x : DataW H × List MemPlace} (ht : P.underlying t = some (.array 2 e)) (hce : P.cellsOf e = 1)
    (h : DataW.trod enc P w base spare held fuel t [c, d] = some x) :
    ∃ y z n, x = (.agg [y.1, z.1], y.2 ++ z.2) ∧ DataW.trod enc P w base spare held n e [c] = some y ∧ DataW.trod enc P w base spare held n e [d] = some z := by
  obtain ⟨n, rfl⟩ : ∃ n, fuel = n + 1 := by
    cases fuel with
    | zero => simp [DataW.trod] at h
    | succ n => exact ⟨n, rfl⟩
  simp only [DataW.trod, ht] at h
  simp [hce, show List.range 2 = [0, 1] from rfl] at h
  obtain ⟨_, h⟩ := h
  rcases hy : DataW.trod enc P w base spare held n e [c] with _ | y
  · simp [hy] at h
  · rcases hz : DataW.trod enc P w base spare held n e [d] with _ | z
    · simp [hy, hz] at h
    · simp [hy, hz] at h
      exact ⟨y, z, n, h.symm, hy, hz⟩
end Go.Proofs.Ytlpcppdpodedmaa
