/- How arguments are read: rows of int8; rows of writes and reads. -/
import Derived.Test.YtlpcppdpodedmaaK4
import Derived.ChangeArms
namespace Go.Proofs.Ytlpcppdpodedmaa
open Go.ChangeShapes Go.WideShapes Go.ChangeAt Go.RowKit
set_option maxRecDepth 20000
set_option linter.unusedVariables false
theorem cells8 : Try.prog.cellsOf 38 = 1 := by kernel_rfl
theorem open_int8_val {H : Type} {enc : TypeId × Value → H} {W : World} {r : Reach} {b0 : Nat} {v : Value} {d : DataW H} {p : List MemPlace} (hv : Value.okWide Try.prog W r b0 32 v) (h : DataW.Trod enc Try.prog W 0 (fun _ => true) true 32 v d p) : ∃ xs, IsNums .i8 W v xs := by
  obtain ⟨a, l, c, rfl⟩ := okWide_slice Try.underlying32 hv
  obtain ⟨fuel, hf⟩ := h
  exact open_nums (k := .i8) Try.underlying32 Try.underlying38 cells8 hf
end Go.Proofs.Ytlpcppdpodedmaa
