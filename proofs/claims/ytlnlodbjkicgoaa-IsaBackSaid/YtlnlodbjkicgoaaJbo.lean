/- An argument of bytes. -/
import Derived.Test.YtlnlodbjkicgoaaJb
namespace Go.Proofs.Ytlnlodbjkicgoaa
open Go.ChangeShapes Go.WideShapes Go.ChangeAt Go.RowKit
set_option maxRecDepth 20000
set_option linter.unusedVariables false

theorem cellsByte : Try.prog.cellsOf 5 = 1 := by kernel_rfl
theorem open_bytes_val {H : Type} {enc : TypeId × Value → H} {W : World} {r : Reach} {b0 : Nat} {v : Value} {d : DataW H} {p : List MemPlace} (hv : Value.okWide Try.prog W r b0 25 v) (h : DataW.Trod enc Try.prog W 0 (fun _ => true) true 25 v d p) : ∃ xs, IsNums .u8 W v xs := by
  obtain ⟨a, l, c, rfl⟩ := okWide_slice Try.underlying25 hv
  obtain ⟨fuel, hf⟩ := h
  exact open_nums (k := .u8) Try.underlying25 Try.underlying5 cellsByte hf
end Go.Proofs.Ytlnlodbjkicgoaa
