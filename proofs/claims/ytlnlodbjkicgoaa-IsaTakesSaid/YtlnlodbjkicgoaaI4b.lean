/- Two commands compared, in the walk. -/
import Derived.Test.YtlnlodbjkicgoaaI4
namespace Go.Proofs.Ytlnlodbjkicgoaa
open Go.ChangeShapes Go.WideShapes Go.ChangeAt Go.RowKit
set_option maxRecDepth 20000
set_option linter.unusedVariables false
set_option linter.unusedSimpArgs false

theorem guardC : Try.prog.eqGuardType Try.prog.depth 32 = false := by kernel_rfl
theorem wp_neqC {o : Oper} {a : Act} {w : World} {K : Act → World → Prop} {Q : Exit → Act → World → Prop} (x y : Operand) (ty2 : TypeId) (ho : o.op = .binOp .neq 32 x y ty2)
    (c d : List Int) (hc : c.length = 14) (hd : d.length = 14) (hx : a.eval x = .agg ⟨cellC c⟩) (hy : a.eval y = .agg ⟨cellC d⟩) (h : K (a.put o.dst (.bool (!decide (c = d)))) w) : o.wp Try.prog a w K Q := by
  have e := eqC hc hd w
  unfold Oper.wp execOp
  simp only [ho, hx, hy, Sem.run_bind, run_eqGuard_agg _ _ _ _ _ _ _ guardC, Result.andThen_ok, run_neq_struct, e, Sem.run_pure]
  exact h
theorem wpList_neqC {ops : Array Oper} {rest : List Oper} {o : Oper} {a : Act} {w : World} {Q : Exit → Act → World → Prop} (hgd : o.guard = none) (x y : Operand) (ty2 : TypeId) (ho : o.op = .binOp .neq 32 x y ty2)
    (c d : List Int) (hc : c.length = 14) (hd : d.length = 14) (hx : a.eval x = .agg ⟨cellC c⟩) (hy : a.eval y = .agg ⟨cellC d⟩) (h : wpList Try.prog ops Q rest (a.put o.dst (.bool (!decide (c = d)))) w) : wpList Try.prog ops Q (o :: rest) a w :=
  wpList_plain hgd fun _ hK => wp_neqC x y ty2 ho c d hc hd hx hy (hK _ _ h)
end Go.Proofs.Ytlnlodbjkicgoaa
