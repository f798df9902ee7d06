/- A box of many cells that is made: the world behind it is a letter. -/
import Derived.Test.YtgbedoffgahhaaaBox
import Derived.WalkKit
namespace Go.Proofs.Ytgbedoffgahhaaa
open Go

section
variable {P : Program} {ops : Array Oper} {Q : Exit → Act → World → Prop}

/-- A box of its own is made; the world behind it is a letter. -/
theorem wpList_alloc_box {rest : List Oper} {op : Oper} {a : Act} {w : World} (hgd : op.guard = none) (ty : TypeId) (ho : op.op = .alloc ty) (z : Value) (hz : (P.info? ty).map (·.zero) = some (some z)) (S : World → Prop) (hS : S (w.alloc (.cells z.cells ty)))
    (h : ∀ w', S w' → wpList P ops Q rest (a.put op.dst (.pointer (some ⟨w.heap.size, 0, none⟩))) w') : wpList P ops Q (op :: rest) a w := by
  refine wpList_plain hgd fun K hK => ?_
  obtain ⟨i, hi, hiz⟩ : ∃ i, P.info? ty = some i ∧ i.zero = some z := by
    cases hq : P.info? ty with
    | none => simp [hq] at hz
    | some i => exact ⟨i, rfl, by simpa [hq] using hz⟩
  have hrun : (Instr.alloc ty true (.tuple #[])).run P w = .ok (.pointer (some ⟨w.heap.size, 0, none⟩)) (w.alloc (.cells z.cells ty)) := by
    simp [Instr.alloc, zeroValue, typeInfo, newVar, newRow, Sem.run_bind, hi, hiz, go_sem]
  unfold Oper.wp execOp
  simp only [ho]
  simp only [hrun, Sem.run_bind, Sem.run_pure, Result.andThen_ok]
  exact hK _ _ (h _ hS)

end
end Go.Proofs.Ytgbedoffgahhaaa
