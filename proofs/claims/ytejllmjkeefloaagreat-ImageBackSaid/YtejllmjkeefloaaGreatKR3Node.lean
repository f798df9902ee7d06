/- The reference of layer 3: SameNode. -/
import Derived.Test.YtejllmjkeefloaaGreatKL0
namespace Go.Proofs.YtejllmjkeefloaaGreat
open Go.ChangeShapes Go.WideShapes Go.ChangeAt Go.RowKit
set_option maxRecDepth 100000
set_option linter.unusedVariables false

theorem node_eq (a b : NodeD) : a = b ↔ a.op = b.op ∧ a.ins = b.ins ∧ a.k = b.k ∧ a.stride = b.stride ∧ a.pad = b.pad ∧ a.out = b.out ∧ a.mul = b.mul ∧ a.shift = b.shift ∧ a.zero = b.zero ∧ a.th = b.th ∧ a.tw = b.tw ∧ a.tc = b.tc ∧ a.ws = b.ws ∧ a.bs = b.bs := by
  cases a; cases b; simp only [NodeD.mk.injEq]
theorem nums_slice {k : IntKind} {w : World} {v : Value} {xs : List Int} (h : IsNums k w v xs) : ∃ (A : Option Addr) (c : Nat), v = .slice A xs.length c := by
  obtain ⟨A, c, h1, _⟩ := h
  exact ⟨A, c, h1⟩
end Go.Proofs.YtejllmjkeefloaaGreat
