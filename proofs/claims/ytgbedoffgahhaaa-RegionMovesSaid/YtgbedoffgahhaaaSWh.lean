/- RegionMoves: its walk. -/
import Derived.Test.YtgbedoffgahhaaaSV
namespace Go.Proofs.Ytgbedoffgahhaaa
open Go.ChangeShapes Go.WideShapes Go.ChangeAt Go.RowKit
set_option maxRecDepth 20000
set_option linter.unusedVariables false
set_option linter.unusedSimpArgs false
theorem moved_meets (m1 m2 f1 f2 T1 T2 by' : Int) (wa wb : Bool) : meets ⟨m1, f1 + by', T1 + by', wa⟩ ⟨m2, f2 + by', T2 + by', wb⟩ = meets ⟨m1, f1, T1, wa⟩ ⟨m2, f2, T2, wb⟩ := by
  unfold meets
  dsimp only
  have e : decide (max (f1 + by') (f2 + by') < min (T1 + by') (T2 + by')) = decide (max f1 f2 < min T1 T2) := by
    rw [decide_eq_decide]; omega
  rw [e]
theorem other_meets (m1 f1 f2 T1 T2 : Int) (wa wb : Bool) (h : 0 ≤ m1 ∧ m1 ≤ 1) : meets ⟨m1, f1, T1, wa⟩ ⟨1 - m1, f2, T2, wb⟩ = false := by
  have e : (m1 == 1 - m1) = false := beq_eq_false_iff_ne.2 (by omega)
  unfold meets
  dsimp only
  rw [e]; rfl
theorem within_meets (m1 f1 T1 d : Int) (wa wb : Bool) (hd : (if T1 - f1 < 1 then T1 - f1 else 1) = d) (hT : f1 ≤ T1) : meets ⟨m1, f1, T1, wa⟩ ⟨m1, f1, f1 + d, wb⟩ = (decide (f1 < T1) && (wa || wb)) := by
  have e : (m1 == m1) = true := by simp
  have k : decide (max f1 f1 < min T1 (f1 + d)) = decide (f1 < T1) := by rw [decide_eq_decide]; split at hd <;> omega
  unfold meets
  dsimp only
  rw [e, k]; rfl
/-- Whether a number of 0 to k is within both. -/
def commonD (f1 T1 f2 T2 : Int) (k : Nat) : Bool := (List.range k).any fun i => decide (f1 ≤ (i : Int)) && decide ((i : Int) < T1) && decide (f2 ≤ (i : Int)) && decide ((i : Int) < T2)
theorem common_succ (f1 T1 f2 T2 : Int) (k : Nat) : commonD f1 T1 f2 T2 (k + 1) = (commonD f1 T1 f2 T2 k || (decide (f1 ≤ (k : Int)) && decide ((k : Int) < T1) && decide (f2 ≤ (k : Int)) && decide ((k : Int) < T2))) := by
  unfold commonD
  rw [List.range_succ, List.any_append]
  simp
theorem common_all {f1 T1 f2 T2 : Int} (h1 : 0 ≤ f1) (h2 : 0 ≤ f2) (h3 : T1 ≤ 128) (h4 : T2 ≤ 128) : decide (max f1 f2 < min T1 T2) = commonD f1 T1 f2 T2 128 := by
  rw [Bool.eq_iff_iff]
  simp only [commonD, List.any_eq_true, List.mem_range, Bool.and_eq_true, decide_eq_true_eq]
  constructor
  · intro h
    refine ⟨(max f1 f2).toNat, by omega, ?_⟩
    have : ((max f1 f2).toNat : Int) = max f1 f2 := by omega
    rw [this]
    omega
  · rintro ⟨i, _, h⟩; omega
end Go.Proofs.Ytgbedoffgahhaaa
