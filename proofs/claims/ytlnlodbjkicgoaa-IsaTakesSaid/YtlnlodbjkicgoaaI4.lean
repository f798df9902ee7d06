/- Commands as values: boxes of fourteen numbers; two commands compared. -/
import Derived.Test.YtlnlodbjkicgoaaI1
namespace Go.Proofs.Ytlnlodbjkicgoaa
open Go.ChangeShapes Go.WideShapes Go.ChangeAt Go.RowKit
set_option maxRecDepth 20000
set_option linter.unusedVariables false
set_option linter.unusedSimpArgs false

def cellC (c : List Int) : List Value := c.map (Value.int .i64)
def cmdV (c : List Int) : Value := .agg ⟨cellC c⟩
theorem cellC_len (c : List Int) : (cellC c).length = c.length := by simp [cellC]
theorem cellC_at (c : List Int) (j : Nat) (h : j < c.length) : (cellC c)[j]? = some (.int .i64 (c.getD j 0)) := by simp [cellC, List.getD, h]
theorem boxC_cell {w : World} {Q j : Nat} {c : List Int} (h : (∀ o : Nat, w.cell? ⟨Q, o, none⟩ = (⟨cellC c⟩ : Array Value)[o]?)) (hj : j < c.length) : w.cell? ⟨Q, j, none⟩ = some (.int .i64 (c.getD j 0)) := by
  rw [h j]
  have := cellC_at c j hj
  simpa using this
theorem boxC_set {w : World} {Q j : Nat} {c : List Int} {x : Int} (h : (∀ o : Nat, w.cell? ⟨Q, o, none⟩ = (⟨cellC c⟩ : Array Value)[o]?)) (hj : j < c.length) : (∀ o : Nat, (w.setCell ⟨Q, j, none⟩ (.int .i64 x)).cell? ⟨Q, o, none⟩ = (⟨cellC (c.set j x)⟩ : Array Value)[o]?) := by
  intro i
  by_cases e : i = j
  · subst e
    rw [World.cell?_setCell_same w _ _ (boxC_cell h hj)]
    simp [cellC, hj]
  · rw [World.cell?_setCell_other _ _ _ _ (by simp <;> omega), h i]
    simp [cellC, List.getElem?_set, show ¬ j = i by omega]

set_option maxHeartbeats 4000000 in
theorem eq2 (a b c d : Int) (w : World) : (Op.equalIn 9999 30 (.agg #[.int .i64 a, .int .i64 b]) (.agg #[.int .i64 c, .int .i64 d])).run Try.prog w = .ok (a == c && b == d) w := by
  have ku := Try.underlying3
  have ka := Try.isAgg3
  have kz := Try.sizeOf3
  rw [show (9999 : Nat) = 9998 + 1 from rfl, Op.equalIn]
  simp only [Sem.run_bind, run_underlying Try.underlying30, Result.andThen_ok]
  simp only [Std.Legacy.Range.forIn_eq_forIn_range', Std.Legacy.Range.size, Nat.sub_zero, Nat.add_sub_cancel, Nat.div_one, List.range'_succ, List.range'_zero, List.forIn_cons, List.forIn_nil]
  cases e0 : (a == c)
  · go_simp
  cases e1 : (b == d)
  · go_simp
  · go_simp
set_option maxHeartbeats 4000000 in
theorem eqC_raw (a0 a1 a2 a3 a4 a5 a6 a7 a8 a9 a10 a11 a12 a13 b0 b1 b2 b3 b4 b5 b6 b7 b8 b9 b10 b11 b12 b13 : Int) (w : World) : (Op.equalIn 10000 32 (.agg #[.int .i64 a0, .int .i64 a1, .int .i64 a2, .int .i64 a3, .int .i64 a4, .int .i64 a5, .int .i64 a6, .int .i64 a7, .int .i64 a8, .int .i64 a9, .int .i64 a10, .int .i64 a11, .int .i64 a12, .int .i64 a13]) (.agg #[.int .i64 b0, .int .i64 b1, .int .i64 b2, .int .i64 b3, .int .i64 b4, .int .i64 b5, .int .i64 b6, .int .i64 b7, .int .i64 b8, .int .i64 b9, .int .i64 b10, .int .i64 b11, .int .i64 b12, .int .i64 b13])).run Try.prog w = .ok (a0 == b0 && (a1 == b1 && (a2 == b2 && (a3 == b3 && (a4 == b4 && (a5 == b5 && (a6 == b6 && (a7 == b7 && ((a8 == b8 && a9 == b9) && ((a10 == b10 && a11 == b11) && (a12 == b12 && a13 == b13))))))))))) w := by
  have ku := Try.underlying3
  have ka := Try.isAgg3
  have kz := Try.sizeOf3
  have ku2 := Try.underlying30
  have ka2 := Try.isAgg30
  have kz2 := Try.sizeOf30
  have ef : Try.prog.underlying 32 = some (.struct (Try.prog.fieldsOf 32)) := by kernel_rfl
  have ef2 := Try.underlying32
  rw [show (10000 : Nat) = 9999 + 1 from rfl, run_equalIn_struct w 9999 _ _ _ ef (by kernel_rfl)]
  rw [ef] at ef2
  simp only [Option.some.injEq, TypeDesc.struct.injEq] at ef2
  rw [ef2]
  clear ef ef2
  cases e0 : (a0 == b0)
  · go_simp
  cases e1 : (a1 == b1)
  · go_simp
  cases e2 : (a2 == b2)
  · go_simp
  cases e3 : (a3 == b3)
  · go_simp
  cases e4 : (a4 == b4)
  · go_simp
  cases e5 : (a5 == b5)
  · go_simp
  cases e6 : (a6 == b6)
  · go_simp
  cases e7 : (a7 == b7)
  · go_simp
  have q1 := eq2 a8 a9 b8 b9 w
  cases e8 : (a8 == b8 && a9 == b9)
  · rw [e8] at q1
    go_simp
  rw [e8] at q1
  have q2 := eq2 a10 a11 b10 b11 w
  cases e10 : (a10 == b10 && a11 == b11)
  · rw [e10] at q2
    go_simp
  rw [e10] at q2
  have q3 := eq2 a12 a13 b12 b13 w
  cases e12 : (a12 == b12 && a13 == b13)
  · rw [e12] at q3
    go_simp
  rw [e12] at q3
  · go_simp
theorem eqC {a b : List Int} (ha : a.length = 14) (hb : b.length = 14) (w : World) : (Op.equalIn 10000 32 (.agg ⟨cellC a⟩) (.agg ⟨cellC b⟩)).run Try.prog w = .ok (decide (a = b)) w := by
  obtain ⟨a0, a1, a2, a3, a4, a5, a6, a7, a8, a9, a10, a11, a12, a13, rfl⟩ := fourteen ha
  obtain ⟨b0, b1, b2, b3, b4, b5, b6, b7, b8, b9, b10, b11, b12, b13, rfl⟩ := fourteen hb
  have h := eqC_raw a0 a1 a2 a3 a4 a5 a6 a7 a8 a9 a10 a11 a12 a13 b0 b1 b2 b3 b4 b5 b6 b7 b8 b9 b10 b11 b12 b13 w
  refine h.trans ?_
  congr 1
  rw [Bool.eq_iff_iff]
  simp
  intro _ _ _ _ _ _ _ _
  constructor
  · rintro ⟨⟨h9, h10⟩, ⟨h11, h12⟩, h13, h14⟩
    exact ⟨h9, h10, h11, h12, h13, h14⟩
  · rintro ⟨h9, h10, h11, h12, h13, h14⟩
    exact ⟨⟨h9, h10⟩, ⟨h11, h12⟩, h13, h14⟩
end Go.Proofs.Ytlnlodbjkicgoaa
