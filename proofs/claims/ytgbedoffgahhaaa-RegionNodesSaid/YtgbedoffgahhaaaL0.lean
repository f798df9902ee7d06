/- Value at nodes without slices. -/
import Derived.Test.YtgbedoffgahhaaaG12
import Derived.Test.YtgbedoffgahhaaaP1
namespace Go.Proofs.Ytgbedoffgahhaaa
open Go.ChangeShapes Go.WideShapes Go.ChangeAt Go.RowKit
set_option maxRecDepth 20000
set_option linter.unusedVariables false

theorem nums_nil (k : IntKind) (w : World) : IsNums k w (.slice none 0 0) [] := ⟨none, 0, rfl, Nat.le_refl _, Nat.zero_le _, fun _ => rfl, by simp, by simp⟩

theorem vals_one {w : World} {b : Nat} {x : ValD} (hb : b < w.heap.size) (wf : ValWf x) (h : ValAt w b 0 x) : IsVals w (.slice (some ⟨b, 0, none⟩) 1 1) [x] :=
  ⟨some ⟨b, 0, none⟩, 1, rfl, Nat.le_refl _, by decide, (fun h => by cases h), by simpa using wf, fun _ => ⟨b, 0, rfl, hb, fun i hi => by
    simp only [List.length_cons, List.length_nil] at hi
    obtain rfl : i = 0 := by omega
    simpa using h⟩⟩

theorem vals_two {w : World} {b : Nat} {x y : ValD} (hb : b < w.heap.size) (wx : ValWf x) (wy : ValWf y) (h : ValAt w b 0 x) (k : ValAt w b 4 y) : IsVals w (.slice (some ⟨b, 0, none⟩) 2 2) [x, y] :=
  ⟨some ⟨b, 0, none⟩, 2, rfl, Nat.le_refl _, by decide, (fun h => by cases h), (by intro u hu; simp only [List.mem_cons, List.not_mem_nil, or_false] at hu; rcases hu with rfl | rfl; exact wx; exact wy), fun _ => ⟨b, 0, rfl, hb, fun i hi => by
    simp only [List.length_cons, List.length_nil] at hi
    match i, hi with
    | 0, _ => simpa using h
    | 1, _ => simpa using k⟩⟩

/-- Value of a node without slices, its answer named. -/
theorem value_lit (op k stride pad out mul shift zero th tw tc : Int) (vs : List ValD) (lv : Value) (W : World) (x : ValD) (q : Int) (hv : IsVals W lv vs)
    (hx : valueV ⟨op, [], k, stride, pad, out, mul, shift, zero, th, tw, tc, [], []⟩ vs = x) (hq : valueE ⟨op, [], k, stride, pad, out, mul, shift, zero, th, tw, tc, [], []⟩ vs = q) :
    Calls Try.prog 37 #[.agg #[.int .i64 op, .slice none 0 0, .int .i64 k, .int .i64 stride, .int .i64 pad, .int .i64 out, .int .i64 mul, .int .i64 shift, .int .i64 zero, .int .i64 th, .int .i64 tw, .int .i64 tc, .slice none 0 0, .slice none 0 0], lv] W fun e w' => e = .returned (.tuple #[.agg #[.int .i64 x.h, .int .i64 x.w, .int .i64 x.c, .int .i64 x.z], .int .i64 q]) ∧ Grown W w' := by
  have h := value_any ⟨op, [], k, stride, pad, out, mul, shift, zero, th, tw, tc, [], []⟩ (.slice none 0 0) (.slice none 0 0) (.slice none 0 0) lv vs W ⟨nums_nil _ _, nums_nil _ _, nums_nil _ _⟩ hv
  unfold ValuePost at h
  rw [hx, hq] at h
  exact h

end Go.Proofs.Ytgbedoffgahhaaa
