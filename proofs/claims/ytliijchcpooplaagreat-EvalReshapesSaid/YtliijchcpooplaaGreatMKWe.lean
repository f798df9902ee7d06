/- kern: rows that a call owns. which rows of a node are needed, in numbers. -/
import Derived.Test.YtliijchcpooplaaGreatMKV1
import Derived.Test.YtliijchcpooplaaGreatMKV2
namespace Go.Proofs.YtliijchcpooplaaGreat
open Go.ChangeShapes Go.WideShapes Go.ChangeAt Go.RowKit
set_option maxRecDepth 20000
set_option linter.unusedVariables false

theorem vals1 {w : World} {b : Nat} {x : ValD} (hx : ValWf x) (hb : b < w.heap.size) (h : (∀ o : Nat, w.cell? ⟨b, o, none⟩ = (#[.int .i64 x.h, .int .i64 x.w, .int .i64 x.c, .int .i64 x.z] : Array Value)[o]?)) : IsVals w (.slice (some ⟨b, 0, none⟩) 1 1) [x] := by
  refine ⟨some ⟨b, 0, none⟩, 1, rfl, Nat.le_refl _, by decide, (fun h => by cases h), (fun y hy => ?_), fun _ => ⟨b, 0, rfl, hb, fun i hi => ?_⟩⟩
  · simp only [List.mem_singleton] at hy
    subst hy
    exact hx
  · simp only [List.length_cons, List.length_nil] at hi
    obtain rfl : i = 0 := by omega
    exact ⟨h 0, h 1, h 2, h 3⟩
theorem Own8.parts {w : World} {base : Nat} {v : Value} {xs : List Int} (h : Own8 w base v xs) (h0 : 0 < xs.length) : ∃ b cap, v = .slice (some ⟨b, 0, none⟩) xs.length cap ∧ b < w.heap.size ∧ base ≤ b ∧ xs.length ≤ cap ∧ cap ≤ maxLen ∧ ∀ i, i < xs.length → w.cell? ⟨b, i, none⟩ = some (.int .i8 (xs.getD i 0)) := by
  obtain ⟨hl, h⟩ := h
  rcases h with ⟨rfl, e⟩ | ⟨b, cap, cur, rfl, hb, hg, hn, hm, hs, ht⟩
  · omega
  · refine ⟨b, cap, rfl, (Array.getElem?_eq_some_iff.1 hg).1, hb, hn, hm, fun i hi => ?_⟩
    have key : w.cell? ⟨b, i, none⟩ = (xs.map (Value.int .i8))[i]? := by
      rw [← ht, List.getElem?_take_of_lt (by omega)]
      simp [World.cell?, hg]
    rw [key]
    simp [List.getD, hi]

theorem own_ex {w : World} {base : Nat} {v : Value} {xs ys : List Int} (h : Own8 w base v xs) (e : xs = ys) : ∃ B, Own8 w B v ys := ⟨base, e ▸ h⟩

end Go.Proofs.YtliijchcpooplaaGreat
namespace Go.Proofs.YtliijchcpooplaaGreat
open Go.ChangeShapes Go.WideShapes Go.ChangeAt Go.RowKit
set_option maxRecDepth 20000
set_option linter.unusedVariables false

/-- Which rows may be asked for. -/
def rowsOk (n : NodeD) (vs : List ValD) (first rows : Int) : Prop := 0 ≤ first ∧ 1 ≤ rows ∧ rows ≤ (madeS n vs).1 - first
open Classical in
/-- P5.2's numbers: two of each of two values, and the error's. -/
noncomputable def needsD (n : NodeD) (vs : List ValD) (first rows : Int) : (Int × Int) × (Int × Int) × Int :=
  if valueE n vs ≠ 0 then ((0, 0), (0, 0), valueE n vs) else
  if ¬ rowsOk n vs first rows then ((0, 0), (0, 0), 1) else
  (looksD n (vs.getD 0 default).h first rows, if vs.length = 2 then looksD n (vs.getD 1 default).h first rows else (0, 0), 0)
/-- The answer of Needs. -/
def NeedsPost (n : NodeD) (vs : List ValD) (first rows : Int) (W : World) (e : Ending) (w' : World) : Prop :=
  e = .returned (.tuple #[.agg #[.int .i64 (needsD n vs first rows).1.1, .int .i64 (needsD n vs first rows).1.2, .int .i64 (needsD n vs first rows).2.1.1, .int .i64 (needsD n vs first rows).2.1.2], .int .i64 (needsD n vs first rows).2.2]) ∧ Grown W w'
theorem needs_bad {n : NodeD} {vs : List ValD} {first rows : Int} (h : valueE n vs ≠ 0) : needsD n vs first rows = ((0, 0), (0, 0), valueE n vs) := by unfold needsD; rw [if_pos h]
theorem needs_out {n : NodeD} {vs : List ValD} {first rows : Int} (h : valueE n vs = 0) (k : ¬ rowsOk n vs first rows) : needsD n vs first rows = ((0, 0), (0, 0), 1) := by unfold needsD; rw [if_neg (fun f => f h), if_pos k]
theorem needs_in {n : NodeD} {vs : List ValD} {first rows p0 p1 q0 q1 : Int} (h : valueE n vs = 0) (k : rowsOk n vs first rows) (a : NeedsAt n vs first rows vs.length p0 p1 q0 q1) : needsD n vs first rows = ((p0, p1), (q0, q1), 0) := by
  unfold needsD
  rw [if_neg (fun f => f h), if_neg (fun f => f k)]
  rcases vals_len h with ⟨_, l⟩ | ⟨_, l⟩
  · rw [if_pos l]
    have a0 := a.2.1 (by omega)
    have a1 := a.2.2.2 (by omega)
    rw [← Prod.eta (looksD n (vs.getD 0 default).h first rows), ← Prod.eta (looksD n (vs.getD 1 default).h first rows), ← a0.1, ← a0.2, ← a1.1, ← a1.2]
  · rw [if_neg (by omega)]
    have a0 := a.2.1 (by omega)
    have a1 := a.2.2.1 (by omega)
    rw [← Prod.eta (looksD n (vs.getD 0 default).h first rows), ← a0.1, ← a0.2, a1.1, a1.2]

end Go.Proofs.YtliijchcpooplaaGreat
