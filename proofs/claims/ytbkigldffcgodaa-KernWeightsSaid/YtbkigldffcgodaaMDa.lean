/- What most of quiltlaw05's statements are handed in: values, and numbers of two. -/
import Derived.Test.YtbkigldffcgodaaMRead
import Derived.Test.YtbkigldffcgodaaMFix
namespace Go.Proofs.Ytbkigldffcgodaa
open Go.ChangeShapes Go.WideShapes Go.ChangeAt Go.RowKit
set_option linter.unusedVariables false
set_option maxRecDepth 20000

/-- Values, and numbers of the first two. -/
structure DataD where
  l : List ValD
  xs : List Int
  ys : List Int
def IsData (w : World) (v : Value) (x : DataD) : Prop := ∃ lv s0 s1 : Value, v = .agg #[lv, s0, s1] ∧ IsVals w lv x.l ∧ IsNums .i8 w s0 x.xs ∧ IsNums .i8 w s1 x.ys

variable {H : Type} {enc : TypeId × Value → H} {W : World}
theorem cells8 : Try.prog.cellsOf 25 = 1 := by kernel_rfl
theorem cellsL2 : Try.prog.cellsOf 45 = 2 := by kernel_rfl
theorem cellsVals : Try.prog.cellsOf 29 = 1 := by kernel_rfl
theorem cellsData : Try.prog.cellsOf 47 = 3 := by kernel_rfl
theorem rows2_read {fuel : Nat} {a b : Value} {x : DataW H × List MemPlace} (h : DataW.trod enc Try.prog W 0 (fun _ => true) true fuel 45 [a, b] = some x) :
    ∃ m y z, DataW.trod enc Try.prog W 0 (fun _ => true) true m 25 [a] = some y ∧ DataW.trod enc Try.prog W 0 (fun _ => true) true m 25 [b] = some z := by
  match fuel, h with
  | 0, h => simp [DataW.trod] at h
  | m + 1, h =>
    unfold DataW.trod at h
    rw [Try.underlying45] at h
    simp [show List.range 2 = [0, 1] from rfl, cells8] at h
    have h := h.2
    rcases e0 : DataW.trod enc Try.prog W 0 (fun _ => true) true m 25 [a] with _ | y
    · rw [e0] at h; simp at h
    · rcases e1 : DataW.trod enc Try.prog W 0 (fun _ => true) true m 25 [b] with _ | z
      · rw [e0, e1] at h; simp at h
      · exact ⟨m, y, z, e0, e1⟩
theorem three_values {l : List Value} (h : l.length = 3) : ∃ a b c, l = [a, b, c] := by
  match l, h with
  | [a, b, c], _ => exact ⟨a, b, c, rfl⟩
theorem open_data {r : Reach} {b0 : Nat} {v : Value} {d : DataW H} {p : List MemPlace} (hv : Value.okWide Try.prog W r b0 47 v) (h : DataW.Trod enc Try.prog W 0 (fun _ => true) true 47 v d p) : ∃ x, IsData W v x := by
  obtain ⟨cs, rfl, hsz⟩ := okWide_struct Try.underlying47 hv
  obtain ⟨l⟩ := cs
  obtain ⟨fuel, hf⟩ := h
  obtain ⟨xs, n, _, _, hl, _, _⟩ := DataW.trod_struct Try.underlying47 hf
  have hl' : l.length = 3 := by
    rw [cellsData] at hl
    simpa [Value.cells] using hl
  obtain ⟨lv, s0, s1, rfl⟩ := three_values hl'
  obtain ⟨m1, y1, h1⟩ := field Try.underlying47 hf 0 _ rfl
  obtain ⟨m2, y2, h2⟩ := field Try.underlying47 hf 1 _ rfl
  simp [cellsVals] at h1
  simp [cellsL2] at h2
  obtain ⟨l, hl1⟩ := open_vals h1
  obtain ⟨m, y, z, r0, r1⟩ := rows2_read h2
  obtain ⟨a, ha⟩ := open_nums Try.underlying25 Try.underlying52 cellsI8 r0
  obtain ⟨b, hb⟩ := open_nums Try.underlying25 Try.underlying52 cellsI8 r1
  exact ⟨⟨l, a, b⟩, lv, s0, s1, rfl, hl1, ha, hb⟩
end Go.Proofs.Ytbkigldffcgodaa
