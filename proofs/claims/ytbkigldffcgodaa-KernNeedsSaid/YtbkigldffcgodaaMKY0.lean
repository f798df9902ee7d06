/- The reference of layer 5: Needs, in numbers. -/
import Derived.Test.YtbkigldffcgodaaMKW
import Derived.Test.YtbkigldffcgodaaMR2
import Derived.Test.YtbkigldffcgodaaMR3D
namespace Go.Proofs.Ytbkigldffcgodaa
open Go.ChangeShapes Go.WideShapes Go.ChangeAt Go.RowKit
set_option maxRecDepth 20000
set_option linter.unusedVariables false

theorem rs_pad {h y : Int} (h1 : 1 ≤ h) (y0 : 0 ≤ y) (j : Nat) : rs y 1 1 1 h j = if max (y - 1) 0 < min (y + j - 1) h then (max (y - 1) 0, min (y + j - 1) h) else (0, 0) := by
  induction j with
  | zero => rw [if_neg (by omega)]; rfl
  | succ j ih =>
    have hl : Hid (max (y + j - 1) 0 = leastI 1 1 (y + j)) := Lib.hid (by unfold leastI; omega)
    have hb : Hid (min (y + j) h = overI 1 1 1 h (y + j)) := Lib.hid (by unfold overI; omega)
    have e1 : min (y + ((j + 1 : Nat) : Int) - 1) h = min (y + j) h := by congr 1; omega
    rw [e1]
    obtain ⟨A, hA⟩ : ∃ A, max (y - 1) 0 = A := ⟨_, rfl⟩
    obtain ⟨B, hB⟩ : ∃ B, min (y + j - 1) h = B := ⟨_, rfl⟩
    obtain ⟨C, hC⟩ : ∃ C, max (y + j - 1) 0 = C := ⟨_, rfl⟩
    obtain ⟨D, hD⟩ : ∃ D, min (y + j) h = D := ⟨_, rfl⟩
    rw [hA, hB] at ih
    rw [hC] at hl
    rw [hD] at hb
    rw [hA, hD]
    have fA : y - 1 ≤ A ∧ 0 ≤ A ∧ (A = y - 1 ∨ A = 0) := by omega
    have fB : B ≤ y + j - 1 ∧ B ≤ h ∧ (B = y + j - 1 ∨ B = h) := by omega
    have fC : y + j - 1 ≤ C ∧ 0 ≤ C ∧ (C = y + j - 1 ∨ C = 0) := by omega
    have fD : D ≤ y + j ∧ D ≤ h ∧ (D = y + j ∨ D = h) := by omega
    clear hA hB hC hD e1
    by_cases c : C < D
    · by_cases z : (rs y 1 1 1 h j).2 = 0
      · rw [rs_first hl hb c z]
        have t : ¬ A < B := fun d => by rw [ih, if_pos d] at z; simp only at z; omega
        rw [if_pos (by omega), show C = A by omega]
      · rw [rs_more hl hb c z]
        have d : A < B := by
          apply Classical.byContradiction
          intro d
          rw [ih, if_neg d] at z
          exact z rfl
        rw [ih, if_pos d, if_pos (by omega)]
    · rw [rs_out hl hb c, ih]
      by_cases d : A < B
      · rw [if_pos d, if_pos (by omega), show B = D by omega]
      · rw [if_neg d, if_neg (by omega)]

theorem pad_one {n : NodeD} {vs : List ValD} (h : valueE n vs = 0) (ho : n.op = 9) : n.pad = 1 := by
  have s := (value_parts h).1.2.2.2.2
  rw [ho] at s
  have p1 : (1 : Int) ≤ n.pad := s.1.2.2.1.1
  have p2 : n.pad ≤ 1 := s.1.2.2.1.2
  omega
theorem made9 {n : NodeD} {vs : List ValD} (h : n.op = 9) : madeS n vs = ((vs.getD 0 default).h + 2, (vs.getD 0 default).w + 2, (vs.getD 0 default).c) := by unfold madeS; simp [h]
theorem looks9 {n : NodeD} {vs : List ValD} (h : valueE n vs = 0) (ho : n.op = 9) {first rows : Int} (k : rowsOk n vs first rows) : looksD n (vs.getD 0 default).h first rows = if max (first - 1) 0 < min (first + rows - 1) (vs.getD 0 default).h then (max (first - 1) 0, min (first + rows - 1) (vs.getD 0 default).h) else (0, 0) := by
  have hl : vs.length = 1 := by rcases vals_len h with ⟨c, _⟩ | ⟨_, l⟩ <;> omega
  have mv := (value_parts h).2.1 0 (by omega)
  obtain ⟨m1, m2, _⟩ := mv
  obtain ⟨k1, k2, k3⟩ := k
  rw [made9 ho] at k3
  simp only at k3
  have e : looksD n (vs.getD 0 default).h first rows = reachI first rows 1 1 1 (vs.getD 0 default).h := by unfold looksD; rw [pad_one h ho]; simp [ho]
  have w : mayWin (vs.getD 0 default).h 1 1 1 := ⟨m1, by omega, by decide, by decide, by decide, by decide, by decide, by decide, by omega⟩
  have o := out_one (size := (vs.getD 0 default).h) (k := 1) (pad := 1) m1 (by omega) (by decide) (by decide) (by decide) (by decide)
  have r : inR first rows 1 1 1 (vs.getD 0 default).h := ⟨w, k1, k2, by rw [o]; omega⟩
  rw [e, reachI_yes r, rs_pad m1 k1, Int.toNat_of_nonneg (by omega)]
end Go.Proofs.Ytbkigldffcgodaa
