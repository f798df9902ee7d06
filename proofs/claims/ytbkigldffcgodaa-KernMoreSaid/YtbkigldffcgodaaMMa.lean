/- Rows one behind the other need what each needs: in numbers. -/
import Derived.Test.YtbkigldffcgodaaMKW
namespace Go.Proofs.Ytbkigldffcgodaa
open Go.ChangeShapes Go.WideShapes Go.ChangeAt Go.RowKit
set_option maxRecDepth 20000
set_option linter.unusedVariables false

/-- The least and the greatest of what single rows need; of nothing (99, 0). -/
def spanN (f : Nat → Int × Int) : Nat → Int × Int
  | 0 => (99, 0)
  | j + 1 => if (f j).1 < (f j).2 then (min (spanN f j).1 (f j).1, max (spanN f j).2 (f j).2) else spanN f j

theorem span_plain {y : Int} (y0 : 0 ≤ y) (y1 : y ≤ 16) (j : Nat) (hj : j ≤ 16) : spanN (fun i => (y + i, y + i + 1)) j = if j = 0 then (99, 0) else (y, y + j) := by
  induction j with
  | zero => rfl
  | succ j ih =>
    have ih := ih (by omega)
    simp only [spanN]
    rw [if_pos (by omega), if_neg (by omega), ih]
    by_cases c : j = 0
    · subst c
      rw [if_pos rfl]
      simp only [Prod.mk.injEq]
      omega
    · rw [if_neg c]
      simp only [Prod.mk.injEq]
      omega
theorem span_all {h : Int} (h1 : 1 ≤ h) (h2 : h ≤ 16) (j : Nat) : spanN (fun _ => ((0 : Int), h)) j = if j = 0 then (99, 0) else (0, h) := by
  induction j with
  | zero => rfl
  | succ j ih =>
    simp only [spanN]
    rw [if_pos (by omega), if_neg (by omega), ih]
    by_cases c : j = 0
    · rw [if_pos c]; simp only [Prod.mk.injEq]; omega
    · rw [if_neg c]; simp only [Prod.mk.injEq]; omega

theorem one_reach {y k s p h n : Int} (hw : mayWin h k s p) (hn : n = outI h k s p) (y0 : 0 ≤ y) (y1 : y < n) : reachI y 1 k s p h = if leastI s p y < overI k s p h y then (leastI s p y, overI k s p h y) else (0, 0) := by
  rw [reach_one hw y0 (by rw [← hn]; exact y1)]
  by_cases c : leastI s p y < overI k s p h y
  · rw [if_pos c, rs_one.1 c]
  · rw [if_neg c, rs_one.2 c]

theorem span_win {y k s p h n : Int} (hw : mayWin h k s p) (hn : n = outI h k s p) (y0 : 0 ≤ y) (j : Nat) (hj : y + j ≤ n) : spanN (fun i => reachI (y + i) 1 k s p h) j = if (rs y k s p h j).2 = 0 then (99, 0) else rs y k s p h j := by
  have hw' := hw
  obtain ⟨w1, w2, w3, w4, w5, w6, w7, w8, w9⟩ := hw
  induction j with
  | zero => rfl
  | succ j ih =>
    have ih := ih (by omega)
    have f := one_reach (y := y + j) hw' hn (by omega) (by omega)
    simp only [spanN]
    rw [f, ih]
    have inv := rs_inv y k s p h w5 w1 w3 j
    obtain ⟨L, hL⟩ : ∃ L, leastI s p (y + j) = L := ⟨_, rfl⟩
    obtain ⟨V, hV⟩ : ∃ V, overI k s p h (y + j) = V := ⟨_, rfl⟩
    have l0 : 0 ≤ L := by rw [← hL]; unfold leastI; omega
    have vh : V ≤ h ∧ ((y + j) * s - p + k ≤ h → V = (y + j) * s - p + k) ∧ (¬ (y + j) * s - p + k ≤ h → V = h) := by rw [← hV]; unfold overI; omega
    have H1 : Hid (L = leastI s p (y + j)) := Lib.hid hL.symm
    have H2 : Hid (V = overI k s p h (y + j)) := Lib.hid hV.symm
    rw [hL, hV]
    rw [hL] at inv
    by_cases c : L < V
    · rw [if_pos c, if_pos (by exact c)]
      by_cases z : (rs y k s p h j).2 = 0
      · rw [if_pos z, rs_first H1 H2 c z, if_neg (by show ¬ V = 0; omega)]
        simp only [Prod.mk.injEq]
        omega
      · rw [if_neg z, rs_more H1 H2 c z, if_neg (by show ¬ V = 0; omega)]
        rcases inv with ⟨z', _⟩ | ⟨i1, i2, i3, i4, i5⟩
        · exact absurd z' z
        · simp only [Prod.mk.injEq]
          generalize (rs y k s p h j).1 = A at *
          generalize (rs y k s p h j).2 = B at *
          generalize (y + j) * s = Q at *
          omega
    · rw [if_neg c, if_neg (by show ¬ (0 : Int) < 0; omega), rs_out H1 H2 c]

theorem reach_all {y k s p h n : Int} (hw : mayWin h k s p) (hn : n = outI h k s p) (y0 : 0 ≤ y) (j : Nat) (j1 : 1 ≤ j) (hj : y + j ≤ n) : reachI y j k s p h = rs y k s p h j := by
  rw [reachI_yes ⟨hw, y0, by omega, by rw [← hn]; omega⟩, Int.toNat_natCast]

/-- What rows together need, from what each needs. -/
theorem span_looks {n : NodeD} {vs : List ValD} (h : valueE n vs = 0) {y : Int} {r : Nat} (k : rowsOk n vs y r) {j : Nat} (hj : j < vs.length) :
    looksD n (vs.getD j default).h y r = (if (spanN (fun i => looksD n (vs.getD j default).h (y + i) 1) r).2 = 0 then 0 else (spanN (fun i => looksD n (vs.getD j default).h (y + i) 1) r).1, (spanN (fun i => looksD n (vs.getD j default).h (y + i) 1) r).2) := by
  obtain ⟨y0, r1, r2⟩ := k
  have mv := (value_parts h).2.1 j hj
  obtain ⟨v1, v2, _⟩ := mv
  obtain ⟨m1, m2, _⟩ := (value_parts h).2.2.1
  have win : ∀ K S P : Int, mayWin (vs.getD j default).h K S P → (madeS n vs).1 = outI (vs.getD j default).h K S P → (∀ a b, looksD n (vs.getD j default).h a b = reachI a b K S P (vs.getD j default).h) → looksD n (vs.getD j default).h y r = (if (spanN (fun i => looksD n (vs.getD j default).h (y + i) 1) r).2 = 0 then 0 else (spanN (fun i => looksD n (vs.getD j default).h (y + i) 1) r).1, (spanN (fun i => looksD n (vs.getD j default).h (y + i) 1) r).2) := by
    intro K S P hw hm hl
    simp only [hl]
    rw [span_win hw hm y0 r (by omega), reach_all hw hm y0 r (by omega) (by omega)]
    have w := hw
    obtain ⟨w1, _, w3, _, w5, _⟩ := w
    rcases rs_inv y K S P (vs.getD j default).h w5 w1 w3 r with ⟨a, b⟩ | ⟨a, _⟩
    · rw [if_pos a]
      simp only [if_true]
      exact Prod.ext b a
    · have ne : ¬ (rs y K S P (vs.getD j default).h r).2 = 0 := by omega
      simp only [if_neg ne]
  by_cases c1 : n.op = 1 ∨ n.op = 2 ∨ n.op = 4 ∨ n.op = 5
  · have l1 : vs.length = 1 := by rcases vals_len h with ⟨_, l⟩ | ⟨_, l⟩ <;> omega
    obtain rfl : j = 0 := by omega
    have e : (madeS n vs).1 = outI (vs.getD 0 default).h n.k n.stride n.pad := by
      by_cases c : n.op = 1
      · rw [made1 c]
      · rw [made2 (by omega)]
    refine win n.k n.stride n.pad ?_ e (fun a b => by unfold looksD; rw [if_pos c1])
    apply Classical.byContradiction
    intro d
    rw [e, outI_no d] at m1
    omega
  · by_cases c2 : n.op = 9
    · have l1 : vs.length = 1 := by rcases vals_len h with ⟨_, l⟩ | ⟨_, l⟩ <;> omega
      obtain rfl : j = 0 := by omega
      have hp : n.pad = 1 := by
        have s := (value_parts h).1.2.2.2.2
        rw [c2] at s
        have p1 : (1 : Int) ≤ n.pad := s.1.2.2.1.1
        have p2 : n.pad ≤ 1 := s.1.2.2.1.2
        omega
      refine win 1 1 n.pad ⟨v1, by omega, by decide, by decide, by decide, by decide, by omega, by omega, by omega⟩ ?_ (fun a b => by unfold looksD; rw [if_neg c1, if_pos c2])
      have e : madeS n vs = ((vs.getD 0 default).h + 2, (vs.getD 0 default).w + 2, (vs.getD 0 default).c) := by unfold madeS; simp [c2]
      rw [e, hp, out_one v1 (by omega) (by decide) (by decide) (by decide) (by decide)]
      show (vs.getD 0 default).h + 2 = _
      omega
    · by_cases c3 : n.op = 3 ∨ n.op = 11
      · have e : ∀ a b, looksD n (vs.getD j default).h a b = (0, (vs.getD j default).h) := fun a b => by unfold looksD; rw [if_neg c1, if_neg c2, if_pos c3]
        simp only [e]
        have r0 : ¬ r = 0 := by omega
        have h0 : ¬ (vs.getD j default).h = 0 := by omega
        rw [span_all v1 v2 r]
        simp only [if_neg r0, if_neg h0]
      · have e : ∀ a b, looksD n (vs.getD j default).h a b = (a, a + b) := fun a b => by unfold looksD; rw [if_neg c1, if_neg c2, if_neg c3]
        simp only [e]
        have r0 : ¬ r = 0 := by omega
        have h0 : ¬ y + (r : Int) = 0 := by omega
        rw [span_plain y0 (by omega) r (by omega)]
        simp only [if_neg r0, if_neg h0]
end Go.Proofs.Ytbkigldffcgodaa
