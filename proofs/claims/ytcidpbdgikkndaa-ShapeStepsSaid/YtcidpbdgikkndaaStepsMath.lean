/- Indexes one step further on; the box of a shape that is set anew. -/
import Derived.Test.YtcidpbdgikkndaaBox
import Derived.Test.YtcidpbdgikkndaaRefIndex
import Derived.WalkKit
import Derived.ProofKit
import Derived.OpenShut
import Derived.Lib.SmallJoins
import Derived.Laws.IdiomArrays
import Derived.Deep.RegionHeld3
namespace Go.Proofs.Ytcidpbdgikkndaa.shapeSteps
open Go.ChangeShapes Go.WideShapes Go.ChangeAt Go.RowKit
theorem grown_free {W w' : World} (h : Grown W w') {p : Addr} (hp : W.heap.size ≤ p.block) : w'.frozen? p = false := (h.2.1 p).trans (by unfold World.frozen?; rw [Array.getElem?_eq_none hp])


theorem idx_row {h w c y x d : Int} (k : inS h w c y x d) (l : y + 1 < h) : indexI h w c (y + 1) x d = indexI h w c y x d + rowI h w c := by
  obtain ⟨m, k1, k2, k3, k4, k5, k6⟩ := k
  rw [indexI_yes ⟨m, by omega, l, k3, k4, k5, k6⟩, indexI_yes ⟨m, k1, k2, k3, k4, k5, k6⟩]
  unfold rowI; rw [if_pos m, Int.add_mul y, Int.one_mul, show y * w + w + x = (y * w + x) + w by omega, Int.add_mul (y * w + x)]; omega
theorem idx_col {h w c y x d : Int} (k : inS h w c y x d) (l : x + 1 < w) : indexI h w c y (x + 1) d = indexI h w c y x d + c := by
  obtain ⟨m, k1, k2, k3, k4, k5, k6⟩ := k
  rw [indexI_yes ⟨m, k1, k2, by omega, l, k5, k6⟩, indexI_yes ⟨m, k1, k2, k3, k4, k5, k6⟩]
  rw [show y * w + (x + 1) = (y * w + x) + 1 by omega, Int.add_mul (y * w + x), Int.one_mul]; omega
theorem idx_chan {h w c y x d : Int} (k : inS h w c y x d) (l : d + 1 < c) : indexI h w c y x (d + 1) = indexI h w c y x d + 1 := by
  obtain ⟨m, k1, k2, k3, k4, k5, k6⟩ := k
  rw [indexI_yes ⟨m, k1, k2, k3, k4, by omega, l⟩, indexI_yes ⟨m, k1, k2, k3, k4, k5, k6⟩]
  omega
theorem idx_out {h w c y x d : Int} (k : y = h ∨ x = w ∨ d = c) : indexI h w c y x d = -1 := indexI_no (fun ⟨_, _, k2, _, k4, _, k6⟩ => by omega)
theorem idx_zero {h w c : Int} (m : mayS h w c) : indexI h w c 0 0 0 = 0 := by
  have m' := m
  obtain ⟨a1, a2, b1, b2, d1, d2⟩ := m'
  rw [indexI_yes ⟨m, by omega, by omega, by omega, by omega, by omega, by omega⟩]; simp
theorem idx_last {h w c : Int} (m : mayS h w c) : indexI h w c (h - 1) (w - 1) (c - 1) = sizeI h w c - 1 := by
  have m' := m
  obtain ⟨a1, a2, b1, b2, d1, d2⟩ := m'
  rw [indexI_yes ⟨m, by omega, by omega, by omega, by omega, by omega, by omega⟩]
  unfold sizeI; rw [if_pos m, Int.sub_mul h, Int.one_mul, show h * w - w + (w - 1) = h * w - 1 by omega, Int.sub_mul (h * w)]; omega
theorem idx_lt {h w c y x d : Int} (k : inS h w c y x d) : 0 ≤ indexI h w c y x d ∧ indexI h w c y x d < sizeI h w c ∧ sizeI h w c ≤ 2048 ∧ 1 ≤ rowI h w c ∧ rowI h w c ≤ 128 := by
  have k' := k
  obtain ⟨m, k1, k2, k3, k4, k5, k6⟩ := k
  have m' := m
  obtain ⟨a1, a2, b1, b2, d1, d2⟩ := m'
  obtain ⟨n1, n2⟩ := mul_bd a1 a2 b1 b2
  obtain ⟨n3, n4⟩ := mul_bd n1 n2 d1 d2
  obtain ⟨n5, n6⟩ := mul_bd b1 b2 d1 d2
  rw [indexI_yes k']
  have e1 : sizeI h w c = h * w * c := by unfold sizeI; rw [if_pos m]
  have e2 : rowI h w c = w * c := by unfold rowI; rw [if_pos m]
  rw [e1, e2]
  have t1 : 0 ≤ y * w := Int.mul_nonneg k1 (by omega)
  have t2 : 0 ≤ (y * w + x) * c := Int.mul_nonneg (by omega) (by omega)
  have t3 : y * w ≤ (h - 1) * w := Int.mul_le_mul_of_nonneg_right (by omega) (by omega)
  have t4 : (h - 1) * w = h * w - w := by rw [Int.sub_mul, Int.one_mul]
  have t5 : (y * w + x) * c ≤ (h * w - 1) * c := Int.mul_le_mul_of_nonneg_right (by omega) (by omega)
  have t6 : (h * w - 1) * c = h * w * c - c := by rw [Int.sub_mul, Int.one_mul]
  omega

theorem kept_set {b : Nat} {z0 z1 z2 y0 y1 y2 v0 v1 v2 : Value} {w0 w1 : World} (h : Kept b z0 z1 z2 y0 y1 y2 w0 w1) (hb : w0.heap.size ≤ b := by exact Nat.le_refl _) : Kept b v0 v1 v2 y0 y1 y2 w0 (((w1.setCell ⟨b, 0, none⟩ v0).setCell ⟨b, 1, none⟩ v1).setCell ⟨b, 2, none⟩ v2) := by
  obtain ⟨h0, h1, h2, h3, h4, h5, h6, h7⟩ := h
  exact ⟨by go_cell, by go_cell, by go_cell, by go_cell, by go_cell, by go_cell, ((h6.setCell hb _).setCell hb _).setCell hb _, by simpa using h7⟩

end Go.Proofs.Ytcidpbdgikkndaa.shapeSteps
