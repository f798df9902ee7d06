/- Windows by a stride of two, in numbers. -/
import Derived.Test.YtbkigldffcgodaaMPa
namespace Go.Proofs.Ytbkigldffcgodaa
open Go.ChangeShapes Go.WideShapes Go.ChangeAt Go.RowKit
set_option maxRecDepth 20000
set_option linter.unusedVariables false

def strK (op k s pad out mul shift z : Int) (ws bs : List Int) : NodeD := ⟨op, [], k, s, pad, out, mul, shift, z, 0, 0, 0, ws, bs⟩
theorem str_num {op k pad out mul shift z : Int} {ws bs : List Int} (ho : op = 1 ∨ op = 4) (a b : ViewD) (m m' : Int × Int × Int) (y x c : Int) :
    numD (strK op k 2 pad out mul shift z ws bs) a b m y x c = numD (strK op k 1 pad out mul shift z ws bs) a b m' (2 * y) (2 * x) c := by
  have ey : y * 2 - pad = 2 * y * 1 - pad := by omega
  have ex : x * 2 - pad = 2 * x * 1 - pad := by omega
  rcases ho with rfl | rfl
  · rw [num1 rfl, num1 rfl]
    have e : weighN (strK 1 k 2 pad out mul shift z ws bs) a a.v.c.toNat 0 y x c.toNat = weighN (strK 1 k 1 pad out mul shift z ws bs) a a.v.c.toNat 0 (2 * y) (2 * x) c.toNat := by
      unfold weighN
      show bs.getD c.toNat 0 + sumN (placeN (strK 1 k 2 pad out mul shift z ws bs) a a.v.c.toNat 0 y x c.toNat) (k.toNat * k.toNat) = bs.getD c.toNat 0 + sumN (placeN (strK 1 k 1 pad out mul shift z ws bs) a a.v.c.toNat 0 (2 * y) (2 * x) c.toNat) (k.toNat * k.toNat)
      congr 1
      refine sumN_congr fun p _ => ?_
      unfold placeN
      show sumN (fun d => overD a (lookD k.toNat (y * 2 - pad) p) (sideD k.toNat (x * 2 - pad) p) (0 + d) * ws.getD ((c.toNat * (k.toNat * k.toNat) + p) * a.v.c.toNat + d) 0) a.v.c.toNat = sumN (fun d => overD a (lookD k.toNat (2 * y * 1 - pad) p) (sideD k.toNat (2 * x * 1 - pad) p) (0 + d) * ws.getD ((c.toNat * (k.toNat * k.toNat) + p) * a.v.c.toNat + d) 0) a.v.c.toNat
      rw [ey, ex]
    rw [e]
    rfl
  · rw [num4 rfl, num4 rfl]
    show mostN (underN (strK 4 k 2 pad out mul shift z ws bs) a y x c) (k.toNat * k.toNat) = mostN (underN (strK 4 k 1 pad out mul shift z ws bs) a (2 * y) (2 * x) c) (k.toNat * k.toNat)
    refine mostN_congr fun p _ => ?_
    unfold underN
    show atD a (lookD k.toNat (y * 2 - pad) p) (sideD k.toNat (x * 2 - pad) p) c = atD a (lookD k.toNat (2 * y * 1 - pad) p) (sideD k.toNat (2 * x * 1 - pad) p) c
    rw [ey, ex]
/-- Every other place of those by one is within them. -/
theorem str_out {size k pad : Int} (h1 : 1 ≤ outI size k 2 pad) : outI size k 1 pad = size + 2 * pad - k + 1 ∧ ∀ y : Int, 0 ≤ y → y < outI size k 2 pad → 2 * y < outI size k 1 pad := by
  have hw : mayWin size k 2 pad := by
    apply Classical.byContradiction
    intro c
    rw [outI_no c] at h1
    omega
  obtain ⟨a1, a2, a3, a4, a5, a6, a7, a8, a9⟩ := id hw
  have hw1 : mayWin size k 1 pad := ⟨a1, a2, a3, a4, by decide, by decide, a7, a8, a9⟩
  rw [outI_yes hw, outI_yes hw1, Int.ediv_one]
  refine ⟨by omega, fun y y0 y1 => ?_⟩
  omega
theorem str_at {op k pad out mul shift z : Int} {ws bs : List Int} (ho : op = 1 ∨ op = 4) (a b : ViewD) (m m' : Int × Int × Int) {A B A' B' C y x c : Nat} (hm : m.2.2.toNat = C) (hm' : m'.2.2.toNat = C) (hy : y < A) (hx : x < B) (hc : c < C) (hy' : 2 * y < A') (hx' : 2 * x < B') :
    (allL (strK op k 2 pad out mul shift z ws bs) a b m (B * C) (A * (B * C))).getD ((y * B + x) * C + c) 0 = (allL (strK op k 1 pad out mul shift z ws bs) a b m' (B' * C) (A' * (B' * C))).getD ((2 * y * B' + 2 * x) * C + c) 0 := by
  rw [allL_at _ _ _ _ hm hy hx hc, allL_at _ _ _ _ hm' hy' hx' hc, str_num ho a b m m']
  congr 1
end Go.Proofs.Ytbkigldffcgodaa
