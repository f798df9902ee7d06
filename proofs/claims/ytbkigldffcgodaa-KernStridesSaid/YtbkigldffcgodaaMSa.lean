/- Nodes of two values alike, in numbers. -/
import Derived.Test.YtbkigldffcgodaaMLf
import Derived.Test.YtbkigldffcgodaaMG12
namespace Go.Proofs.Ytbkigldffcgodaa
open Go.ChangeShapes Go.WideShapes Go.ChangeAt Go.RowKit
set_option maxRecDepth 20000
set_option linter.unusedVariables false

theorem allL_bd {n : NodeD} {vs : List ValD} {a b : ViewD} {m : Int × Int × Int} (h : MakeOk n vs a b m) (hw : ∀ k, -128 ≤ n.ws.getD k 0 ∧ n.ws.getD k 0 ≤ 127) : ∀ x ∈ allL n a b m (m.2.1.toNat * m.2.2.toNat) (m.1.toNat * (m.2.1.toNat * m.2.2.toNat)), -128 ≤ x ∧ x ≤ 127 := by
  intro q hq
  obtain ⟨i, hi, rfl⟩ := List.getElem_of_mem hq
  have hi' := hi
  rw [allL_len] at hi'
  obtain ⟨y, x, c, hy, hx, hc, rfl⟩ := place_of hi'
  have e := allL_at n a b m rfl hy hx hc
  have e2 : (allL n a b m (m.2.1.toNat * m.2.2.toNat) (m.1.toNat * (m.2.1.toNat * m.2.2.toNat)))[(y * m.2.1.toNat + x) * m.2.2.toNat + c] = numD n a b m y x c := by
    rw [← e]
    simp [List.getD, List.getElem?_eq_getElem hi]
  rw [e2]
  exact numD_bd h hw (by omega) (by omega) (by omega) (by omega) _
theorem no_ws {n : NodeD} (h : n.ws = []) : ∀ k, -128 ≤ n.ws.getD k 0 ∧ n.ws.getD k 0 ≤ 127 := by rw [h]; intro k; simp

def pairK (op mul shift z : Int) : NodeD := ⟨op, [], 0, 0, 0, 0, mul, shift, z, 0, 0, 0, [], []⟩
theorem two_get (v : ValD) : ∀ j, j < [v, v].length → [v, v].getD j default = v := by
  intro j hj
  simp only [List.length_cons, List.length_nil] at hj
  rcases (show j = 0 ∨ j = 1 by omega) with rfl | rfl <;> rfl
theorem one_get (v : ValD) : ∀ j, j < [v].length → [v].getD j default = v := by
  intro j hj
  simp only [List.length_cons, List.length_nil] at hj
  obtain rfl : j = 0 := by omega
  rfl
theorem alike_of {vs : List ValD} {v : ValD} (h0 : 0 < vs.length) (h : ∀ j, j < vs.length → vs.getD j default = v) : alikeS vs = (v.h, v.w, v.c) := by
  unfold alikeS
  rw [if_pos (fun j hj => by rw [h j hj, h 0 h0]), h 0 h0]
  rfl
theorem pairK_made {op mul shift z : Int} (ho : op = 6 ∨ op = 7) (v : ValD) : madeS (pairK op mul shift z) [v, v] = (v.h, v.w, v.c) := by
  have : madeS (pairK op mul shift z) [v, v] = alikeS [v, v] := by rcases ho with rfl | rfl <;> simp [madeS, pairK]
  rw [this]
  exact alike_of (by simp) (two_get v)
theorem pairK_may {op mul shift z : Int} (ho : op = 6 ∨ op = 7) {v : ValD} (hm : mayV v) (hz : -128 ≤ z ∧ z ≤ 127) (hmul : 1 ≤ mul ∧ mul ≤ 32767) (hs : 0 ≤ shift ∧ shift ≤ 31) : valueE (pairK op mul shift z) [v, v] = 0 := by
  refine valueE_0 ⟨by unfold hasOp pairK; dsimp only; omega, ?_, fun j hj => ?_, ⟨hmul, hs, hz⟩, ?_⟩ (fun j hj => ?_) ?_ ?_
  · rcases ho with rfl | rfl <;> rfl
  · rcases ho with rfl | rfl
    · rintro ⟨h, _⟩; exact absurd (show (false : Bool) = true from h) (by decide)
    · rintro ⟨h, _⟩; exact absurd (show (false : Bool) = true from h) (by decide)
  · have z0 := Int.le_refl 0
    have n0 : ¬ ((0 : Int) < 0 ∧ (0 : Int) ≤ 0) := by decide
    rcases ho with rfl | rfl <;> exact ⟨⟨⟨z0, z0⟩, ⟨z0, z0⟩, ⟨z0, z0⟩, ⟨z0, z0⟩⟩, n0, Or.inr ⟨rfl, rfl, rfl⟩⟩
  · rw [two_get v j hj]; exact hm
  · rw [pairK_made ho]; exact hm
  · unfold lensP
    rw [pairK_made ho]
    rcases ho with rfl | rfl <;> exact ⟨rfl, rfl, fun j hj => by simp [pairK] at hj⟩
/-- Two whole views of a value: all that is asked. -/
theorem pairK_make {op mul shift : Int} (ho : op = 6 ∨ op = 7) {v : ValD} {xs ys : List Int} (hm : mayV v) (hz : -128 ≤ v.z ∧ v.z ≤ 127) (hmul : 1 ≤ mul ∧ mul ≤ 32767) (hs : 0 ≤ shift ∧ shift ≤ 31)
    (hx : FullV (viewOf v xs)) (hy : FullV (viewOf v ys)) : MakeOk (pairK op mul shift v.z) [v, v] (viewOf v xs) (viewOf v ys) (v.h, v.w, v.c) :=
  ⟨pairK_may ho hm hz hmul hs, (pairK_made ho v).symm, hx, rfl, fun _ => ⟨hy, rfl⟩⟩
theorem pairK_turn {op mul shift z : Int} (ho : op = 6 ∨ op = 7) (a b : ViewD) (m : Int × Int × Int) (r k : Nat) : allL (pairK op mul shift z) a b m r k = allL (pairK op mul shift z) b a m r k := by
  refine allL_same _ _ _ _ _ _ _ _ _ (fun y x c => ?_)
  rcases ho with rfl | rfl
  · rw [num6 rfl, num6 rfl, Int.add_comm]
  · rw [num7 rfl, num7 rfl, Int.mul_comm]
theorem mul_nought {mul shift : Int} {v : ValD} (xs : List Int) (hm : mayV v) (hz : -128 ≤ v.z ∧ v.z ≤ 127) {N : Nat} (hN : v.h.toNat * (v.w.toNat * v.c.toNat) = N) :
    allL (pairK 7 mul shift v.z) (viewOf v xs) (viewOf v (List.replicate N v.z)) (v.h, v.w, v.c) (v.w.toNat * v.c.toNat) N = List.replicate N v.z := by
  subst hN
  obtain ⟨H, W, C, eh, ew, ec, es, _⟩ := size_nat hm
  refine allL_is _ _ _ (v.h, v.w, v.c) rfl (by simp) (fun y x c hy hx hc => ?_)
  have lt := place_lt hy hx hc
  rw [num7 rfl]
  have e : overD (viewOf v (List.replicate (v.h.toNat * (v.w.toNat * v.c.toNat)) v.z)) y x c = 0 := by
    unfold overD
    rw [atD_nought hm hz (by rw [es, eh, ew, ec]; simp)]
    show v.z - v.z = 0
    omega
  rw [e, Int.mul_zero]
  show scaleD 0 mul shift v.z = _
  rw [scaleD_nought hz]
  simp [List.getD, lt]
theorem add_nought {v : ValD} {xs : List Int} (hm : mayV v) (hz : -128 ≤ v.z ∧ v.z ≤ 127) {N : Nat} (hN : v.h.toNat * (v.w.toNat * v.c.toNat) = N) (hl : xs.length = N) (hx : ∀ x ∈ xs, -128 ≤ x ∧ x ≤ 127) :
    allL (pairK 6 1 0 v.z) (viewOf v xs) (viewOf v (List.replicate N v.z)) (v.h, v.w, v.c) (v.w.toNat * v.c.toNat) N = xs := by
  subst hN
  obtain ⟨H, W, C, eh, ew, ec, es, _⟩ := size_nat hm
  refine allL_is _ _ _ (v.h, v.w, v.c) rfl hl (fun y x c hy hx' hc => ?_)
  have lt := place_lt hy hx' hc
  rw [num6 rfl]
  have e : overD (viewOf v (List.replicate (v.h.toNat * (v.w.toNat * v.c.toNat)) v.z)) y x c = 0 := by
    unfold overD
    rw [atD_nought hm hz (by rw [es, eh, ew, ec]; simp)]
    show v.z - v.z = 0
    omega
  have full : FullV (viewOf v xs) := viewOf_full hm hz (by rw [es, hl, eh, ew, ec]; simp) hx
  have ab := atD_bd full.ok y x c
  have ob := overD_bd full.ok y x c
  rw [e, Int.add_zero]
  show scaleD (overD (viewOf v xs) y x c) 1 0 v.z = _
  rw [scaleD_one ob hz]
  have e3 : v.z + overD (viewOf v xs) y x c = atD (viewOf v xs) y x c := by
    unfold overD
    show v.z + (atD (viewOf v xs) y x c - v.z) = _
    omega
  rw [e3, held_in ab, atD_in hm (H := v.h.toNat) (W := v.w.toNat) (C := v.c.toNat) (by rw [eh]; simp) (by rw [ew]; simp) (by rw [ec]; simp) hy hx' hc]
end Go.Proofs.Ytbkigldffcgodaa
