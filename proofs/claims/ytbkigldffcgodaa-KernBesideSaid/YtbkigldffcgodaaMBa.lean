/- OpConcat and OpTable, number by number. -/
import Derived.Test.YtbkigldffcgodaaMSa
namespace Go.Proofs.Ytbkigldffcgodaa
open Go.ChangeShapes Go.WideShapes Go.ChangeAt Go.RowKit
set_option maxRecDepth 20000
set_option linter.unusedVariables false

theorem cat_made {z : Int} (v : ValD) : madeS (pairK 10 1 0 z) [v, v] = (v.h, v.w, v.c + v.c) := by
  have : madeS (pairK 10 1 0 z) [v, v] = if v.h = v.h ∧ v.w = v.w then (v.h, v.w, v.c + v.c) else (0, 0, 0) := by simp [madeS, pairK]
  rw [this, if_pos ⟨rfl, rfl⟩]
theorem cat_mayS {v : ValD} (hm : mayV v) (hc : v.c ≤ 4) : mayS v.h v.w (v.c + v.c) := by
  obtain ⟨a, b, c, d, e, f⟩ := id hm
  exact ⟨a, b, c, d, by omega, by omega⟩
theorem cat_may {v : ValD} (hm : mayV v) (hz : -128 ≤ v.z ∧ v.z ≤ 127) (hc : v.c ≤ 4) : valueE (pairK 10 1 0 v.z) [v, v] = 0 := by
  refine valueE_0 ⟨(show hasOp 10 by unfold hasOp; decide), rfl, fun j hj => ?_, ⟨by show (1 : Int) ≤ 1 ∧ (1 : Int) ≤ 32767; decide, by show (0 : Int) ≤ 0 ∧ (0 : Int) ≤ 31; decide, hz⟩, ⟨⟨⟨Int.le_refl 0, Int.le_refl 0⟩, ⟨Int.le_refl 0, Int.le_refl 0⟩, ⟨Int.le_refl 0, Int.le_refl 0⟩, ⟨Int.le_refl 0, Int.le_refl 0⟩⟩, (by decide : ¬ ((0 : Int) < 0 ∧ (0 : Int) ≤ 0)), Or.inr ⟨rfl, rfl, rfl⟩⟩⟩ (fun j hj => ?_) ?_ ?_
  · rw [two_get v j hj]
    rintro ⟨_, h⟩
    exact h rfl
  · rw [two_get v j hj]; exact hm
  · rw [cat_made]; exact cat_mayS hm hc
  · unfold lensP
    rw [cat_made]
    exact ⟨rfl, rfl, fun j hj => by simp [pairK] at hj⟩
theorem cat_make {v : ValD} {xs ys : List Int} (hm : mayV v) (hz : -128 ≤ v.z ∧ v.z ≤ 127) (hc : v.c ≤ 4) (hx : FullV (viewOf v xs)) (hy : FullV (viewOf v ys)) :
    MakeOk (pairK 10 1 0 v.z) [v, v] (viewOf v xs) (viewOf v ys) (v.h, v.w, v.c + v.c) := ⟨cat_may hm hz hc, (cat_made v).symm, hx, rfl, fun _ => ⟨hy, rfl⟩⟩

/-- An OpConcat has the channels of both. -/
theorem cat_at {v : ValD} (xs ys : List Int) (hm : mayV v) {H W C i : Nat} (eh : v.h = H) (ew : v.w = W) (ec : v.c = C) (hi : i < H * (W * C)) :
    i / C * 2 * C + i % C + C < H * (W * (C + C)) ∧
    (allL (pairK 10 1 0 v.z) (viewOf v xs) (viewOf v ys) (v.h, v.w, v.c + v.c) (W * (C + C)) (H * (W * (C + C)))).getD (i / C * 2 * C + i % C) 0 = xs.getD i 0 ∧
    (allL (pairK 10 1 0 v.z) (viewOf v xs) (viewOf v ys) (v.h, v.w, v.c + v.c) (W * (C + C)) (H * (W * (C + C)))).getD (i / C * 2 * C + i % C + C) 0 = ys.getD i 0 := by
  obtain ⟨y, x, c, hy, hx, hc, rfl⟩ := place_of hi
  have d : ((y * W + x) * C + c) / C = y * W + x := by rw [Nat.mul_comm, Nat.mul_add_div (by omega), Nat.div_eq_of_lt hc, Nat.add_zero]
  have r : ((y * W + x) * C + c) % C = c := by rw [Nat.mul_comm, Nat.mul_add_mod, Nat.mod_eq_of_lt hc]
  rw [d, r]
  have e1 : (y * W + x) * 2 * C + c = (y * W + x) * (C + C) + c := by rw [Nat.mul_assoc, Nat.two_mul]
  have e2 : (y * W + x) * (C + C) + c + C = (y * W + x) * (C + C) + (c + C) := by omega
  have hC : ((v.h, v.w, v.c + v.c) : Int × Int × Int).2.2.toNat = C + C := by show (v.c + v.c).toNat = _; omega
  rw [e1, e2]
  refine ⟨place_lt hy hx (by omega), ?_, ?_⟩
  · rw [allL_at _ _ _ _ hC hy hx (by omega), num10 rfl, if_pos (by show (c : Int) < v.c; omega), atD_in hm eh ew ec hy hx hc]
  · rw [allL_at _ _ _ _ hC hy hx (by omega), num10 rfl, if_neg (by show ¬ ((c + C : Nat) : Int) < v.c; omega)]
    have e3 : (((c + C : Nat) : Int) - (viewOf v xs).v.c) = (c : Int) := by show ((c + C : Nat) : Int) - v.c = c; omega
    rw [e3, atD_in hm eh ew ec hy hx hc]

def tabK (T : List Int) : NodeD := ⟨12, [], 0, 0, 0, 0, 1, 0, 0, 0, 0, 0, T, []⟩
theorem tab_made (T : List Int) (v : ValD) : madeS (tabK T) [v] = (v.h, v.w, v.c) := by
  have : madeS (tabK T) [v] = alikeS [v] := by simp [madeS, tabK]
  rw [this]
  exact alike_of (by simp) (one_get v)
theorem tab_may {T : List Int} (hT : T.length = 256) {v : ValD} (hm : mayV v) : valueE (tabK T) [v] = 0 := by
  refine valueE_0 ⟨(show hasOp 12 by unfold hasOp; decide), rfl, fun j hj => ?_, (show ((1 : Int) ≤ 1 ∧ (1 : Int) ≤ 32767) ∧ ((0 : Int) ≤ 0 ∧ (0 : Int) ≤ 31) ∧ (-128 : Int) ≤ 0 ∧ (0 : Int) ≤ 127 by decide), ⟨⟨⟨Int.le_refl 0, Int.le_refl 0⟩, ⟨Int.le_refl 0, Int.le_refl 0⟩, ⟨Int.le_refl 0, Int.le_refl 0⟩, ⟨Int.le_refl 0, Int.le_refl 0⟩⟩, (by decide : ¬ ((0 : Int) < 0 ∧ (0 : Int) ≤ 0)), Or.inr ⟨rfl, rfl, rfl⟩⟩⟩ (fun j hj => ?_) ?_ ?_
  · rintro ⟨h, _⟩; exact absurd (show (false : Bool) = true from h) (by decide)
  · rw [one_get v j hj]; exact hm
  · rw [tab_made]; exact hm
  · unfold lensP
    rw [tab_made]
    refine ⟨?_, rfl, fun j hj => by simp [tabK] at hj⟩
    have : wantS (tabK T) ([v].getD 0 default) (v.h, v.w, v.c).2.2 = (256, 0) := by simp [wantS, tabK]
    rw [this]
    show (T.length : Int) = 256
    omega
theorem tab_make {T : List Int} (hT : T.length = 256) {v : ValD} {xs : List Int} (hm : mayV v) (hx : FullV (viewOf v xs)) (b : ViewD) : MakeOk (tabK T) [v] (viewOf v xs) b (v.h, v.w, v.c) :=
  ⟨tab_may hT hm, (tab_made T v).symm, hx, rfl, fun h => by
    have h : (12 : Int) = 6 ∨ (12 : Int) = 7 ∨ (12 : Int) = 10 := h
    omega⟩
theorem tab_at {T : List Int} {v : ValD} (xs : List Int) (b : ViewD) (hm : mayV v) {H W C i : Nat} (eh : v.h = H) (ew : v.w = W) (ec : v.c = C) (hi : i < H * (W * C)) :
    (allL (tabK T) (viewOf v xs) b (v.h, v.w, v.c) (W * C) (H * (W * C))).getD i 0 = T.getD (xs.getD i 0 + 128).toNat 0 := by
  obtain ⟨y, x, c, hy, hx, hc, rfl⟩ := place_of hi
  rw [allL_at _ _ _ _ (by show v.c.toNat = C; omega) hy hx hc, num12 rfl, atD_in hm eh ew ec hy hx hc]
  rfl

/-- The table's weights: the given ones, again and again; of none each number's own. -/
def tabF (ls : List Int) (i : Nat) : Int := if 0 < ls.length then ls.getD (i % ls.length) 0 else (i : Int) - 128
def tabL (ls : List Int) (k : Nat) : List Int := (List.range k).map (tabF ls)
theorem tabL_succ (ls : List Int) (k : Nat) : tabL ls (k + 1) = tabL ls k ++ [tabF ls k] := by unfold tabL; rw [List.range_succ, List.map_append]; rfl
theorem tabL_len (ls : List Int) (k : Nat) : (tabL ls k).length = k := by simp [tabL]
theorem tabL_bd {ls : List Int} (h : ∀ x ∈ ls, -128 ≤ x ∧ x ≤ 127) (k : Nat) (hk : k ≤ 256) : ∀ x ∈ tabL ls k, -128 ≤ x ∧ x ≤ 127 := by
  intro x hx
  unfold tabL at hx
  obtain ⟨i, hi, rfl⟩ := List.mem_map.1 hx
  have := List.mem_range.1 hi
  unfold tabF
  split
  · exact getD_i8 h _
  · omega
end Go.Proofs.Ytbkigldffcgodaa
