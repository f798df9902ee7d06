/- kern's rows, number by number. -/
import Derived.Test.YtbkigldffcgodaaMLd
namespace Go.Proofs.Ytbkigldffcgodaa
open Go.ChangeShapes Go.WideShapes Go.ChangeAt Go.RowKit
set_option maxRecDepth 20000
set_option linter.unusedVariables false

theorem list_ext {xs ys : List Int} (hl : xs.length = ys.length) (h : ∀ i, i < xs.length → xs.getD i 0 = ys.getD i 0) : xs = ys := by
  refine List.ext_getElem hl (fun i h1 h2 => ?_)
  have := h i h1
  simpa [List.getD, h1, h2] using this

theorem place_lt {H W C y x c : Nat} (hy : y < H) (hx : x < W) (hc : c < C) : (y * W + x) * C + c < H * (W * C) := by
  have h1 : (y * W + x + 1) * C ≤ (H * W) * C := Nat.mul_le_mul_right C (by
    have : (y + 1) * W ≤ H * W := Nat.mul_le_mul_right W hy
    rw [Nat.add_mul, Nat.one_mul] at this
    omega)
  rw [Nat.add_mul, Nat.one_mul] at h1
  rw [← Nat.mul_assoc]
  omega
theorem place_of {H W C i : Nat} (hi : i < H * (W * C)) : ∃ y x c, y < H ∧ x < W ∧ c < C ∧ i = (y * W + x) * C + c := by
  have c0 : 0 < C := by rcases Nat.eq_zero_or_pos C with e | e
                        · subst e; simp at hi
                        · exact e
  have w0 : 0 < W := by rcases Nat.eq_zero_or_pos W with e | e
                        · subst e; simp at hi
                        · exact e
  refine ⟨i / C / W, i / C % W, i % C, ?_, Nat.mod_lt _ w0, Nat.mod_lt _ c0, ?_⟩
  · rw [Nat.div_div_eq_div_mul, Nat.mul_comm C W]
    exact Nat.div_lt_of_lt_mul (by rw [Nat.mul_comm]; exact hi)
  · have e1 := Nat.div_add_mod i C
    have e2 := Nat.div_add_mod (i / C) W
    rw [Nat.mul_comm W] at e2
    rw [e2, Nat.mul_comm]
    exact e1.symm

theorem allL_at (n : NodeD) (a b : ViewD) (m : Int × Int × Int) {H W C y x c : Nat} (hC : m.2.2.toNat = C) (hy : y < H) (hx : x < W) (hc : c < C) :
    (allL n a b m (W * C) (H * (W * C))).getD ((y * W + x) * C + c) 0 = numD n a b m y x c := by
  have hlt := place_lt hy hx hc
  have hr : x * C + c < W * C := by
    have : (x + 1) * C ≤ W * C := Nat.mul_le_mul_right C hx
    rw [Nat.add_mul, Nat.one_mul] at this
    omega
  have e : (y * W + x) * C + c = (W * C) * y + (x * C + c) := by
    rw [Nat.add_mul, Nat.add_assoc, Nat.mul_assoc, Nat.mul_comm y]
  have key : (allL n a b m (W * C) (H * (W * C))).getD ((y * W + x) * C + c) 0 = allF n a b m (W * C) ((y * W + x) * C + c) := by
    unfold allL
    simp [List.getD, hlt]
  rw [key]
  unfold allF
  rw [e, Nat.mul_add_div (by omega), Nat.div_eq_of_lt hr, Nat.add_zero, Nat.mul_add_mod, Nat.mod_eq_of_lt hr, ← hC]
  exact rowF_at n a b m y x c (by rw [hC]; exact hc)

/-- A list of a shape's length is all rows of a node, if it is number by number. -/
theorem allL_is (n : NodeD) (a b : ViewD) (m : Int × Int × Int) {H W C : Nat} (hC : m.2.2.toNat = C) {xs : List Int} (hl : xs.length = H * (W * C))
    (h : ∀ y x c : Nat, y < H → x < W → c < C → numD n a b m y x c = xs.getD ((y * W + x) * C + c) 0) : allL n a b m (W * C) (H * (W * C)) = xs := by
  refine list_ext (by rw [allL_len, hl]) (fun i hi => ?_)
  rw [allL_len] at hi
  obtain ⟨y, x, c, hy, hx, hc, rfl⟩ := place_of hi
  rw [allL_at n a b m hC hy hx hc]
  exact h y x c hy hx hc
theorem allL_same (n n' : NodeD) (a b a' b' : ViewD) (m : Int × Int × Int) (r k : Nat) (h : ∀ y x c : Int, numD n a b m y x c = numD n' a' b' m y x c) : allL n a b m r k = allL n' a' b' m r k := by
  unfold allL
  refine List.map_congr_left (fun i _ => ?_)
  unfold allF rowF
  exact h _ _ _

/-- A whole view of a value. -/
def viewOf (v : ValD) (xs : List Int) : ViewD := ⟨v, 0, v.h, xs⟩
theorem viewOf_full {v : ValD} {xs : List Int} (hm : mayS v.h v.w v.c) (hz : -128 ≤ v.z ∧ v.z ≤ 127) (hl : (xs.length : Int) = sizeI v.h v.w v.c) (hx : ∀ x ∈ xs, -128 ≤ x ∧ x ≤ 127) : FullV (viewOf v xs) := ⟨hm, rfl, rfl, hz, hl, hx⟩
theorem atD_in {v : ValD} {xs : List Int} (hm : mayS v.h v.w v.c) {H W C : Nat} (hH : v.h = H) (hW : v.w = W) (hC : v.c = C) {y x c : Nat} (hy : y < H) (hx : x < W) (hc : c < C) : atD (viewOf v xs) y x c = xs.getD ((y * W + x) * C + c) 0 := by
  unfold atD
  rw [if_pos ⟨hm, by omega, by show (y : Int) < v.h; omega, by omega, by show (x : Int) < v.w; omega, by omega, by show (c : Int) < v.c; omega⟩]
  congr 1
  unfold placeD
  show (((y : Int) * v.w + x) * v.c + c - 0 * (v.w * v.c)).toNat = _
  rw [Int.zero_mul, Int.sub_zero, hW, hC]
  have e : ((y : Int) * (W : Int) + x) * (C : Int) + c = (((y * W + x) * C + c : Nat) : Int) := by simp
  rw [e, Int.toNat_natCast]
theorem atD_z {v : ValD} {k : Nat} {y x c : Int} : atD (viewOf v (List.replicate k v.z)) y x c = v.z ∨ atD (viewOf v (List.replicate k v.z)) y x c = (List.replicate k v.z).getD (placeD (viewOf v (List.replicate k v.z)) y x c).toNat 0 := by
  unfold atD
  split
  · exact Or.inr rfl
  · exact Or.inl rfl
theorem atD_nought {v : ValD} {k : Nat} (hm : mayS v.h v.w v.c) (hz : -128 ≤ v.z ∧ v.z ≤ 127) (hk : (k : Int) = sizeI v.h v.w v.c) (y x c : Int) : atD (viewOf v (List.replicate k v.z)) y x c = v.z := by
  have full : FullV (viewOf v (List.replicate k v.z)) := viewOf_full hm hz (by simpa using hk) (fun x hx => by rw [List.eq_of_mem_replicate hx]; exact hz)
  unfold atD
  split
  · rename_i hi
    obtain ⟨p0, p1⟩ := full.all y x c hi
    have l : (placeD (viewOf v (List.replicate k v.z)) y x c).toNat < k := by
      have : ((viewOf v (List.replicate k v.z)).xs.length : Int) = k := by simp [viewOf]
      omega
    show (List.replicate k v.z).getD _ 0 = v.z
    simp [List.getD, l]
  · rfl
theorem size_nat {v : ValD} (hm : mayS v.h v.w v.c) : ∃ H W C : Nat, v.h = H ∧ v.w = W ∧ v.c = C ∧ sizeI v.h v.w v.c = ((H * (W * C) : Nat) : Int) ∧ H ≤ 16 ∧ W ≤ 16 ∧ C ≤ 8 ∧ 1 ≤ H ∧ 1 ≤ W ∧ 1 ≤ C := by
  obtain ⟨h1, h2, w1, w2, c1, c2⟩ := id hm
  refine ⟨v.h.toNat, v.w.toNat, v.c.toNat, by omega, by omega, by omega, ?_, by omega, by omega, by omega, by omega, by omega, by omega⟩
  unfold sizeI
  rw [if_pos hm, ← Nat.mul_assoc, Int.natCast_mul, Int.natCast_mul, Int.toNat_of_nonneg (by omega), Int.toNat_of_nonneg (by omega), Int.toNat_of_nonneg (by omega)]

theorem fillF_bd {ls : List Int} (h : ∀ x ∈ ls, -128 ≤ x ∧ x ≤ 127) (i : Nat) : -128 ≤ fillF ls i ∧ fillF ls i ≤ 127 := by
  unfold fillF
  split
  · exact getD_i8 h _
  · decide
theorem fillL_bd {ls : List Int} (h : ∀ x ∈ ls, -128 ≤ x ∧ x ≤ 127) (k : Nat) : ∀ x ∈ fillL ls k, -128 ≤ x ∧ x ≤ 127 := by
  intro x hx
  unfold fillL at hx
  obtain ⟨i, _, rfl⟩ := List.mem_map.1 hx
  exact fillF_bd h i
theorem nums_bd8 {w : World} {v : Value} {xs : List Int} (h : IsNums .i8 w v xs) : ∀ x ∈ xs, -128 ≤ x ∧ x ≤ 127 := by
  intro x hx
  obtain ⟨_, _, _, _, _, _, wf, _⟩ := h
  have := wf x hx
  simpa [Lit.wf, IntKind.min, IntKind.max, IntKind.bits, IntKind.signed] using this
theorem held_in {x : Int} (h : -128 ≤ x ∧ x ≤ 127) : fx.held (-128) 127 x = x := by unfold fx.held; omega
theorem scaleD_one {acc z : Int} (ha : -255 ≤ acc ∧ acc ≤ 255) (hz : -128 ≤ z ∧ z ≤ 127) : scaleD acc 1 0 z = fx.held (-128) 127 (z + acc) := by
  unfold scaleD
  have e1 : fx.held 1 32767 1 = 1 := by decide
  have e2 : fx.held 0 31 0 = 0 := by decide
  have e3 : fx.held (-2147483648) 2147483647 acc = acc := by unfold fx.held; omega
  rw [held_in hz, e1, e2, e3, Int.mul_one]
  have e4 : fx.rd acc (2 ^ (0 : Int).toNat) = acc := by
    have := fx.rd_mul acc 1 (by decide)
    simpa using this
  rw [e4]
theorem rd_zero {d : Int} (hd : 1 ≤ d) : fx.rd 0 d = 0 := by
  have := fx.rd_mul 0 d (by omega)
  simpa using this
theorem two_pow_pos (k : Nat) : (1 : Int) ≤ 2 ^ k := by
  have : (0 : Int) < 2 ^ k := Int.pow_pos (by decide)
  omega
theorem scaleD_nought {mul shift z : Int} (hz : -128 ≤ z ∧ z ≤ 127) : scaleD 0 mul shift z = z := by
  unfold scaleD
  have e3 : fx.held (-2147483648) 2147483647 0 = 0 := by decide
  rw [held_in hz, e3, Int.zero_mul, rd_zero (two_pow_pos _), Int.add_zero, held_in hz]
end Go.Proofs.Ytbkigldffcgodaa
