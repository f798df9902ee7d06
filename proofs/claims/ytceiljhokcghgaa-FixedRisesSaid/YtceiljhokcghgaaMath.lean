/- The plain numbers behind layer 1: division rounded to the nearest, of two to the one farther from 0. -/
import Derived.Test.YtceiljhokcghgaaRows
import Derived.WalkKit
import Derived.ProofKit
import Derived.OpenShut
namespace Go.Proofs.Ytceiljhokcghgaa

/-- x by b, to the nearest, of two to the one farther from 0. -/
def rd (x b : Int) : Int := if 0 ≤ x then (2 * x + b) / (2 * b) else -((b - 2 * x) / (2 * b))

theorem div_is (a c q : Int) (hc : 0 < c) (h1 : q * c ≤ a) (h2 : a < q * c + c) : a / c = q := by
  have e1 : q ≤ a / c := (Int.le_ediv_iff_mul_le hc).2 h1
  have e2 : a / c < q + 1 := (Int.ediv_lt_iff_lt_mul hc).2 (by rw [Int.add_mul]; omega)
  omega

theorem rd_pos (x b q : Int) (hb : 1 ≤ b) (hx : 0 ≤ x) (h1 : 2 * (q * b) ≤ 2 * x + b) (h2 : 2 * x < 2 * (q * b) + b) : rd x b = q := by
  unfold rd
  rw [if_pos hx]
  have e : q * (2 * b) = 2 * (q * b) := by rw [Int.mul_left_comm]
  exact div_is _ _ _ (by omega) (by omega) (by omega)

theorem rd_neg (x b : Int) (hb : 1 ≤ b) : rd (-x) b = -(rd x b) := by
  by_cases h0 : x = 0
  · subst h0
    have := rd_pos 0 b 0 hb (by omega) (by omega) (by omega)
    simp [this]
  · unfold rd
    by_cases hx : 0 ≤ x
    · rw [if_pos hx, if_neg (by omega)]
      have : b - 2 * -x = 2 * x + b := by omega
      rw [this]
    · rw [if_neg hx, if_pos (by omega)]
      have : 2 * -x + b = b - 2 * x := by omega
      rw [this]; omega

theorem tq (x b : Int) (hb : 1 ≤ b) : x.tdiv b * b + x.tmod b = x ∧ -b < x.tmod b ∧ x.tmod b < b ∧ (0 ≤ x → 0 ≤ x.tmod b ∧ 0 ≤ x.tdiv b ∧ x.tdiv b ≤ x) ∧ (x < 0 → x.tmod b ≤ 0 ∧ x.tdiv b ≤ 0 ∧ x ≤ x.tdiv b) := by
  have h1 : x.tdiv b * b + x.tmod b = x := Int.tdiv_mul_add_tmod x b
  have pos : ∀ y : Int, 0 ≤ y → 0 ≤ y.tmod b ∧ y.tmod b < b ∧ 0 ≤ y.tdiv b ∧ y.tdiv b ≤ y := by
    intro y hy
    rw [Int.tmod_eq_emod_of_nonneg hy, Int.tdiv_eq_ediv_of_nonneg hy]
    exact ⟨Int.emod_nonneg _ (by omega), Int.emod_lt_of_pos _ (by omega), Int.ediv_nonneg hy (by omega), Int.ediv_le_self _ hy⟩
  by_cases hx : 0 ≤ x
  · obtain ⟨a, b1, c, d⟩ := pos x hx
    exact ⟨h1, by omega, by omega, fun _ => ⟨a, c, d⟩, fun h => by omega⟩
  · obtain ⟨a, b1, c, d⟩ := pos (-x) (by omega)
    rw [Int.neg_tmod] at a b1
    rw [Int.neg_tdiv] at c d
    exact ⟨h1, by omega, by omega, fun h => by omega, fun _ => by omega⟩

/-- The quotient's half: where a rest is left, b is 2 at least. -/
theorem tq_half (x b : Int) (hb : 2 ≤ b) : 2 * x.tdiv b ≤ x ∨ x < 0 := by
  by_cases hx : 0 ≤ x
  · left
    rw [Int.tdiv_eq_ediv_of_nonneg hx]
    have h1 := Int.mul_ediv_self_le (x := x) (k := b) (by omega)
    have h2 : 0 ≤ x / b := Int.ediv_nonneg hx (by omega)
    have h3 : 2 * (x / b) ≤ b * (x / b) := Int.mul_le_mul_of_nonneg_right hb h2
    omega
  · right; omega

theorem tq_lo (x b : Int) (hb : 2 ≤ b) (hx : x < 0) : x ≤ 2 * x.tdiv b := by
  have := tq_half (-x) b hb
  rw [Int.neg_tdiv] at this
  omega

theorem rd_up (x b : Int) (hb : 1 ≤ b) (h : 0 < x.tmod b) (h2 : b - x.tmod b ≤ x.tmod b) : x.tdiv b + 1 = rd x b := by
  obtain ⟨e, l, u, p, n⟩ := tq x b hb
  have hx : 0 ≤ x := by omega
  symm
  apply rd_pos x b _ hb hx
  · rw [Int.add_mul]; omega
  · rw [Int.add_mul]; omega

theorem rd_same_pos (x b : Int) (hb : 1 ≤ b) (hx : 0 ≤ x) (h2 : x.tmod b < b - x.tmod b) : x.tdiv b = rd x b := by
  obtain ⟨e, l, u, p, n⟩ := tq x b hb
  symm
  apply rd_pos x b _ hb hx <;> omega

theorem rd_down (x b : Int) (hb : 1 ≤ b) (h : x.tmod b < 0) (h2 : b + x.tmod b ≤ -x.tmod b) : x.tdiv b - 1 = rd x b := by
  have h0 := rd_up (-x) b hb (by rw [Int.neg_tmod]; omega) (by rw [Int.neg_tmod]; omega)
  rw [Int.neg_tdiv, rd_neg x b hb] at h0
  omega

theorem rd_same_neg (x b : Int) (hb : 1 ≤ b) (hx : x < 0) (h2 : -x.tmod b < b + x.tmod b) : x.tdiv b = rd x b := by
  have h0 := rd_same_pos (-x) b hb (by omega) (by rw [Int.neg_tmod]; omega)
  rw [Int.neg_tdiv, rd_neg x b hb] at h0
  omega

theorem pow_bd (s : Int) (h4 : s ≤ 31) : (1 : Int) ≤ 2 ^ s.toNat ∧ (2 : Int) ^ s.toNat ≤ 2147483648 := by
  have h : s.toNat ≤ 31 := by omega
  have e : (2 : Int) ^ s.toNat = ((2 ^ s.toNat : Nat) : Int) := by simp
  rw [e]
  have h1 : 1 ≤ 2 ^ s.toNat := Nat.one_le_two_pow
  have h2 : 2 ^ s.toNat ≤ 2 ^ 31 := Nat.pow_le_pow_right (by omega) h
  omega

theorem rd_bd (x b : Int) (hb : 1 ≤ b) : (0 ≤ x → 0 ≤ rd x b ∧ rd x b ≤ x + 1) ∧ (x < 0 → x - 1 ≤ rd x b ∧ rd x b ≤ 0) := by
  have pos : ∀ y : Int, 0 ≤ y → 0 ≤ rd y b ∧ rd y b ≤ y + 1 := by
    intro y hy
    unfold rd
    rw [if_pos hy]
    refine ⟨Int.ediv_nonneg (by omega) (by omega), ?_⟩
    have : (2 * y + b) / (2 * b) < y + 2 := (Int.ediv_lt_iff_lt_mul (by omega)).2 (by
      have h1 : y * 1 ≤ y * b := Int.mul_le_mul_of_nonneg_left hb hy
      rw [Int.mul_left_comm, Int.add_mul]; omega)
    omega
  refine ⟨pos x, fun hx => ?_⟩
  have h := pos (-x) (by omega)
  rw [rd_neg x b hb] at h
  omega

theorem rd_near (x b : Int) (hb : 1 ≤ b) : 2 * (x - rd x b * b) ≤ b ∧ -b ≤ 2 * (x - rd x b * b) := by
  have pos : ∀ y : Int, 0 ≤ y → 2 * (y - rd y b * b) ≤ b ∧ -b ≤ 2 * (y - rd y b * b) := by
    intro y hy
    unfold rd
    rw [if_pos hy]
    have h1 : (2 * y + b) / (2 * b) * (2 * b) ≤ 2 * y + b := Int.ediv_mul_le _ (by omega)
    have h2 : 2 * y + b < ((2 * y + b) / (2 * b) + 1) * (2 * b) := Int.lt_ediv_add_one_mul_self _ (by omega)
    rw [Int.add_mul, Int.mul_left_comm] at h2
    rw [Int.mul_left_comm] at h1
    omega
  by_cases hx : 0 ≤ x
  · exact pos x hx
  · have h := pos (-x) (by omega)
    rw [rd_neg x b hb, Int.neg_mul] at h
    omega

theorem rd_mul (y b : Int) (hb : 1 ≤ b) : rd (y * b) b = y := by
  have pos : ∀ z : Int, 0 ≤ z → rd (z * b) b = z := fun z hz => rd_pos _ _ _ hb (Int.mul_nonneg hz (by omega)) (by omega) (by omega)
  by_cases hy : 0 ≤ y
  · exact pos y hy
  · have h := pos (-y) (by omega)
    rw [Int.neg_mul, rd_neg _ b hb] at h
    omega

theorem rd_one (y : Int) : rd y 1 = y := by
  have := rd_mul y 1 (by omega)
  rwa [Int.mul_one] at this

theorem rd_more (a b k : Int) (hb : 1 ≤ b) (ha : 0 ≤ a) (hk : 0 ≤ k) : rd (a + k * b) b = rd a b + k := by
  have hn : 0 ≤ k * b := Int.mul_nonneg hk (by omega)
  unfold rd
  rw [if_pos ha, if_pos (by omega)]
  have e : 2 * (a + k * b) + b = 2 * a + b + k * (2 * b) := by rw [Int.mul_left_comm k 2 b]; omega
  rw [e, Int.add_mul_ediv_right _ _ (by omega)]

theorem rd_twice (a b : Int) (ha : 0 ≤ a) : rd (2 * a) (2 * b) = rd a b := by
  unfold rd
  rw [if_pos ha, if_pos (by omega)]
  have e : 2 * (2 * a) + 2 * b = 2 * (2 * a + b) := by omega
  rw [e, Int.mul_ediv_mul_of_pos _ _ (by omega)]

theorem rd_mono (x y b : Int) (hb : 1 ≤ b) (h : x ≤ y) : rd x b ≤ rd y b := by
  have pos : ∀ x y : Int, 0 ≤ x → x ≤ y → rd x b ≤ rd y b := by
    intro x y hx h
    unfold rd
    rw [if_pos hx, if_pos (by omega)]
    exact Int.ediv_le_ediv (by omega) (by omega)
  by_cases hx : 0 ≤ x
  · exact pos x y hx h
  · by_cases hy : 0 ≤ y
    · have h1 := (rd_bd x b hb).2 (by omega)
      have h2 := (rd_bd y b hb).1 hy
      omega
    · have h1 := pos (-y) (-x) (by omega) (by omega)
      rw [rd_neg x b hb, rd_neg y b hb] at h1
      omega

theorem mask_bd (x b : Int) (h0 : 0 ≤ b) (h1 : b ≤ 9223372036854775807) : 0 ≤ bits .and .i64 x b ∧ bits .and .i64 x b ≤ b := by
  have h2 : (BitVec.ofInt 64 b).toNat = b.toNat := by
    rw [BitVec.toNat_ofInt]
    omega
  have h3 : (BitVec.ofInt 64 x &&& BitVec.ofInt 64 b).toNat ≤ b.toNat := by
    rw [BitVec.toNat_and, h2]; exact Nat.and_le_right
  show 0 ≤ IntKind.i64.wrap ((BitVec.ofInt 64 x &&& BitVec.ofInt 64 b).toNat : Int) ∧ IntKind.i64.wrap ((BitVec.ofInt 64 x &&& BitVec.ofInt 64 b).toNat : Int) ≤ b
  rw [IntKind.wrap_i64]
  omega

theorem tmod_bd (x n : Int) (h : 1 ≤ n) : -n < x.tmod n ∧ x.tmod n < n := by
  obtain ⟨e, l, u, p, q⟩ := tq x n h
  exact ⟨l, u⟩

end Go.Proofs.Ytceiljhokcghgaa
