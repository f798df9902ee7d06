/- The plain numbers behind layer 1: division rounded to the nearest, of two to the one farther from 0. Contracts of the small functions of layer 1: Clamp, Sat, Div, within. -/
import Derived.Test.YtliijchcpooplaaGreatRows
import Derived.WalkKit
import Derived.ProofKit
import Derived.OpenShut
import Derived.Lib.Hide
import Derived.Handy
import Derived.Outline
import Derived.RegionTactic
namespace Go.Proofs.YtliijchcpooplaaGreat.fx

/-- x by b, to the nearest, of two to the one farther from 0. -/
def rd (x b : Int) : Int := if 0 ≤ x then (2 * x + b) / (2 * b) else -((b - 2 * x) / (2 * b))

theorem div_is (a c q : Int) (hc : 0 < c) (h1 : q * c ≤ a) (h2 : a < q * c + c) : a / c = q := by
  have e1 : q ≤ a / c := (Int.le_ediv_iff_mul_le hc).2 h1
  have e2 : a / c < q + 1 := (Int.ediv_lt_iff_lt_mul hc).2 (by rw [Int.add_mul]; omega)
  omega

theorem rd_pos (x b q : Int) (hb : 1 ≤ b) (hx : 0 ≤ x) (h1 : 2 * (q * b) ≤ 2 * x + b) (h2 : 2 * x < 2 * (q * b) + b) : rd x b = q := by
  unfold rd
  rw [if_pos hx]
  have e : q * (2 * b) = 2 * (q * b) := by rw [Int.mul_left_comm]
  exact div_is _ _ _ (by omega) (by omega) (by omega)

theorem rd_neg (x b : Int) (hb : 1 ≤ b) : rd (-x) b = -(rd x b) := by
  by_cases h0 : x = 0
  · subst h0
    have := rd_pos 0 b 0 hb (by omega) (by omega) (by omega)
    simp [this]
  · unfold rd
    by_cases hx : 0 ≤ x
    · rw [if_pos hx, if_neg (by omega)]
      have : b - 2 * -x = 2 * x + b := by omega
      rw [this]
    · rw [if_neg hx, if_pos (by omega)]
      have : 2 * -x + b = b - 2 * x := by omega
      rw [this]; omega

theorem tq (x b : Int) (hb : 1 ≤ b) : x.tdiv b * b + x.tmod b = x ∧ -b < x.tmod b ∧ x.tmod b < b ∧ (0 ≤ x → 0 ≤ x.tmod b ∧ 0 ≤ x.tdiv b ∧ x.tdiv b ≤ x) ∧ (x < 0 → x.tmod b ≤ 0 ∧ x.tdiv b ≤ 0 ∧ x ≤ x.tdiv b) := by
  have h1 : x.tdiv b * b + x.tmod b = x := Int.tdiv_mul_add_tmod x b
  have pos : ∀ y : Int, 0 ≤ y → 0 ≤ y.tmod b ∧ y.tmod b < b ∧ 0 ≤ y.tdiv b ∧ y.tdiv b ≤ y := by
    intro y hy
    rw [Int.tmod_eq_emod_of_nonneg hy, Int.tdiv_eq_ediv_of_nonneg hy]
    exact ⟨Int.emod_nonneg _ (by omega), Int.emod_lt_of_pos _ (by omega), Int.ediv_nonneg hy (by omega), Int.ediv_le_self _ hy⟩
  by_cases hx : 0 ≤ x
  · obtain ⟨a, b1, c, d⟩ := pos x hx
    exact ⟨h1, by omega, by omega, fun _ => ⟨a, c, d⟩, fun h => by omega⟩
  · obtain ⟨a, b1, c, d⟩ := pos (-x) (by omega)
    rw [Int.neg_tmod] at a b1
    rw [Int.neg_tdiv] at c d
    exact ⟨h1, by omega, by omega, fun h => by omega, fun _ => by omega⟩

/-- The quotient's half: where a rest is left, b is 2 at least. -/
theorem tq_half (x b : Int) (hb : 2 ≤ b) : 2 * x.tdiv b ≤ x ∨ x < 0 := by
  by_cases hx : 0 ≤ x
  · left
    rw [Int.tdiv_eq_ediv_of_nonneg hx]
    have h1 := Int.mul_ediv_self_le (x := x) (k := b) (by omega)
    have h2 : 0 ≤ x / b := Int.ediv_nonneg hx (by omega)
    have h3 : 2 * (x / b) ≤ b * (x / b) := Int.mul_le_mul_of_nonneg_right hb h2
    omega
  · right; omega

theorem tq_lo (x b : Int) (hb : 2 ≤ b) (hx : x < 0) : x ≤ 2 * x.tdiv b := by
  have := tq_half (-x) b hb
  rw [Int.neg_tdiv] at this
  omega

theorem rd_up (x b : Int) (hb : 1 ≤ b) (h : 0 < x.tmod b) (h2 : b - x.tmod b ≤ x.tmod b) : x.tdiv b + 1 = rd x b := by
  obtain ⟨e, l, u, p, n⟩ := tq x b hb
  have hx : 0 ≤ x := by omega
  symm
  apply rd_pos x b _ hb hx
  · rw [Int.add_mul]; omega
  · rw [Int.add_mul]; omega

theorem rd_same_pos (x b : Int) (hb : 1 ≤ b) (hx : 0 ≤ x) (h2 : x.tmod b < b - x.tmod b) : x.tdiv b = rd x b := by
  obtain ⟨e, l, u, p, n⟩ := tq x b hb
  symm
  apply rd_pos x b _ hb hx <;> omega

theorem rd_down (x b : Int) (hb : 1 ≤ b) (h : x.tmod b < 0) (h2 : b + x.tmod b ≤ -x.tmod b) : x.tdiv b - 1 = rd x b := by
  have h0 := rd_up (-x) b hb (by rw [Int.neg_tmod]; omega) (by rw [Int.neg_tmod]; omega)
  rw [Int.neg_tdiv, rd_neg x b hb] at h0
  omega

theorem rd_same_neg (x b : Int) (hb : 1 ≤ b) (hx : x < 0) (h2 : -x.tmod b < b + x.tmod b) : x.tdiv b = rd x b := by
  have h0 := rd_same_pos (-x) b hb (by omega) (by rw [Int.neg_tmod]; omega)
  rw [Int.neg_tdiv, rd_neg x b hb] at h0
  omega

theorem pow_bd (s : Int) (h4 : s ≤ 31) : (1 : Int) ≤ 2 ^ s.toNat ∧ (2 : Int) ^ s.toNat ≤ 2147483648 := by
  have h : s.toNat ≤ 31 := by omega
  have e : (2 : Int) ^ s.toNat = ((2 ^ s.toNat : Nat) : Int) := by simp
  rw [e]
  have h1 : 1 ≤ 2 ^ s.toNat := Nat.one_le_two_pow
  have h2 : 2 ^ s.toNat ≤ 2 ^ 31 := Nat.pow_le_pow_right (by omega) h
  omega

theorem rd_bd (x b : Int) (hb : 1 ≤ b) : (0 ≤ x → 0 ≤ rd x b ∧ rd x b ≤ x + 1) ∧ (x < 0 → x - 1 ≤ rd x b ∧ rd x b ≤ 0) := by
  have pos : ∀ y : Int, 0 ≤ y → 0 ≤ rd y b ∧ rd y b ≤ y + 1 := by
    intro y hy
    unfold rd
    rw [if_pos hy]
    refine ⟨Int.ediv_nonneg (by omega) (by omega), ?_⟩
    have : (2 * y + b) / (2 * b) < y + 2 := (Int.ediv_lt_iff_lt_mul (by omega)).2 (by
      have h1 : y * 1 ≤ y * b := Int.mul_le_mul_of_nonneg_left hb hy
      rw [Int.mul_left_comm, Int.add_mul]; omega)
    omega
  refine ⟨pos x, fun hx => ?_⟩
  have h := pos (-x) (by omega)
  rw [rd_neg x b hb] at h
  omega

theorem rd_near (x b : Int) (hb : 1 ≤ b) : 2 * (x - rd x b * b) ≤ b ∧ -b ≤ 2 * (x - rd x b * b) := by
  have pos : ∀ y : Int, 0 ≤ y → 2 * (y - rd y b * b) ≤ b ∧ -b ≤ 2 * (y - rd y b * b) := by
    intro y hy
    unfold rd
    rw [if_pos hy]
    have h1 : (2 * y + b) / (2 * b) * (2 * b) ≤ 2 * y + b := Int.ediv_mul_le _ (by omega)
    have h2 : 2 * y + b < ((2 * y + b) / (2 * b) + 1) * (2 * b) := Int.lt_ediv_add_one_mul_self _ (by omega)
    rw [Int.add_mul, Int.mul_left_comm] at h2
    rw [Int.mul_left_comm] at h1
    omega
  by_cases hx : 0 ≤ x
  · exact pos x hx
  · have h := pos (-x) (by omega)
    rw [rd_neg x b hb, Int.neg_mul] at h
    omega

theorem rd_mul (y b : Int) (hb : 1 ≤ b) : rd (y * b) b = y := by
  have pos : ∀ z : Int, 0 ≤ z → rd (z * b) b = z := fun z hz => rd_pos _ _ _ hb (Int.mul_nonneg hz (by omega)) (by omega) (by omega)
  by_cases hy : 0 ≤ y
  · exact pos y hy
  · have h := pos (-y) (by omega)
    rw [Int.neg_mul, rd_neg _ b hb] at h
    omega

theorem rd_one (y : Int) : rd y 1 = y := by
  have := rd_mul y 1 (by omega)
  rwa [Int.mul_one] at this

theorem rd_more (a b k : Int) (hb : 1 ≤ b) (ha : 0 ≤ a) (hk : 0 ≤ k) : rd (a + k * b) b = rd a b + k := by
  have hn : 0 ≤ k * b := Int.mul_nonneg hk (by omega)
  unfold rd
  rw [if_pos ha, if_pos (by omega)]
  have e : 2 * (a + k * b) + b = 2 * a + b + k * (2 * b) := by rw [Int.mul_left_comm k 2 b]; omega
  rw [e, Int.add_mul_ediv_right _ _ (by omega)]

theorem rd_twice (a b : Int) (ha : 0 ≤ a) : rd (2 * a) (2 * b) = rd a b := by
  unfold rd
  rw [if_pos ha, if_pos (by omega)]
  have e : 2 * (2 * a) + 2 * b = 2 * (2 * a + b) := by omega
  rw [e, Int.mul_ediv_mul_of_pos _ _ (by omega)]

theorem rd_mono (x y b : Int) (hb : 1 ≤ b) (h : x ≤ y) : rd x b ≤ rd y b := by
  have pos : ∀ x y : Int, 0 ≤ x → x ≤ y → rd x b ≤ rd y b := by
    intro x y hx h
    unfold rd
    rw [if_pos hx, if_pos (by omega)]
    exact Int.ediv_le_ediv (by omega) (by omega)
  by_cases hx : 0 ≤ x
  · exact pos x y hx h
  · by_cases hy : 0 ≤ y
    · have h1 := (rd_bd x b hb).2 (by omega)
      have h2 := (rd_bd y b hb).1 hy
      omega
    · have h1 := pos (-y) (-x) (by omega) (by omega)
      rw [rd_neg x b hb, rd_neg y b hb] at h1
      omega

theorem mask_bd (x b : Int) (h0 : 0 ≤ b) (h1 : b ≤ 9223372036854775807) : 0 ≤ bits .and .i64 x b ∧ bits .and .i64 x b ≤ b := by
  have h2 : (BitVec.ofInt 64 b).toNat = b.toNat := by
    rw [BitVec.toNat_ofInt]
    omega
  have h3 : (BitVec.ofInt 64 x &&& BitVec.ofInt 64 b).toNat ≤ b.toNat := by
    rw [BitVec.toNat_and, h2]; exact Nat.and_le_right
  show 0 ≤ IntKind.i64.wrap ((BitVec.ofInt 64 x &&& BitVec.ofInt 64 b).toNat : Int) ∧ IntKind.i64.wrap ((BitVec.ofInt 64 x &&& BitVec.ofInt 64 b).toNat : Int) ≤ b
  rw [IntKind.wrap_i64]
  omega

theorem tmod_bd (x n : Int) (h : 1 ≤ n) : -n < x.tmod n ∧ x.tmod n < n := by
  obtain ⟨e, l, u, p, q⟩ := tq x n h
  exact ⟨l, u⟩

end Go.Proofs.YtliijchcpooplaaGreat.fx
namespace Go.Proofs.YtliijchcpooplaaGreat.fx
open Go.ChangeShapes Go.WideShapes Go.ChangeAt Go.RowKit

theorem grown_trans {a b c : World} (h : Grown a b) (k : Grown b c) : Grown a c :=
  ⟨World.keptBut_trans h.1 (World.keptBut_mono (fun _ f => f.elim) k.1), fun x => (k.2.1 x).trans (h.2.1 x), Nat.le_trans h.2.2 k.2.2⟩

theorem ret_int {k : IntKind} {a b : Int} (h : a = b) : Ending.returned (.int k a) = .returned (.int k b) := by rw [h]

theorem wf_bd {x : Int} (h : (Lit.int .i64 x).wf = true) : -9223372036854775808 ≤ x ∧ x ≤ 9223372036854775807 := by
  simpa [Lit.wf, IntKind.min, IntKind.max, IntKind.bits, IntKind.signed] using h

def held (lo hi x : Int) : Int := max lo (min x hi)

theorem clamp_any (x : Int) (w : World) :
    Calls Tryz.prog 132 #[.int .i64 x] w fun e w' => e = .returned (.int .i64 (held (-128) 127 x)) ∧ Grown w w' := by
  go_enter Tryz.func132, Tryz.ntmps132
  go_wp2
  all_goals
    go_ret
    exact ⟨ret_int (by unfold held; omega), by go_grown⟩

theorem sat_any (x : Int) (w : World) :
    Calls Tryz.prog 130 #[.int .i64 x] w fun e w' => e = .returned (.int .i64 (held (-2147483648) 2147483647 x)) ∧ Grown w w' := by
  go_enter Tryz.func130, Tryz.ntmps130
  go_wp2
  all_goals
    go_ret
    exact ⟨ret_int (by unfold held; omega), by go_grown⟩

theorem div_any (x b : Int) (w : World) (h1 : -9223372036854775808 ≤ x) (h2 : x ≤ 9223372036854775807) (h3 : 1 ≤ b) (h4 : b ≤ 9223372036854775807) :
    Calls Tryz.prog 128 #[.int .i64 x, .int .i64 b] w fun e w' => e = .returned (.int .i64 (rd x b)) ∧ Grown w w' := by
  have h5 : b ≠ 0 := by omega
  obtain ⟨e0, l, u, p, n⟩ := tq x b h3
  have E := Lib.hid e0
  clear e0
  by_cases c1 : 0 < x.tmod b
  · have hx : Hid (0 ≤ x) := by show 0 ≤ x; omega
    have hq : x.tdiv b ≤ 4611686018427387904 := by have := tq_half x b (by omega); have := hx.out; omega
    have hq0 := (p hx.out).2.1
    clear p n E
    by_cases c2 : b - x.tmod b ≤ x.tmod b
    · have g := Lib.hid (rd_up x b h3 c1 c2)
      go_enter Tryz.func128, Tryz.ntmps128
      go_wp2
      go_region
      go_wp2
      go_ret
      exact ⟨ret_int g.out, by go_grown⟩
    · have g := Lib.hid (rd_same_pos x b h3 hx.out (by omega))
      go_enter Tryz.func128, Tryz.ntmps128
      go_wp2
      go_region
      go_wp2
      go_ret
      exact ⟨ret_int g.out, by go_grown⟩
  · by_cases c3 : x.tmod b < 0
    · have hx : Hid (x < 0) := by show x < 0; omega
      have hq : -4611686018427387904 ≤ x.tdiv b := by have := tq_lo x b (by omega) hx.out; omega
      have hq0 := (n hx.out).2.1
      clear p n E
      by_cases c2 : b + x.tmod b ≤ -x.tmod b
      · have g := Lib.hid (rd_down x b h3 c3 c2)
        go_enter Tryz.func128, Tryz.ntmps128
        go_wp2
        go_region
        go_wp2
        go_ret
        exact ⟨ret_int g.out, by go_grown⟩
      · have g := Lib.hid (rd_same_neg x b h3 hx.out (by omega))
        go_enter Tryz.func128, Tryz.ntmps128
        go_wp2
        go_region
        go_wp2
        go_ret
        exact ⟨ret_int g.out, by go_grown⟩
    · have g : Hid (x.tdiv b = rd x b) := by
        by_cases hx : 0 ≤ x
        · exact rd_same_pos x b h3 hx (by omega)
        · exact rd_same_neg x b h3 (by omega) (by omega)
      clear p n E
      go_enter Tryz.func128, Tryz.ntmps128
      go_wp2
      go_region
      go_wp2
      go_ret
      exact ⟨ret_int g.out, by go_grown⟩

theorem div_low (x b : Int) (w : World) (h1 : -9223372036854775808 ≤ x) (h2 : x ≤ 9223372036854775807) (h3 : b ≤ 0) :
    Calls Tryz.prog 128 #[.int .i64 x, .int .i64 b] w fun e w' => e = .returned (.int .i64 x) ∧ Grown w w' := by
  have t1 := Lib.hid (Int.tmod_one x)
  have t2 := Lib.hid (Int.tdiv_one x)
  go_enter Tryz.func128, Tryz.ntmps128
  go_wp2
  go_region
  go_wp2
  go_ret
  exact ⟨rfl, by go_grown⟩

theorem within_any (lo hi : Int) (w : World) :
    Calls Tryz.prog 131 #[.int .i64 lo, .int .i64 hi] w fun e w' => e = .returned (.func (.func 134) #[] #[.pointer (some ⟨w.heap.size, 0, none⟩), .pointer (some ⟨w.heap.size + 1, 0, none⟩)]) ∧ w' = (w.alloc (.cells #[.int .i64 lo] 3)).alloc (.cells #[.int .i64 hi] 3) := by
  go_enter Tryz.func131, Tryz.ntmps131
  go_wp2
  go_ret
  exact ⟨rfl, rfl⟩
theorem inner_any (lo hi x : Int) (w : World) (p q : Addr) (hp : w.cell? p = some (.int .i64 lo)) (hq : w.cell? q = some (.int .i64 hi)) :
    Calls Tryz.prog 134 #[.int .i64 x, .pointer (some p), .pointer (some q)] w fun e w' => e = .returned (.int .i64 (held lo hi x)) ∧ w' = w := by
  go_enter Tryz.func134, Tryz.ntmps134
  go_wp2
  all_goals
    go_ret
    exact ⟨ret_int (by unfold held; omega), rfl⟩

theorem held_any (lo hi x s : Int) (w : World) (p q : Addr) (hs : Hid (s = held lo hi x)) (hp : w.cell? p = some (.int .i64 lo)) (hq : w.cell? q = some (.int .i64 hi)) :
    Calls Tryz.prog 134 #[.int .i64 x, .pointer (some p), .pointer (some q)] w fun e w' => e = .returned (.int .i64 s) ∧ w' = w := by
  rw [hs.out]; exact inner_any lo hi x w p q hp hq

theorem shift_any (x k s q : Int) (w : World) (h1 : -9223372036854775808 ≤ x) (h2 : x ≤ 9223372036854775807) (hs : Hid (s = held 0 31 k)) (h3 : 0 ≤ s) (h4 : s ≤ 31) (hq : Hid (q = rd x (2 ^ s.toNat))) :
    Calls Tryz.prog 133 #[.int .i64 x, .int .i64 k] w fun e w' => e = .returned (.int .i64 q) ∧ Grown w w' := by
  obtain ⟨p1, p2⟩ := pow_bd s h4
  go_enter Tryz.func133, Tryz.ntmps133
  go_wp2_with (first | (go_at_call 131; refine (within_any _ _ _).mono ?_; rintro e w' ⟨rfl, rfl⟩) | (go_at_call 134; refine (held_any 0 31 k s _ _ _ hs (by go_cell) (by go_cell)).mono ?_; rintro e w' ⟨rfl, rfl⟩) | (go_at_call 128; refine (div_any x (2 ^ s.toNat) _ h1 h2 p1 (by omega)).mono ?_; rintro e w' ⟨rfl, hg⟩))
  go_ret
  exact ⟨ret_int hq.out.symm, grown_trans (by go_grown) hg⟩

theorem scale_any (acc mul shift zero a m s z p q r : Int) (w : World)
    (ha : Hid (a = held (-2147483648) 2147483647 acc)) (hm : Hid (m = held 1 32767 mul)) (hs : Hid (s = held 0 31 shift)) (hz : Hid (z = held (-128) 127 zero))
    (hp : Hid (p = a * m)) (hq : Hid (q = rd p (2 ^ s.toNat))) (hr : Hid (r = held (-128) 127 (z + q))) :
    Calls Tryz.prog 119 #[.int .i64 acc, .int .i64 mul, .int .i64 shift, .int .i64 zero] w fun e w' => e = .returned (.int .i64 r) ∧ Grown w w' := by
  have s0 : 0 ≤ s ∧ s ≤ 31 := by rw [hs.out]; unfold held; omega
  have z0 : -128 ≤ z ∧ z ≤ 127 := by rw [hz.out]; unfold held; omega
  have a0 : -2147483648 ≤ a ∧ a ≤ 2147483647 := by rw [ha.out]; unfold held; omega
  have m0 : 1 ≤ m ∧ m ≤ 32767 := by rw [hm.out]; unfold held; omega
  have p0 : -70366596694016 ≤ a * m ∧ a * m ≤ 70366596694016 := by
    have h1 : a * m ≤ 2147483647 * m := Int.mul_le_mul_of_nonneg_right a0.2 (by omega)
    have h2 : -2147483648 * m ≤ a * m := Int.mul_le_mul_of_nonneg_right a0.1 (by omega)
    omega
  have q0 : -70366596694017 ≤ q ∧ q ≤ 70366596694017 := by
    have := rd_bd p (2 ^ s.toNat) (pow_bd s s0.2).1
    rw [← hq.out] at this
    have e := hp.out
    omega
  obtain ⟨s1, s2⟩ := s0
  obtain ⟨z1, z2⟩ := z0
  obtain ⟨a1, a2⟩ := a0
  obtain ⟨m1, m2⟩ := m0
  obtain ⟨p1, p2⟩ := p0
  obtain ⟨q1, q2⟩ := q0
  have hq' : Hid (q = rd (a * m) (2 ^ s.toNat)) := by show _ = _; rw [hq.out, hp.out]
  go_enter Tryz.func119, Tryz.ntmps119
  go_wp2_with fail
  refine (sat_any acc _).mono ?_; rintro e w1 ⟨rfl, g1⟩
  rw [← ha.out]
  go_wp2_with (first | (go_at_call 131; refine (within_any _ _ _).mono ?_; rintro e w' ⟨rfl, rfl⟩) | (go_at_call 134; refine (held_any 1 32767 mul m _ _ _ hm (by go_cell) (by go_cell)).mono ?_; rintro e w' ⟨rfl, rfl⟩))
  refine (clamp_any zero _).mono ?_; rintro e w2 ⟨rfl, g2⟩
  rw [← hz.out]
  go_wp2_with fail
  refine (shift_any (a * m) shift s q _ (by omega) (by omega) hs s1 s2 hq').mono ?_; rintro e w3 ⟨rfl, g3⟩
  go_wp2_with fail
  refine (clamp_any (z + q) _).mono ?_; rintro e w4 ⟨rfl, g4⟩
  rw [← hr.out]
  go_wp2_with fail
  go_ret
  exact ⟨rfl, grown_trans g1 (grown_trans (grown_trans (by go_grown) g2) (grown_trans g3 g4))⟩

theorem div_at (x b q : Int) (w : World) (hq : Hid (q = rd x b)) (h1 : -9223372036854775808 ≤ x) (h2 : x ≤ 9223372036854775807) (h3 : 1 ≤ b) (h4 : b ≤ 9223372036854775807) :
    Calls Tryz.prog 128 #[.int .i64 x, .int .i64 b] w fun e w' => e = .returned (.int .i64 q) ∧ Grown w w' := by
  rw [hq.out]; exact div_any x b w h1 h2 h3 h4

theorem clamp_at (x c : Int) (w : World) (hc : Hid (c = held (-128) 127 x)) :
    Calls Tryz.prog 132 #[.int .i64 x] w fun e w' => e = .returned (.int .i64 c) ∧ Grown w w' := by
  rw [hc.out]; exact clamp_any x w

theorem sat_at (x c : Int) (w : World) (hc : Hid (c = held (-2147483648) 2147483647 x)) :
    Calls Tryz.prog 130 #[.int .i64 x] w fun e w' => e = .returned (.int .i64 c) ∧ Grown w w' := by
  rw [hc.out]; exact sat_any x w

end Go.Proofs.YtliijchcpooplaaGreat.fx
