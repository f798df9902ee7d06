/- The plain numbers behind layer 1: division rounded to the nearest, of two to the one farther from 0. Contracts of the small functions of layer 1: Clamp, Sat, Div, within. The reference of layer 2: May, Size, Row, Out. The reference of layer 2: Reach, Index. -/
import Derived.Test.YtliijchcpooplaaGreatRows
import Derived.WalkKit
import Derived.ProofKit
import Derived.OpenShut
import Derived.Lib.Hide
import Derived.Handy
import Derived.Outline
import Derived.RegionTactic
import Derived.Test.YtliijchcpooplaaGreatOMWorld
namespace Go.Proofs.YtliijchcpooplaaGreat.fx
def rd (x b : Int) : Int := if 0 <= x then (2 * x + b) / (2 * b) else -((b - 2 * x) / (2 * b))
theorem div_is (a c q : Int) (hc : 0 < c) (h1 : q * c <= a) (h2 : a < q * c + c) : a / c = q := by
  have e1 : q <= a / c := (Int.le_ediv_iff_mul_le hc).2 h1
  have e2 : a / c < q + 1 := (Int.ediv_lt_iff_lt_mul hc).2 (by rw [Int.add_mul]; omega)
  omega
theorem rd_pos (x b q : Int) (hb : 1 <= b) (hx : 0 <= x) (h1 : 2 * (q * b) <= 2 * x + b) (h2 : 2 * x < 2 * (q * b) + b) : rd x b = q := by
  unfold rd
  rw [if_pos hx]
  have e : q * (2 * b) = 2 * (q * b) := by rw [Int.mul_left_comm]
  exact div_is _ _ _ (by omega) (by omega) (by omega)
theorem rd_neg (x b : Int) (hb : 1 <= b) : rd (-x) b = -(rd x b) := by
  by_cases h0 : x = 0
  . subst h0
    have := rd_pos 0 b 0 hb (by omega) (by omega) (by omega)
    simp [this]
  . unfold rd
    by_cases hx : 0 <= x
    . rw [if_pos hx, if_neg (by omega)]
      have : b - 2 * -x = 2 * x + b := by omega
      rw [this]
    . rw [if_neg hx, if_pos (by omega)]
      have : 2 * -x + b = b - 2 * x := by omega
      rw [this]; omega
theorem tq (x b : Int) (hb : 1 <= b) : x.tdiv b * b + x.tmod b = x /\ -b < x.tmod b /\ x.tmod b < b /\ (0 <= x -> 0 <= x.tmod b /\ 0 <= x.tdiv b /\ x.tdiv b <= x) /\ (x < 0 -> x.tmod b <= 0 /\ x.tdiv b <= 0 /\ x <= x.tdiv b) := by
  have h1 : x.tdiv b * b + x.tmod b = x := Int.tdiv_mul_add_tmod x b
  have pos : ∀ y : Int, 0 <= y -> 0 <= y.tmod b /\ y.tmod b < b /\ 0 <= y.tdiv b /\ y.tdiv b <= y := by
    intro y hy
    rw [Int.tmod_eq_emod_of_nonneg hy, Int.tdiv_eq_ediv_of_nonneg hy]
    exact ⟨Int.emod_nonneg _ (by omega), Int.emod_lt_of_pos _ (by omega), Int.ediv_nonneg hy (by omega), Int.ediv_le_self _ hy⟩
  by_cases hx : 0 <= x
  . obtain ⟨a, b1, c, d⟩ := pos x hx
    exact ⟨h1, by omega, by omega, fun _ => ⟨a, c, d⟩, fun h => by omega⟩
  . obtain ⟨a, b1, c, d⟩ := pos (-x) (by omega)
    rw [Int.neg_tmod] at a b1
    rw [Int.neg_tdiv] at c d
    exact ⟨h1, by omega, by omega, fun h => by omega, fun _ => by omega⟩
theorem tq_half (x b : Int) (hb : 2 <= b) : 2 * x.tdiv b <= x ∨ x < 0 := by
  by_cases hx : 0 <= x
  . left
    rw [Int.tdiv_eq_ediv_of_nonneg hx]
    have h1 := Int.mul_ediv_self_le (x := x) (k := b) (by omega)
    have h2 : 0 <= x / b := Int.ediv_nonneg hx (by omega)
    have h3 : 2 * (x / b) <= b * (x / b) := Int.mul_le_mul_of_nonneg_right hb h2
    omega
  . right; omega
theorem tq_lo (x b : Int) (hb : 2 <= b) (hx : x < 0) : x <= 2 * x.tdiv b := by
  have := tq_half (-x) b hb
  rw [Int.neg_tdiv] at this
  omega
theorem rd_up (x b : Int) (hb : 1 <= b) (h : 0 < x.tmod b) (h2 : b - x.tmod b <= x.tmod b) : x.tdiv b + 1 = rd x b := by
  obtain ⟨e, l, u, p, n⟩ := tq x b hb
  have hx : 0 <= x := by omega
  symm
  apply rd_pos x b _ hb hx
  . rw [Int.add_mul]; omega
  . rw [Int.add_mul]; omega
theorem rd_same_pos (x b : Int) (hb : 1 <= b) (hx : 0 <= x) (h2 : x.tmod b < b - x.tmod b) : x.tdiv b = rd x b := by
  obtain ⟨e, l, u, p, n⟩ := tq x b hb
  symm
  apply rd_pos x b _ hb hx <;> omega
theorem rd_down (x b : Int) (hb : 1 <= b) (h : x.tmod b < 0) (h2 : b + x.tmod b <= -x.tmod b) : x.tdiv b - 1 = rd x b := by
  have h0 := rd_up (-x) b hb (by rw [Int.neg_tmod]; omega) (by rw [Int.neg_tmod]; omega)
  rw [Int.neg_tdiv, rd_neg x b hb] at h0
  omega
theorem rd_same_neg (x b : Int) (hb : 1 <= b) (hx : x < 0) (h2 : -x.tmod b < b + x.tmod b) : x.tdiv b = rd x b := by
  have h0 := rd_same_pos (-x) b hb (by omega) (by rw [Int.neg_tmod]; omega)
  rw [Int.neg_tdiv, rd_neg x b hb] at h0
  omega
theorem pow_bd (s : Int) (h4 : s <= 31) : (1 : Int) <= 2 ^ s.toNat /\ (2 : Int) ^ s.toNat <= 2147483648 := by
  have h : s.toNat <= 31 := by omega
  have e : (2 : Int) ^ s.toNat = ((2 ^ s.toNat : Nat) : Int) := by simp
  rw [e]
  have h1 : 1 <= 2 ^ s.toNat := Nat.one_le_two_pow
  have h2 : 2 ^ s.toNat <= 2 ^ 31 := Nat.pow_le_pow_right (by omega) h
  omega
theorem rd_bd (x b : Int) (hb : 1 <= b) : (0 <= x -> 0 <= rd x b /\ rd x b <= x + 1) /\ (x < 0 -> x - 1 <= rd x b /\ rd x b <= 0) := by
  have pos : ∀ y : Int, 0 <= y -> 0 <= rd y b /\ rd y b <= y + 1 := by
    intro y hy
    unfold rd
    rw [if_pos hy]
    refine ⟨Int.ediv_nonneg (by omega) (by omega), ?_⟩
    have : (2 * y + b) / (2 * b) < y + 2 := (Int.ediv_lt_iff_lt_mul (by omega)).2 (by
      have h1 : y * 1 <= y * b := Int.mul_le_mul_of_nonneg_left hb hy
      rw [Int.mul_left_comm, Int.add_mul]; omega)
    omega
  refine ⟨pos x, fun hx => ?_⟩
  have h := pos (-x) (by omega)
  rw [rd_neg x b hb] at h
  omega
theorem rd_mul (y b : Int) (hb : 1 <= b) : rd (y * b) b = y := by
  have pos : ∀ z : Int, 0 <= z -> rd (z * b) b = z := fun z hz => rd_pos _ _ _ hb (Int.mul_nonneg hz (by omega)) (by omega) (by omega)
  by_cases hy : 0 <= y
  . exact pos y hy
  . have h := pos (-y) (by omega)
    rw [Int.neg_mul, rd_neg _ b hb] at h
    omega
theorem rd_mono (x y b : Int) (hb : 1 <= b) (h : x <= y) : rd x b <= rd y b := by
  have pos : ∀ x y : Int, 0 <= x -> x <= y -> rd x b <= rd y b := by
    intro x y hx h
    unfold rd
    rw [if_pos hx, if_pos (by omega)]
    exact Int.ediv_le_ediv (by omega) (by omega)
  by_cases hx : 0 <= x
  . exact pos x y hx h
  . by_cases hy : 0 <= y
    . have h1 := (rd_bd x b hb).2 (by omega)
      have h2 := (rd_bd y b hb).1 hy
      omega
    . have h1 := pos (-y) (-x) (by omega) (by omega)
      rw [rd_neg x b hb, rd_neg y b hb] at h1
      omega
end Go.Proofs.YtliijchcpooplaaGreat.fx
namespace Go.Proofs.YtliijchcpooplaaGreat.fx
open Go.ChangeShapes Go.WideShapes Go.ChangeAt Go.RowKit
theorem grown_trans {a b c : World} (h : Grown a b) (k : Grown b c) : Grown a c :=
  ⟨World.keptBut_trans h.1 (World.keptBut_mono (fun _ f => f.elim) k.1), fun x => (k.2.1 x).trans (h.2.1 x), Nat.le_trans h.2.2 k.2.2⟩
theorem ret_int {k : IntKind} {a b : Int} (h : a = b) : Ending.returned (.int k a) = .returned (.int k b) := by rw [h]
def held (lo hi x : Int) : Int := max lo (min x hi)
theorem clamp_any (x : Int) (w : World) :
    Calls Tryz.prog 132 #[.int .i64 x] w fun e w' => e = .returned (.int .i64 (held (-128) 127 x)) /\ Grown w w' := by
  go_enter Tryz.func132, Tryz.ntmps132
  go_wp2
  all_goals
    go_ret
    exact ⟨ret_int (by unfold held; omega), by go_grown⟩
theorem sat_any (x : Int) (w : World) :
    Calls Tryz.prog 130 #[.int .i64 x] w fun e w' => e = .returned (.int .i64 (held (-2147483648) 2147483647 x)) /\ Grown w w' := by
  go_enter Tryz.func130, Tryz.ntmps130
  go_wp2
  all_goals
    go_ret
    exact ⟨ret_int (by unfold held; omega), by go_grown⟩
theorem div_any (x b : Int) (w : World) (h1 : -9223372036854775808 <= x) (h2 : x <= 9223372036854775807) (h3 : 1 <= b) (h4 : b <= 9223372036854775807) :
    Calls Tryz.prog 128 #[.int .i64 x, .int .i64 b] w fun e w' => e = .returned (.int .i64 (rd x b)) /\ Grown w w' := by
  have h5 : b ≠ 0 := by omega
  obtain ⟨e0, l, u, p, n⟩ := tq x b h3
  have E := Lib.hid e0
  clear e0
  by_cases c1 : 0 < x.tmod b
  . have hx : Hid (0 <= x) := by show 0 <= x; omega
    have hq : x.tdiv b <= 4611686018427387904 := by have := tq_half x b (by omega); have := hx.out; omega
    have hq0 := (p hx.out).2.1
    clear p n E
    by_cases c2 : b - x.tmod b <= x.tmod b
    . have g := Lib.hid (rd_up x b h3 c1 c2)
      go_enter Tryz.func128, Tryz.ntmps128
      go_wp2
      go_region
      go_wp2
      go_ret
      exact ⟨ret_int g.out, by go_grown⟩
    . have g := Lib.hid (rd_same_pos x b h3 hx.out (by omega))
      go_enter Tryz.func128, Tryz.ntmps128
      go_wp2
      go_region
      go_wp2
      go_ret
      exact ⟨ret_int g.out, by go_grown⟩
  . by_cases c3 : x.tmod b < 0
    . have hx : Hid (x < 0) := by show x < 0; omega
      have hq : -4611686018427387904 <= x.tdiv b := by have := tq_lo x b (by omega) hx.out; omega
      have hq0 := (n hx.out).2.1
      clear p n E
      by_cases c2 : b + x.tmod b <= -x.tmod b
      . have g := Lib.hid (rd_down x b h3 c3 c2)
        go_enter Tryz.func128, Tryz.ntmps128
        go_wp2
        go_region
        go_wp2
        go_ret
        exact ⟨ret_int g.out, by go_grown⟩
      . have g := Lib.hid (rd_same_neg x b h3 hx.out (by omega))
        go_enter Tryz.func128, Tryz.ntmps128
        go_wp2
        go_region
        go_wp2
        go_ret
        exact ⟨ret_int g.out, by go_grown⟩
    . have g : Hid (x.tdiv b = rd x b) := by
        by_cases hx : 0 <= x
        . exact rd_same_pos x b h3 hx (by omega)
        . exact rd_same_neg x b h3 (by omega) (by omega)
      clear p n E
      go_enter Tryz.func128, Tryz.ntmps128
      go_wp2
      go_region
      go_wp2
      go_ret
      exact ⟨ret_int g.out, by go_grown⟩
theorem within_any (lo hi : Int) (w : World) :
    Calls Tryz.prog 131 #[.int .i64 lo, .int .i64 hi] w fun e w' => e = .returned (.func (.func 134) #[] #[.pointer (some ⟨w.heap.size, 0, none⟩), .pointer (some ⟨w.heap.size + 1, 0, none⟩)]) /\ w' = (w.alloc (.cells #[.int .i64 lo] 3)).alloc (.cells #[.int .i64 hi] 3) := by
  go_enter Tryz.func131, Tryz.ntmps131
  go_wp2
  go_ret
  exact ⟨rfl, rfl⟩
theorem inner_any (lo hi x : Int) (w : World) (p q : Addr) (hp : w.cell? p = some (.int .i64 lo)) (hq : w.cell? q = some (.int .i64 hi)) :
    Calls Tryz.prog 134 #[.int .i64 x, .pointer (some p), .pointer (some q)] w fun e w' => e = .returned (.int .i64 (held lo hi x)) /\ w' = w := by
  go_enter Tryz.func134, Tryz.ntmps134
  go_wp2
  all_goals
    go_ret
    exact ⟨ret_int (by unfold held; omega), rfl⟩
theorem held_any (lo hi x s : Int) (w : World) (p q : Addr) (hs : Hid (s = held lo hi x)) (hp : w.cell? p = some (.int .i64 lo)) (hq : w.cell? q = some (.int .i64 hi)) :
    Calls Tryz.prog 134 #[.int .i64 x, .pointer (some p), .pointer (some q)] w fun e w' => e = .returned (.int .i64 s) /\ w' = w := by
  rw [hs.out]; exact inner_any lo hi x w p q hp hq
theorem shift_any (x k s q : Int) (w : World) (h1 : -9223372036854775808 <= x) (h2 : x <= 9223372036854775807) (hs : Hid (s = held 0 31 k)) (h3 : 0 <= s) (h4 : s <= 31) (hq : Hid (q = rd x (2 ^ s.toNat))) :
    Calls Tryz.prog 133 #[.int .i64 x, .int .i64 k] w fun e w' => e = .returned (.int .i64 q) /\ Grown w w' := by
  obtain ⟨p1, p2⟩ := pow_bd s h4
  go_enter Tryz.func133, Tryz.ntmps133
  go_wp2_with (first | (go_at_call 131; refine (within_any _ _ _).mono ?_; rintro e w' ⟨rfl, rfl⟩) | (go_at_call 134; refine (held_any 0 31 k s _ _ _ hs (by go_cell) (by go_cell)).mono ?_; rintro e w' ⟨rfl, rfl⟩) | (go_at_call 128; refine (div_any x (2 ^ s.toNat) _ h1 h2 p1 (by omega)).mono ?_; rintro e w' ⟨rfl, hg⟩))
  go_ret
  exact ⟨ret_int hq.out.symm, grown_trans (by go_grown) hg⟩
theorem scale_any (acc mul shift zero a m s z p q r : Int) (w : World)
    (ha : Hid (a = held (-2147483648) 2147483647 acc)) (hm : Hid (m = held 1 32767 mul)) (hs : Hid (s = held 0 31 shift)) (hz : Hid (z = held (-128) 127 zero))
    (hp : Hid (p = a * m)) (hq : Hid (q = rd p (2 ^ s.toNat))) (hr : Hid (r = held (-128) 127 (z + q))) :
    Calls Tryz.prog 119 #[.int .i64 acc, .int .i64 mul, .int .i64 shift, .int .i64 zero] w fun e w' => e = .returned (.int .i64 r) /\ Grown w w' := by
  have s0 : 0 <= s /\ s <= 31 := by rw [hs.out]; unfold held; omega
  have z0 : -128 <= z /\ z <= 127 := by rw [hz.out]; unfold held; omega
  have a0 : -2147483648 <= a /\ a <= 2147483647 := by rw [ha.out]; unfold held; omega
  have m0 : 1 <= m /\ m <= 32767 := by rw [hm.out]; unfold held; omega
  have p0 : -70366596694016 <= a * m /\ a * m <= 70366596694016 := by
    have h1 : a * m <= 2147483647 * m := Int.mul_le_mul_of_nonneg_right a0.2 (by omega)
    have h2 : -2147483648 * m <= a * m := Int.mul_le_mul_of_nonneg_right a0.1 (by omega)
    omega
  have q0 : -70366596694017 <= q /\ q <= 70366596694017 := by
    have := rd_bd p (2 ^ s.toNat) (pow_bd s s0.2).1
    rw [<- hq.out] at this
    have e := hp.out
    omega
  obtain ⟨s1, s2⟩ := s0
  obtain ⟨z1, z2⟩ := z0
  obtain ⟨a1, a2⟩ := a0
  obtain ⟨m1, m2⟩ := m0
  obtain ⟨p1, p2⟩ := p0
  obtain ⟨q1, q2⟩ := q0
  have hq' : Hid (q = rd (a * m) (2 ^ s.toNat)) := by show _ = _; rw [hq.out, hp.out]
  go_enter Tryz.func119, Tryz.ntmps119
  go_wp2_with fail
  refine (sat_any acc _).mono ?_; rintro e w1 ⟨rfl, g1⟩
  rw [<- ha.out]
  go_wp2_with (first | (go_at_call 131; refine (within_any _ _ _).mono ?_; rintro e w' ⟨rfl, rfl⟩) | (go_at_call 134; refine (held_any 1 32767 mul m _ _ _ hm (by go_cell) (by go_cell)).mono ?_; rintro e w' ⟨rfl, rfl⟩))
  refine (clamp_any zero _).mono ?_; rintro e w2 ⟨rfl, g2⟩
  rw [<- hz.out]
  go_wp2_with fail
  refine (shift_any (a * m) shift s q _ (by omega) (by omega) hs s1 s2 hq').mono ?_; rintro e w3 ⟨rfl, g3⟩
  go_wp2_with fail
  refine (clamp_any (z + q) _).mono ?_; rintro e w4 ⟨rfl, g4⟩
  rw [<- hr.out]
  go_wp2_with fail
  go_ret
  exact ⟨rfl, grown_trans g1 (grown_trans (grown_trans (by go_grown) g2) (grown_trans g3 g4))⟩
theorem div_at (x b q : Int) (w : World) (hq : Hid (q = rd x b)) (h1 : -9223372036854775808 <= x) (h2 : x <= 9223372036854775807) (h3 : 1 <= b) (h4 : b <= 9223372036854775807) :
    Calls Tryz.prog 128 #[.int .i64 x, .int .i64 b] w fun e w' => e = .returned (.int .i64 q) /\ Grown w w' := by
  rw [hq.out]; exact div_any x b w h1 h2 h3 h4
end Go.Proofs.YtliijchcpooplaaGreat.fx
namespace Go.Proofs.YtliijchcpooplaaGreat
open Go.ChangeShapes Go.WideShapes Go.ChangeAt Go.RowKit
theorem rmay_yes (H W C : Int) (w : World) (h : mayS H W C) :
    Calls Tryz.prog 20 #[.agg #[.int .i64 H, .int .i64 W, .int .i64 C]] w fun e w' => e = .returned (.int .i64 0) /\ Grown w w' := by
  obtain ⟨h1, h2, h3, h4, h5, h6⟩ := h
  go_enter Tryz.func20, Tryz.ntmps20
  go_wp2
  go_ret
  exact ⟨rfl, by go_grown⟩
theorem rmay_no (H W C : Int) (w : World) (h : ¬ mayS H W C) :
    Calls Tryz.prog 20 #[.agg #[.int .i64 H, .int .i64 W, .int .i64 C]] w fun e w' => e = .returned (.int .i64 10) /\ Grown w w' := by
  by_cases c1 : H < 1
  . go_enter Tryz.func20, Tryz.ntmps20
    go_wp2
    go_ret
    exact ⟨rfl, by go_grown⟩
  by_cases c2 : 16 < H
  . go_enter Tryz.func20, Tryz.ntmps20
    go_wp2
    go_ret
    exact ⟨rfl, by go_grown⟩
  by_cases c3 : W < 1
  . go_enter Tryz.func20, Tryz.ntmps20
    go_wp2
    go_ret
    exact ⟨rfl, by go_grown⟩
  by_cases c4 : 16 < W
  . go_enter Tryz.func20, Tryz.ntmps20
    go_wp2
    go_ret
    exact ⟨rfl, by go_grown⟩
  by_cases c5 : C < 1
  . go_enter Tryz.func20, Tryz.ntmps20
    go_wp2
    go_ret
    exact ⟨rfl, by go_grown⟩
  by_cases c6 : 8 < C
  . go_enter Tryz.func20, Tryz.ntmps20
    go_wp2
    go_ret
    exact ⟨rfl, by go_grown⟩
  exact absurd ⟨by omega, by omega, by omega, by omega, by omega, by omega⟩ h
theorem rsize_any (H W C q : Int) (w : World) (hq : Hid (q = sizeI H W C)) :
    Calls Tryz.prog 16 #[.agg #[.int .i64 H, .int .i64 W, .int .i64 C]] w fun e w' => e = .returned (.int .i64 q) /\ Grown w w' := by
  rw [hq.out]
  by_cases h : mayS H W C
  . have e : sizeI H W C = H * W * C := by unfold sizeI; rw [if_pos h]
    rw [e]
    obtain ⟨h1, h2, h3, h4, h5, h6⟩ := id h
    obtain ⟨m1, m2⟩ := mul_bd h1 h2 h3 h4
    obtain ⟨m3, m4⟩ := mul_bd m1 m2 h5 h6
    go_enter Tryz.func16, Tryz.ntmps16
    go_wp2_with fail
    refine (rmay_yes H W C _ h).mono ?_; rintro e w1 ⟨rfl, g1⟩
    have c0 : w1.cell? ⟨w.heap.size, 0, none⟩ = some (.int .i64 H) := (grown_cell g1 (by simp)).trans (by go_cell)
    have c1 : w1.cell? ⟨w.heap.size, 1, none⟩ = some (.int .i64 W) := (grown_cell g1 (by simp)).trans (by go_cell)
    have c2 : w1.cell? ⟨w.heap.size, 2, none⟩ = some (.int .i64 C) := (grown_cell g1 (by simp)).trans (by go_cell)
    clear h
    go_wp2_with fail
    go_ret
    exact ⟨rfl, grown_trans (by go_grown) g1⟩
  . have e : sizeI H W C = 0 := by unfold sizeI; rw [if_neg h]
    rw [e]
    go_enter Tryz.func16, Tryz.ntmps16
    go_wp2_with fail
    refine (rmay_no H W C _ h).mono ?_; rintro e w1 ⟨rfl, g1⟩
    go_wp2_with fail
    go_ret
    exact ⟨rfl, grown_trans (by go_grown) g1⟩
theorem rout_yes (size k stride pad n : Int) (w : World) (u1 : 1 <= size) (u2 : size <= 64) (v1 : 1 <= k) (v2 : k <= 16) (x1 : 1 <= stride) (x2 : stride <= 16) (y1 : 0 <= pad) (y2 : pad <= 16)
    (n1 : 0 <= n) (n2 : n <= 97) (hn : Hid (∀ j : Nat, (j : Int) <= n -> (-pad + j * stride <= 4000 /\ -16 <= -pad + j * stride /\ (-pad + j * stride + k <= size + pad ↔ (j : Int) < n)))) :
    Calls Tryz.prog 46 #[.int .i64 size, .int .i64 k, .int .i64 stride, .int .i64 pad] w fun e w' => e = .returned (.int .i64 n) /\ Grown w w' := by
  go_enter Tryz.func46, Tryz.ntmps46
  go_wp2_with fail
  go_loop [9, 10] (fun c a => ∃ j : Nat, (j : Int) <= n /\ c = .int .i64 j /\ a = .int .i64 (-pad + j * stride)) (fun c _ => (n - intOf c).toNat)
  case atStart => exact ⟨0, by omega, rfl, by simp⟩
  case round =>
    obtain ⟨j, hj, rfl, rfl⟩ := hrel
    obtain ⟨b1, b2, b3⟩ := hn.out j hj
    by_cases hlt : (j : Int) < n
    . have b4 := b3.mpr hlt
      clear b3
      go_wp2_with fail
      go_round
      case rel => exact ⟨j + 1, by omega, by go_num, by congr 1; rw [Int.natCast_add, Int.add_mul]; omega⟩
      case measure => simp [intOf]; omega
    . have b4 : ¬ (-pad + j * stride + k <= size + pad) := fun h => hlt (b3.mp h)
      obtain rfl : n = j := by omega
      clear b3
      go_wp2_with fail
      go_ret
      exact ⟨rfl, by go_grown⟩
theorem rout_any (size k stride pad q : Int) (w : World) (hq : Hid (q = outI size k stride pad)) :
    Calls Tryz.prog 46 #[.int .i64 size, .int .i64 k, .int .i64 stride, .int .i64 pad] w fun e w' => e = .returned (.int .i64 q) /\ Grown w w' := by
  by_cases c : (1 <= size /\ size <= 64) /\ (1 <= k /\ k <= 16) /\ (1 <= stride /\ stride <= 16) /\ (0 <= pad /\ pad <= 16)
  . obtain ⟨⟨u1, u2⟩, ⟨v1, v2⟩, ⟨x1, x2⟩, ⟨y1, y2⟩⟩ := c
    have q0 : 0 <= q /\ q <= 97 := by rw [hq.out]; exact out_ge
    refine rout_yes size k stride pad q w u1 u2 v1 v2 x1 x2 y1 y2 q0.1 q0.2 (Lib.hid (fun j hj => ?_))
    have e : -pad + j * stride + k <= size + pad ↔ j * stride <= size + 2 * pad - k := by constructor <;> intro h <;> omega
    rw [e]
    by_cases c5 : k <= size + 2 * pad
    . have hw : mayWin size k stride pad := ⟨u1, u2, v1, v2, x1, x2, y1, y2, c5⟩
      have hq' := hq.out
      rw [outI_yes hw] at hq'
      have e2 := Int.le_ediv_iff_mul_le (a := (j : Int)) (b := size + 2 * pad - k) (c := stride) (by omega)
      have b1 : 0 <= (j : Int) * stride := Int.mul_nonneg (by omega) (by omega)
      have b2 : (j : Int) * stride <= 97 * 16 := Int.mul_le_mul (by omega) x2 (by omega) (by omega)
      refine ⟨by omega, by omega, ?_⟩
      rw [<- e2]
      constructor <;> intro h <;> omega
    . have hq' := hq.out
      rw [outI_no (fun h => c5 h.2.2.2.2.2.2.2.2)] at hq'
      obtain rfl : j = 0 := by omega
      simp
      omega
  . have q0 : q = 0 := by rw [hq.out]; exact outI_no (fun h => c ⟨⟨h.1, h.2.1⟩, ⟨h.2.2.1, h.2.2.2.1⟩, ⟨h.2.2.2.2.1, h.2.2.2.2.2.1⟩, ⟨h.2.2.2.2.2.2.1, h.2.2.2.2.2.2.2.1⟩⟩)
    subst q0
    clear hq
    by_cases c1 : size < 1
    . clear c
      go_enter Tryz.func46, Tryz.ntmps46
      go_wp2
      go_ret
      exact ⟨rfl, by go_grown⟩
    by_cases c2 : 64 < size
    . clear c
      go_enter Tryz.func46, Tryz.ntmps46
      go_wp2
      go_ret
      exact ⟨rfl, by go_grown⟩
    by_cases c3 : k < 1
    . clear c
      go_enter Tryz.func46, Tryz.ntmps46
      go_wp2
      go_ret
      exact ⟨rfl, by go_grown⟩
    by_cases c4 : 16 < k
    . clear c
      go_enter Tryz.func46, Tryz.ntmps46
      go_wp2
      go_ret
      exact ⟨rfl, by go_grown⟩
    by_cases c5 : stride < 1
    . clear c
      go_enter Tryz.func46, Tryz.ntmps46
      go_wp2
      go_ret
      exact ⟨rfl, by go_grown⟩
    by_cases c6 : 16 < stride
    . clear c
      go_enter Tryz.func46, Tryz.ntmps46
      go_wp2
      go_ret
      exact ⟨rfl, by go_grown⟩
    by_cases c7 : pad < 0
    . clear c
      go_enter Tryz.func46, Tryz.ntmps46
      go_wp2
      go_ret
      exact ⟨rfl, by go_grown⟩
    by_cases c8 : 16 < pad
    . clear c
      go_enter Tryz.func46, Tryz.ntmps46
      go_wp2
      go_ret
      exact ⟨rfl, by go_grown⟩
    exact absurd ⟨⟨by omega, by omega⟩, ⟨by omega, by omega⟩, ⟨by omega, by omega⟩, ⟨by omega, by omega⟩⟩ c
end Go.Proofs.YtliijchcpooplaaGreat
namespace Go.Proofs.YtliijchcpooplaaGreat
open Go.ChangeShapes Go.WideShapes Go.ChangeAt Go.RowKit
def St (s size F T i f t : Int) : Prop :=
  (max s 0 < min (s + i) size -> ((T = 0 -> f = max s 0) /\ (T ≠ 0 -> f = F)) /\ t = max T (min (s + i) size)) /\ (¬ max s 0 < min (s + i) size -> f = F /\ t = T)
theorem St_zero (s size F T : Int) : St s size F T 0 F T := by unfold St; omega
theorem St_out {s size F T i f t : Int} (h : s + i < 0 ∨ size <= s + i) (hi : 0 <= i) (hs : 1 <= size) (H : St s size F T i f t) : St s size F T (i + 1) f t := by unfold St at *; omega
theorem St_new {s size F T i f t : Int} (h : 0 <= s + i) (h' : s + i < size) (hi : 0 <= i) (_J : (T = 0 /\ F = 0) ∨ (0 < T /\ 0 <= F /\ F <= max s 0)) (h0 : t = 0) (H : St s size F T i f t) : St s size F T (i + 1) (s + i) (s + i + 1) := by unfold St at *; omega
theorem St_old {s size F T i f t u : Int} (h : 0 <= s + i) (h' : s + i < size) (hi : 0 <= i) (J : (T = 0 /\ F = 0) ∨ (0 < T /\ 0 <= F /\ F <= max s 0)) (h0 : t ≠ 0) (hu : u = max t (s + i + 1)) (H : St s size F T i f t) : f <= s + i /\ St s size F T (i + 1) f u := by unfold St at *; omega
theorem St_bd2 {s size F T i f t : Int} (hs : size <= 64) (hs' : 1 <= size) (J : (T = 0 /\ F = 0) ∨ (0 < T /\ 0 <= F /\ F <= max s 0)) (hT : T <= size) (hF : s <= 100) (H : St s size F T i f t) : 0 <= f /\ f <= 100 /\ 0 <= t /\ t <= 64 := by unfold St at *; omega
theorem St_end {first k stride pad size : Int} {j : Nat} {f t : Int} (h1 : 1 <= stride) (h2 : 1 <= size) (h3 : 1 <= k)
    (H : St ((first + j) * stride - pad) size (rs first k stride pad size j).1 (rs first k stride pad size j).2 k f t) : rs first k stride pad size (j + 1) = (f, t) := by
  have J := rs_inv first k stride pad size h1 h2 h3 j
  by_cases hx : leastI stride pad (first + j) < overI k stride pad size (first + j)
  . by_cases h0 : (rs first k stride pad size j).2 = 0
    . rw [rs_first (Lib.hid rfl) (Lib.hid rfl) hx h0]
      unfold St at H
      simp only [leastI, overI] at *
      exact Prod.ext (by simp only []; omega) (by simp only []; omega)
    . rw [rs_more (Lib.hid rfl) (Lib.hid rfl) hx h0]
      unfold St at H
      simp only [leastI, overI] at *
      exact Prod.ext (by simp only []; omega) (by simp only []; omega)
  . rw [rs_out (Lib.hid rfl) (Lib.hid rfl) hx]
    unfold St at H
    simp only [leastI, overI] at *
    exact Prod.ext (by omega) (by omega)
theorem rreach_no (first rows k stride pad size n : Int) (w : World) (h1 : -9223372036854775808 <= first) (h2 : first <= 9223372036854775807) (hn : Hid (n = outI size k stride pad)) (h : n = 0 ∨ first < 0 ∨ rows < 1 ∨ n - first < rows) :
    Calls Tryz.prog 60 #[.int .i64 first, .int .i64 rows, .int .i64 k, .int .i64 stride, .int .i64 pad, .int .i64 size] w fun e w' => e = .returned (.tuple #[.int .i64 0, .int .i64 0]) /\ Grown w w' := by
  have n0 : 0 <= n /\ n <= 97 := by rw [hn.out]; exact out_ge
  obtain ⟨n1, n2⟩ := n0
  by_cases c2 : first < 0
  . clear h
    go_enter Tryz.func60, Tryz.ntmps60
    go_wp2_with fail
    refine (rout_any size k stride pad n _ hn).mono ?_; rintro e w1 ⟨rfl, g1⟩
    go_wp2_with fail
    go_ret2
    exact ⟨rfl, grown_trans (by go_grown) g1⟩
  by_cases c3 : rows < 1
  . clear h
    go_enter Tryz.func60, Tryz.ntmps60
    go_wp2_with fail
    refine (rout_any size k stride pad n _ hn).mono ?_; rintro e w1 ⟨rfl, g1⟩
    go_wp2_with fail
    go_ret2
    exact ⟨rfl, grown_trans (by go_grown) g1⟩
  by_cases c4 : n < first
  . clear h
    go_enter Tryz.func60, Tryz.ntmps60
    go_wp2_with fail
    refine (rout_any size k stride pad n _ hn).mono ?_; rintro e w1 ⟨rfl, g1⟩
    go_wp2_with fail
    go_ret2
    exact ⟨rfl, grown_trans (by go_grown) g1⟩
  have c5 : n - first < rows := by omega
  clear h
  go_enter Tryz.func60, Tryz.ntmps60
  go_wp2_with fail
  refine (rout_any size k stride pad n _ hn).mono ?_; rintro e w1 ⟨rfl, g1⟩
  go_wp2_with fail
  go_ret2
  exact ⟨rfl, grown_trans (by go_grown) g1⟩
set_option maxHeartbeats 2000000 in
theorem rreach_yes (first stride pad size n : Int) (kn m : Nat) (w : World) (hw : mayWin size kn stride pad) (hn : Hid (n = outI size kn stride pad)) (h1 : 0 <= first) (h2 : 1 <= m) (h3 : (m : Int) <= n - first) :
    Calls Tryz.prog 60 #[.int .i64 first, .int .i64 m, .int .i64 kn, .int .i64 stride, .int .i64 pad, .int .i64 size] w fun e w' => e = .returned (.tuple #[.int .i64 (rs first kn stride pad size m).1, .int .i64 (rs first kn stride pad size m).2]) /\ Grown w w' := by
  have n0 : 1 <= n /\ n <= 97 := by rw [hn.out]; exact out_bd hw
  obtain ⟨n1, n2⟩ := n0
  have HP : Hid (∀ j : Nat, j < m -> 0 <= (first + j) * stride /\ (first + j) * stride <= size + 2 * pad - kn) := Lib.hid (fun j hj => place_bd hw (by omega) (by have := hn.out; omega))
  obtain ⟨s1, s2, k1, k2, t1, t2, p1, p2, d⟩ := hw
  have m1 : m <= 97 := by omega
  have J := Lib.hid (rs_inv first kn stride pad size t1 s1 k1)
  go_enter Tryz.func60, Tryz.ntmps60
  go_wp2_with fail
  refine (rout_any size kn stride pad n _ hn).mono ?_; rintro e w1 ⟨rfl, g1⟩
  go_wp2_with fail
  go_loop [15, 16, 17] (fun f t p => ∃ j : Nat, j <= m /\ p = .int .i64 (first + j) /\ f = .int .i64 (rs first kn stride pad size j).1 /\ t = .int .i64 (rs first kn stride pad size j).2) (fun _ _ p => (first + m - intOf p).toNat)
  case atStart => exact ⟨0, by omega, by simp, rfl, rfl⟩
  case round =>
    obtain ⟨j, hj, rfl, rfl, rfl⟩ := hrel
    by_cases hlt : j < m
    . obtain ⟨b1, b2⟩ := HP.out j hlt
      have J' := J.out j
      obtain ⟨F, hF⟩ : ∃ F, Hid (F = (rs first kn stride pad size j).1) := ⟨_, Lib.hid rfl⟩
      obtain ⟨T, hT⟩ : ∃ T, Hid (T = (rs first kn stride pad size j).2) := ⟨_, Lib.hid rfl⟩
      obtain ⟨s, hs⟩ : ∃ s, Hid (s = (first + j) * stride - pad) := ⟨_, Lib.hid rfl⟩
      rw [<- hF.out, <- hT.out, <- hs.out] at J'
      rw [<- hF.out, <- hT.out]
      have J2 : Hid ((T = 0 /\ F = 0) ∨ (0 < T /\ 0 <= F /\ F <= max s 0)) := Lib.hid (by
        unfold leastI at J'; rw [<- hs.out] at J'; omega)
      have hTs : T <= size := by omega
      have hs64 : s <= 100 := by rw [hs.out]; omega
      have hs16 : -16 <= s := by rw [hs.out]; omega
      clear J'
      go_wp2_with fail
      go_loop [15, 16, 18] (fun f t i => ∃ (a : Nat) (x y : Int), a <= kn /\ i = .int .i64 a /\ f = .int .i64 x /\ t = .int .i64 y /\ Hid (St s size F T a x y)) (fun _ _ i => kn - (intOf i).toNat)
      case atStart => exact ⟨0, F, T, by omega, rfl, rfl, rfl, Lib.hid (St_zero s size F T)⟩
      case round =>
        obtain ⟨a, x, y, ha, rfl, rfl, rfl, hst⟩ := hrel
        by_cases hlt2 : a < kn
        . obtain ⟨x1, x2, y1, y2⟩ := St_bd2 s2 s1 J2.out hTs hs64 hst.out
          have e1 := hs.out
          by_cases q1 : s + a < 0
          . have E := Lib.hid (St_out (Or.inl q1) (by omega) s1 hst.out)
            go_wp2_with fail
            go_round
            case rel => exact ⟨a + 1, x, y, by omega, by go_num, rfl, rfl, E⟩
            case measure => simp [intOf]; omega
          . by_cases q2 : size <= s + a
            . have E := Lib.hid (St_out (Or.inr q2) (by omega) s1 hst.out)
              go_wp2_with fail
              go_round
              case rel => exact ⟨a + 1, x, y, by omega, by go_num, rfl, rfl, E⟩
              case measure => simp [intOf]; omega
            . by_cases q3 : y = 0
              . have E := Lib.hid (St_new (by omega) (by omega) (by omega) J2.out q3 hst.out)
                have e0 : (y == 0) = true := by simpa using q3
                go_wp2_with fail
                go_round
                case rel => exact ⟨a + 1, s + a, s + a + 1, by omega, by go_num, by rw [hs.out], by rw [hs.out], E⟩
                case measure => simp [intOf]; omega
              . have e0 : (y == 0) = false := by simpa using q3
                by_cases q4 : y <= s + a + 1
                . obtain ⟨q5, E0⟩ := St_old (u := s + a + 1) (by omega) (by omega) (by omega) J2.out q3 (by omega) hst.out
                  have E := Lib.hid E0
                  clear E0
                  go_wp2_with fail
                  all_goals
                    go_round
                    case rel => exact ⟨a + 1, x, s + a + 1, by omega, by go_num, by first | rfl | (congr 1; omega), by first | rfl | (congr 1; omega), E⟩
                    case measure => simp [intOf]; omega
                . obtain ⟨q5, E0⟩ := St_old (u := y) (by omega) (by omega) (by omega) J2.out q3 (by omega) hst.out
                  have E := Lib.hid E0
                  clear E0
                  go_wp2_with fail
                  all_goals
                    go_round
                    case rel => exact ⟨a + 1, x, y, by omega, by go_num, by first | rfl | (congr 1; omega), by first | rfl | (congr 1; omega), E⟩
                    case measure => simp [intOf]; omega
        . obtain rfl : a = kn := by omega
          have E := Lib.hid (St_end (j := j) t1 s1 k1 (by rw [<- hs.out, <- hF.out, <- hT.out]; exact hst.out))
          go_wp2_with fail
          go_round
          case rel => exact ⟨j + 1, by omega, by go_num, by rw [E.out], by rw [E.out]⟩
          case measure => simp [intOf]; omega
    . obtain rfl : j = m := by omega
      go_wp2_with fail
      go_ret2
      exact ⟨rfl, grown_trans (by go_grown) g1⟩
theorem rreach_any (first rows k stride pad size a b : Int) (w : World) (h1 : -9223372036854775808 <= first) (h2 : first <= 9223372036854775807) (ha : Hid (a = (reachI first rows k stride pad size).1)) (hb : Hid (b = (reachI first rows k stride pad size).2)) :
    Calls Tryz.prog 60 #[.int .i64 first, .int .i64 rows, .int .i64 k, .int .i64 stride, .int .i64 pad, .int .i64 size] w fun e w' => e = .returned (.tuple #[.int .i64 a, .int .i64 b]) /\ Grown w w' := by
  rw [ha.out, hb.out]
  by_cases h : inR first rows k stride pad size
  . rw [reachI_yes h]
    obtain ⟨c, c1, c2, c3⟩ := h
    obtain ⟨m, rfl⟩ : ∃ m : Nat, rows = m := ⟨rows.toNat, by omega⟩
    obtain ⟨kn, rfl⟩ : ∃ kn : Nat, k = kn := ⟨k.toNat, by have := c.2.2.1; omega⟩
    rw [Int.toNat_natCast]
    exact rreach_yes first stride pad size _ kn m w c (Lib.hid rfl) c1 (by omega) c3
  . rw [reachI_no h]
    exact rreach_no first rows k stride pad size _ w h1 h2 (Lib.hid rfl) (not_inR h)
end Go.Proofs.YtliijchcpooplaaGreat
