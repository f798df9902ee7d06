/- Contracts of the small functions of layer 1: Clamp, Sat, Div, within. -/
import Derived.Test.YtceiljhokcghgaaMath
import Derived.Lib.Hide
import Derived.Handy
import Derived.Outline
import Derived.RegionTactic
namespace Go.Proofs.Ytceiljhokcghgaa
open Go.ChangeShapes Go.WideShapes Go.ChangeAt Go.RowKit

theorem grown_trans {a b c : World} (h : Grown a b) (k : Grown b c) : Grown a c :=
  ⟨World.keptBut_trans h.1 (World.keptBut_mono (fun _ f => f.elim) k.1), fun x => (k.2.1 x).trans (h.2.1 x), Nat.le_trans h.2.2 k.2.2⟩

theorem ret_int {k : IntKind} {a b : Int} (h : a = b) : Ending.returned (.int k a) = .returned (.int k b) := by rw [h]

theorem wf_bd {x : Int} (h : (Lit.int .i64 x).wf = true) : -9223372036854775808 ≤ x ∧ x ≤ 9223372036854775807 := by
  simpa [Lit.wf, IntKind.min, IntKind.max, IntKind.bits, IntKind.signed] using h

def held (lo hi x : Int) : Int := max lo (min x hi)

theorem clamp_any (x : Int) (w : World) :
    Calls Try.prog 12 #[.int .i64 x] w fun e w' => e = .returned (.int .i64 (held (-128) 127 x)) ∧ Grown w w' := by
  go_enter Try.func12, Try.ntmps12
  go_wp2
  all_goals
    go_ret
    exact ⟨ret_int (by unfold held; omega), by go_grown⟩

theorem sat_any (x : Int) (w : World) :
    Calls Try.prog 13 #[.int .i64 x] w fun e w' => e = .returned (.int .i64 (held (-2147483648) 2147483647 x)) ∧ Grown w w' := by
  go_enter Try.func13, Try.ntmps13
  go_wp2
  all_goals
    go_ret
    exact ⟨ret_int (by unfold held; omega), by go_grown⟩

theorem div_any (x b : Int) (w : World) (h1 : -9223372036854775808 ≤ x) (h2 : x ≤ 9223372036854775807) (h3 : 1 ≤ b) (h4 : b ≤ 9223372036854775807) :
    Calls Try.prog 10 #[.int .i64 x, .int .i64 b] w fun e w' => e = .returned (.int .i64 (rd x b)) ∧ Grown w w' := by
  have h5 : b ≠ 0 := by omega
  obtain ⟨e0, l, u, p, n⟩ := tq x b h3
  have E := Lib.hid e0
  clear e0
  by_cases c1 : 0 < x.tmod b
  · have hx : Hid (0 ≤ x) := by show 0 ≤ x; omega
    have hq : x.tdiv b ≤ 4611686018427387904 := by have := tq_half x b (by omega); have := hx.out; omega
    have hq0 := (p hx.out).2.1
    clear p n E
    by_cases c2 : b - x.tmod b ≤ x.tmod b
    · have g := Lib.hid (rd_up x b h3 c1 c2)
      go_enter Try.func10, Try.ntmps10
      go_wp2
      go_region
      go_wp2
      go_ret
      exact ⟨ret_int g.out, by go_grown⟩
    · have g := Lib.hid (rd_same_pos x b h3 hx.out (by omega))
      go_enter Try.func10, Try.ntmps10
      go_wp2
      go_region
      go_wp2
      go_ret
      exact ⟨ret_int g.out, by go_grown⟩
  · by_cases c3 : x.tmod b < 0
    · have hx : Hid (x < 0) := by show x < 0; omega
      have hq : -4611686018427387904 ≤ x.tdiv b := by have := tq_lo x b (by omega) hx.out; omega
      have hq0 := (n hx.out).2.1
      clear p n E
      by_cases c2 : b + x.tmod b ≤ -x.tmod b
      · have g := Lib.hid (rd_down x b h3 c3 c2)
        go_enter Try.func10, Try.ntmps10
        go_wp2
        go_region
        go_wp2
        go_ret
        exact ⟨ret_int g.out, by go_grown⟩
      · have g := Lib.hid (rd_same_neg x b h3 hx.out (by omega))
        go_enter Try.func10, Try.ntmps10
        go_wp2
        go_region
        go_wp2
        go_ret
        exact ⟨ret_int g.out, by go_grown⟩
    · have g : Hid (x.tdiv b = rd x b) := by
        by_cases hx : 0 ≤ x
        · exact rd_same_pos x b h3 hx (by omega)
        · exact rd_same_neg x b h3 (by omega) (by omega)
      clear p n E
      go_enter Try.func10, Try.ntmps10
      go_wp2
      go_region
      go_wp2
      go_ret
      exact ⟨ret_int g.out, by go_grown⟩

theorem div_low (x b : Int) (w : World) (h1 : -9223372036854775808 ≤ x) (h2 : x ≤ 9223372036854775807) (h3 : b ≤ 0) :
    Calls Try.prog 10 #[.int .i64 x, .int .i64 b] w fun e w' => e = .returned (.int .i64 x) ∧ Grown w w' := by
  have t1 := Lib.hid (Int.tmod_one x)
  have t2 := Lib.hid (Int.tdiv_one x)
  go_enter Try.func10, Try.ntmps10
  go_wp2
  go_region
  go_wp2
  go_ret
  exact ⟨rfl, by go_grown⟩

theorem within_any (lo hi : Int) (w : World) :
    Calls Try.prog 16 #[.int .i64 lo, .int .i64 hi] w fun e w' => e = .returned (.func (.func 17) #[] #[.pointer (some ⟨w.heap.size, 0, none⟩), .pointer (some ⟨w.heap.size + 1, 0, none⟩)]) ∧ w' = (w.alloc (.cells #[.int .i64 lo] 3)).alloc (.cells #[.int .i64 hi] 3) := by
  go_enter Try.func16, Try.ntmps16
  go_wp2
  go_ret
  exact ⟨rfl, rfl⟩
theorem inner_any (lo hi x : Int) (w : World) (p q : Addr) (hp : w.cell? p = some (.int .i64 lo)) (hq : w.cell? q = some (.int .i64 hi)) :
    Calls Try.prog 17 #[.int .i64 x, .pointer (some p), .pointer (some q)] w fun e w' => e = .returned (.int .i64 (held lo hi x)) ∧ w' = w := by
  go_enter Try.func17, Try.ntmps17
  go_wp2
  all_goals
    go_ret
    exact ⟨ret_int (by unfold held; omega), rfl⟩

theorem held_any (lo hi x s : Int) (w : World) (p q : Addr) (hs : Hid (s = held lo hi x)) (hp : w.cell? p = some (.int .i64 lo)) (hq : w.cell? q = some (.int .i64 hi)) :
    Calls Try.prog 17 #[.int .i64 x, .pointer (some p), .pointer (some q)] w fun e w' => e = .returned (.int .i64 s) ∧ w' = w := by
  rw [hs.out]; exact inner_any lo hi x w p q hp hq

theorem shift_any (x k s q : Int) (w : World) (h1 : -9223372036854775808 ≤ x) (h2 : x ≤ 9223372036854775807) (hs : Hid (s = held 0 31 k)) (h3 : 0 ≤ s) (h4 : s ≤ 31) (hq : Hid (q = rd x (2 ^ s.toNat))) :
    Calls Try.prog 15 #[.int .i64 x, .int .i64 k] w fun e w' => e = .returned (.int .i64 q) ∧ Grown w w' := by
  obtain ⟨p1, p2⟩ := pow_bd s h4
  go_enter Try.func15, Try.ntmps15
  go_wp2_with (first | (go_at_call 16; refine (within_any _ _ _).mono ?_; rintro e w' ⟨rfl, rfl⟩) | (go_at_call 17; refine (held_any 0 31 k s _ _ _ hs (by go_cell) (by go_cell)).mono ?_; rintro e w' ⟨rfl, rfl⟩) | (go_at_call 10; refine (div_any x (2 ^ s.toNat) _ h1 h2 p1 (by omega)).mono ?_; rintro e w' ⟨rfl, hg⟩))
  go_ret
  exact ⟨ret_int hq.out.symm, grown_trans (by go_grown) hg⟩

theorem scale_any (acc mul shift zero a m s z p q r : Int) (w : World)
    (ha : Hid (a = held (-2147483648) 2147483647 acc)) (hm : Hid (m = held 1 32767 mul)) (hs : Hid (s = held 0 31 shift)) (hz : Hid (z = held (-128) 127 zero))
    (hp : Hid (p = a * m)) (hq : Hid (q = rd p (2 ^ s.toNat))) (hr : Hid (r = held (-128) 127 (z + q))) :
    Calls Try.prog 11 #[.int .i64 acc, .int .i64 mul, .int .i64 shift, .int .i64 zero] w fun e w' => e = .returned (.int .i64 r) ∧ Grown w w' := by
  have s0 : 0 ≤ s ∧ s ≤ 31 := by rw [hs.out]; unfold held; omega
  have z0 : -128 ≤ z ∧ z ≤ 127 := by rw [hz.out]; unfold held; omega
  have a0 : -2147483648 ≤ a ∧ a ≤ 2147483647 := by rw [ha.out]; unfold held; omega
  have m0 : 1 ≤ m ∧ m ≤ 32767 := by rw [hm.out]; unfold held; omega
  have p0 : -70366596694016 ≤ a * m ∧ a * m ≤ 70366596694016 := by
    have h1 : a * m ≤ 2147483647 * m := Int.mul_le_mul_of_nonneg_right a0.2 (by omega)
    have h2 : -2147483648 * m ≤ a * m := Int.mul_le_mul_of_nonneg_right a0.1 (by omega)
    omega
  have q0 : -70366596694017 ≤ q ∧ q ≤ 70366596694017 := by
    have := rd_bd p (2 ^ s.toNat) (pow_bd s s0.2).1
    rw [← hq.out] at this
    have e := hp.out
    omega
  obtain ⟨s1, s2⟩ := s0
  obtain ⟨z1, z2⟩ := z0
  obtain ⟨a1, a2⟩ := a0
  obtain ⟨m1, m2⟩ := m0
  obtain ⟨p1, p2⟩ := p0
  obtain ⟨q1, q2⟩ := q0
  have hq' : Hid (q = rd (a * m) (2 ^ s.toNat)) := by show _ = _; rw [hq.out, hp.out]
  go_enter Try.func11, Try.ntmps11
  go_wp2_with fail
  refine (sat_any acc _).mono ?_; rintro e w1 ⟨rfl, g1⟩
  rw [← ha.out]
  go_wp2_with (first | (go_at_call 16; refine (within_any _ _ _).mono ?_; rintro e w' ⟨rfl, rfl⟩) | (go_at_call 17; refine (held_any 1 32767 mul m _ _ _ hm (by go_cell) (by go_cell)).mono ?_; rintro e w' ⟨rfl, rfl⟩))
  refine (clamp_any zero _).mono ?_; rintro e w2 ⟨rfl, g2⟩
  rw [← hz.out]
  go_wp2_with fail
  refine (shift_any (a * m) shift s q _ (by omega) (by omega) hs s1 s2 hq').mono ?_; rintro e w3 ⟨rfl, g3⟩
  go_wp2_with fail
  refine (clamp_any (z + q) _).mono ?_; rintro e w4 ⟨rfl, g4⟩
  rw [← hr.out]
  go_wp2_with fail
  go_ret
  exact ⟨rfl, grown_trans g1 (grown_trans (grown_trans (by go_grown) g2) (grown_trans g3 g4))⟩

theorem div_at (x b q : Int) (w : World) (hq : Hid (q = rd x b)) (h1 : -9223372036854775808 ≤ x) (h2 : x ≤ 9223372036854775807) (h3 : 1 ≤ b) (h4 : b ≤ 9223372036854775807) :
    Calls Try.prog 10 #[.int .i64 x, .int .i64 b] w fun e w' => e = .returned (.int .i64 q) ∧ Grown w w' := by
  rw [hq.out]; exact div_any x b w h1 h2 h3 h4

theorem clamp_at (x c : Int) (w : World) (hc : Hid (c = held (-128) 127 x)) :
    Calls Try.prog 12 #[.int .i64 x] w fun e w' => e = .returned (.int .i64 c) ∧ Grown w w' := by
  rw [hc.out]; exact clamp_any x w

theorem sat_at (x c : Int) (w : World) (hc : Hid (c = held (-2147483648) 2147483647 x)) :
    Calls Try.prog 13 #[.int .i64 x] w fun e w' => e = .returned (.int .i64 c) ∧ Grown w w' := by
  rw [hc.out]; exact sat_any x w

theorem near_any (x : Int) (w : World) :
    Calls Try.prog 14 #[.int .i64 x] w fun e w' => e = .returned (.int .i64 (x.tmod 1152921504606846977)) ∧ Grown w w' := by
  go_enter Try.func14, Try.ntmps14
  go_wp2
  go_ret
  exact ⟨rfl, by go_grown⟩

theorem shown_any (w : World) : Calls Try.prog 9 #[] w fun e w' => e = .returned (.bool true) ∧ Grown w w' := by
  go_enter Try.func9, Try.ntmps9
  go_wp2_with fail
  refine (div_at 5 2 3 _ (Lib.hid (by decide)) (by omega) (by omega) (by omega) (by omega)).mono ?_; rintro e w1 ⟨rfl, g1⟩
  go_wp2_with fail
  refine (div_at (-5) 2 (-3) _ (Lib.hid (by decide)) (by omega) (by omega) (by omega) (by omega)).mono ?_; rintro e w2 ⟨rfl, g2⟩
  go_wp2_with fail
  refine (shift_any (-3) 1 1 (-2) _ (by omega) (by omega) (Lib.hid (by decide)) (by omega) (by omega) (Lib.hid (by decide))).mono ?_; rintro e w3 ⟨rfl, g3⟩
  go_wp2_with fail
  refine (scale_any 100 3 2 (-5) 100 3 2 (-5) 300 75 70 _ (Lib.hid (by decide)) (Lib.hid (by decide)) (Lib.hid (by decide)) (Lib.hid (by decide)) (Lib.hid (by decide)) (Lib.hid (by decide)) (Lib.hid (by decide))).mono ?_; rintro e w4 ⟨rfl, g4⟩
  go_wp2_with fail
  go_ret
  exact ⟨rfl, grown_trans g1 (grown_trans g2 (grown_trans g3 g4))⟩
end Go.Proofs.Ytceiljhokcghgaa
