/- graph: opOf, 9, 10, 11, 12, no. The reference's numbers of layer 1. -/
import Derived.Test.YtliijchcpooplaaGreatOMG4
import Derived.Test.YtliijchcpooplaaGreatOMFxMath
import Derived.Test.YtliijchcpooplaaGreatOMSh2
namespace Go.Proofs.YtliijchcpooplaaGreat
open Go.ChangeShapes Go.WideShapes Go.ChangeAt Go.RowKit
set_option maxRecDepth 20000
set_option linter.unusedVariables false
set_option maxHeartbeats 2000000 in
theorem opOf_9 (w : World) : Calls Tryz.prog 52 #[.int .i64 9] w (Made0 ⟨1, 0, 0, 0, 0, 1, 1, 0, 0, false, true⟩ 78 96 (.int .i64 0) w) := by
  go_enter Tryz.func52, Tryz.ntmps52
  go_wp2_with (first | (go_at_call 76; with_reducible refine (always_any _ _).mono ?_; rintro e w1 ⟨rfl, rfl⟩) | (go_at_call 68; with_reducible refine (slid_any _ _).mono ?_; rintro e w1 ⟨rfl, rfl⟩) | (go_at_call 70; with_reducible refine (ofChannels_any _ _).mono ?_; rintro e w1 ⟨rfl, rfl⟩))
  exact bodyPost_ret (by simp [results, Tryz.results52, go_sem]; rfl) rfl ⟨_, rfl, by go_cell, by simp, by go_grown⟩
set_option maxHeartbeats 2000000 in
theorem opOf_10 (w : World) : Calls Tryz.prog 52 #[.int .i64 10] w (Made0 ⟨2, 0, 0, 0, 0, 0, 0, 0, 0, false, true⟩ 79 96 (.int .i64 0) w) := by
  go_enter Tryz.func52, Tryz.ntmps52
  go_wp2_with (first | (go_at_call 76; with_reducible refine (always_any _ _).mono ?_; rintro e w1 ⟨rfl, rfl⟩) | (go_at_call 68; with_reducible refine (slid_any _ _).mono ?_; rintro e w1 ⟨rfl, rfl⟩) | (go_at_call 70; with_reducible refine (ofChannels_any _ _).mono ?_; rintro e w1 ⟨rfl, rfl⟩))
  exact bodyPost_ret (by simp [results, Tryz.results52, go_sem]; rfl) rfl ⟨_, rfl, by go_cell, by simp, by go_grown⟩
set_option maxHeartbeats 2000000 in
theorem opOf_11 (w : World) : Calls Tryz.prog 52 #[.int .i64 11] w (Made0 ⟨1, 0, 0, 0, 0, 0, 0, 0, 0, true, true⟩ 80 96 (.int .i64 0) w) := by
  go_enter Tryz.func52, Tryz.ntmps52
  go_wp2_with (first | (go_at_call 76; with_reducible refine (always_any _ _).mono ?_; rintro e w1 ⟨rfl, rfl⟩) | (go_at_call 68; with_reducible refine (slid_any _ _).mono ?_; rintro e w1 ⟨rfl, rfl⟩) | (go_at_call 70; with_reducible refine (ofChannels_any _ _).mono ?_; rintro e w1 ⟨rfl, rfl⟩))
  exact bodyPost_ret (by simp [results, Tryz.results52, go_sem]; rfl) rfl ⟨_, rfl, by go_cell, by simp, by go_grown⟩
set_option maxHeartbeats 2000000 in
theorem opOf_12 (w : World) : Calls Tryz.prog 52 #[.int .i64 12] w (Made0 ⟨1, 0, 0, 0, 0, 0, 0, 0, 0, false, false⟩ 77 96 (.int .i64 256) w) := by
  go_enter Tryz.func52, Tryz.ntmps52
  go_wp2_with (first | (go_at_call 76; with_reducible refine (always_any _ _).mono ?_; rintro e w1 ⟨rfl, rfl⟩) | (go_at_call 68; with_reducible refine (slid_any _ _).mono ?_; rintro e w1 ⟨rfl, rfl⟩) | (go_at_call 70; with_reducible refine (ofChannels_any _ _).mono ?_; rintro e w1 ⟨rfl, rfl⟩))
  exact bodyPost_ret (by simp [results, Tryz.results52, go_sem]; rfl) rfl ⟨_, rfl, by go_cell, by simp, by go_grown⟩
def NoOp (w : World) (e : Ending) (w' : World) : Prop := e = .returned (.tuple #[opV ⟨0, 0, 0, 0, 0, 0, 0, 0, 0, false, false⟩ .nilFunc .nilFunc, .bool false]) /\ Grown w w'
set_option maxHeartbeats 2000000 in
theorem opOf_no (o : Int) (w : World) (h : ¬ (1 <= o /\ o <= 12)) : Calls Tryz.prog 52 #[.int .i64 o] w (NoOp w) := by
  have b1 : (o == 1) = false := by simp; omega
  have b2 : (o == 2) = false := by simp; omega
  have b3 : (o == 3) = false := by simp; omega
  have b4 : (o == 4) = false := by simp; omega
  have b5 : (o == 5) = false := by simp; omega
  have b6 : (o == 6) = false := by simp; omega
  have b7 : (o == 7) = false := by simp; omega
  have b8 : (o == 8) = false := by simp; omega
  have b9 : (o == 9) = false := by simp; omega
  have b10 : (o == 10) = false := by simp; omega
  have b11 : (o == 11) = false := by simp; omega
  have b12 : (o == 12) = false := by simp; omega
  clear h
  go_enter Tryz.func52, Tryz.ntmps52
  go_wp2_with fail
  exact bodyPost_ret (by simp [results, Tryz.results52, go_sem]; rfl) rfl ⟨rfl, by go_grown⟩
theorem qclamp_any (x : Int) (w : World) (q : Int) (hq : Hid (q = fx.held (-128) 127 x)) :
    Calls Tryz.prog 87 #[.int .i64 x] w fun e w' => e = .returned (.int .i64 q) /\ Grown w w' := by
  have E := hq.out
  subst E
  go_enter Tryz.func87, Tryz.ntmps87
  go_wp2
  all_goals
    go_ret
    exact ⟨fx.ret_int (by unfold fx.held; omega), by go_grown⟩
theorem qsat_any (x : Int) (w : World) (q : Int) (hq : Hid (q = fx.held (-2147483648) 2147483647 x)) :
    Calls Tryz.prog 89 #[.int .i64 x] w fun e w' => e = .returned (.int .i64 q) /\ Grown w w' := by
  have E := hq.out
  subst E
  go_enter Tryz.func89, Tryz.ntmps89
  go_wp2
  all_goals
    go_ret
    exact ⟨fx.ret_int (by unfold fx.held; omega), by go_grown⟩
theorem qdiv_pos (x b q : Int) (w : World) (hq : Hid (q = fx.rd x b)) (h0 : Hid (0 <= x)) (h1 : -2305843009213693952 <= x) (h2 : x <= 2305843009213693952) (b1 : 1 <= b) (b2 : b <= 1099511627776) :
    Calls Tryz.prog 90 #[.int .i64 x, .int .i64 b] w fun e w' => e = .returned (.int .i64 q) /\ Grown w w' := by
  obtain ⟨e0, l, u, p, -⟩ := fx.tq x b b1
  obtain ⟨p1, p2, p3⟩ := p h0.out
  have n0 : decide (x < 0) = false := decide_eq_false (by have := h0.out; omega)
  have b0 : b ≠ 0 := by omega
  have em := Int.tmod_eq_emod_of_nonneg (b := b) h0.out
  obtain ⟨t, ht⟩ : ∃ t, x.tdiv b = t := ⟨_, rfl⟩
  have T3 : t <= 2305843009213693952 := by rw [<- ht]; omega
  have T2 : 0 <= t := by rw [<- ht]; exact p2
  obtain ⟨m, hm⟩ : ∃ m, x % b = m := ⟨_, rfl⟩
  rw [em, hm] at p1 u l
  by_cases c : b <= 2 * m
  . have E : Hid (t + 1 = q) := Lib.hid (by rw [hq.out, <- ht]; exact fx.rd_up x b b1 (by rw [em, hm]; omega) (by rw [em, hm]; omega))
    have d : decide (b <= 2 * m) = true := decide_eq_true c
    clear p e0 em
    go_enter Tryz.func90, Tryz.ntmps90
    go_wp2_with fail
    go_ret
    exact ⟨fx.ret_int E.out, by go_grown⟩
  . have E : Hid (t = q) := Lib.hid (by rw [hq.out, <- ht]; exact fx.rd_same_pos x b b1 h0.out (by rw [em, hm]; omega))
    have d : decide (b <= 2 * m) = false := decide_eq_false c
    clear p e0 em
    go_enter Tryz.func90, Tryz.ntmps90
    go_wp2_with fail
    go_ret
    exact ⟨fx.ret_int E.out, by go_grown⟩
theorem qdiv_neg (x b q : Int) (w : World) (hq : Hid (q = fx.rd x b)) (h0 : Hid (x < 0)) (h1 : -2305843009213693952 <= x) (h2 : x <= 2305843009213693952) (b1 : 1 <= b) (b2 : b <= 1099511627776) :
    Calls Tryz.prog 90 #[.int .i64 x, .int .i64 b] w fun e w' => e = .returned (.int .i64 q) /\ Grown w w' := by
  obtain ⟨y, rfl⟩ : ∃ y, x = -y := ⟨-x, by omega⟩
  have y0 : Hid (0 <= y) := Lib.hid (by have := h0.out; omega)
  obtain ⟨e0, l, u, p, -⟩ := fx.tq y b b1
  obtain ⟨p1, p2, p3⟩ := p y0.out
  have n0 : decide (-y < 0) = true := decide_eq_true h0.out
  have y1 : 0 < y := by have := h0.out; omega
  have b0 : b ≠ 0 := by omega
  have em := Int.tmod_eq_emod_of_nonneg (b := b) y0.out
  rw [fx.rd_neg y b b1] at hq
  obtain ⟨t, ht⟩ : ∃ t, y.tdiv b = t := ⟨_, rfl⟩
  have T3 : t <= 2305843009213693952 := by rw [<- ht]; omega
  have T2 : 0 <= t := by rw [<- ht]; exact p2
  obtain ⟨m, hm⟩ : ∃ m, y % b = m := ⟨_, rfl⟩
  rw [em, hm] at p1 u l
  by_cases c : b <= 2 * m
  . have E : Hid (-(t + 1) = q) := Lib.hid (by
      have := fx.rd_up y b b1 (by rw [em, hm]; omega) (by rw [em, hm]; omega)
      rw [hq.out, <- this, ht])
    have d : decide (b <= 2 * m) = true := decide_eq_true c
    clear p e0 em
    go_enter Tryz.func90, Tryz.ntmps90
    go_wp2_with fail
    go_ret
    exact ⟨fx.ret_int E.out, by go_grown⟩
  . have E : Hid (-t = q) := Lib.hid (by
      have := fx.rd_same_pos y b b1 y0.out (by rw [em, hm]; omega)
      rw [hq.out, <- this, ht])
    have d : decide (b <= 2 * m) = false := decide_eq_false c
    clear p e0 em
    go_enter Tryz.func90, Tryz.ntmps90
    go_wp2_with fail
    go_ret
    exact ⟨fx.ret_int E.out, by go_grown⟩
theorem qdiv_any (x b q : Int) (w : World) (hq : Hid (q = fx.rd x b)) (h1 : -2305843009213693952 <= x) (h2 : x <= 2305843009213693952) (b1 : 1 <= b) (b2 : b <= 1099511627776) :
    Calls Tryz.prog 90 #[.int .i64 x, .int .i64 b] w fun e w' => e = .returned (.int .i64 q) /\ Grown w w' := by
  by_cases c : 0 <= x
  . exact qdiv_pos x b q w hq (Lib.hid c) h1 h2 b1 b2
  . exact qdiv_neg x b q w hq (Lib.hid (by omega)) h1 h2 b1 b2
theorem two_pow {k s : Nat} (h : k <= s) (h2 : s <= 31) : (1 : Int) <= 2 ^ k /\ (2 : Int) ^ k <= 2147483648 := by
  have := fx.pow_bd (k : Int) (by omega)
  rw [Int.toNat_natCast] at this
  exact this
theorem qshift_any (x k q : Int) (w : World) (hq : Hid (q = fx.rd x (2 ^ (fx.held 0 31 k).toNat))) (h1 : -2305843009213693952 <= x) (h2 : x <= 2305843009213693952) :
    Calls Tryz.prog 88 #[.int .i64 x, .int .i64 k] w fun e w' => e = .returned (.int .i64 q) /\ Grown w w' := by
  obtain ⟨s, hs⟩ : ∃ s, (fx.held 0 31 k).toNat = s := ⟨_, rfl⟩
  have s31 : s <= 31 := by rw [<- hs]; unfold fx.held; omega
  rw [hs] at hq
  have e1 : Hid ((if (if k < 0 then (0 : Int) else k) < 31 then (if k < 0 then (0 : Int) else k) else 31) = (s : Int)) := Lib.hid (by
    rw [<- hs]; unfold fx.held
    by_cases c : k < 0
    . rw [if_pos c]; simp; omega
    . rw [if_neg c]
      by_cases c2 : k < 31
      . rw [if_pos c2]; omega
      . rw [if_neg c2]; omega)
  have e2 := e1.out
  clear hs
  go_enter Tryz.func88, Tryz.ntmps88
  go_wp2_with fail
  go_loopw [6, 5] (fun i p wr => ∃ j : Nat, j <= s /\ i = .int .i64 j /\ p = .int .i64 (2 ^ j) /\ Grown w wr) (fun i _ _ => s - (intOf i).toNat)
  case atStart => exact ⟨0, by omega, rfl, rfl, by go_grown⟩
  case round =>
    obtain ⟨j, hj, rfl, rfl, gr⟩ := hrel
    obtain ⟨q1, q2⟩ := two_pow hj s31
    by_cases h : j < s
    . have d1 : decide ((j : Int) < (s : Int)) = true := decide_eq_true (by omega)
      go_wp2_with fail
      go_roundw
      case rel => exact ⟨j + 1, by omega, by go_num, by rw [Int.pow_succ, Int.mul_comm], gr⟩
      case measure => simp [intOf]; omega
    . obtain rfl : j = s := by omega
      have d1 : decide ((j : Int) < (j : Int)) = false := by simp
      go_wp2_with fail
      all_goals
        refine (qdiv_any x (2 ^ j) q _ hq h1 h2 q1 (by omega)).mono ?_
        rintro e w1 ⟨rfl, g1⟩
        go_wp2_with fail
        go_ret
        exact ⟨rfl, grown_trans gr g1⟩
def scaleQ (acc mul shift zero : Int) : Int :=
  fx.held (-128) 127 (fx.held (-128) 127 zero + fx.rd (fx.held (-2147483648) 2147483647 acc * fx.held 1 32767 mul) (2 ^ (fx.held 0 31 shift).toNat))
theorem qshift_to (x x' k q : Int) (w : World) (e : x = x') (hq : Hid (q = fx.rd x' (2 ^ (fx.held 0 31 k).toNat))) (h1 : -2305843009213693952 <= x') (h2 : x' <= 2305843009213693952) :
    Calls Tryz.prog 88 #[.int .i64 x, .int .i64 k] w fun e w' => e = .returned (.int .i64 q) /\ Grown w w' := by
  subst e
  exact qshift_any x k q w hq h1 h2
set_option maxHeartbeats 1000000 in
theorem qscale_any (acc mul shift zero r : Int) (w : World) (hr : Hid (r = scaleQ acc mul shift zero)) :
    Calls Tryz.prog 63 #[.int .i64 acc, .int .i64 mul, .int .i64 shift, .int .i64 zero] w fun e w' => e = .returned (.int .i64 r) /\ Grown w w' := by
  obtain ⟨a, ha⟩ : ∃ a, a = fx.held (-2147483648) 2147483647 acc := ⟨_, rfl⟩
  obtain ⟨m, hm⟩ : ∃ m, fx.held 1 32767 mul = m := ⟨_, rfl⟩
  obtain ⟨z, hz⟩ : ∃ z, z = fx.held (-128) 127 zero := ⟨_, rfl⟩
  unfold scaleQ at hr
  rw [<- ha, hm, <- hz] at hr
  obtain ⟨s, hs⟩ : ∃ s, fx.held 0 31 shift = s := ⟨_, rfl⟩
  have HS := Lib.hid hs
  have s0 : s <= 31 := by rw [<- hs]; unfold fx.held; omega
  rw [hs] at hr
  have z0 : -128 <= z /\ z <= 127 := by rw [hz]; unfold fx.held; omega
  have a0 : -2147483648 <= a /\ a <= 2147483647 := by rw [ha]; unfold fx.held; omega
  have m0 : 1 <= m /\ m <= 32767 := by rw [<- hm]; unfold fx.held; omega
  have hm3 : (m = 1 /\ mul < 1) ∨ (m = mul /\ 1 <= mul /\ mul <= 32767) ∨ (m = 32767 /\ 32767 < mul) := by rw [<- hm]; unfold fx.held; omega
  have p0 : -70366596694016 <= a * m /\ a * m <= 70366596694016 := by
    have h1 : a * m <= 2147483647 * m := Int.mul_le_mul_of_nonneg_right a0.2 (by omega)
    have h2 : -2147483648 * m <= a * m := Int.mul_le_mul_of_nonneg_right a0.1 (by omega)
    omega
  obtain ⟨p, hp⟩ : ∃ p, a * m = p := ⟨_, rfl⟩
  rw [hp] at hr p0
  obtain ⟨b, hb⟩ : ∃ b, (2 : Int) ^ s.toNat = b := ⟨_, rfl⟩
  have b1 : 1 <= b := by rw [<- hb]; exact (fx.pow_bd _ s0).1
  rw [hb] at hr
  obtain ⟨y, hy⟩ : ∃ y, y = fx.rd p b := ⟨_, rfl⟩
  rw [<- hy] at hr
  have y0 : -70366596694017 <= y /\ y <= 70366596694017 := by
    have := fx.rd_bd p b b1
    rw [<- hy] at this
    omega
  have HY : Hid (y = fx.rd p (2 ^ (fx.held 0 31 shift).toNat)) := Lib.hid (by rw [hs, hb]; exact hy)
  have HA := Lib.hid ha
  have HZ := Lib.hid hz
  clear ha hz hy hm hs hb s0 b1
  rcases hm3 with ⟨rfl, c⟩ | ⟨rfl, c, c'⟩ | ⟨rfl, c⟩
  all_goals
    go_enter Tryz.func63, Tryz.ntmps63
    go_wp2_with fail
    refine (qclamp_any zero _ z HZ).mono ?_
    rintro e w1 ⟨rfl, g1⟩
    go_wp2_with fail
    refine (qsat_any acc _ a HA).mono ?_
    rintro e w2 ⟨rfl, g2⟩
    go_wp2_with fail
    all_goals first
      | (exfalso; omega)
      | (exfalso; rename_i hA hB; rw [if_pos (by omega)] at hA; omega)
      | (exfalso; rename_i hA hB; rw [if_neg (by omega)] at hA; omega)
      | (refine (qshift_to _ p shift y _ ?_ HY (by omega) (by omega)).mono ?_
         . first
             | rfl
             | (show IntKind.i64.wrap _ = _; rw [IntWalk.i64_in _ (by omega)]; omega)
         rintro e w3 ⟨rfl, g3⟩
         go_wp2_with fail
         refine (qclamp_any (z + y) _ r hr).mono ?_
         rintro e w4 ⟨rfl, g4⟩
         go_wp2_with fail
         go_ret
         exact ⟨rfl, grown_trans g1 (grown_trans g2 (grown_trans g3 g4))⟩)
end Go.Proofs.YtliijchcpooplaaGreat
