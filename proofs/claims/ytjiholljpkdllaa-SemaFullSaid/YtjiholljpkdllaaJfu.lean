/- SemaFull: its walk. -/
import Derived.Test.YtjiholljpkdllaaK6
namespace Go.Proofs.Ytjiholljpkdllaa
open Go.ChangeShapes Go.WideShapes Go.ChangeAt Go.RowKit
set_option maxRecDepth 20000
set_option linter.unusedVariables false
/-- One semaphore counts x, the others nothing. -/
def oneL (k x : Nat) : List Nat := (List.replicate 8 0).set k x
theorem oneL_at {k x : Nat} (hk : k < 8) : (oneL k x).getD k 0 = x := by rw [oneL, getD_set (by simpa using hk), if_pos rfl]
theorem oneL_zero (k : Nat) (hk : k < 8) : oneL k 0 = List.replicate 8 0 := by
  refine nat_ext (by simp [oneL]) (fun j hj => ?_)
  rw [oneL, getD_set (by simpa using hk), rep0]
  split <;> rfl
theorem one_sig {k x : Nat} (hk : k < 8) (h : x < 15) : sigE (oneL k x) k = 0 ∧ sigL (oneL k x) k = oneL k (x + 1) := by
  have c := okS_iff.2 ⟨k, hk, rfl⟩
  constructor
  · simp only [sigE, c, if_true, Int.toNat_natCast, oneL_at hk, h]
  · rw [sigL_in hk (by rw [oneL_at hk]; exact h), oneL_at hk, oneL, List.set_set, oneL]
theorem one_full {k x : Nat} (hk : k < 8) (h : ¬ x < 15) : sigE (oneL k x) k = 22 ∧ sigL (oneL k x) k = oneL k x := by
  have c := okS_iff.2 ⟨k, hk, rfl⟩
  constructor
  · simp only [sigE, c, if_true, Int.toNat_natCast, oneL_at hk, h, if_false]
  · simp only [sigL, c, if_true, Int.toNat_natCast, oneL_at hk, h, if_false]
theorem one_wait {k x : Nat} (hk : k < 8) (h : 0 < x) : waitE (oneL k x) k = 0 ∧ waitL (oneL k x) k = oneL k (x - 1) := by
  have c := okS_iff.2 ⟨k, hk, rfl⟩
  constructor
  · simp only [waitE, c, if_true, Int.toNat_natCast, oneL_at hk, h]
  · simp only [waitL, c, if_true, Int.toNat_natCast, oneL_at hk, h]
    rw [oneL, List.set_set, oneL]
theorem one_none {k : Nat} (hk : k < 8) : waitE (oneL k 0) k = 20 ∧ waitL (oneL k 0) k = oneL k 0 := by
  have c := okS_iff.2 ⟨k, hk, rfl⟩
  constructor
  · simp only [waitE, c, if_true, Int.toNat_natCast, oneL_at hk, Nat.lt_irrefl, if_false]
  · simp only [waitL, c, if_true, Int.toNat_natCast, oneL_at hk, Nat.lt_irrefl, if_false]
theorem seven (x : Int) : ∃ k : Nat, k < 8 ∧ bits .and .i64 x 7 = (k : Int) := by
  have := mask_bd x 7 (by omega) (by omega)
  exact ⟨(bits .and .i64 x 7).toNat, by omega, by omega⟩
set_option maxHeartbeats 4000000 in
theorem full_walk (W : World) (z0 : Int) (w0 : (Lit.int .i64 z0).wf = true) (z1 : Int) (w1 : (Lit.int .u8 z1).wf = true) :
    Calls Try.prog 6 #[.int .i64 z0, .int .u8 z1] W fun e w' => e = .returned (.bool true) ∧ Past W w' := by
  obtain ⟨k, hk, ek⟩ := seven z0
  have hb := mask_u8 z1 31 (by omega) (by omega)
  obtain ⟨n, hn, en⟩ : ∃ n : Nat, n < 32 ∧ bits .and .u8 z1 31 = (n : Int) := ⟨(bits .and .u8 z1 31).toNat, by omega, by omega⟩
  clear hb
  obtain ⟨m, hm⟩ : ∃ m, m = min n 15 := ⟨_, rfl⟩
  have hm' := Lib.hid hm
  clear hm
  go_enter Try.func6, Try.ntmps6
  go_upto_region 2 with (go_at_call 8; refine (shown_any _).mono ?_; rintro e wa ⟨rfl, ga⟩)
  go_wp2_with (go_at_call 9; refine (new_any _).mono ?_; rintro e wb ⟨rfl, hS, gb⟩)
  have g0 := ga.trans gb
  have hP : W.heap.size ≤ wa.heap.size := ga.2.2.1
  generalize wa.heap.size = B at *
  rw [← oneL_zero k hk] at hS
  go_loopw [9] (fun i wr => ∃ j : Nat, j ≤ n ∧ i = .int .i64 j ∧ SemAt wr B (oneL k (min j 15)) ∧ Past W wr) (fun i _ => n - (intOf i).toNat)
  case atStart => exact ⟨0, by omega, rfl, hS, g0⟩
  case round =>
    obtain ⟨j, hj, rfl, hS, gP⟩ := hrel
    by_cases c : j < n
    · have d1 : decide ((j : Int) < (n : Int)) = true := by simpa using c
      by_cases d : j < 15
      · have d2 : decide ((j : Int) < 15) = true := by simp; omega
        have x1 := one_sig (x := min j 15) hk (by omega)
        have x2 : min j 15 + 1 = min (j + 1) 15 := by omega
        rw [x2] at x1
        obtain ⟨y1, y2⟩ := x1
        clear x2
        go_wp2_with (go_at_call 11; refine (sig_any _ _ _ _ hS).mono ?_; rintro e w3 ⟨rfl, h5, g5⟩; rw [y2] at h5; rw [y1])
        go_roundw
        case rel => exact ⟨j + 1, by omega, by go_num, h5, g5.past gP (by omega)⟩
        case measure => simp [intOf]; omega
      · have d2 : decide ((j : Int) < 15) = false := by simp; omega
        have x1 := one_full (x := min j 15) hk (by omega)
        have x2 : min j 15 = min (j + 1) 15 := by omega
        obtain ⟨y1, y2⟩ := x1
        have hK := Lib.hid x2
        clear x2
        go_wp2_with (go_at_call 11; refine (sig_any _ _ _ _ hS).mono ?_; rintro e w3 ⟨rfl, h5, g5⟩; rw [y2, hK.out] at h5; rw [y1])
        go_roundw
        case rel => exact ⟨j + 1, by omega, by go_num, h5, g5.past gP (by omega)⟩
        case measure => simp [intOf]; omega
    · obtain rfl : j = n := by omega
      go_wp2_with fail
      go_loopw [10] (fun i wr => ∃ q : Nat, q ≤ j ∧ i = .int .i64 q ∧ SemAt wr B (oneL k (m - min q m)) ∧ Past W wr) (fun i _ => j - (intOf i).toNat)
      case atStart => exact ⟨0, by omega, rfl, by simpa [hm'.out] using hS, gP⟩
      case round =>
        obtain ⟨q, hq, rfl, hS2, gP2⟩ := hrel
        by_cases c : q < j
        · have d1 : decide ((q : Int) < (j : Int)) = true := by simpa using c
          have P : ∃ M : Int, Hid (M = (m : Int)) ∧ ((j : Int) ≤ 15 ∧ ¬ (15 : Int) < (j : Int) ∧ M = j ∨ ¬ (j : Int) ≤ 15 ∧ (15 : Int) < (j : Int) ∧ M = 15) := by
            rw [hm'.out]
            by_cases p : j ≤ 15
            · exact ⟨j, Lib.hid (by omega), Or.inl ⟨by omega, by omega, rfl⟩⟩
            · exact ⟨15, Lib.hid (by omega), Or.inr ⟨by omega, by omega, rfl⟩⟩
          obtain ⟨M, hM, P⟩ := P
          by_cases d : q < m
          · have d2 : decide ((q : Int) < M) = true := by rw [hM.out]; simpa using d
            have x1 := one_wait (x := m - min q m) hk (by omega)
            have x2 : m - min q m - 1 = m - min (q + 1) m := by omega
            rw [x2] at x1
            obtain ⟨y1, y2⟩ := x1
            clear x2
            rcases P with ⟨p1, p2, rfl⟩ | ⟨p1, p2, rfl⟩
            all_goals
              go_wp2_with (go_at_call 12; refine (wait_any _ _ _ _ hS2).mono ?_; rintro e w3 ⟨rfl, h5, g5⟩; rw [y2] at h5; rw [y1])
              go_roundw
              case rel => exact ⟨q + 1, by omega, by go_num, h5, g5.past gP2 (by omega)⟩
              case measure => simp [intOf]; omega
          · have d2 : decide ((q : Int) < M) = false := by rw [hM.out]; simpa using d
            obtain ⟨y1, y2⟩ := one_none hk
            have x2 : m - min q m = 0 := by omega
            have hK : Hid (m - min (q + 1) m = 0) := Lib.hid (by omega)
            rw [x2] at hS2
            clear x2
            rcases P with ⟨p1, p2, e1⟩ | ⟨p1, p2, rfl⟩
            · have := hM.out; omega
            ·
              go_wp2_with (go_at_call 12; refine (wait_any _ _ _ _ hS2).mono ?_; rintro e w3 ⟨rfl, h5, g5⟩; rw [y2] at h5; rw [y1])
              go_roundw
              case rel => exact ⟨q + 1, by omega, by go_num, by rw [hK.out]; exact h5, g5.past gP2 (by omega)⟩
              case measure => simp [intOf]; omega
        · obtain rfl : q = j := by omega
          have x2 : m - min q m = 0 := by rw [hm'.out]; omega
          rw [x2] at hS2
          clear x2
          obtain ⟨y1, y2⟩ := one_none hk
          have ec : countS (oneL k 0) k = 0 := by
            have := okS_iff.2 ⟨k, hk, rfl⟩
            simp only [countS, this, if_true, Int.toNat_natCast, oneL_at hk]; rfl
          go_wp2_with (first | (go_at_call 15; refine (count_any _ _ _ _ hS2).mono ?_; rintro e w0 ⟨rfl, rfl⟩; rw [ec]) | (go_at_call 12; refine (wait_any _ _ _ _ hS2).mono ?_; rintro e w3 ⟨rfl, h5, g5⟩; rw [y1]))
          go_ret
          exact ⟨rfl, g5.past gP2 (by omega)⟩
end Go.Proofs.Ytjiholljpkdllaa
