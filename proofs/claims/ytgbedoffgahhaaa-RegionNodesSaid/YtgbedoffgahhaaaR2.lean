/- The reference of layer 2: May, Size, Row, Out. -/
import Derived.Test.YtgbedoffgahhaaaShMath
namespace Go.Proofs.Ytgbedoffgahhaaa
open Go.ChangeShapes Go.WideShapes Go.ChangeAt Go.RowKit

theorem rmay_yes (H W C : Int) (w : World) (h : mayS H W C) :
    Calls Try.prog 23 #[.agg #[.int .i64 H, .int .i64 W, .int .i64 C]] w fun e w' => e = .returned (.int .i64 0) ∧ Grown w w' := by
  obtain ⟨h1, h2, h3, h4, h5, h6⟩ := h
  go_enter Try.func23, Try.ntmps23
  go_wp2
  go_ret
  exact ⟨rfl, by go_grown⟩

theorem rmay_no (H W C : Int) (w : World) (h : ¬ mayS H W C) :
    Calls Try.prog 23 #[.agg #[.int .i64 H, .int .i64 W, .int .i64 C]] w fun e w' => e = .returned (.int .i64 10) ∧ Grown w w' := by
  by_cases c1 : H < 1
  · go_enter Try.func23, Try.ntmps23
    go_wp2
    go_ret
    exact ⟨rfl, by go_grown⟩
  by_cases c2 : 16 < H
  · go_enter Try.func23, Try.ntmps23
    go_wp2
    go_ret
    exact ⟨rfl, by go_grown⟩
  by_cases c3 : W < 1
  · go_enter Try.func23, Try.ntmps23
    go_wp2
    go_ret
    exact ⟨rfl, by go_grown⟩
  by_cases c4 : 16 < W
  · go_enter Try.func23, Try.ntmps23
    go_wp2
    go_ret
    exact ⟨rfl, by go_grown⟩
  by_cases c5 : C < 1
  · go_enter Try.func23, Try.ntmps23
    go_wp2
    go_ret
    exact ⟨rfl, by go_grown⟩
  by_cases c6 : 8 < C
  · go_enter Try.func23, Try.ntmps23
    go_wp2
    go_ret
    exact ⟨rfl, by go_grown⟩
  exact absurd ⟨by omega, by omega, by omega, by omega, by omega, by omega⟩ h

theorem rsize_any (H W C q : Int) (w : World) (hq : Hid (q = sizeI H W C)) :
    Calls Try.prog 16 #[.agg #[.int .i64 H, .int .i64 W, .int .i64 C]] w fun e w' => e = .returned (.int .i64 q) ∧ Grown w w' := by
  rw [hq.out]
  by_cases h : mayS H W C
  · have e : sizeI H W C = H * W * C := by unfold sizeI; rw [if_pos h]
    rw [e]
    obtain ⟨h1, h2, h3, h4, h5, h6⟩ := id h
    obtain ⟨m1, m2⟩ := mul_bd h1 h2 h3 h4
    obtain ⟨m3, m4⟩ := mul_bd m1 m2 h5 h6
    go_enter Try.func16, Try.ntmps16
    go_wp2_with fail
    refine (rmay_yes H W C _ h).mono ?_; rintro e w1 ⟨rfl, g1⟩
    have c0 : w1.cell? ⟨w.heap.size, 0, none⟩ = some (.int .i64 H) := (grown_cell g1 (by simp)).trans (by go_cell)
    have c1 : w1.cell? ⟨w.heap.size, 1, none⟩ = some (.int .i64 W) := (grown_cell g1 (by simp)).trans (by go_cell)
    have c2 : w1.cell? ⟨w.heap.size, 2, none⟩ = some (.int .i64 C) := (grown_cell g1 (by simp)).trans (by go_cell)
    clear h
    go_wp2_with fail
    go_ret
    exact ⟨rfl, grown_trans (by go_grown) g1⟩
  · have e : sizeI H W C = 0 := by unfold sizeI; rw [if_neg h]
    rw [e]
    go_enter Try.func16, Try.ntmps16
    go_wp2_with fail
    refine (rmay_no H W C _ h).mono ?_; rintro e w1 ⟨rfl, g1⟩
    go_wp2_with fail
    go_ret
    exact ⟨rfl, grown_trans (by go_grown) g1⟩

theorem rrow_any (H W C q : Int) (w : World) (hq : Hid (q = rowI H W C)) :
    Calls Try.prog 17 #[.agg #[.int .i64 H, .int .i64 W, .int .i64 C]] w fun e w' => e = .returned (.int .i64 q) ∧ Grown w w' := by
  rw [hq.out]
  by_cases h : mayS H W C
  · have e : rowI H W C = W * C := by unfold rowI; rw [if_pos h]
    rw [e]
    obtain ⟨h1, h2, h3, h4, h5, h6⟩ := id h
    obtain ⟨m1, m2⟩ := mul_bd h3 h4 h5 h6
    go_enter Try.func17, Try.ntmps17
    go_wp2_with fail
    refine (rmay_yes H W C _ h).mono ?_; rintro e w1 ⟨rfl, g1⟩
    have c1 : w1.cell? ⟨w.heap.size, 1, none⟩ = some (.int .i64 W) := (grown_cell g1 (by simp)).trans (by go_cell)
    have c2 : w1.cell? ⟨w.heap.size, 2, none⟩ = some (.int .i64 C) := (grown_cell g1 (by simp)).trans (by go_cell)
    clear h
    go_wp2_with fail
    go_ret
    exact ⟨rfl, grown_trans (by go_grown) g1⟩
  · have e : rowI H W C = 0 := by unfold rowI; rw [if_neg h]
    rw [e]
    go_enter Try.func17, Try.ntmps17
    go_wp2_with fail
    refine (rmay_no H W C _ h).mono ?_; rintro e w1 ⟨rfl, g1⟩
    go_wp2_with fail
    go_ret
    exact ⟨rfl, grown_trans (by go_grown) g1⟩

/-- Where the next window of the reference begins. -/
theorem rout_yes (size k stride pad n : Int) (w : World) (u1 : 1 ≤ size) (u2 : size ≤ 64) (v1 : 1 ≤ k) (v2 : k ≤ 16) (x1 : 1 ≤ stride) (x2 : stride ≤ 16) (y1 : 0 ≤ pad) (y2 : pad ≤ 16)
    (n1 : 0 ≤ n) (n2 : n ≤ 97) (hn : Hid (∀ j : Nat, (j : Int) ≤ n → (-pad + j * stride ≤ 4000 ∧ -16 ≤ -pad + j * stride ∧ (-pad + j * stride + k ≤ size + pad ↔ (j : Int) < n)))) :
    Calls Try.prog 46 #[.int .i64 size, .int .i64 k, .int .i64 stride, .int .i64 pad] w fun e w' => e = .returned (.int .i64 n) ∧ Grown w w' := by
  go_enter Try.func46, Try.ntmps46
  go_wp2_with fail
  go_loop [9, 10] (fun c a => ∃ j : Nat, (j : Int) ≤ n ∧ c = .int .i64 j ∧ a = .int .i64 (-pad + j * stride)) (fun c _ => (n - intOf c).toNat)
  case atStart => exact ⟨0, by omega, rfl, by simp⟩
  case round =>
    obtain ⟨j, hj, rfl, rfl⟩ := hrel
    obtain ⟨b1, b2, b3⟩ := hn.out j hj
    by_cases hlt : (j : Int) < n
    · have b4 := b3.mpr hlt
      clear b3
      go_wp2_with fail
      go_round
      case rel => exact ⟨j + 1, by omega, by go_num, by congr 1; rw [Int.natCast_add, Int.add_mul]; omega⟩
      case measure => simp [intOf]; omega
    · have b4 : ¬ (-pad + j * stride + k ≤ size + pad) := fun h => hlt (b3.mp h)
      obtain rfl : n = j := by omega
      clear b3
      go_wp2_with fail
      go_ret
      exact ⟨rfl, by go_grown⟩

theorem rout_any (size k stride pad q : Int) (w : World) (hq : Hid (q = outI size k stride pad)) :
    Calls Try.prog 46 #[.int .i64 size, .int .i64 k, .int .i64 stride, .int .i64 pad] w fun e w' => e = .returned (.int .i64 q) ∧ Grown w w' := by
  by_cases c : (1 ≤ size ∧ size ≤ 64) ∧ (1 ≤ k ∧ k ≤ 16) ∧ (1 ≤ stride ∧ stride ≤ 16) ∧ (0 ≤ pad ∧ pad ≤ 16)
  · obtain ⟨⟨u1, u2⟩, ⟨v1, v2⟩, ⟨x1, x2⟩, ⟨y1, y2⟩⟩ := c
    have q0 : 0 ≤ q ∧ q ≤ 97 := by rw [hq.out]; exact out_ge
    refine rout_yes size k stride pad q w u1 u2 v1 v2 x1 x2 y1 y2 q0.1 q0.2 (Lib.hid (fun j hj => ?_))
    have e : -pad + j * stride + k ≤ size + pad ↔ j * stride ≤ size + 2 * pad - k := by constructor <;> intro h <;> omega
    rw [e]
    by_cases c5 : k ≤ size + 2 * pad
    · have hw : mayWin size k stride pad := ⟨u1, u2, v1, v2, x1, x2, y1, y2, c5⟩
      have hq' := hq.out
      rw [outI_yes hw] at hq'
      have e2 := Int.le_ediv_iff_mul_le (a := (j : Int)) (b := size + 2 * pad - k) (c := stride) (by omega)
      have b1 : 0 ≤ (j : Int) * stride := Int.mul_nonneg (by omega) (by omega)
      have b2 : (j : Int) * stride ≤ 97 * 16 := Int.mul_le_mul (by omega) x2 (by omega) (by omega)
      refine ⟨by omega, by omega, ?_⟩
      rw [← e2]
      constructor <;> intro h <;> omega
    · have hq' := hq.out
      rw [outI_no (fun h => c5 h.2.2.2.2.2.2.2.2)] at hq'
      obtain rfl : j = 0 := by omega
      simp
      omega
  · have q0 : q = 0 := by rw [hq.out]; exact outI_no (fun h => c ⟨⟨h.1, h.2.1⟩, ⟨h.2.2.1, h.2.2.2.1⟩, ⟨h.2.2.2.2.1, h.2.2.2.2.2.1⟩, ⟨h.2.2.2.2.2.2.1, h.2.2.2.2.2.2.2.1⟩⟩)
    subst q0
    clear hq
    by_cases c1 : size < 1
    · clear c
      go_enter Try.func46, Try.ntmps46
      go_wp2
      go_ret
      exact ⟨rfl, by go_grown⟩
    by_cases c2 : 64 < size
    · clear c
      go_enter Try.func46, Try.ntmps46
      go_wp2
      go_ret
      exact ⟨rfl, by go_grown⟩
    by_cases c3 : k < 1
    · clear c
      go_enter Try.func46, Try.ntmps46
      go_wp2
      go_ret
      exact ⟨rfl, by go_grown⟩
    by_cases c4 : 16 < k
    · clear c
      go_enter Try.func46, Try.ntmps46
      go_wp2
      go_ret
      exact ⟨rfl, by go_grown⟩
    by_cases c5 : stride < 1
    · clear c
      go_enter Try.func46, Try.ntmps46
      go_wp2
      go_ret
      exact ⟨rfl, by go_grown⟩
    by_cases c6 : 16 < stride
    · clear c
      go_enter Try.func46, Try.ntmps46
      go_wp2
      go_ret
      exact ⟨rfl, by go_grown⟩
    by_cases c7 : pad < 0
    · clear c
      go_enter Try.func46, Try.ntmps46
      go_wp2
      go_ret
      exact ⟨rfl, by go_grown⟩
    by_cases c8 : 16 < pad
    · clear c
      go_enter Try.func46, Try.ntmps46
      go_wp2
      go_ret
      exact ⟨rfl, by go_grown⟩
    exact absurd ⟨⟨by omega, by omega⟩, ⟨by omega, by omega⟩, ⟨by omega, by omega⟩, ⟨by omega, by omega⟩⟩ c

end Go.Proofs.Ytgbedoffgahhaaa
