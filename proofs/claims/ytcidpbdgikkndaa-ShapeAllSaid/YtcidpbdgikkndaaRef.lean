/- The reference's May, Size, Row, Out; the numbers of its Reach. -/
import Derived.Test.YtcidpbdgikkndaaReach
import Derived.Test.YtcidpbdgikkndaaSizes
namespace Go.Proofs.Ytcidpbdgikkndaa
open Go.ChangeShapes Go.WideShapes Go.ChangeAt Go.RowKit

theorem rmay_yes (H W C : Int) (w : World) (h : mayS H W C) :
    Calls Try.prog 13 #[.agg #[.int .i64 H, .int .i64 W, .int .i64 C]] w fun e w' => e = .returned (.int .i64 0) ∧ Grown w w' := by
  obtain ⟨h1, h2, h3, h4, h5, h6⟩ := h
  go_enter Try.func13, Try.ntmps13
  go_wp2
  go_ret
  exact ⟨rfl, by go_grown⟩

theorem rmay_no (H W C : Int) (w : World) (h : ¬ mayS H W C) :
    Calls Try.prog 13 #[.agg #[.int .i64 H, .int .i64 W, .int .i64 C]] w fun e w' => e = .returned (.int .i64 10) ∧ Grown w w' := by
  by_cases c1 : H < 1
  · go_enter Try.func13, Try.ntmps13
    go_wp2
    go_ret
    exact ⟨rfl, by go_grown⟩
  by_cases c2 : 16 < H
  · go_enter Try.func13, Try.ntmps13
    go_wp2
    go_ret
    exact ⟨rfl, by go_grown⟩
  by_cases c3 : W < 1
  · go_enter Try.func13, Try.ntmps13
    go_wp2
    go_ret
    exact ⟨rfl, by go_grown⟩
  by_cases c4 : 16 < W
  · go_enter Try.func13, Try.ntmps13
    go_wp2
    go_ret
    exact ⟨rfl, by go_grown⟩
  by_cases c5 : C < 1
  · go_enter Try.func13, Try.ntmps13
    go_wp2
    go_ret
    exact ⟨rfl, by go_grown⟩
  by_cases c6 : 8 < C
  · go_enter Try.func13, Try.ntmps13
    go_wp2
    go_ret
    exact ⟨rfl, by go_grown⟩
  exact absurd ⟨by omega, by omega, by omega, by omega, by omega, by omega⟩ h

theorem rsize_any (H W C q : Int) (w : World) (hq : Hid (q = sizeI H W C)) :
    Calls Try.prog 15 #[.agg #[.int .i64 H, .int .i64 W, .int .i64 C]] w fun e w' => e = .returned (.int .i64 q) ∧ Grown w w' := by
  rw [hq.out]
  by_cases h : mayS H W C
  · have e : sizeI H W C = H * W * C := by unfold sizeI; rw [if_pos h]
    rw [e]
    obtain ⟨h1, h2, h3, h4, h5, h6⟩ := id h
    obtain ⟨m1, m2⟩ := mul_bd h1 h2 h3 h4
    obtain ⟨m3, m4⟩ := mul_bd m1 m2 h5 h6
    go_enter Try.func15, Try.ntmps15
    go_wp2_with fail
    refine (rmay_yes H W C _ h).mono ?_; rintro e w1 ⟨rfl, g1⟩
    have c0 : w1.cell? ⟨w.heap.size, 0, none⟩ = some (.int .i64 H) := (grown_cell g1 (by simp)).trans (by go_cell)
    have c1 : w1.cell? ⟨w.heap.size, 1, none⟩ = some (.int .i64 W) := (grown_cell g1 (by simp)).trans (by go_cell)
    have c2 : w1.cell? ⟨w.heap.size, 2, none⟩ = some (.int .i64 C) := (grown_cell g1 (by simp)).trans (by go_cell)
    clear h
    go_wp2_with fail
    go_ret
    exact ⟨rfl, grown_trans (by go_grown) g1⟩
  · have e : sizeI H W C = 0 := by unfold sizeI; rw [if_neg h]
    rw [e]
    go_enter Try.func15, Try.ntmps15
    go_wp2_with fail
    refine (rmay_no H W C _ h).mono ?_; rintro e w1 ⟨rfl, g1⟩
    go_wp2_with fail
    go_ret
    exact ⟨rfl, grown_trans (by go_grown) g1⟩

theorem rrow_any (H W C q : Int) (w : World) (hq : Hid (q = rowI H W C)) :
    Calls Try.prog 17 #[.agg #[.int .i64 H, .int .i64 W, .int .i64 C]] w fun e w' => e = .returned (.int .i64 q) ∧ Grown w w' := by
  rw [hq.out]
  by_cases h : mayS H W C
  · have e : rowI H W C = W * C := by unfold rowI; rw [if_pos h]
    rw [e]
    obtain ⟨h1, h2, h3, h4, h5, h6⟩ := id h
    obtain ⟨m1, m2⟩ := mul_bd h3 h4 h5 h6
    go_enter Try.func17, Try.ntmps17
    go_wp2_with fail
    refine (rmay_yes H W C _ h).mono ?_; rintro e w1 ⟨rfl, g1⟩
    have c1 : w1.cell? ⟨w.heap.size, 1, none⟩ = some (.int .i64 W) := (grown_cell g1 (by simp)).trans (by go_cell)
    have c2 : w1.cell? ⟨w.heap.size, 2, none⟩ = some (.int .i64 C) := (grown_cell g1 (by simp)).trans (by go_cell)
    clear h
    go_wp2_with fail
    go_ret
    exact ⟨rfl, grown_trans (by go_grown) g1⟩
  · have e : rowI H W C = 0 := by unfold rowI; rw [if_neg h]
    rw [e]
    go_enter Try.func17, Try.ntmps17
    go_wp2_with fail
    refine (rmay_no H W C _ h).mono ?_; rintro e w1 ⟨rfl, g1⟩
    go_wp2_with fail
    go_ret
    exact ⟨rfl, grown_trans (by go_grown) g1⟩

/-- Where the next window of the reference begins. -/
theorem rout_yes (size k stride pad n : Int) (w : World) (u1 : 1 ≤ size) (u2 : size ≤ 64) (v1 : 1 ≤ k) (v2 : k ≤ 16) (x1 : 1 ≤ stride) (x2 : stride ≤ 16) (y1 : 0 ≤ pad) (y2 : pad ≤ 16)
    (n1 : 0 ≤ n) (n2 : n ≤ 97) (hn : Hid (∀ j : Nat, (j : Int) ≤ n → (-pad + j * stride ≤ 4000 ∧ -16 ≤ -pad + j * stride ∧ (-pad + j * stride + k ≤ size + pad ↔ (j : Int) < n)))) :
    Calls Try.prog 23 #[.int .i64 size, .int .i64 k, .int .i64 stride, .int .i64 pad] w fun e w' => e = .returned (.int .i64 n) ∧ Grown w w' := by
  go_enter Try.func23, Try.ntmps23
  go_wp2_with fail
  go_loop [9, 10] (fun c a => ∃ j : Nat, (j : Int) ≤ n ∧ c = .int .i64 j ∧ a = .int .i64 (-pad + j * stride)) (fun c _ => (n - intOf c).toNat)
  case atStart => exact ⟨0, by omega, rfl, by simp⟩
  case round =>
    obtain ⟨j, hj, rfl, rfl⟩ := hrel
    obtain ⟨b1, b2, b3⟩ := hn.out j hj
    by_cases hlt : (j : Int) < n
    · have b4 := b3.mpr hlt
      clear b3
      go_wp2_with fail
      go_round
      case rel => exact ⟨j + 1, by omega, by go_num, by congr 1; rw [Int.natCast_add, Int.add_mul]; omega⟩
      case measure => simp [intOf]; omega
    · have b4 : ¬ (-pad + j * stride + k ≤ size + pad) := fun h => hlt (b3.mp h)
      obtain rfl : n = j := by omega
      clear b3
      go_wp2_with fail
      go_ret
      exact ⟨rfl, by go_grown⟩

theorem rout_any (size k stride pad q : Int) (w : World) (hq : Hid (q = outI size k stride pad)) :
    Calls Try.prog 23 #[.int .i64 size, .int .i64 k, .int .i64 stride, .int .i64 pad] w fun e w' => e = .returned (.int .i64 q) ∧ Grown w w' := by
  by_cases c : (1 ≤ size ∧ size ≤ 64) ∧ (1 ≤ k ∧ k ≤ 16) ∧ (1 ≤ stride ∧ stride ≤ 16) ∧ (0 ≤ pad ∧ pad ≤ 16)
  · obtain ⟨⟨u1, u2⟩, ⟨v1, v2⟩, ⟨x1, x2⟩, ⟨y1, y2⟩⟩ := c
    have q0 : 0 ≤ q ∧ q ≤ 97 := by rw [hq.out]; exact out_ge
    refine rout_yes size k stride pad q w u1 u2 v1 v2 x1 x2 y1 y2 q0.1 q0.2 (Lib.hid (fun j hj => ?_))
    have e : -pad + j * stride + k ≤ size + pad ↔ j * stride ≤ size + 2 * pad - k := by constructor <;> intro h <;> omega
    rw [e]
    by_cases c5 : k ≤ size + 2 * pad
    · have hw : mayWin size k stride pad := ⟨u1, u2, v1, v2, x1, x2, y1, y2, c5⟩
      have hq' := hq.out
      rw [outI_yes hw] at hq'
      have e2 := Int.le_ediv_iff_mul_le (a := (j : Int)) (b := size + 2 * pad - k) (c := stride) (by omega)
      have b1 : 0 ≤ (j : Int) * stride := Int.mul_nonneg (by omega) (by omega)
      have b2 : (j : Int) * stride ≤ 97 * 16 := Int.mul_le_mul (by omega) x2 (by omega) (by omega)
      refine ⟨by omega, by omega, ?_⟩
      rw [← e2]
      constructor <;> intro h <;> omega
    · have hq' := hq.out
      rw [outI_no (fun h => c5 h.2.2.2.2.2.2.2.2)] at hq'
      obtain rfl : j = 0 := by omega
      simp
      omega
  · have q0 : q = 0 := by rw [hq.out]; exact outI_no (fun h => c ⟨⟨h.1, h.2.1⟩, ⟨h.2.2.1, h.2.2.2.1⟩, ⟨h.2.2.2.2.1, h.2.2.2.2.2.1⟩, ⟨h.2.2.2.2.2.2.1, h.2.2.2.2.2.2.2.1⟩⟩)
    subst q0
    clear hq
    by_cases c1 : size < 1
    · clear c
      go_enter Try.func23, Try.ntmps23
      go_wp2
      go_ret
      exact ⟨rfl, by go_grown⟩
    by_cases c2 : 64 < size
    · clear c
      go_enter Try.func23, Try.ntmps23
      go_wp2
      go_ret
      exact ⟨rfl, by go_grown⟩
    by_cases c3 : k < 1
    · clear c
      go_enter Try.func23, Try.ntmps23
      go_wp2
      go_ret
      exact ⟨rfl, by go_grown⟩
    by_cases c4 : 16 < k
    · clear c
      go_enter Try.func23, Try.ntmps23
      go_wp2
      go_ret
      exact ⟨rfl, by go_grown⟩
    by_cases c5 : stride < 1
    · clear c
      go_enter Try.func23, Try.ntmps23
      go_wp2
      go_ret
      exact ⟨rfl, by go_grown⟩
    by_cases c6 : 16 < stride
    · clear c
      go_enter Try.func23, Try.ntmps23
      go_wp2
      go_ret
      exact ⟨rfl, by go_grown⟩
    by_cases c7 : pad < 0
    · clear c
      go_enter Try.func23, Try.ntmps23
      go_wp2
      go_ret
      exact ⟨rfl, by go_grown⟩
    by_cases c8 : 16 < pad
    · clear c
      go_enter Try.func23, Try.ntmps23
      go_wp2
      go_ret
      exact ⟨rfl, by go_grown⟩
    exact absurd ⟨⟨by omega, by omega⟩, ⟨by omega, by omega⟩, ⟨by omega, by omega⟩, ⟨by omega, by omega⟩⟩ c

theorem rs_inv (first k stride pad size : Int) (h1 : 1 ≤ stride) (h2 : 1 ≤ size) (h3 : 1 ≤ k) (j : Nat) :
    ((rs first k stride pad size j).2 = 0 ∧ (rs first k stride pad size j).1 = 0) ∨
    (0 < (rs first k stride pad size j).2 ∧ 0 ≤ (rs first k stride pad size j).1 ∧ (rs first k stride pad size j).1 ≤ leastI stride pad (first + j) ∧ (rs first k stride pad size j).2 ≤ size ∧ (rs first k stride pad size j).2 ≤ (first + j) * stride - pad + k) := by
  induction j with
  | zero => left; exact ⟨rfl, rfl⟩
  | succ j ih =>
    have e : (first + ((j + 1 : Nat) : Int)) * stride = (first + j) * stride + stride := by rw [Int.natCast_add, ← Int.add_assoc, Int.add_mul (first + j)]; simp
    by_cases hx : leastI stride pad (first + j) < overI k stride pad size (first + j)
    · by_cases h0 : (rs first k stride pad size j).2 = 0
      · rw [rs_first (Lib.hid rfl) (Lib.hid rfl) hx h0]
        right
        simp only [leastI, overI] at *
        omega
      · rw [rs_more (Lib.hid rfl) (Lib.hid rfl) hx h0]
        right
        simp only [leastI, overI] at *
        omega
    · rw [rs_out (Lib.hid rfl) (Lib.hid rfl) hx]
      simp only [leastI, overI] at *
      omega

/-- The reference's inner round: i numbers of the window that begins at s have been looked at. -/
def St (s size F T i f t : Int) : Prop :=
  (max s 0 < min (s + i) size → ((T = 0 → f = max s 0) ∧ (T ≠ 0 → f = F)) ∧ t = max T (min (s + i) size)) ∧ (¬ max s 0 < min (s + i) size → f = F ∧ t = T)

theorem St_zero (s size F T : Int) : St s size F T 0 F T := by unfold St; omega
theorem St_out {s size F T i f t : Int} (h : s + i < 0 ∨ size ≤ s + i) (hi : 0 ≤ i) (hs : 1 ≤ size) (H : St s size F T i f t) : St s size F T (i + 1) f t := by unfold St at *; omega
theorem St_new {s size F T i f t : Int} (h : 0 ≤ s + i) (h' : s + i < size) (hi : 0 ≤ i) (_J : (T = 0 ∧ F = 0) ∨ (0 < T ∧ 0 ≤ F ∧ F ≤ max s 0)) (h0 : t = 0) (H : St s size F T i f t) : St s size F T (i + 1) (s + i) (s + i + 1) := by unfold St at *; omega
theorem St_old {s size F T i f t u : Int} (h : 0 ≤ s + i) (h' : s + i < size) (hi : 0 ≤ i) (J : (T = 0 ∧ F = 0) ∨ (0 < T ∧ 0 ≤ F ∧ F ≤ max s 0)) (h0 : t ≠ 0) (hu : u = max t (s + i + 1)) (H : St s size F T i f t) : f ≤ s + i ∧ St s size F T (i + 1) f u := by unfold St at *; omega
theorem St_bd {s size F T i f t : Int} (hs : size ≤ 64) (hs' : 1 ≤ size) (J : (T = 0 ∧ F = 0) ∨ (0 < T ∧ 0 ≤ F ∧ F ≤ max s 0)) (hT : T ≤ size) (hF : s ≤ 64) (H : St s size F T i f t) : 0 ≤ f ∧ f ≤ 64 ∧ 0 ≤ t ∧ t ≤ 64 := by unfold St at *; omega
theorem St_end {first k stride pad size : Int} {j : Nat} {f t : Int} (h1 : 1 ≤ stride) (h2 : 1 ≤ size) (h3 : 1 ≤ k)
    (H : St ((first + j) * stride - pad) size (rs first k stride pad size j).1 (rs first k stride pad size j).2 k f t) : rs first k stride pad size (j + 1) = (f, t) := by
  have J := rs_inv first k stride pad size h1 h2 h3 j
  by_cases hx : leastI stride pad (first + j) < overI k stride pad size (first + j)
  · by_cases h0 : (rs first k stride pad size j).2 = 0
    · rw [rs_first (Lib.hid rfl) (Lib.hid rfl) hx h0]
      unfold St at H
      simp only [leastI, overI] at *
      exact Prod.ext (by simp only []; omega) (by simp only []; omega)
    · rw [rs_more (Lib.hid rfl) (Lib.hid rfl) hx h0]
      unfold St at H
      simp only [leastI, overI] at *
      exact Prod.ext (by simp only []; omega) (by simp only []; omega)
  · rw [rs_out (Lib.hid rfl) (Lib.hid rfl) hx]
    unfold St at H
    simp only [leastI, overI] at *
    exact Prod.ext (by omega) (by omega)
end Go.Proofs.Ytcidpbdgikkndaa
