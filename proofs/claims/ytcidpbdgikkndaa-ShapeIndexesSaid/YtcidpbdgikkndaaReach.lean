/- Reach: what is under some places, step by step. -/
import Derived.Test.YtcidpbdgikkndaaUnder
namespace Go.Proofs.Ytcidpbdgikkndaa
open Go.ChangeShapes Go.WideShapes Go.ChangeAt Go.RowKit

def leastI (stride pad p : Int) : Int := max (p * stride - pad) 0
def overI (k stride pad size p : Int) : Int := min (p * stride - pad + k) size

/-- What is under the first j of the places from first on. -/
def rs (first k stride pad size : Int) : Nat → Int × Int
  | 0 => (0, 0)
  | j + 1 => if leastI stride pad (first + j) < overI k stride pad size (first + j) then ((if (rs first k stride pad size j).2 = 0 then leastI stride pad (first + j) else (rs first k stride pad size j).1), overI k stride pad size (first + j)) else rs first k stride pad size j

theorem rs_out {first k stride pad size l b : Int} {j : Nat} (hl : Hid (l = leastI stride pad (first + j))) (hb : Hid (b = overI k stride pad size (first + j))) (h : ¬ l < b) :
    rs first k stride pad size (j + 1) = rs first k stride pad size j := by
  rw [hl.out, hb.out] at h
  simp only [rs]; rw [if_neg h]
theorem rs_first {first k stride pad size l b : Int} {j : Nat} (hl : Hid (l = leastI stride pad (first + j))) (hb : Hid (b = overI k stride pad size (first + j))) (h : l < b) (h0 : (rs first k stride pad size j).2 = 0) :
    rs first k stride pad size (j + 1) = (l, b) := by
  have h' := h
  rw [hl.out, hb.out] at h'
  simp only [rs]; rw [if_pos h', if_pos h0, hl.out, hb.out]
theorem rs_more {first k stride pad size l b : Int} {j : Nat} (hl : Hid (l = leastI stride pad (first + j))) (hb : Hid (b = overI k stride pad size (first + j))) (h : l < b) (h0 : (rs first k stride pad size j).2 ≠ 0) :
    rs first k stride pad size (j + 1) = ((rs first k stride pad size j).1, b) := by
  have h' := h
  rw [hl.out, hb.out] at h'
  simp only [rs]; rw [if_pos h', if_neg h0, hb.out]

theorem out_bd {size k stride pad : Int} (h : mayWin size k stride pad) : 1 ≤ outI size k stride pad ∧ outI size k stride pad ≤ 97 := by
  rw [outI_yes h]
  obtain ⟨h1, h2, h3, h4, h5, h6, h7, h8, h9⟩ := h
  have d1 : (size + 2 * pad - k) / stride ≤ 96 := Int.le_trans (Int.ediv_le_self _ (by omega)) (by omega)
  have d2 : 0 ≤ (size + 2 * pad - k) / stride := Int.ediv_nonneg (by omega) (by omega)
  omega

/-- A place that is there. -/
theorem place_bd {size k stride pad p : Int} (h : mayWin size k stride pad) (h0 : 0 ≤ p) (hp : p < outI size k stride pad) : 0 ≤ p * stride ∧ p * stride ≤ size + 2 * pad - k := by
  rw [outI_yes h] at hp
  obtain ⟨h1, h2, h3, h4, h5, h6, h7, h8, h9⟩ := h
  refine ⟨Int.mul_nonneg h0 (by omega), ?_⟩
  have : p * stride ≤ (size + 2 * pad - k) / stride * stride := Int.mul_le_mul_of_nonneg_right (by omega) (by omega)
  exact Int.le_trans this (Int.ediv_mul_le _ (by omega))

theorem out_zero {size k stride pad : Int} : outI size k stride pad = 0 ↔ ¬ mayWin size k stride pad := by
  constructor
  · intro h c
    have := out_bd c
    omega
  · exact fun h => outI_no h

theorem out_ge {size k stride pad : Int} : 0 ≤ outI size k stride pad ∧ outI size k stride pad ≤ 97 := by
  by_cases c : mayWin size k stride pad
  · have := out_bd c
    omega
  · rw [outI_no c]; omega

theorem reach_no (first rows k stride pad size n : Int) (w : World) (h1 : -9223372036854775808 ≤ first) (h2 : first ≤ 9223372036854775807) (hn : Hid (n = outI size k stride pad)) (h : n = 0 ∨ first < 0 ∨ rows < 1 ∨ n - first < rows) :
    Calls Try.prog 20 #[.int .i64 first, .int .i64 rows, .int .i64 k, .int .i64 stride, .int .i64 pad, .int .i64 size] w fun e w' => e = .returned (.tuple #[.int .i64 0, .int .i64 0]) ∧ Grown w w' := by
  have n0 : 0 ≤ n ∧ n ≤ 97 := by rw [hn.out]; exact out_ge
  obtain ⟨n1, n2⟩ := n0
  by_cases c1 : n = 0
  · clear h
    go_enter Try.func20, Try.ntmps20
    go_wp2_with fail
    refine (out_any size k stride pad n _ hn).mono ?_; rintro e w1 ⟨rfl, g1⟩
    go_wp2_with fail
    go_ret2
    exact ⟨rfl, grown_trans (by go_grown) g1⟩
  · by_cases c2 : first < 0
    · clear h
      go_enter Try.func20, Try.ntmps20
      go_wp2_with fail
      refine (out_any size k stride pad n _ hn).mono ?_; rintro e w1 ⟨rfl, g1⟩
      go_wp2_with fail
      go_ret2
      exact ⟨rfl, grown_trans (by go_grown) g1⟩
    · by_cases c3 : rows < 1
      · clear h
        go_enter Try.func20, Try.ntmps20
        go_wp2_with fail
        refine (out_any size k stride pad n _ hn).mono ?_; rintro e w1 ⟨rfl, g1⟩
        go_wp2_with fail
        go_ret2
        exact ⟨rfl, grown_trans (by go_grown) g1⟩
      · have c4 : n - first < rows := by omega
        clear h
        go_enter Try.func20, Try.ntmps20
        go_wp2_with fail
        refine (out_any size k stride pad n _ hn).mono ?_; rintro e w1 ⟨rfl, g1⟩
        go_wp2_with fail
        go_ret2
        exact ⟨rfl, grown_trans (by go_grown) g1⟩

set_option maxHeartbeats 1000000 in
theorem reach_yes (first k stride pad size n : Int) (m : Nat) (w : World) (hw : mayWin size k stride pad) (hn : Hid (n = outI size k stride pad)) (h1 : 0 ≤ first) (h2 : 1 ≤ m) (h3 : (m : Int) ≤ n - first) :
    Calls Try.prog 20 #[.int .i64 first, .int .i64 m, .int .i64 k, .int .i64 stride, .int .i64 pad, .int .i64 size] w fun e w' => e = .returned (.tuple #[.int .i64 (rs first k stride pad size m).1, .int .i64 (rs first k stride pad size m).2]) ∧ Grown w w' := by
  have n0 : 1 ≤ n ∧ n ≤ 97 := by rw [hn.out]; exact out_bd hw
  obtain ⟨n1, n2⟩ := n0
  have HP : Hid (∀ j : Nat, j < m → 0 ≤ (first + j) * stride ∧ (first + j) * stride ≤ size + 2 * pad - k) := Lib.hid (fun j hj => place_bd hw (by omega) (by have := hn.out; omega))
  obtain ⟨s1, s2, k1, k2, t1, t2, p1, p2, d⟩ := hw
  have e0 : (n == 0) = false := by simp; omega
  have m1 : m ≤ 97 := by omega
  go_enter Try.func20, Try.ntmps20
  go_wp2_with fail
  refine (out_any size k stride pad n _ hn).mono ?_; rintro e w1 ⟨rfl, g1⟩
  have c0 : w1.cell? ⟨w.heap.size, 0, none⟩ = some (.int .i64 k) := (grown_cell g1 (by simp <;> omega)).trans (by go_cell)
  have c1 : w1.cell? ⟨w.heap.size + 1, 0, none⟩ = some (.int .i64 stride) := (grown_cell g1 (by simp <;> omega)).trans (by go_cell)
  have c2 : w1.cell? ⟨w.heap.size + 1 + 1, 0, none⟩ = some (.int .i64 pad) := (grown_cell g1 (by simp <;> omega)).trans (by go_cell)
  have c3 : w1.cell? ⟨w.heap.size + 1 + 1 + 1, 0, none⟩ = some (.int .i64 size) := (grown_cell g1 (by simp)).trans (by go_cell)
  have sz : w.heap.size + 3 < w1.heap.size := by have := g1.2.2; simp at this; omega
  have g : Grown w w1 := grown_trans (by go_grown) g1
  clear g1
  go_wp2_with fail
  clear e0
  go_loopw [12, 13, 43] (fun f t i wr => ∃ j : Nat, j ≤ m ∧ i = .int .i64 j ∧ f = .int .i64 (rs first k stride pad size j).1 ∧ t = .int .i64 (rs first k stride pad size j).2 ∧ Grown w1 wr) (fun _ _ i _ => m - (intOf i).toNat)
  case atStart => exact ⟨0, by omega, rfl, rfl, rfl, Grown.refl _⟩
  case round =>
    obtain ⟨j, hj, rfl, rfl, rfl, gr⟩ := hrel
    by_cases hlt : j < m
    · obtain ⟨b1, b2⟩ := HP.out j hlt
      obtain ⟨l, hl⟩ : ∃ l, Hid (l = leastI stride pad (first + j)) := ⟨_, Lib.hid rfl⟩
      obtain ⟨b, hb⟩ : ∃ b, Hid (b = overI k stride pad size (first + j)) := ⟨_, Lib.hid rfl⟩
      have d0 := (grown_cell gr (p := ⟨w.heap.size, 0, none⟩) (by simp; omega)).trans c0
      have d1 := (grown_cell gr (p := ⟨w.heap.size + 1, 0, none⟩) (by simp; omega)).trans c1
      have d2 := (grown_cell gr (p := ⟨w.heap.size + 1 + 1, 0, none⟩) (by simp; omega)).trans c2
      have d3 := (grown_cell gr (p := ⟨w.heap.size + 1 + 1 + 1, 0, none⟩) (by simp; omega)).trans c3
      by_cases hx : l < b
      · by_cases h0 : (rs first k stride pad size j).2 = 0
        · have e0 : ((rs first k stride pad size j).2 == 0) = true := by simpa using h0
          have E := Lib.hid (rs_first hl hb hx h0)
          clear h0
          go_wp2_with fail
          refine (under_any (first + j) stride pad k size l b _ _ _ _ _ (by omega) (by omega) p1 p2 k1 k2 hl hb d1 d2 d0 d3).mono ?_; rintro e w2 ⟨rfl, g2⟩
          go_wp2_with fail
          go_roundw
          case rel => exact ⟨j + 1, by omega, by go_num, by rw [E.out], by rw [E.out], grown_trans gr g2⟩
          case measure => simp [intOf]; omega
        · have e0 : ((rs first k stride pad size j).2 == 0) = false := by simpa using h0
          have E := Lib.hid (rs_more hl hb hx h0)
          clear h0
          go_wp2_with fail
          refine (under_any (first + j) stride pad k size l b _ _ _ _ _ (by omega) (by omega) p1 p2 k1 k2 hl hb d1 d2 d0 d3).mono ?_; rintro e w2 ⟨rfl, g2⟩
          go_wp2_with fail
          go_roundw
          case rel => exact ⟨j + 1, by omega, by go_num, by rw [E.out], by rw [E.out], grown_trans gr g2⟩
          case measure => simp [intOf]; omega
      · have E := Lib.hid (rs_out hl hb hx)
        go_wp2_with fail
        refine (under_any (first + j) stride pad k size l b _ _ _ _ _ (by omega) (by omega) p1 p2 k1 k2 hl hb d1 d2 d0 d3).mono ?_; rintro e w2 ⟨rfl, g2⟩
        go_wp2_with fail
        go_roundw
        case rel => exact ⟨j + 1, by omega, by go_num, by rw [E.out], by rw [E.out], grown_trans gr g2⟩
        case measure => simp [intOf]; omega
    · obtain rfl : j = m := by omega
      go_wp2_with fail
      go_ret2
      exact ⟨rfl, grown_trans g gr⟩
end Go.Proofs.Ytcidpbdgikkndaa
