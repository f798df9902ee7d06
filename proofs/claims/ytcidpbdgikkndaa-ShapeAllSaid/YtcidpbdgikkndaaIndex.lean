/- Index. -/
import Derived.Test.YtcidpbdgikkndaaSizes
namespace Go.Proofs.Ytcidpbdgikkndaa
open Go.ChangeShapes Go.WideShapes Go.ChangeAt Go.RowKit

theorem index_no0 (H W C y x c : Int) (w : World) (h : ¬ mayS H W C) :
    Calls Try.prog 18 #[.agg #[.int .i64 H, .int .i64 W, .int .i64 C], .int .i64 y, .int .i64 x, .int .i64 c] w fun e w' => e = .returned (.int .i64 (-1)) ∧ Grown w w' := by
  go_enter Try.func18, Try.ntmps18
  go_wp2_with fail
  refine (may_no H W C _ h).mono ?_; rintro e w1 ⟨rfl, g1⟩
  have g : Grown w w1 := grown_trans (by go_grown) g1
  go_wp2_with fail
  go_ret
  exact ⟨rfl, g⟩

theorem index_no1 (H W C y x c : Int) (w : World) (h : mayS H W C) (h1 : ¬ (0 ≤ y ∧ y < H)) :
    Calls Try.prog 18 #[.agg #[.int .i64 H, .int .i64 W, .int .i64 C], .int .i64 y, .int .i64 x, .int .i64 c] w fun e w' => e = .returned (.int .i64 (-1)) ∧ Grown w w' := by
  obtain ⟨a1, a2, b1, b2, d1, d2⟩ := id h
  go_enter Try.func18, Try.ntmps18
  go_wp2_with fail
  refine (may_yes H W C _ h).mono ?_; rintro e w1 ⟨rfl, g1⟩
  clear h
  have c0 : w1.cell? ⟨w.heap.size, 0, none⟩ = some (.int .i64 H) := (grown_cell g1 (by simp)).trans (by go_cell)
  have c1 : w1.cell? ⟨w.heap.size, 1, none⟩ = some (.int .i64 W) := (grown_cell g1 (by simp)).trans (by go_cell)
  have c2 : w1.cell? ⟨w.heap.size, 2, none⟩ = some (.int .i64 C) := (grown_cell g1 (by simp)).trans (by go_cell)
  have sz : w.heap.size < w1.heap.size := by have := g1.2.2; simp at this; omega
  have g : Grown w w1 := grown_trans (by go_grown) g1
  clear g1
  go_wp2_with (first | (go_at_call 24; refine (between_any _ _ _).mono ?_; rintro e w' ⟨rfl, rfl⟩))
  refine (inb1n 0 (H - 1) y _ _ _ _ (by omega) (by go_cell) (by go_cell) (by go_cell)).mono ?_; rintro e w2 ⟨rfl, hw2⟩
  have G2 : Grown w1 w2 := by rw [hw2]; go_grown
  have c0_2 := (grown_cell G2 (p := ⟨w.heap.size, 0, none⟩) sz).trans c0
  have c1_2 := (grown_cell G2 (p := ⟨w.heap.size, 1, none⟩) sz).trans c1
  have c2_2 := (grown_cell G2 (p := ⟨w.heap.size, 2, none⟩) sz).trans c2
  have sz2 : w.heap.size < w2.heap.size := by have := G2.2.2; omega
  have g_2 : Grown w w2 := grown_trans g G2
  clear hw2 G2 c0 c1 c2 sz g
  go_wp2_with (first | (go_at_call 24; refine (between_any _ _ _).mono ?_; rintro e w' ⟨rfl, rfl⟩))
  go_ret
  exact ⟨rfl, grown_trans g_2 (by go_grown)⟩

theorem index_no2 (H W C y x c : Int) (w : World) (h : mayS H W C) (y1 : 0 ≤ y) (y2 : y < H) (h1 : ¬ (0 ≤ x ∧ x < W)) :
    Calls Try.prog 18 #[.agg #[.int .i64 H, .int .i64 W, .int .i64 C], .int .i64 y, .int .i64 x, .int .i64 c] w fun e w' => e = .returned (.int .i64 (-1)) ∧ Grown w w' := by
  obtain ⟨a1, a2, b1, b2, d1, d2⟩ := id h
  go_enter Try.func18, Try.ntmps18
  go_wp2_with fail
  refine (may_yes H W C _ h).mono ?_; rintro e w1 ⟨rfl, g1⟩
  clear h
  have c0 : w1.cell? ⟨w.heap.size, 0, none⟩ = some (.int .i64 H) := (grown_cell g1 (by simp)).trans (by go_cell)
  have c1 : w1.cell? ⟨w.heap.size, 1, none⟩ = some (.int .i64 W) := (grown_cell g1 (by simp)).trans (by go_cell)
  have c2 : w1.cell? ⟨w.heap.size, 2, none⟩ = some (.int .i64 C) := (grown_cell g1 (by simp)).trans (by go_cell)
  have sz : w.heap.size < w1.heap.size := by have := g1.2.2; simp at this; omega
  have g : Grown w w1 := grown_trans (by go_grown) g1
  clear g1
  go_wp2_with (first | (go_at_call 24; refine (between_any _ _ _).mono ?_; rintro e w' ⟨rfl, rfl⟩))
  refine (inb1y 0 (H - 1) y _ _ _ _ y1 (by omega) (by go_cell) (by go_cell) (by go_cell)).mono ?_; rintro e w2 ⟨rfl, hw2⟩
  have G2 : Grown w1 w2 := by rw [hw2]; go_grown
  have c0_2 := (grown_cell G2 (p := ⟨w.heap.size, 0, none⟩) sz).trans c0
  have c1_2 := (grown_cell G2 (p := ⟨w.heap.size, 1, none⟩) sz).trans c1
  have c2_2 := (grown_cell G2 (p := ⟨w.heap.size, 2, none⟩) sz).trans c2
  have sz2 : w.heap.size < w2.heap.size := by have := G2.2.2; omega
  have g_2 : Grown w w2 := grown_trans g G2
  clear hw2 G2 c0 c1 c2 sz g
  go_wp2_with (first | (go_at_call 24; refine (between_any _ _ _).mono ?_; rintro e w' ⟨rfl, rfl⟩))
  refine (inb1n 0 (W - 1) x _ _ _ _ (by omega) (by go_cell) (by go_cell) (by go_cell)).mono ?_; rintro e w3 ⟨rfl, hw3⟩
  have G3 : Grown w2 w3 := by rw [hw3]; go_grown
  have c0_3 := (grown_cell G3 (p := ⟨w.heap.size, 0, none⟩) sz2).trans c0_2
  have c1_3 := (grown_cell G3 (p := ⟨w.heap.size, 1, none⟩) sz2).trans c1_2
  have c2_3 := (grown_cell G3 (p := ⟨w.heap.size, 2, none⟩) sz2).trans c2_2
  have sz3 : w.heap.size < w3.heap.size := by have := G3.2.2; omega
  have g_3 : Grown w w3 := grown_trans g_2 G3
  clear hw3 G3 c0_2 c1_2 c2_2 sz2 g_2
  go_wp2_with (first | (go_at_call 24; refine (between_any _ _ _).mono ?_; rintro e w' ⟨rfl, rfl⟩))
  go_ret
  exact ⟨rfl, grown_trans g_3 (by go_grown)⟩

theorem index_no3 (H W C y x c : Int) (w : World) (h : mayS H W C) (y1 : 0 ≤ y) (y2 : y < H) (x1 : 0 ≤ x) (x2 : x < W) (h1 : ¬ (0 ≤ c ∧ c < C)) :
    Calls Try.prog 18 #[.agg #[.int .i64 H, .int .i64 W, .int .i64 C], .int .i64 y, .int .i64 x, .int .i64 c] w fun e w' => e = .returned (.int .i64 (-1)) ∧ Grown w w' := by
  obtain ⟨a1, a2, b1, b2, d1, d2⟩ := id h
  go_enter Try.func18, Try.ntmps18
  go_wp2_with fail
  refine (may_yes H W C _ h).mono ?_; rintro e w1 ⟨rfl, g1⟩
  clear h
  have c0 : w1.cell? ⟨w.heap.size, 0, none⟩ = some (.int .i64 H) := (grown_cell g1 (by simp)).trans (by go_cell)
  have c1 : w1.cell? ⟨w.heap.size, 1, none⟩ = some (.int .i64 W) := (grown_cell g1 (by simp)).trans (by go_cell)
  have c2 : w1.cell? ⟨w.heap.size, 2, none⟩ = some (.int .i64 C) := (grown_cell g1 (by simp)).trans (by go_cell)
  have sz : w.heap.size < w1.heap.size := by have := g1.2.2; simp at this; omega
  have g : Grown w w1 := grown_trans (by go_grown) g1
  clear g1
  go_wp2_with (first | (go_at_call 24; refine (between_any _ _ _).mono ?_; rintro e w' ⟨rfl, rfl⟩))
  refine (inb1y 0 (H - 1) y _ _ _ _ y1 (by omega) (by go_cell) (by go_cell) (by go_cell)).mono ?_; rintro e w2 ⟨rfl, hw2⟩
  have G2 : Grown w1 w2 := by rw [hw2]; go_grown
  have c0_2 := (grown_cell G2 (p := ⟨w.heap.size, 0, none⟩) sz).trans c0
  have c1_2 := (grown_cell G2 (p := ⟨w.heap.size, 1, none⟩) sz).trans c1
  have c2_2 := (grown_cell G2 (p := ⟨w.heap.size, 2, none⟩) sz).trans c2
  have sz2 : w.heap.size < w2.heap.size := by have := G2.2.2; omega
  have g_2 : Grown w w2 := grown_trans g G2
  clear hw2 G2 c0 c1 c2 sz g
  go_wp2_with (first | (go_at_call 24; refine (between_any _ _ _).mono ?_; rintro e w' ⟨rfl, rfl⟩))
  refine (inb1y 0 (W - 1) x _ _ _ _ x1 (by omega) (by go_cell) (by go_cell) (by go_cell)).mono ?_; rintro e w3 ⟨rfl, hw3⟩
  have G3 : Grown w2 w3 := by rw [hw3]; go_grown
  have c0_3 := (grown_cell G3 (p := ⟨w.heap.size, 0, none⟩) sz2).trans c0_2
  have c1_3 := (grown_cell G3 (p := ⟨w.heap.size, 1, none⟩) sz2).trans c1_2
  have c2_3 := (grown_cell G3 (p := ⟨w.heap.size, 2, none⟩) sz2).trans c2_2
  have sz3 : w.heap.size < w3.heap.size := by have := G3.2.2; omega
  have g_3 : Grown w w3 := grown_trans g_2 G3
  clear hw3 G3 c0_2 c1_2 c2_2 sz2 g_2
  go_wp2_with (first | (go_at_call 24; refine (between_any _ _ _).mono ?_; rintro e w' ⟨rfl, rfl⟩))
  refine (inb1n 0 (C - 1) c _ _ _ _ (by omega) (by go_cell) (by go_cell) (by go_cell)).mono ?_; rintro e w4 ⟨rfl, hw4⟩
  have G4 : Grown w3 w4 := by rw [hw4]; go_grown
  have c0_4 := (grown_cell G4 (p := ⟨w.heap.size, 0, none⟩) sz3).trans c0_3
  have c1_4 := (grown_cell G4 (p := ⟨w.heap.size, 1, none⟩) sz3).trans c1_3
  have c2_4 := (grown_cell G4 (p := ⟨w.heap.size, 2, none⟩) sz3).trans c2_3
  have sz4 : w.heap.size < w4.heap.size := by have := G4.2.2; omega
  have g_4 : Grown w w4 := grown_trans g_3 G4
  clear hw4 G4 c0_3 c1_3 c2_3 sz3 g_3
  go_wp2_with (first | (go_at_call 24; refine (between_any _ _ _).mono ?_; rintro e w' ⟨rfl, rfl⟩))
  go_ret
  exact ⟨rfl, grown_trans g_4 (by go_grown)⟩

theorem index_yes (H W C y x c : Int) (w : World) (h : mayS H W C) (y1 : 0 ≤ y) (y2 : y < H) (x1 : 0 ≤ x) (x2 : x < W) (z1 : 0 ≤ c) (z2 : c < C) :
    Calls Try.prog 18 #[.agg #[.int .i64 H, .int .i64 W, .int .i64 C], .int .i64 y, .int .i64 x, .int .i64 c] w fun e w' => e = .returned (.int .i64 ((y * W + x) * C + c)) ∧ Grown w w' := by
  obtain ⟨a1, a2, b1, b2, d1, d2⟩ := id h
  have m1 : 0 ≤ y * W ∧ y * W ≤ 256 := by
    have := Int.mul_le_mul (show y ≤ 16 by omega) b2 (by omega) (by omega)
    exact ⟨Int.mul_nonneg y1 (by omega), by omega⟩
  have m2 : 0 ≤ (y * W + x) * C ∧ (y * W + x) * C ≤ 3000 := by
    have := Int.mul_le_mul (show y * W + x ≤ 300 by omega) d2 (by omega) (by omega)
    exact ⟨Int.mul_nonneg (by omega) (by omega), by omega⟩
  obtain ⟨m3, m4⟩ := m1
  obtain ⟨m5, m6⟩ := m2
  go_enter Try.func18, Try.ntmps18
  go_wp2_with fail
  refine (may_yes H W C _ h).mono ?_; rintro e w1 ⟨rfl, g1⟩
  clear h
  have c0 : w1.cell? ⟨w.heap.size, 0, none⟩ = some (.int .i64 H) := (grown_cell g1 (by simp)).trans (by go_cell)
  have c1 : w1.cell? ⟨w.heap.size, 1, none⟩ = some (.int .i64 W) := (grown_cell g1 (by simp)).trans (by go_cell)
  have c2 : w1.cell? ⟨w.heap.size, 2, none⟩ = some (.int .i64 C) := (grown_cell g1 (by simp)).trans (by go_cell)
  have sz : w.heap.size < w1.heap.size := by have := g1.2.2; simp at this; omega
  have g : Grown w w1 := grown_trans (by go_grown) g1
  clear g1
  go_wp2_with (first | (go_at_call 24; refine (between_any _ _ _).mono ?_; rintro e w' ⟨rfl, rfl⟩))
  refine (inb1y 0 (H - 1) y _ _ _ _ y1 (by omega) (by go_cell) (by go_cell) (by go_cell)).mono ?_; rintro e w2 ⟨rfl, hw2⟩
  have G2 : Grown w1 w2 := by rw [hw2]; go_grown
  have c0_2 := (grown_cell G2 (p := ⟨w.heap.size, 0, none⟩) sz).trans c0
  have c1_2 := (grown_cell G2 (p := ⟨w.heap.size, 1, none⟩) sz).trans c1
  have c2_2 := (grown_cell G2 (p := ⟨w.heap.size, 2, none⟩) sz).trans c2
  have sz2 : w.heap.size < w2.heap.size := by have := G2.2.2; omega
  have g_2 : Grown w w2 := grown_trans g G2
  clear hw2 G2 c0 c1 c2 sz g
  go_wp2_with (first | (go_at_call 24; refine (between_any _ _ _).mono ?_; rintro e w' ⟨rfl, rfl⟩))
  refine (inb1y 0 (W - 1) x _ _ _ _ x1 (by omega) (by go_cell) (by go_cell) (by go_cell)).mono ?_; rintro e w3 ⟨rfl, hw3⟩
  have G3 : Grown w2 w3 := by rw [hw3]; go_grown
  have c0_3 := (grown_cell G3 (p := ⟨w.heap.size, 0, none⟩) sz2).trans c0_2
  have c1_3 := (grown_cell G3 (p := ⟨w.heap.size, 1, none⟩) sz2).trans c1_2
  have c2_3 := (grown_cell G3 (p := ⟨w.heap.size, 2, none⟩) sz2).trans c2_2
  have sz3 : w.heap.size < w3.heap.size := by have := G3.2.2; omega
  have g_3 : Grown w w3 := grown_trans g_2 G3
  clear hw3 G3 c0_2 c1_2 c2_2 sz2 g_2
  go_wp2_with (first | (go_at_call 24; refine (between_any _ _ _).mono ?_; rintro e w' ⟨rfl, rfl⟩))
  refine (inb1y 0 (C - 1) c _ _ _ _ z1 (by omega) (by go_cell) (by go_cell) (by go_cell)).mono ?_; rintro e w4 ⟨rfl, hw4⟩
  have G4 : Grown w3 w4 := by rw [hw4]; go_grown
  have c0_4 := (grown_cell G4 (p := ⟨w.heap.size, 0, none⟩) sz3).trans c0_3
  have c1_4 := (grown_cell G4 (p := ⟨w.heap.size, 1, none⟩) sz3).trans c1_3
  have c2_4 := (grown_cell G4 (p := ⟨w.heap.size, 2, none⟩) sz3).trans c2_3
  have sz4 : w.heap.size < w4.heap.size := by have := G4.2.2; omega
  have g_4 : Grown w w4 := grown_trans g_3 G4
  clear hw4 G4 c0_3 c1_3 c2_3 sz3 g_3
  go_wp2_with (first | (go_at_call 24; refine (between_any _ _ _).mono ?_; rintro e w' ⟨rfl, rfl⟩))
  go_ret
  exact ⟨rfl, grown_trans g_4 (by go_grown)⟩

def inS (H W C y x c : Int) : Prop := mayS H W C ∧ 0 ≤ y ∧ y < H ∧ 0 ≤ x ∧ x < W ∧ 0 ≤ c ∧ c < C
open Classical in
/-- P2.1's place. -/
noncomputable def indexI (H W C y x c : Int) : Int := if inS H W C y x c then (y * W + x) * C + c else -1
theorem indexI_yes {H W C y x c : Int} (h : inS H W C y x c) : indexI H W C y x c = (y * W + x) * C + c := by unfold indexI; rw [if_pos h]
theorem indexI_no {H W C y x c : Int} (h : ¬ inS H W C y x c) : indexI H W C y x c = -1 := by unfold indexI; rw [if_neg h]

theorem index_any (H W C y x c q : Int) (w : World) (hq : Hid (q = indexI H W C y x c)) :
    Calls Try.prog 18 #[.agg #[.int .i64 H, .int .i64 W, .int .i64 C], .int .i64 y, .int .i64 x, .int .i64 c] w fun e w' => e = .returned (.int .i64 q) ∧ Grown w w' := by
  rw [hq.out]
  by_cases h : mayS H W C
  · by_cases h1 : 0 ≤ y ∧ y < H
    · by_cases h2 : 0 ≤ x ∧ x < W
      · by_cases h3 : 0 ≤ c ∧ c < C
        · rw [indexI_yes ⟨h, h1.1, h1.2, h2.1, h2.2, h3.1, h3.2⟩]
          exact index_yes H W C y x c w h h1.1 h1.2 h2.1 h2.2 h3.1 h3.2
        · rw [indexI_no (fun k => h3 ⟨k.2.2.2.2.2.1, k.2.2.2.2.2.2⟩)]
          exact index_no3 H W C y x c w h h1.1 h1.2 h2.1 h2.2 h3
      · rw [indexI_no (fun k => h2 ⟨k.2.2.2.1, k.2.2.2.2.1⟩)]
        exact index_no2 H W C y x c w h h1.1 h1.2 h2
    · rw [indexI_no (fun k => h1 ⟨k.2.1, k.2.2.1⟩)]
      exact index_no1 H W C y x c w h h1
  · rw [indexI_no (fun k => h k.1)]
    exact index_no0 H W C y x c w h
end Go.Proofs.Ytcidpbdgikkndaa
