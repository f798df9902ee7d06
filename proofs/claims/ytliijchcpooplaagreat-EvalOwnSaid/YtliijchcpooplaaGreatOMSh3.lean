/- shape: Reach. shape: Index. -/
import Derived.Test.YtliijchcpooplaaGreatOMSh1
import Derived.Test.YtliijchcpooplaaGreatOMSh2
namespace Go.Proofs.YtliijchcpooplaaGreat
open Go.ChangeShapes Go.WideShapes Go.ChangeAt Go.RowKit
theorem under_any (place stride pad k size l b : Int) (w : World) (p1 p2 p3 p4 : Addr) (h1 : -1000000 <= place * stride) (h2 : place * stride <= 1000000) (u1 : 0 <= pad) (u2 : pad <= 16) (v1 : 1 <= k) (v2 : k <= 16)
    (hl : Hid (l = max (place * stride - pad) 0)) (hb : Hid (b = min (place * stride - pad + k) size))
    (c1 : w.cell? p1 = some (.int .i64 stride)) (c2 : w.cell? p2 = some (.int .i64 pad)) (c3 : w.cell? p3 = some (.int .i64 k)) (c4 : w.cell? p4 = some (.int .i64 size)) :
    Calls Tryz.prog 117 #[.int .i64 place, .pointer (some p1), .pointer (some p2), .pointer (some p3), .pointer (some p4)] w fun e w' => e = .returned (.tuple #[.int .i64 l, .int .i64 b]) /\ Grown w w' := by
  by_cases t1 : place * stride - pad < 0
  . by_cases t2 : place * stride - pad + k < size
    . go_enter Tryz.func117, Tryz.ntmps117
      go_wp2
      go_region
      all_goals go_wp2
      all_goals
        go_ret2
        exact ⟨ret_two (by rw [hl.out]; omega) (by rw [hb.out]; omega), by go_grown⟩
    . go_enter Tryz.func117, Tryz.ntmps117
      go_wp2
      go_region
      all_goals go_wp2
      all_goals
        go_ret2
        exact ⟨ret_two (by rw [hl.out]; omega) (by rw [hb.out]; omega), by go_grown⟩
  . by_cases t2 : place * stride - pad + k < size
    . go_enter Tryz.func117, Tryz.ntmps117
      go_wp2
      go_region
      all_goals go_wp2
      all_goals
        go_ret2
        exact ⟨ret_two (by rw [hl.out]; omega) (by rw [hb.out]; omega), by go_grown⟩
    . go_enter Tryz.func117, Tryz.ntmps117
      go_wp2
      go_region
      all_goals go_wp2
      all_goals
        go_ret2
        exact ⟨ret_two (by rw [hl.out]; omega) (by rw [hb.out]; omega), by go_grown⟩
theorem reach_no (first rows k stride pad size n : Int) (w : World) (h1 : -9223372036854775808 <= first) (h2 : first <= 9223372036854775807) (hn : Hid (n = outI size k stride pad)) (h : n = 0 ∨ first < 0 ∨ rows < 1 ∨ n - first < rows) :
    Calls Tryz.prog 97 #[.int .i64 first, .int .i64 rows, .int .i64 k, .int .i64 stride, .int .i64 pad, .int .i64 size] w fun e w' => e = .returned (.tuple #[.int .i64 0, .int .i64 0]) /\ Grown w w' := by
  have n0 : 0 <= n /\ n <= 97 := by rw [hn.out]; exact out_ge
  obtain ⟨n1, n2⟩ := n0
  by_cases c1 : n = 0
  . clear h
    go_enter Tryz.func97, Tryz.ntmps97
    go_wp2_with fail
    refine (out_any size k stride pad n _ hn).mono ?_; rintro e w1 ⟨rfl, g1⟩
    go_wp2_with fail
    go_ret2
    exact ⟨rfl, grown_trans (by go_grown) g1⟩
  . by_cases c2 : first < 0
    . clear h
      go_enter Tryz.func97, Tryz.ntmps97
      go_wp2_with fail
      refine (out_any size k stride pad n _ hn).mono ?_; rintro e w1 ⟨rfl, g1⟩
      go_wp2_with fail
      go_ret2
      exact ⟨rfl, grown_trans (by go_grown) g1⟩
    . by_cases c3 : rows < 1
      . clear h
        go_enter Tryz.func97, Tryz.ntmps97
        go_wp2_with fail
        refine (out_any size k stride pad n _ hn).mono ?_; rintro e w1 ⟨rfl, g1⟩
        go_wp2_with fail
        go_ret2
        exact ⟨rfl, grown_trans (by go_grown) g1⟩
      . have c4 : n - first < rows := by omega
        clear h
        go_enter Tryz.func97, Tryz.ntmps97
        go_wp2_with fail
        refine (out_any size k stride pad n _ hn).mono ?_; rintro e w1 ⟨rfl, g1⟩
        go_wp2_with fail
        go_ret2
        exact ⟨rfl, grown_trans (by go_grown) g1⟩
set_option maxHeartbeats 1000000 in
theorem reach_yes (first k stride pad size n : Int) (m : Nat) (w : World) (hw : mayWin size k stride pad) (hn : Hid (n = outI size k stride pad)) (h1 : 0 <= first) (h2 : 1 <= m) (h3 : (m : Int) <= n - first) :
    Calls Tryz.prog 97 #[.int .i64 first, .int .i64 m, .int .i64 k, .int .i64 stride, .int .i64 pad, .int .i64 size] w fun e w' => e = .returned (.tuple #[.int .i64 (rs first k stride pad size m).1, .int .i64 (rs first k stride pad size m).2]) /\ Grown w w' := by
  have n0 : 1 <= n /\ n <= 97 := by rw [hn.out]; exact out_bd hw
  obtain ⟨n1, n2⟩ := n0
  have HP : Hid (∀ j : Nat, j < m -> 0 <= (first + j) * stride /\ (first + j) * stride <= size + 2 * pad - k) := Lib.hid (fun j hj => place_bd hw (by omega) (by have := hn.out; omega))
  obtain ⟨s1, s2, k1, k2, t1, t2, p1, p2, d⟩ := hw
  have e0 : (n == 0) = false := by simp; omega
  have m1 : m <= 97 := by omega
  go_enter Tryz.func97, Tryz.ntmps97
  go_wp2_with fail
  refine (out_any size k stride pad n _ hn).mono ?_; rintro e w1 ⟨rfl, g1⟩
  have c0 : w1.cell? ⟨w.heap.size, 0, none⟩ = some (.int .i64 k) := (grown_cell g1 (by simp <;> omega)).trans (by go_cell)
  have c1 : w1.cell? ⟨w.heap.size + 1, 0, none⟩ = some (.int .i64 stride) := (grown_cell g1 (by simp <;> omega)).trans (by go_cell)
  have c2 : w1.cell? ⟨w.heap.size + 1 + 1, 0, none⟩ = some (.int .i64 pad) := (grown_cell g1 (by simp <;> omega)).trans (by go_cell)
  have c3 : w1.cell? ⟨w.heap.size + 1 + 1 + 1, 0, none⟩ = some (.int .i64 size) := (grown_cell g1 (by simp)).trans (by go_cell)
  have sz : w.heap.size + 3 < w1.heap.size := by have := g1.2.2; simp at this; omega
  have g : Grown w w1 := grown_trans (by go_grown) g1
  clear g1
  go_wp2_with fail
  clear e0
  go_loopw [12, 13, 43] (fun f t i wr => ∃ j : Nat, j <= m /\ i = .int .i64 j /\ f = .int .i64 (rs first k stride pad size j).1 /\ t = .int .i64 (rs first k stride pad size j).2 /\ Grown w1 wr) (fun _ _ i _ => m - (intOf i).toNat)
  case atStart => exact ⟨0, by omega, rfl, rfl, rfl, Grown.refl _⟩
  case round =>
    obtain ⟨j, hj, rfl, rfl, rfl, gr⟩ := hrel
    by_cases hlt : j < m
    . obtain ⟨b1, b2⟩ := HP.out j hlt
      obtain ⟨l, hl⟩ : ∃ l, Hid (l = leastI stride pad (first + j)) := ⟨_, Lib.hid rfl⟩
      obtain ⟨b, hb⟩ : ∃ b, Hid (b = overI k stride pad size (first + j)) := ⟨_, Lib.hid rfl⟩
      have d0 := (grown_cell gr (p := ⟨w.heap.size, 0, none⟩) (by simp; omega)).trans c0
      have d1 := (grown_cell gr (p := ⟨w.heap.size + 1, 0, none⟩) (by simp; omega)).trans c1
      have d2 := (grown_cell gr (p := ⟨w.heap.size + 1 + 1, 0, none⟩) (by simp; omega)).trans c2
      have d3 := (grown_cell gr (p := ⟨w.heap.size + 1 + 1 + 1, 0, none⟩) (by simp; omega)).trans c3
      by_cases hx : l < b
      . by_cases h0 : (rs first k stride pad size j).2 = 0
        . have e0 : ((rs first k stride pad size j).2 == 0) = true := by simpa using h0
          have E := Lib.hid (rs_first hl hb hx h0)
          clear h0
          go_wp2_with fail
          refine (under_any (first + j) stride pad k size l b _ _ _ _ _ (by omega) (by omega) p1 p2 k1 k2 hl hb d1 d2 d0 d3).mono ?_; rintro e w2 ⟨rfl, g2⟩
          go_wp2_with fail
          go_roundw
          case rel => exact ⟨j + 1, by omega, by go_num, by rw [E.out], by rw [E.out], grown_trans gr g2⟩
          case measure => simp [intOf]; omega
        . have e0 : ((rs first k stride pad size j).2 == 0) = false := by simpa using h0
          have E := Lib.hid (rs_more hl hb hx h0)
          clear h0
          go_wp2_with fail
          refine (under_any (first + j) stride pad k size l b _ _ _ _ _ (by omega) (by omega) p1 p2 k1 k2 hl hb d1 d2 d0 d3).mono ?_; rintro e w2 ⟨rfl, g2⟩
          go_wp2_with fail
          go_roundw
          case rel => exact ⟨j + 1, by omega, by go_num, by rw [E.out], by rw [E.out], grown_trans gr g2⟩
          case measure => simp [intOf]; omega
      . have E := Lib.hid (rs_out hl hb hx)
        go_wp2_with fail
        refine (under_any (first + j) stride pad k size l b _ _ _ _ _ (by omega) (by omega) p1 p2 k1 k2 hl hb d1 d2 d0 d3).mono ?_; rintro e w2 ⟨rfl, g2⟩
        go_wp2_with fail
        go_roundw
        case rel => exact ⟨j + 1, by omega, by go_num, by rw [E.out], by rw [E.out], grown_trans gr g2⟩
        case measure => simp [intOf]; omega
    . obtain rfl : j = m := by omega
      go_wp2_with fail
      go_ret2
      exact ⟨rfl, grown_trans g gr⟩
theorem reach_any (first rows k stride pad size a b : Int) (w : World) (h1 : -9223372036854775808 <= first) (h2 : first <= 9223372036854775807) (ha : Hid (a = (reachI first rows k stride pad size).1)) (hb : Hid (b = (reachI first rows k stride pad size).2)) :
    Calls Tryz.prog 97 #[.int .i64 first, .int .i64 rows, .int .i64 k, .int .i64 stride, .int .i64 pad, .int .i64 size] w fun e w' => e = .returned (.tuple #[.int .i64 a, .int .i64 b]) /\ Grown w w' := by
  rw [ha.out, hb.out]
  by_cases h : inR first rows k stride pad size
  . rw [reachI_yes h]
    obtain ⟨c, c1, c2, c3⟩ := h
    obtain ⟨m, rfl⟩ : ∃ m : Nat, rows = m := ⟨rows.toNat, by omega⟩
    rw [Int.toNat_natCast]
    exact reach_yes first k stride pad size _ m w c (Lib.hid rfl) c1 (by omega) c3
  . rw [reachI_no h]
    exact reach_no first rows k stride pad size _ w h1 h2 (Lib.hid rfl) (not_inR h)
theorem index_no0 (H W C y x c : Int) (w : World) (h : ¬ mayS H W C) :
    Calls Tryz.prog 114 #[.agg #[.int .i64 H, .int .i64 W, .int .i64 C], .int .i64 y, .int .i64 x, .int .i64 c] w fun e w' => e = .returned (.int .i64 (-1)) /\ Grown w w' := by
  go_enter Tryz.func114, Tryz.ntmps114
  go_wp2_with fail
  refine (may_no H W C _ h).mono ?_; rintro e w1 ⟨rfl, g1⟩
  have g : Grown w w1 := grown_trans (by go_grown) g1
  go_wp2_with fail
  go_ret
  exact ⟨rfl, g⟩
theorem index_no1 (H W C y x c : Int) (w : World) (h : mayS H W C) (h1 : ¬ (0 <= y /\ y < H)) :
    Calls Tryz.prog 114 #[.agg #[.int .i64 H, .int .i64 W, .int .i64 C], .int .i64 y, .int .i64 x, .int .i64 c] w fun e w' => e = .returned (.int .i64 (-1)) /\ Grown w w' := by
  obtain ⟨a1, a2, b1, b2, d1, d2⟩ := id h
  go_enter Tryz.func114, Tryz.ntmps114
  go_wp2_with fail
  refine (may_yes H W C _ h).mono ?_; rintro e w1 ⟨rfl, g1⟩
  clear h
  have c0 : w1.cell? ⟨w.heap.size, 0, none⟩ = some (.int .i64 H) := (grown_cell g1 (by simp)).trans (by go_cell)
  have c1 : w1.cell? ⟨w.heap.size, 1, none⟩ = some (.int .i64 W) := (grown_cell g1 (by simp)).trans (by go_cell)
  have c2 : w1.cell? ⟨w.heap.size, 2, none⟩ = some (.int .i64 C) := (grown_cell g1 (by simp)).trans (by go_cell)
  have sz : w.heap.size < w1.heap.size := by have := g1.2.2; simp at this; omega
  have g : Grown w w1 := grown_trans (by go_grown) g1
  clear g1
  go_wp2_with (first | (go_at_call 91; refine (between_any _ _ _).mono ?_; rintro e w' ⟨rfl, rfl⟩))
  refine (inb1n 0 (H - 1) y _ _ _ _ (by omega) (by go_cell) (by go_cell) (by go_cell)).mono ?_; rintro e w2 ⟨rfl, hw2⟩
  have G2 : Grown w1 w2 := by rw [hw2]; go_grown
  have c0_2 := (grown_cell G2 (p := ⟨w.heap.size, 0, none⟩) sz).trans c0
  have c1_2 := (grown_cell G2 (p := ⟨w.heap.size, 1, none⟩) sz).trans c1
  have c2_2 := (grown_cell G2 (p := ⟨w.heap.size, 2, none⟩) sz).trans c2
  have sz2 : w.heap.size < w2.heap.size := by have := G2.2.2; omega
  have g_2 : Grown w w2 := grown_trans g G2
  clear hw2 G2 c0 c1 c2 sz g
  go_wp2_with (first | (go_at_call 91; refine (between_any _ _ _).mono ?_; rintro e w' ⟨rfl, rfl⟩))
  go_ret
  exact ⟨rfl, grown_trans g_2 (by go_grown)⟩
theorem index_no2 (H W C y x c : Int) (w : World) (h : mayS H W C) (y1 : 0 <= y) (y2 : y < H) (h1 : ¬ (0 <= x /\ x < W)) :
    Calls Tryz.prog 114 #[.agg #[.int .i64 H, .int .i64 W, .int .i64 C], .int .i64 y, .int .i64 x, .int .i64 c] w fun e w' => e = .returned (.int .i64 (-1)) /\ Grown w w' := by
  obtain ⟨a1, a2, b1, b2, d1, d2⟩ := id h
  go_enter Tryz.func114, Tryz.ntmps114
  go_wp2_with fail
  refine (may_yes H W C _ h).mono ?_; rintro e w1 ⟨rfl, g1⟩
  clear h
  have c0 : w1.cell? ⟨w.heap.size, 0, none⟩ = some (.int .i64 H) := (grown_cell g1 (by simp)).trans (by go_cell)
  have c1 : w1.cell? ⟨w.heap.size, 1, none⟩ = some (.int .i64 W) := (grown_cell g1 (by simp)).trans (by go_cell)
  have c2 : w1.cell? ⟨w.heap.size, 2, none⟩ = some (.int .i64 C) := (grown_cell g1 (by simp)).trans (by go_cell)
  have sz : w.heap.size < w1.heap.size := by have := g1.2.2; simp at this; omega
  have g : Grown w w1 := grown_trans (by go_grown) g1
  clear g1
  go_wp2_with (first | (go_at_call 91; refine (between_any _ _ _).mono ?_; rintro e w' ⟨rfl, rfl⟩))
  refine (inb1y 0 (H - 1) y _ _ _ _ y1 (by omega) (by go_cell) (by go_cell) (by go_cell)).mono ?_; rintro e w2 ⟨rfl, hw2⟩
  have G2 : Grown w1 w2 := by rw [hw2]; go_grown
  have c0_2 := (grown_cell G2 (p := ⟨w.heap.size, 0, none⟩) sz).trans c0
  have c1_2 := (grown_cell G2 (p := ⟨w.heap.size, 1, none⟩) sz).trans c1
  have c2_2 := (grown_cell G2 (p := ⟨w.heap.size, 2, none⟩) sz).trans c2
  have sz2 : w.heap.size < w2.heap.size := by have := G2.2.2; omega
  have g_2 : Grown w w2 := grown_trans g G2
  clear hw2 G2 c0 c1 c2 sz g
  go_wp2_with (first | (go_at_call 91; refine (between_any _ _ _).mono ?_; rintro e w' ⟨rfl, rfl⟩))
  refine (inb1n 0 (W - 1) x _ _ _ _ (by omega) (by go_cell) (by go_cell) (by go_cell)).mono ?_; rintro e w3 ⟨rfl, hw3⟩
  have G3 : Grown w2 w3 := by rw [hw3]; go_grown
  have c0_3 := (grown_cell G3 (p := ⟨w.heap.size, 0, none⟩) sz2).trans c0_2
  have c1_3 := (grown_cell G3 (p := ⟨w.heap.size, 1, none⟩) sz2).trans c1_2
  have c2_3 := (grown_cell G3 (p := ⟨w.heap.size, 2, none⟩) sz2).trans c2_2
  have sz3 : w.heap.size < w3.heap.size := by have := G3.2.2; omega
  have g_3 : Grown w w3 := grown_trans g_2 G3
  clear hw3 G3 c0_2 c1_2 c2_2 sz2 g_2
  go_wp2_with (first | (go_at_call 91; refine (between_any _ _ _).mono ?_; rintro e w' ⟨rfl, rfl⟩))
  go_ret
  exact ⟨rfl, grown_trans g_3 (by go_grown)⟩
theorem index_no3 (H W C y x c : Int) (w : World) (h : mayS H W C) (y1 : 0 <= y) (y2 : y < H) (x1 : 0 <= x) (x2 : x < W) (h1 : ¬ (0 <= c /\ c < C)) :
    Calls Tryz.prog 114 #[.agg #[.int .i64 H, .int .i64 W, .int .i64 C], .int .i64 y, .int .i64 x, .int .i64 c] w fun e w' => e = .returned (.int .i64 (-1)) /\ Grown w w' := by
  obtain ⟨a1, a2, b1, b2, d1, d2⟩ := id h
  go_enter Tryz.func114, Tryz.ntmps114
  go_wp2_with fail
  refine (may_yes H W C _ h).mono ?_; rintro e w1 ⟨rfl, g1⟩
  clear h
  have c0 : w1.cell? ⟨w.heap.size, 0, none⟩ = some (.int .i64 H) := (grown_cell g1 (by simp)).trans (by go_cell)
  have c1 : w1.cell? ⟨w.heap.size, 1, none⟩ = some (.int .i64 W) := (grown_cell g1 (by simp)).trans (by go_cell)
  have c2 : w1.cell? ⟨w.heap.size, 2, none⟩ = some (.int .i64 C) := (grown_cell g1 (by simp)).trans (by go_cell)
  have sz : w.heap.size < w1.heap.size := by have := g1.2.2; simp at this; omega
  have g : Grown w w1 := grown_trans (by go_grown) g1
  clear g1
  go_wp2_with (first | (go_at_call 91; refine (between_any _ _ _).mono ?_; rintro e w' ⟨rfl, rfl⟩))
  refine (inb1y 0 (H - 1) y _ _ _ _ y1 (by omega) (by go_cell) (by go_cell) (by go_cell)).mono ?_; rintro e w2 ⟨rfl, hw2⟩
  have G2 : Grown w1 w2 := by rw [hw2]; go_grown
  have c0_2 := (grown_cell G2 (p := ⟨w.heap.size, 0, none⟩) sz).trans c0
  have c1_2 := (grown_cell G2 (p := ⟨w.heap.size, 1, none⟩) sz).trans c1
  have c2_2 := (grown_cell G2 (p := ⟨w.heap.size, 2, none⟩) sz).trans c2
  have sz2 : w.heap.size < w2.heap.size := by have := G2.2.2; omega
  have g_2 : Grown w w2 := grown_trans g G2
  clear hw2 G2 c0 c1 c2 sz g
  go_wp2_with (first | (go_at_call 91; refine (between_any _ _ _).mono ?_; rintro e w' ⟨rfl, rfl⟩))
  refine (inb1y 0 (W - 1) x _ _ _ _ x1 (by omega) (by go_cell) (by go_cell) (by go_cell)).mono ?_; rintro e w3 ⟨rfl, hw3⟩
  have G3 : Grown w2 w3 := by rw [hw3]; go_grown
  have c0_3 := (grown_cell G3 (p := ⟨w.heap.size, 0, none⟩) sz2).trans c0_2
  have c1_3 := (grown_cell G3 (p := ⟨w.heap.size, 1, none⟩) sz2).trans c1_2
  have c2_3 := (grown_cell G3 (p := ⟨w.heap.size, 2, none⟩) sz2).trans c2_2
  have sz3 : w.heap.size < w3.heap.size := by have := G3.2.2; omega
  have g_3 : Grown w w3 := grown_trans g_2 G3
  clear hw3 G3 c0_2 c1_2 c2_2 sz2 g_2
  go_wp2_with (first | (go_at_call 91; refine (between_any _ _ _).mono ?_; rintro e w' ⟨rfl, rfl⟩))
  refine (inb1n 0 (C - 1) c _ _ _ _ (by omega) (by go_cell) (by go_cell) (by go_cell)).mono ?_; rintro e w4 ⟨rfl, hw4⟩
  have G4 : Grown w3 w4 := by rw [hw4]; go_grown
  have c0_4 := (grown_cell G4 (p := ⟨w.heap.size, 0, none⟩) sz3).trans c0_3
  have c1_4 := (grown_cell G4 (p := ⟨w.heap.size, 1, none⟩) sz3).trans c1_3
  have c2_4 := (grown_cell G4 (p := ⟨w.heap.size, 2, none⟩) sz3).trans c2_3
  have sz4 : w.heap.size < w4.heap.size := by have := G4.2.2; omega
  have g_4 : Grown w w4 := grown_trans g_3 G4
  clear hw4 G4 c0_3 c1_3 c2_3 sz3 g_3
  go_wp2_with (first | (go_at_call 91; refine (between_any _ _ _).mono ?_; rintro e w' ⟨rfl, rfl⟩))
  go_ret
  exact ⟨rfl, grown_trans g_4 (by go_grown)⟩
theorem index_yes (H W C y x c : Int) (w : World) (h : mayS H W C) (y1 : 0 <= y) (y2 : y < H) (x1 : 0 <= x) (x2 : x < W) (z1 : 0 <= c) (z2 : c < C) :
    Calls Tryz.prog 114 #[.agg #[.int .i64 H, .int .i64 W, .int .i64 C], .int .i64 y, .int .i64 x, .int .i64 c] w fun e w' => e = .returned (.int .i64 ((y * W + x) * C + c)) /\ Grown w w' := by
  obtain ⟨a1, a2, b1, b2, d1, d2⟩ := id h
  have m1 : 0 <= y * W /\ y * W <= 256 := by
    have := Int.mul_le_mul (show y <= 16 by omega) b2 (by omega) (by omega)
    exact ⟨Int.mul_nonneg y1 (by omega), by omega⟩
  have m2 : 0 <= (y * W + x) * C /\ (y * W + x) * C <= 3000 := by
    have := Int.mul_le_mul (show y * W + x <= 300 by omega) d2 (by omega) (by omega)
    exact ⟨Int.mul_nonneg (by omega) (by omega), by omega⟩
  obtain ⟨m3, m4⟩ := m1
  obtain ⟨m5, m6⟩ := m2
  go_enter Tryz.func114, Tryz.ntmps114
  go_wp2_with fail
  refine (may_yes H W C _ h).mono ?_; rintro e w1 ⟨rfl, g1⟩
  clear h
  have c0 : w1.cell? ⟨w.heap.size, 0, none⟩ = some (.int .i64 H) := (grown_cell g1 (by simp)).trans (by go_cell)
  have c1 : w1.cell? ⟨w.heap.size, 1, none⟩ = some (.int .i64 W) := (grown_cell g1 (by simp)).trans (by go_cell)
  have c2 : w1.cell? ⟨w.heap.size, 2, none⟩ = some (.int .i64 C) := (grown_cell g1 (by simp)).trans (by go_cell)
  have sz : w.heap.size < w1.heap.size := by have := g1.2.2; simp at this; omega
  have g : Grown w w1 := grown_trans (by go_grown) g1
  clear g1
  go_wp2_with (first | (go_at_call 91; refine (between_any _ _ _).mono ?_; rintro e w' ⟨rfl, rfl⟩))
  refine (inb1y 0 (H - 1) y _ _ _ _ y1 (by omega) (by go_cell) (by go_cell) (by go_cell)).mono ?_; rintro e w2 ⟨rfl, hw2⟩
  have G2 : Grown w1 w2 := by rw [hw2]; go_grown
  have c0_2 := (grown_cell G2 (p := ⟨w.heap.size, 0, none⟩) sz).trans c0
  have c1_2 := (grown_cell G2 (p := ⟨w.heap.size, 1, none⟩) sz).trans c1
  have c2_2 := (grown_cell G2 (p := ⟨w.heap.size, 2, none⟩) sz).trans c2
  have sz2 : w.heap.size < w2.heap.size := by have := G2.2.2; omega
  have g_2 : Grown w w2 := grown_trans g G2
  clear hw2 G2 c0 c1 c2 sz g
  go_wp2_with (first | (go_at_call 91; refine (between_any _ _ _).mono ?_; rintro e w' ⟨rfl, rfl⟩))
  refine (inb1y 0 (W - 1) x _ _ _ _ x1 (by omega) (by go_cell) (by go_cell) (by go_cell)).mono ?_; rintro e w3 ⟨rfl, hw3⟩
  have G3 : Grown w2 w3 := by rw [hw3]; go_grown
  have c0_3 := (grown_cell G3 (p := ⟨w.heap.size, 0, none⟩) sz2).trans c0_2
  have c1_3 := (grown_cell G3 (p := ⟨w.heap.size, 1, none⟩) sz2).trans c1_2
  have c2_3 := (grown_cell G3 (p := ⟨w.heap.size, 2, none⟩) sz2).trans c2_2
  have sz3 : w.heap.size < w3.heap.size := by have := G3.2.2; omega
  have g_3 : Grown w w3 := grown_trans g_2 G3
  clear hw3 G3 c0_2 c1_2 c2_2 sz2 g_2
  go_wp2_with (first | (go_at_call 91; refine (between_any _ _ _).mono ?_; rintro e w' ⟨rfl, rfl⟩))
  refine (inb1y 0 (C - 1) c _ _ _ _ z1 (by omega) (by go_cell) (by go_cell) (by go_cell)).mono ?_; rintro e w4 ⟨rfl, hw4⟩
  have G4 : Grown w3 w4 := by rw [hw4]; go_grown
  have c0_4 := (grown_cell G4 (p := ⟨w.heap.size, 0, none⟩) sz3).trans c0_3
  have c1_4 := (grown_cell G4 (p := ⟨w.heap.size, 1, none⟩) sz3).trans c1_3
  have c2_4 := (grown_cell G4 (p := ⟨w.heap.size, 2, none⟩) sz3).trans c2_3
  have sz4 : w.heap.size < w4.heap.size := by have := G4.2.2; omega
  have g_4 : Grown w w4 := grown_trans g_3 G4
  clear hw4 G4 c0_3 c1_3 c2_3 sz3 g_3
  go_wp2_with (first | (go_at_call 91; refine (between_any _ _ _).mono ?_; rintro e w' ⟨rfl, rfl⟩))
  go_ret
  exact ⟨rfl, grown_trans g_4 (by go_grown)⟩
theorem index_any (H W C y x c q : Int) (w : World) (hq : Hid (q = indexI H W C y x c)) :
    Calls Tryz.prog 114 #[.agg #[.int .i64 H, .int .i64 W, .int .i64 C], .int .i64 y, .int .i64 x, .int .i64 c] w fun e w' => e = .returned (.int .i64 q) /\ Grown w w' := by
  rw [hq.out]
  by_cases h : mayS H W C
  . by_cases h1 : 0 <= y /\ y < H
    . by_cases h2 : 0 <= x /\ x < W
      . by_cases h3 : 0 <= c /\ c < C
        . rw [indexI_yes ⟨h, h1.1, h1.2, h2.1, h2.2, h3.1, h3.2⟩]
          exact index_yes H W C y x c w h h1.1 h1.2 h2.1 h2.2 h3.1 h3.2
        . rw [indexI_no (fun k => h3 ⟨k.2.2.2.2.2.1, k.2.2.2.2.2.2⟩)]
          exact index_no3 H W C y x c w h h1.1 h1.2 h2.1 h2.2 h3
      . rw [indexI_no (fun k => h2 ⟨k.2.2.2.1, k.2.2.2.2.1⟩)]
        exact index_no2 H W C y x c w h h1.1 h1.2 h2
    . rw [indexI_no (fun k => h1 ⟨k.2.1, k.2.2.1⟩)]
      exact index_no1 H W C y x c w h h1
  . rw [indexI_no (fun k => h k.1)]
    exact index_no0 H W C y x c w h
end Go.Proofs.YtliijchcpooplaaGreat
