/- shape: May, Size, Row. -/
import Derived.Test.YtgbedoffgahhaaaSh1A
namespace Go.Proofs.Ytgbedoffgahhaaa
open Go.ChangeShapes Go.WideShapes Go.ChangeAt Go.RowKit

set_option maxHeartbeats 1000000 in
theorem may_no2 (H W C : Int) (w : World) (u1 : 1 ≤ H) (u2 : H ≤ 16) (v1 : 1 ≤ W) (v2 : W ≤ 16) (h : ¬ (1 ≤ C ∧ C ≤ 8)) :
    Calls Try.prog 66 #[.agg #[.int .i64 H, .int .i64 W, .int .i64 C]] w fun e w' => e = .returned (.int .i64 10) ∧ Grown w w' := by
  go_enter Try.func66, Try.ntmps66
  go_wp2
  first | (go_region_held3 (fun w' => w'.cell? ⟨w.heap.size, 0, none⟩ = some (.int .i64 H) ∧ w'.cell? ⟨w.heap.size, 1, none⟩ = some (.int .i64 W) ∧ w'.cell? ⟨w.heap.size, 2, none⟩ = some (.int .i64 C)) ((refine ⟨?_, ?_, ?_⟩ <;> go_cell))
    (first | (go_at_call 83; refine (between_any _ _ _).mono ?_; rintro e w' ⟨rfl, rfl⟩) | (go_at_call 89; with_reducible refine (inb2y 1 16 H W _ _ _ _ u1 u2 v1 v2 (by go_cell) (by go_cell) (by go_cell) (by go_cell)).mono ?_; rintro e w' ⟨rfl, rfl⟩) | (go_at_call 89; with_reducible refine (inb1n 1 8 C _ _ _ _ h (by go_cell) (by go_cell) (by go_cell)).mono ?_; rintro e w' ⟨rfl, rfl⟩)))
  all_goals
    go_wp2
    go_ret
    exact ⟨rfl, by go_grown⟩

set_option maxHeartbeats 1000000 in
theorem may_ok (H W C : Int) (w : World) (u1 : 1 ≤ H) (u2 : H ≤ 16) (v1 : 1 ≤ W) (v2 : W ≤ 16) (x1 : 1 ≤ C) (x2 : C ≤ 8) :
    Calls Try.prog 66 #[.agg #[.int .i64 H, .int .i64 W, .int .i64 C]] w fun e w' => e = .returned (.int .i64 0) ∧ Grown w w' := by
  go_enter Try.func66, Try.ntmps66
  go_wp2
  first | (go_region_held3 (fun w' => w'.cell? ⟨w.heap.size, 0, none⟩ = some (.int .i64 H) ∧ w'.cell? ⟨w.heap.size, 1, none⟩ = some (.int .i64 W) ∧ w'.cell? ⟨w.heap.size, 2, none⟩ = some (.int .i64 C)) ((refine ⟨?_, ?_, ?_⟩ <;> go_cell))
    (first | (go_at_call 83; refine (between_any _ _ _).mono ?_; rintro e w' ⟨rfl, rfl⟩) | (go_at_call 89; with_reducible refine (inb2y 1 16 H W _ _ _ _ u1 u2 v1 v2 (by go_cell) (by go_cell) (by go_cell) (by go_cell)).mono ?_; rintro e w' ⟨rfl, rfl⟩) | (go_at_call 89; with_reducible refine (inb1y 1 8 C _ _ _ _ x1 x2 (by go_cell) (by go_cell) (by go_cell)).mono ?_; rintro e w' ⟨rfl, rfl⟩)))
  all_goals
    go_wp2
    go_ret
    exact ⟨rfl, by go_grown⟩

theorem may_yes (H W C : Int) (w : World) (h : mayS H W C) :
    Calls Try.prog 66 #[.agg #[.int .i64 H, .int .i64 W, .int .i64 C]] w fun e w' => e = .returned (.int .i64 0) ∧ Grown w w' := by
  obtain ⟨h1, h2, h3, h4, h5, h6⟩ := h
  exact may_ok H W C w h1 h2 h3 h4 h5 h6

theorem may_no (H W C : Int) (w : World) (h : ¬ mayS H W C) :
    Calls Try.prog 66 #[.agg #[.int .i64 H, .int .i64 W, .int .i64 C]] w fun e w' => e = .returned (.int .i64 10) ∧ Grown w w' := by
  by_cases c : (1 ≤ H ∧ H ≤ 16) ∧ (1 ≤ W ∧ W ≤ 16)
  · exact may_no2 H W C w c.1.1 c.1.2 c.2.1 c.2.2 (fun hc => h ⟨c.1.1, c.1.2, c.2.1, c.2.2, hc.1, hc.2⟩)
  · exact may_no1 H W C w c

theorem numbers_no (H W C : Int) (v : Value) (w : World) (h : ¬ mayS H W C) :
    Calls Try.prog 82 #[.agg #[.int .i64 H, .int .i64 W, .int .i64 C], v] w fun e w' => e = .returned (.int .i64 0) ∧ Grown w w' := by
  go_enter Try.func82, Try.ntmps82
  go_wp2_with fail
  refine (may_no H W C _ h).mono ?_; rintro e w1 ⟨rfl, g1⟩
  go_wp2_with fail
  go_ret
  exact ⟨rfl, grown_trans (by go_grown) g1⟩

theorem numbers_yes (H W C : Int) (n : Nat) (f : Nat → Int) (b : Nat) (w : World) (h : mayS H W C) (hn : n ≤ 3) (hb : b < w.heap.size)
    (hp : Hid (∀ i, i ≤ n → 1 ≤ prodN f i ∧ prodN f i ≤ 4096)) (hr : Hid (∀ i, i < n → w.cell? ⟨b, i, none⟩ = some (.int .i64 (f i)))) :
    Calls Try.prog 82 #[.agg #[.int .i64 H, .int .i64 W, .int .i64 C], .slice (some ⟨b, 0, none⟩) n n] w fun e w' => e = .returned (.int .i64 (prodN f n)) ∧ Grown w w' := by
  go_enter Try.func82, Try.ntmps82
  go_wp2_with fail
  refine (may_yes H W C _ h).mono ?_; rintro e w1 ⟨rfl, g1⟩
  have g : Grown w w1 := grown_trans (by go_grown) g1
  have hr1 : Hid (∀ i, i < n → w1.cell? ⟨b, i, none⟩ = some (.int .i64 (f i))) := Lib.hid (fun i hi => (grown_cell g hb).trans (hr.out i hi))
  clear g1 hr
  go_wp2_with fail
  go_loop [5, 13] (fun a i => ∃ k : Nat, k ≤ n ∧ i = .int .i64 k ∧ a = .int .i64 (prodN f k)) (fun _ i => n - (intOf i).toNat)
  case atStart => exact ⟨0, by omega, rfl, rfl⟩
  case round =>
    obtain ⟨k, hk, rfl, rfl⟩ := hrel
    by_cases hlt : k < n
    · have hc := hr1.out k hlt
      have hq := hp.out (k + 1) hlt
      simp only [prodN] at hq
      obtain ⟨hq1, hq2⟩ := hq
      go_wp2_with fail
      go_round
      case rel => exact ⟨k + 1, by omega, by go_num, rfl⟩
      case measure => simp [intOf]; omega
    · obtain rfl : k = n := by omega
      go_wp2_with fail
      go_ret
      exact ⟨rfl, g⟩

theorem size_any (H W C q : Int) (w : World) (hq : Hid (q = sizeI H W C)) :
    Calls Try.prog 64 #[.agg #[.int .i64 H, .int .i64 W, .int .i64 C]] w fun e w' => e = .returned (.int .i64 q) ∧ Grown w w' := by
  rw [hq.out]
  by_cases h : mayS H W C
  · have e : sizeI H W C = prodN (fun i => if i = 0 then H else if i = 1 then W else C) 3 := by
      unfold sizeI; rw [if_pos h]; simp [prodN]
    rw [e]
    have hp : Hid (∀ i, i ≤ 3 → 1 ≤ prodN (fun i => if i = 0 then H else if i = 1 then W else C) i ∧ prodN (fun i => if i = 0 then H else if i = 1 then W else C) i ≤ 4096) := Lib.hid (fun i hi => by
      obtain ⟨h1, h2, h3, h4, h5, h6⟩ := h
      have m1 := mul_bd h1 h2 h3 h4
      have m2 := mul_bd m1.1 m1.2 h5 h6
      match i, hi with
      | 0, _ => simp [prodN]
      | 1, _ => simp [prodN]; omega
      | 2, _ => simp [prodN]; omega
      | 3, _ => simp [prodN]; omega)
    go_enter Try.func64, Try.ntmps64
    go_wp2_with fail
    refine (numbers_yes H W C 3 (fun i => if i = 0 then H else if i = 1 then W else C) (w.heap.size + 1) _ h (by omega) (by simp) hp (Lib.hid (fun i hi => ?_))).mono ?_
    · match i, hi with
      | 0, _ => go_cell
      | 1, _ => go_cell
      | 2, _ => go_cell
    rintro e w1 ⟨rfl, g1⟩
    go_wp2_with fail
    go_ret
    exact ⟨rfl, grown_trans (by go_grown) g1⟩
  · have e : sizeI H W C = 0 := by unfold sizeI; rw [if_neg h]
    rw [e]
    go_enter Try.func64, Try.ntmps64
    go_wp2_with fail
    refine (numbers_no H W C _ _ h).mono ?_
    rintro e w1 ⟨rfl, g1⟩
    go_wp2_with fail
    go_ret
    exact ⟨rfl, grown_trans (by go_grown) g1⟩

theorem row_any (H W C q : Int) (w : World) (hq : Hid (q = rowI H W C)) :
    Calls Try.prog 62 #[.agg #[.int .i64 H, .int .i64 W, .int .i64 C]] w fun e w' => e = .returned (.int .i64 q) ∧ Grown w w' := by
  rw [hq.out]
  by_cases h : mayS H W C
  · have e : rowI H W C = prodN (fun i => if i = 0 then W else C) 2 := by
      unfold rowI; rw [if_pos h]; simp [prodN]
    rw [e]
    have hp : Hid (∀ i, i ≤ 2 → 1 ≤ prodN (fun i => if i = 0 then W else C) i ∧ prodN (fun i => if i = 0 then W else C) i ≤ 4096) := Lib.hid (fun i hi => by
      obtain ⟨h1, h2, h3, h4, h5, h6⟩ := h
      have m1 := mul_bd h3 h4 h5 h6
      match i, hi with
      | 0, _ => simp [prodN]
      | 1, _ => simp [prodN]; omega
      | 2, _ => simp [prodN]; omega)
    go_enter Try.func62, Try.ntmps62
    go_wp2_with fail
    refine (numbers_yes H W C 2 (fun i => if i = 0 then W else C) (w.heap.size + 1) _ h (by omega) (by simp) hp (Lib.hid (fun i hi => ?_))).mono ?_
    · match i, hi with
      | 0, _ => go_cell
      | 1, _ => go_cell
    rintro e w1 ⟨rfl, g1⟩
    go_wp2_with fail
    go_ret
    exact ⟨rfl, grown_trans (by go_grown) g1⟩
  · have e : rowI H W C = 0 := by unfold rowI; rw [if_neg h]
    rw [e]
    go_enter Try.func62, Try.ntmps62
    go_wp2_with fail
    refine (numbers_no H W C _ _ h).mono ?_
    rintro e w1 ⟨rfl, g1⟩
    go_wp2_with fail
    go_ret
    exact ⟨rfl, grown_trans (by go_grown) g1⟩

end Go.Proofs.Ytgbedoffgahhaaa
