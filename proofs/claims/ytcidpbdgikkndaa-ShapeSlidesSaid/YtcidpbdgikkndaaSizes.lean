/- numbers, Size, Row. -/
import Derived.Test.YtcidpbdgikkndaaMay
import Derived.Test.YtcidpbdgikkndaaUnder
namespace Go.Proofs.Ytcidpbdgikkndaa
open Go.ChangeShapes Go.WideShapes Go.ChangeAt Go.RowKit

/-- The product of the first k. -/
def prodN (f : Nat → Int) : Nat → Int
  | 0 => 1
  | k + 1 => prodN f k * f k

theorem numbers_no (H W C : Int) (v : Value) (w : World) (h : ¬ mayS H W C) :
    Calls Try.prog 25 #[.agg #[.int .i64 H, .int .i64 W, .int .i64 C], v] w fun e w' => e = .returned (.int .i64 0) ∧ Grown w w' := by
  go_enter Try.func25, Try.ntmps25
  go_wp2_with fail
  refine (may_no H W C _ h).mono ?_; rintro e w1 ⟨rfl, g1⟩
  go_wp2_with fail
  go_ret
  exact ⟨rfl, grown_trans (by go_grown) g1⟩

theorem numbers_yes (H W C : Int) (n : Nat) (f : Nat → Int) (b : Nat) (w : World) (h : mayS H W C) (hn : n ≤ 3) (hb : b < w.heap.size)
    (hp : Hid (∀ i, i ≤ n → 1 ≤ prodN f i ∧ prodN f i ≤ 4096)) (hr : Hid (∀ i, i < n → w.cell? ⟨b, i, none⟩ = some (.int .i64 (f i)))) :
    Calls Try.prog 25 #[.agg #[.int .i64 H, .int .i64 W, .int .i64 C], .slice (some ⟨b, 0, none⟩) n n] w fun e w' => e = .returned (.int .i64 (prodN f n)) ∧ Grown w w' := by
  go_enter Try.func25, Try.ntmps25
  go_wp2_with fail
  refine (may_yes H W C _ h).mono ?_; rintro e w1 ⟨rfl, g1⟩
  have g : Grown w w1 := grown_trans (by go_grown) g1
  have hr1 : Hid (∀ i, i < n → w1.cell? ⟨b, i, none⟩ = some (.int .i64 (f i))) := Lib.hid (fun i hi => (grown_cell g hb).trans (hr.out i hi))
  clear g1 hr
  go_wp2_with fail
  go_loop [5, 13] (fun a i => ∃ k : Nat, k ≤ n ∧ i = .int .i64 k ∧ a = .int .i64 (prodN f k)) (fun _ i => n - (intOf i).toNat)
  case atStart => exact ⟨0, by omega, rfl, rfl⟩
  case round =>
    obtain ⟨k, hk, rfl, rfl⟩ := hrel
    by_cases hlt : k < n
    · have hc := hr1.out k hlt
      have hq := hp.out (k + 1) hlt
      simp only [prodN] at hq
      obtain ⟨hq1, hq2⟩ := hq
      go_wp2_with fail
      go_round
      case rel => exact ⟨k + 1, by omega, by go_num, rfl⟩
      case measure => simp [intOf]; omega
    · obtain rfl : k = n := by omega
      go_wp2_with fail
      go_ret
      exact ⟨rfl, g⟩

open Classical in
noncomputable def sizeI (H W C : Int) : Int := if mayS H W C then H * W * C else 0
open Classical in
noncomputable def rowI (H W C : Int) : Int := if mayS H W C then W * C else 0

theorem mul_bd {x y a b : Int} (h1 : 1 ≤ x) (h2 : x ≤ a) (h3 : 1 ≤ y) (h4 : y ≤ b) : 1 ≤ x * y ∧ x * y ≤ a * b := by
  constructor
  · have := Int.mul_le_mul h1 h3 (by omega) (by omega); simpa using this
  · exact Int.mul_le_mul h2 h4 (by omega) (by omega)

theorem size_any (H W C q : Int) (w : World) (hq : Hid (q = sizeI H W C)) :
    Calls Try.prog 14 #[.agg #[.int .i64 H, .int .i64 W, .int .i64 C]] w fun e w' => e = .returned (.int .i64 q) ∧ Grown w w' := by
  rw [hq.out]
  by_cases h : mayS H W C
  · have e : sizeI H W C = prodN (fun i => if i = 0 then H else if i = 1 then W else C) 3 := by
      unfold sizeI; rw [if_pos h]; simp [prodN]
    rw [e]
    have hp : Hid (∀ i, i ≤ 3 → 1 ≤ prodN (fun i => if i = 0 then H else if i = 1 then W else C) i ∧ prodN (fun i => if i = 0 then H else if i = 1 then W else C) i ≤ 4096) := Lib.hid (fun i hi => by
      obtain ⟨h1, h2, h3, h4, h5, h6⟩ := h
      have m1 := mul_bd h1 h2 h3 h4
      have m2 := mul_bd m1.1 m1.2 h5 h6
      match i, hi with
      | 0, _ => simp [prodN]
      | 1, _ => simp [prodN]; omega
      | 2, _ => simp [prodN]; omega
      | 3, _ => simp [prodN]; omega)
    go_enter Try.func14, Try.ntmps14
    go_wp2_with fail
    refine (numbers_yes H W C 3 (fun i => if i = 0 then H else if i = 1 then W else C) (w.heap.size + 1) _ h (by omega) (by simp) hp (Lib.hid (fun i hi => ?_))).mono ?_
    · match i, hi with
      | 0, _ => go_cell
      | 1, _ => go_cell
      | 2, _ => go_cell
    rintro e w1 ⟨rfl, g1⟩
    go_wp2_with fail
    go_ret
    exact ⟨rfl, grown_trans (by go_grown) g1⟩
  · have e : sizeI H W C = 0 := by unfold sizeI; rw [if_neg h]
    rw [e]
    go_enter Try.func14, Try.ntmps14
    go_wp2_with fail
    refine (numbers_no H W C _ _ h).mono ?_
    rintro e w1 ⟨rfl, g1⟩
    go_wp2_with fail
    go_ret
    exact ⟨rfl, grown_trans (by go_grown) g1⟩

theorem row_any (H W C q : Int) (w : World) (hq : Hid (q = rowI H W C)) :
    Calls Try.prog 16 #[.agg #[.int .i64 H, .int .i64 W, .int .i64 C]] w fun e w' => e = .returned (.int .i64 q) ∧ Grown w w' := by
  rw [hq.out]
  by_cases h : mayS H W C
  · have e : rowI H W C = prodN (fun i => if i = 0 then W else C) 2 := by
      unfold rowI; rw [if_pos h]; simp [prodN]
    rw [e]
    have hp : Hid (∀ i, i ≤ 2 → 1 ≤ prodN (fun i => if i = 0 then W else C) i ∧ prodN (fun i => if i = 0 then W else C) i ≤ 4096) := Lib.hid (fun i hi => by
      obtain ⟨h1, h2, h3, h4, h5, h6⟩ := h
      have m1 := mul_bd h3 h4 h5 h6
      match i, hi with
      | 0, _ => simp [prodN]
      | 1, _ => simp [prodN]; omega
      | 2, _ => simp [prodN]; omega)
    go_enter Try.func16, Try.ntmps16
    go_wp2_with fail
    refine (numbers_yes H W C 2 (fun i => if i = 0 then W else C) (w.heap.size + 1) _ h (by omega) (by simp) hp (Lib.hid (fun i hi => ?_))).mono ?_
    · match i, hi with
      | 0, _ => go_cell
      | 1, _ => go_cell
    rintro e w1 ⟨rfl, g1⟩
    go_wp2_with fail
    go_ret
    exact ⟨rfl, grown_trans (by go_grown) g1⟩
  · have e : rowI H W C = 0 := by unfold rowI; rw [if_neg h]
    rw [e]
    go_enter Try.func16, Try.ntmps16
    go_wp2_with fail
    refine (numbers_no H W C _ _ h).mono ?_
    rintro e w1 ⟨rfl, g1⟩
    go_wp2_with fail
    go_ret
    exact ⟨rfl, grown_trans (by go_grown) g1⟩
end Go.Proofs.Ytcidpbdgikkndaa
