/- May, whatever shape. -/
import Derived.Test.YtcidpbdgikkndaaMayA
namespace Go.Proofs.Ytcidpbdgikkndaa
open Go.ChangeShapes Go.WideShapes Go.ChangeAt Go.RowKit
set_option maxHeartbeats 1000000 in
theorem may_no2 (H W C : Int) (w : World) (u1 : 1 ≤ H) (u2 : H ≤ 16) (v1 : 1 ≤ W) (v2 : W ≤ 16) (h : ¬ (1 ≤ C ∧ C ≤ 8)) :
    Calls Try.prog 12 #[.agg #[.int .i64 H, .int .i64 W, .int .i64 C]] w fun e w' => e = .returned (.int .i64 10) ∧ Grown w w' := by
  go_enter Try.func12, Try.ntmps12
  go_wp2
  first | (go_region_held3 (fun w' => w'.cell? ⟨w.heap.size, 0, none⟩ = some (.int .i64 H) ∧ w'.cell? ⟨w.heap.size, 1, none⟩ = some (.int .i64 W) ∧ w'.cell? ⟨w.heap.size, 2, none⟩ = some (.int .i64 C)) ((refine ⟨?_, ?_, ?_⟩ <;> go_cell))
    (first | (go_at_call 24; refine (between_any _ _ _).mono ?_; rintro e w' ⟨rfl, rfl⟩) | (go_at_call 27; with_reducible refine (inb2y 1 16 H W _ _ _ _ u1 u2 v1 v2 (by go_cell) (by go_cell) (by go_cell) (by go_cell)).mono ?_; rintro e w' ⟨rfl, rfl⟩) | (go_at_call 27; with_reducible refine (inb1n 1 8 C _ _ _ _ h (by go_cell) (by go_cell) (by go_cell)).mono ?_; rintro e w' ⟨rfl, rfl⟩)))
  all_goals
    go_wp2
    go_ret
    exact ⟨rfl, by go_grown⟩

set_option maxHeartbeats 1000000 in
theorem may_ok (H W C : Int) (w : World) (u1 : 1 ≤ H) (u2 : H ≤ 16) (v1 : 1 ≤ W) (v2 : W ≤ 16) (x1 : 1 ≤ C) (x2 : C ≤ 8) :
    Calls Try.prog 12 #[.agg #[.int .i64 H, .int .i64 W, .int .i64 C]] w fun e w' => e = .returned (.int .i64 0) ∧ Grown w w' := by
  go_enter Try.func12, Try.ntmps12
  go_wp2
  first | (go_region_held3 (fun w' => w'.cell? ⟨w.heap.size, 0, none⟩ = some (.int .i64 H) ∧ w'.cell? ⟨w.heap.size, 1, none⟩ = some (.int .i64 W) ∧ w'.cell? ⟨w.heap.size, 2, none⟩ = some (.int .i64 C)) ((refine ⟨?_, ?_, ?_⟩ <;> go_cell))
    (first | (go_at_call 24; refine (between_any _ _ _).mono ?_; rintro e w' ⟨rfl, rfl⟩) | (go_at_call 27; with_reducible refine (inb2y 1 16 H W _ _ _ _ u1 u2 v1 v2 (by go_cell) (by go_cell) (by go_cell) (by go_cell)).mono ?_; rintro e w' ⟨rfl, rfl⟩) | (go_at_call 27; with_reducible refine (inb1y 1 8 C _ _ _ _ x1 x2 (by go_cell) (by go_cell) (by go_cell)).mono ?_; rintro e w' ⟨rfl, rfl⟩)))
  all_goals
    go_wp2
    go_ret
    exact ⟨rfl, by go_grown⟩

def mayS (H W C : Int) : Prop := 1 ≤ H ∧ H ≤ 16 ∧ 1 ≤ W ∧ W ≤ 16 ∧ 1 ≤ C ∧ C ≤ 8

theorem may_yes (H W C : Int) (w : World) (h : mayS H W C) :
    Calls Try.prog 12 #[.agg #[.int .i64 H, .int .i64 W, .int .i64 C]] w fun e w' => e = .returned (.int .i64 0) ∧ Grown w w' := by
  obtain ⟨h1, h2, h3, h4, h5, h6⟩ := h
  exact may_ok H W C w h1 h2 h3 h4 h5 h6

theorem may_no (H W C : Int) (w : World) (h : ¬ mayS H W C) :
    Calls Try.prog 12 #[.agg #[.int .i64 H, .int .i64 W, .int .i64 C]] w fun e w' => e = .returned (.int .i64 10) ∧ Grown w w' := by
  by_cases c : (1 ≤ H ∧ H ≤ 16) ∧ (1 ≤ W ∧ W ≤ 16)
  · exact may_no2 H W C w c.1.1 c.1.2 c.2.1 c.2.2 (fun hc => h ⟨c.1.1, c.1.2, c.2.1, c.2.2, hc.1, hc.2⟩)
  · exact may_no1 H W C w c

end Go.Proofs.Ytcidpbdgikkndaa
