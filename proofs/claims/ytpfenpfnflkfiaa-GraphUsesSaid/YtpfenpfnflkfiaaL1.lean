/- The laws' head, and Value at nodes without slices. -/
import Derived.Test.YtpfenpfnflkfiaaG12
import Derived.Test.YtpfenpfnflkfiaaP1
namespace Go.Proofs.Ytpfenpfnflkfiaa
open Go.ChangeShapes Go.WideShapes Go.ChangeAt Go.RowKit
set_option maxRecDepth 20000
set_option linter.unusedVariables false

theorem nums_nil (k : IntKind) (w : World) : IsNums k w (.slice none 0 0) [] := ⟨none, 0, rfl, Nat.le_refl _, Nat.zero_le _, fun _ => rfl, by simp, by simp⟩

theorem vals_one {w : World} {b : Nat} {x : ValD} (hb : b < w.heap.size) (wf : ValWf x) (h : ValAt w b 0 x) : IsVals w (.slice (some ⟨b, 0, none⟩) 1 1) [x] :=
  ⟨some ⟨b, 0, none⟩, 1, rfl, Nat.le_refl _, by decide, (fun h => by cases h), by simpa using wf, fun _ => ⟨b, 0, rfl, hb, fun i hi => by
    simp only [List.length_cons, List.length_nil] at hi
    obtain rfl : i = 0 := by omega
    simpa using h⟩⟩

theorem vals_two {w : World} {b : Nat} {x y : ValD} (hb : b < w.heap.size) (wx : ValWf x) (wy : ValWf y) (h : ValAt w b 0 x) (k : ValAt w b 4 y) : IsVals w (.slice (some ⟨b, 0, none⟩) 2 2) [x, y] :=
  ⟨some ⟨b, 0, none⟩, 2, rfl, Nat.le_refl _, by decide, (fun h => by cases h), (by intro u hu; simp only [List.mem_cons, List.not_mem_nil, or_false] at hu; rcases hu with rfl | rfl; exact wx; exact wy), fun _ => ⟨b, 0, rfl, hb, fun i hi => by
    simp only [List.length_cons, List.length_nil] at hi
    match i, hi with
    | 0, _ => simpa using h
    | 1, _ => simpa using k⟩⟩

/-- Value of a node without slices, its answer named. -/
theorem value_lit (op k stride pad out mul shift zero th tw tc : Int) (vs : List ValD) (lv : Value) (W : World) (x : ValD) (q : Int) (hv : IsVals W lv vs)
    (hx : valueV ⟨op, [], k, stride, pad, out, mul, shift, zero, th, tw, tc, [], []⟩ vs = x) (hq : valueE ⟨op, [], k, stride, pad, out, mul, shift, zero, th, tw, tc, [], []⟩ vs = q) :
    Calls Try.prog 11 #[.agg #[.int .i64 op, .slice none 0 0, .int .i64 k, .int .i64 stride, .int .i64 pad, .int .i64 out, .int .i64 mul, .int .i64 shift, .int .i64 zero, .int .i64 th, .int .i64 tw, .int .i64 tc, .slice none 0 0, .slice none 0 0], lv] W fun e w' => e = .returned (.tuple #[.agg #[.int .i64 x.h, .int .i64 x.w, .int .i64 x.c, .int .i64 x.z], .int .i64 q]) ∧ Grown W w' := by
  have h := value_any ⟨op, [], k, stride, pad, out, mul, shift, zero, th, tw, tc, [], []⟩ (.slice none 0 0) (.slice none 0 0) (.slice none 0 0) lv vs W ⟨nums_nil _ _, nums_nil _ _, nums_nil _ _⟩ hv
  unfold ValuePost at h
  rw [hx, hq] at h
  exact h

theorem shown_any (W : World) : Calls Try.prog 10 #[] W fun e w' => e = .returned (.bool true) ∧ Grown W w' := by
  have H := Lib.hid shown_E
  go_enter Try.func10, Try.ntmps10
  go_wp2_with fail
  refine (value_lit 4 2 2 0 0 1 0 0 0 0 0 [⟨5, 4, 3, 0⟩] _ _ _ _ (vals_one (by simp) (by unfold ValWf; decide) ⟨by go_cell, by go_cell, by go_cell, by go_cell⟩) H.out.2 H.out.1).mono ?_
  rintro e w1 ⟨rfl, g⟩
  have g1 : Grown W w1 := grown_trans (by go_grown) g
  clear g
  go_wp2_with fail
  go_ret
  exact ⟨rfl, by (((try dsimp only); (try go_split_ands); (repeat' with_reducible apply And.intro)) <;> ((repeat (first | (with_reducible assumption) | (with_reducible refine box_set ?_ (by first | (simp; done) | (dsimp only; omega) | (simp; omega))) | (with_reducible refine has_set ?_) | (with_reducible refine cell_set ?_ (by first | (simp; done) | (dsimp only; omega) | (simp; omega))) | (with_reducible refine free_set ?_) | (with_reducible refine size_set ?_) | (with_reducible refine Grown.setCell ?_ (by first | (simp; done) | (dsimp only; omega) | (simp; omega)) _) | (with_reducible refine Past.setCell ?_ (by first | (simp; done) | (dsimp only; omega) | (simp; omega)) _) | (with_reducible refine box_drewN ?_) | (with_reducible refine has_drewN ?_) | (with_reducible refine cell_drewN ?_) | (with_reducible refine free_drewN ?_) | (with_reducible refine size_drewN ?_) | (with_reducible refine Grown.drewN ?_) | (with_reducible refine Past.drewN ?_) | (with_reducible refine box_drew ?_) | (with_reducible refine has_drew ?_) | (with_reducible refine cell_drew ?_) | (with_reducible refine free_drew ?_) | (with_reducible refine size_drew ?_) | (with_reducible refine Grown.drew ?_) | (with_reducible refine Past.drew ?_) | (with_reducible refine box_new (by first | omega | (simp; done) | (simp; omega))) | (with_reducible refine box_old ?_ (by first | omega | (simp; done) | (simp; omega))) | (with_reducible refine has_alloc ?_ (by first | omega | (simp; done) | (simp; omega))) | (with_reducible refine cell_alloc ?_ (by first | omega | (simp; done) | (simp; omega))) | (with_reducible refine free_alloc ?_) | (with_reducible refine size_alloc2 True.intro (by simp only [World.size_alloc]; omega)) | (with_reducible refine Grown.alloc ?_ _ _) | (with_reducible refine Past.alloc ?_ _) | (with_reducible refine box_grown (by with_reducible assumption) (by with_reducible assumption) (by first | omega | (dsimp only; omega))) | (with_reducible refine has_grown (by with_reducible assumption) (by with_reducible assumption) (by first | omega | (dsimp only; omega))) | (with_reducible refine cell_grown (by with_reducible assumption) (by with_reducible assumption) (by first | omega | (dsimp only; omega))) | (with_reducible refine size_grown (by with_reducible assumption) (by with_reducible assumption)) | (with_reducible refine free_grown (by with_reducible assumption) (by with_reducible assumption)) | (with_reducible refine grown_trans' (by with_reducible assumption) (by with_reducible assumption)) | (with_reducible refine box_past (by with_reducible assumption) (by with_reducible assumption) (by first | omega | (dsimp only; omega))) | (with_reducible refine has_past (by with_reducible assumption) (by with_reducible assumption) (by first | omega | (dsimp only; omega))) | (with_reducible refine cell_past (by with_reducible assumption) (by with_reducible assumption) (by first | omega | (dsimp only; omega))) | (with_reducible refine free_past (by with_reducible assumption) (by with_reducible assumption) (by first | omega | (dsimp only; omega))) | (with_reducible refine size_past (by with_reducible assumption) (by with_reducible assumption)) | (with_reducible refine past_trans (by with_reducible assumption) (by with_reducible assumption)) | (with_reducible refine free_new (by first | omega | (simp; done) | (simp; omega))) | (with_reducible refine Grown.past ?_) | (with_reducible exact Grown.refl _) | (with_reducible exact Past.refl _) | (simp only [World.size_alloc]; omega) | omega)); done))⟩
end Go.Proofs.Ytpfenpfnflkfiaa
