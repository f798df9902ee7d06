/- The walk of GraphMakes. -/
import Derived.Test.YtpfenpfnflkfiaaM1
import Derived.Test.YtpfenpfnflkfiaaFixL
namespace Go.Proofs.Ytpfenpfnflkfiaa
open Go.ChangeShapes Go.WideShapes Go.ChangeAt Go.RowKit
set_option maxRecDepth 20000
set_option linter.unusedVariables false

theorem box_set1of3 {w : World} {b : Nat} {x0 x1 x2 y : Value} (h : (∀ o : Nat, w.cell? ⟨b, o, none⟩ = (#[x0, x1, x2] : Array Value)[o]?)) : (∀ o : Nat, (w.setCell ⟨b, 1, none⟩ y).cell? ⟨b, o, none⟩ = (#[x0, y, x2] : Array Value)[o]?) := by
  intro o
  match o with
  | 0 => rw [World.cell?_setCell_other _ _ _ _ (by simp)]; exact h 0
  | 1 => exact World.cell?_setCell_same w _ _ (h 1)
  | 2 => rw [World.cell?_setCell_other _ _ _ _ (by simp)]; exact h 2
  | k + 3 =>
    rw [World.cell?_setCell_other _ _ _ _ (by simp)]
    have := h (k + 3)
    simpa using this

set_option maxHeartbeats 8000000 in
theorem makes_walk (W : World) (gv : Value) (g0 : GraphD) (hg0 : IsGraph W gv g0) : Calls Try.prog 5 #[gv] W fun e w' => e = .returned (.bool true) ∧ Past W w' := by
  have HG0 := Lib.hid hg0
  obtain ⟨iv0, nv0, ov0, rfl, hi0, hn0, ho0⟩ := hg0
  obtain ⟨B1, d1, rfl, _, _, _, _, _⟩ := hi0
  obtain ⟨B2, d2, rfl, _, _, _, _, _⟩ := hn0
  obtain ⟨B3, d3, rfl, _, _, _, _, _⟩ := ho0
  have LS := Lib.hid (fun w (p : Past W w) => less_any w _ g0 (HG0.out.grow p))
  obtain ⟨g, hg⟩ : ∃ g, lessD g0 = g := ⟨_, rfl⟩
  have CU : Hid (Cut g) := Lib.hid (hg ▸ cut_less g0)
  rw [hg] at LS
  clear hg
  go_enter Try.func5, Try.ntmps5
  go_upto_region 1 with fail
  refine opq (fun w' => (∀ o : Nat, w'.cell? ⟨W.heap.size, o, none⟩ = (#[.slice B1 g0.ins.length d1, .slice B2 g0.nodes.length d2, .slice B3 g0.outs.length d3] : Array Value)[o]?) ∧ (∀ o : Nat, w'.frozen? ⟨W.heap.size, o, none⟩ = false) ∧ Past W w' ∧ W.heap.size + 1 ≤ w'.heap.size) (by (((try dsimp only); (try go_split_ands); (repeat' with_reducible apply And.intro)) <;> ((repeat (first | (with_reducible assumption) | (with_reducible refine box_set ?_ (by first | (simp; done) | (dsimp only; omega) | (simp; omega))) | (with_reducible refine has_set ?_) | (with_reducible refine cell_set ?_ (by first | (simp; done) | (dsimp only; omega) | (simp; omega))) | (with_reducible refine free_set ?_) | (with_reducible refine size_set ?_) | (with_reducible refine Grown.setCell ?_ (by first | (simp; done) | (dsimp only; omega) | (simp; omega)) _) | (with_reducible refine Past.setCell ?_ (by first | (simp; done) | (dsimp only; omega) | (simp; omega)) _) | (with_reducible refine box_drewN ?_) | (with_reducible refine has_drewN ?_) | (with_reducible refine cell_drewN ?_) | (with_reducible refine free_drewN ?_) | (with_reducible refine size_drewN ?_) | (with_reducible refine Grown.drewN ?_) | (with_reducible refine Past.drewN ?_) | (with_reducible refine box_drew ?_) | (with_reducible refine has_drew ?_) | (with_reducible refine cell_drew ?_) | (with_reducible refine free_drew ?_) | (with_reducible refine size_drew ?_) | (with_reducible refine Grown.drew ?_) | (with_reducible refine Past.drew ?_) | (with_reducible refine box_new (by first | omega | (simp; done) | (simp; omega))) | (with_reducible refine box_old ?_ (by first | omega | (simp; done) | (simp; omega))) | (with_reducible refine has_alloc ?_ (by first | omega | (simp; done) | (simp; omega))) | (with_reducible refine cell_alloc ?_ (by first | omega | (simp; done) | (simp; omega))) | (with_reducible refine free_alloc ?_) | (with_reducible refine size_alloc2 True.intro (by simp only [World.size_alloc]; omega)) | (with_reducible refine Grown.alloc ?_ _ _) | (with_reducible refine Past.alloc ?_ _) | (with_reducible refine box_grown (by with_reducible assumption) (by with_reducible assumption) (by first | omega | (dsimp only; omega))) | (with_reducible refine has_grown (by with_reducible assumption) (by with_reducible assumption) (by first | omega | (dsimp only; omega))) | (with_reducible refine cell_grown (by with_reducible assumption) (by with_reducible assumption) (by first | omega | (dsimp only; omega))) | (with_reducible refine size_grown (by with_reducible assumption) (by with_reducible assumption)) | (with_reducible refine free_grown (by with_reducible assumption) (by with_reducible assumption)) | (with_reducible refine grown_trans' (by with_reducible assumption) (by with_reducible assumption)) | (with_reducible refine box_past (by with_reducible assumption) (by with_reducible assumption) (by first | omega | (dsimp only; omega))) | (with_reducible refine has_past (by with_reducible assumption) (by with_reducible assumption) (by first | omega | (dsimp only; omega))) | (with_reducible refine cell_past (by with_reducible assumption) (by with_reducible assumption) (by first | omega | (dsimp only; omega))) | (with_reducible refine free_past (by with_reducible assumption) (by with_reducible assumption) (by first | omega | (dsimp only; omega))) | (with_reducible refine size_past (by with_reducible assumption) (by with_reducible assumption)) | (with_reducible refine past_trans (by with_reducible assumption) (by with_reducible assumption)) | (with_reducible refine free_new (by first | omega | (simp; done) | (simp; omega))) | (with_reducible refine Grown.past ?_) | (with_reducible exact Grown.refl _) | (with_reducible exact Past.refl _) | (simp only [World.size_alloc]; omega) | omega)); done))) ?_
  rintro w1 ⟨b1, f1, p1, s1⟩
  go_wp2_with fail
  refine (shown_any _).mono ?_
  rintro e w2 ⟨rfl, gq⟩
  have gq := Grown.past gq
  obtain ⟨b2, f2, p2, s2⟩ : (∀ o : Nat, w2.cell? ⟨W.heap.size, o, none⟩ = (#[.slice B1 g0.ins.length d1, .slice B2 g0.nodes.length d2, .slice B3 g0.outs.length d3] : Array Value)[o]?) ∧ (∀ o : Nat, w2.frozen? ⟨W.heap.size, o, none⟩ = false) ∧ Past W w2 ∧ W.heap.size + 1 ≤ w2.heap.size := by (((try dsimp only); (try go_split_ands); (repeat' with_reducible apply And.intro)) <;> ((repeat (first | (with_reducible assumption) | (with_reducible refine box_set ?_ (by first | (simp; done) | (dsimp only; omega) | (simp; omega))) | (with_reducible refine has_set ?_) | (with_reducible refine cell_set ?_ (by first | (simp; done) | (dsimp only; omega) | (simp; omega))) | (with_reducible refine free_set ?_) | (with_reducible refine size_set ?_) | (with_reducible refine Grown.setCell ?_ (by first | (simp; done) | (dsimp only; omega) | (simp; omega)) _) | (with_reducible refine Past.setCell ?_ (by first | (simp; done) | (dsimp only; omega) | (simp; omega)) _) | (with_reducible refine box_drewN ?_) | (with_reducible refine has_drewN ?_) | (with_reducible refine cell_drewN ?_) | (with_reducible refine free_drewN ?_) | (with_reducible refine size_drewN ?_) | (with_reducible refine Grown.drewN ?_) | (with_reducible refine Past.drewN ?_) | (with_reducible refine box_drew ?_) | (with_reducible refine has_drew ?_) | (with_reducible refine cell_drew ?_) | (with_reducible refine free_drew ?_) | (with_reducible refine size_drew ?_) | (with_reducible refine Grown.drew ?_) | (with_reducible refine Past.drew ?_) | (with_reducible refine box_new (by first | omega | (simp; done) | (simp; omega))) | (with_reducible refine box_old ?_ (by first | omega | (simp; done) | (simp; omega))) | (with_reducible refine has_alloc ?_ (by first | omega | (simp; done) | (simp; omega))) | (with_reducible refine cell_alloc ?_ (by first | omega | (simp; done) | (simp; omega))) | (with_reducible refine free_alloc ?_) | (with_reducible refine size_alloc2 True.intro (by simp only [World.size_alloc]; omega)) | (with_reducible refine Grown.alloc ?_ _ _) | (with_reducible refine Past.alloc ?_ _) | (with_reducible refine box_grown (by with_reducible assumption) (by with_reducible assumption) (by first | omega | (dsimp only; omega))) | (with_reducible refine has_grown (by with_reducible assumption) (by with_reducible assumption) (by first | omega | (dsimp only; omega))) | (with_reducible refine cell_grown (by with_reducible assumption) (by with_reducible assumption) (by first | omega | (dsimp only; omega))) | (with_reducible refine size_grown (by with_reducible assumption) (by with_reducible assumption)) | (with_reducible refine free_grown (by with_reducible assumption) (by with_reducible assumption)) | (with_reducible refine grown_trans' (by with_reducible assumption) (by with_reducible assumption)) | (with_reducible refine box_past (by with_reducible assumption) (by with_reducible assumption) (by first | omega | (dsimp only; omega))) | (with_reducible refine has_past (by with_reducible assumption) (by with_reducible assumption) (by first | omega | (dsimp only; omega))) | (with_reducible refine cell_past (by with_reducible assumption) (by with_reducible assumption) (by first | omega | (dsimp only; omega))) | (with_reducible refine free_past (by with_reducible assumption) (by with_reducible assumption) (by first | omega | (dsimp only; omega))) | (with_reducible refine size_past (by with_reducible assumption) (by with_reducible assumption)) | (with_reducible refine past_trans (by with_reducible assumption) (by with_reducible assumption)) | (with_reducible refine free_new (by first | omega | (simp; done) | (simp; omega))) | (with_reducible refine Grown.past ?_) | (with_reducible exact Grown.refl _) | (with_reducible exact Past.refl _) | (simp only [World.size_alloc]; omega) | omega)); done))
  clear b1 f1 p1 s1 gq
  go_wp2_with fail
  refine (LS.out _ p2).mono ?_
  rintro e w3 ⟨lv, rfl, HG, q3⟩
  obtain ⟨iv, nv, ov, rfl, hi, hn, ho⟩ := HG
  have HI := Lib.hid hi
  have HN := Lib.hid hn
  have HO := Lib.hid ho
  obtain ⟨A1, c1, rfl, i1, i2, _, _, i5⟩ := hi
  obtain ⟨A2, c2, rfl, n1, n2, _, _, n5⟩ := hn
  obtain ⟨A3, c3, rfl, o1, o2, _, _, o5⟩ := ho
  obtain ⟨b3, f3, s3⟩ : (∀ o : Nat, w3.cell? ⟨W.heap.size, o, none⟩ = (#[.slice B1 g0.ins.length d1, .slice B2 g0.nodes.length d2, .slice B3 g0.outs.length d3] : Array Value)[o]?) ∧ (∀ o : Nat, w3.frozen? ⟨W.heap.size, o, none⟩ = false) ∧ W.heap.size + 1 ≤ w3.heap.size := by (((try dsimp only); (try go_split_ands); (repeat' with_reducible apply And.intro)) <;> ((repeat (first | (with_reducible assumption) | (with_reducible refine box_set ?_ (by first | (simp; done) | (dsimp only; omega) | (simp; omega))) | (with_reducible refine has_set ?_) | (with_reducible refine cell_set ?_ (by first | (simp; done) | (dsimp only; omega) | (simp; omega))) | (with_reducible refine free_set ?_) | (with_reducible refine size_set ?_) | (with_reducible refine Grown.setCell ?_ (by first | (simp; done) | (dsimp only; omega) | (simp; omega)) _) | (with_reducible refine Past.setCell ?_ (by first | (simp; done) | (dsimp only; omega) | (simp; omega)) _) | (with_reducible refine box_drewN ?_) | (with_reducible refine has_drewN ?_) | (with_reducible refine cell_drewN ?_) | (with_reducible refine free_drewN ?_) | (with_reducible refine size_drewN ?_) | (with_reducible refine Grown.drewN ?_) | (with_reducible refine Past.drewN ?_) | (with_reducible refine box_drew ?_) | (with_reducible refine has_drew ?_) | (with_reducible refine cell_drew ?_) | (with_reducible refine free_drew ?_) | (with_reducible refine size_drew ?_) | (with_reducible refine Grown.drew ?_) | (with_reducible refine Past.drew ?_) | (with_reducible refine box_new (by first | omega | (simp; done) | (simp; omega))) | (with_reducible refine box_old ?_ (by first | omega | (simp; done) | (simp; omega))) | (with_reducible refine has_alloc ?_ (by first | omega | (simp; done) | (simp; omega))) | (with_reducible refine cell_alloc ?_ (by first | omega | (simp; done) | (simp; omega))) | (with_reducible refine free_alloc ?_) | (with_reducible refine size_alloc2 True.intro (by simp only [World.size_alloc]; omega)) | (with_reducible refine Grown.alloc ?_ _ _) | (with_reducible refine Past.alloc ?_ _) | (with_reducible refine box_grown (by with_reducible assumption) (by with_reducible assumption) (by first | omega | (dsimp only; omega))) | (with_reducible refine has_grown (by with_reducible assumption) (by with_reducible assumption) (by first | omega | (dsimp only; omega))) | (with_reducible refine cell_grown (by with_reducible assumption) (by with_reducible assumption) (by first | omega | (dsimp only; omega))) | (with_reducible refine size_grown (by with_reducible assumption) (by with_reducible assumption)) | (with_reducible refine free_grown (by with_reducible assumption) (by with_reducible assumption)) | (with_reducible refine grown_trans' (by with_reducible assumption) (by with_reducible assumption)) | (with_reducible refine box_past (by with_reducible assumption) (by with_reducible assumption) (by first | omega | (dsimp only; omega))) | (with_reducible refine has_past (by with_reducible assumption) (by with_reducible assumption) (by first | omega | (dsimp only; omega))) | (with_reducible refine cell_past (by with_reducible assumption) (by with_reducible assumption) (by first | omega | (dsimp only; omega))) | (with_reducible refine free_past (by with_reducible assumption) (by with_reducible assumption) (by first | omega | (dsimp only; omega))) | (with_reducible refine size_past (by with_reducible assumption) (by with_reducible assumption)) | (with_reducible refine past_trans (by with_reducible assumption) (by with_reducible assumption)) | (with_reducible refine free_new (by first | omega | (simp; done) | (simp; omega))) | (with_reducible refine Grown.past ?_) | (with_reducible exact Grown.refl _) | (with_reducible exact Past.refl _) | (simp only [World.size_alloc]; omega) | omega)); done))
  have q4 : Past W w3 := p2.trans q3
  have m1 : g.ins.length ≤ 9223372036854775807 := by unfold maxLen at i2; omega
  have m2 : g.nodes.length ≤ 9223372036854775807 := by unfold maxLen at n2; omega
  have m3 : g.outs.length ≤ 9223372036854775807 := by unfold maxLen at o2; omega
  clear b2 f2 p2 s2 q3 i1 i2 n1 n2 o1 o2 i5 n5 o5
  go_upto_region 3 with fail
  refine opq (fun w' => ((∀ o : Nat, w'.cell? ⟨W.heap.size, o, none⟩ = (#[.slice A1 g.ins.length c1, .slice A2 g.nodes.length c2, .slice A3 g.outs.length c3] : Array Value)[o]?) ∧ (∀ o : Nat, w'.frozen? ⟨W.heap.size, o, none⟩ = false) ∧ Past W w' ∧ W.heap.size + 1 ≤ w'.heap.size) ∧ IsVals w' (.slice A1 g.ins.length c1) g.ins ∧ IsNodes w' (.slice A2 g.nodes.length c2) g.nodes ∧ IsNums .i64 w' (.slice A3 g.outs.length c3) g.outs) ⟨⟨box_set3 b3, by (((try dsimp only); (try go_split_ands); (repeat' with_reducible apply And.intro)) <;> ((repeat (first | (with_reducible assumption) | (with_reducible refine box_set ?_ (by first | (simp; done) | (dsimp only; omega) | (simp; omega))) | (with_reducible refine has_set ?_) | (with_reducible refine cell_set ?_ (by first | (simp; done) | (dsimp only; omega) | (simp; omega))) | (with_reducible refine free_set ?_) | (with_reducible refine size_set ?_) | (with_reducible refine Grown.setCell ?_ (by first | (simp; done) | (dsimp only; omega) | (simp; omega)) _) | (with_reducible refine Past.setCell ?_ (by first | (simp; done) | (dsimp only; omega) | (simp; omega)) _) | (with_reducible refine box_drewN ?_) | (with_reducible refine has_drewN ?_) | (with_reducible refine cell_drewN ?_) | (with_reducible refine free_drewN ?_) | (with_reducible refine size_drewN ?_) | (with_reducible refine Grown.drewN ?_) | (with_reducible refine Past.drewN ?_) | (with_reducible refine box_drew ?_) | (with_reducible refine has_drew ?_) | (with_reducible refine cell_drew ?_) | (with_reducible refine free_drew ?_) | (with_reducible refine size_drew ?_) | (with_reducible refine Grown.drew ?_) | (with_reducible refine Past.drew ?_) | (with_reducible refine box_new (by first | omega | (simp; done) | (simp; omega))) | (with_reducible refine box_old ?_ (by first | omega | (simp; done) | (simp; omega))) | (with_reducible refine has_alloc ?_ (by first | omega | (simp; done) | (simp; omega))) | (with_reducible refine cell_alloc ?_ (by first | omega | (simp; done) | (simp; omega))) | (with_reducible refine free_alloc ?_) | (with_reducible refine size_alloc2 True.intro (by simp only [World.size_alloc]; omega)) | (with_reducible refine Grown.alloc ?_ _ _) | (with_reducible refine Past.alloc ?_ _) | (with_reducible refine box_grown (by with_reducible assumption) (by with_reducible assumption) (by first | omega | (dsimp only; omega))) | (with_reducible refine has_grown (by with_reducible assumption) (by with_reducible assumption) (by first | omega | (dsimp only; omega))) | (with_reducible refine cell_grown (by with_reducible assumption) (by with_reducible assumption) (by first | omega | (dsimp only; omega))) | (with_reducible refine size_grown (by with_reducible assumption) (by with_reducible assumption)) | (with_reducible refine free_grown (by with_reducible assumption) (by with_reducible assumption)) | (with_reducible refine grown_trans' (by with_reducible assumption) (by with_reducible assumption)) | (with_reducible refine box_past (by with_reducible assumption) (by with_reducible assumption) (by first | omega | (dsimp only; omega))) | (with_reducible refine has_past (by with_reducible assumption) (by with_reducible assumption) (by first | omega | (dsimp only; omega))) | (with_reducible refine cell_past (by with_reducible assumption) (by with_reducible assumption) (by first | omega | (dsimp only; omega))) | (with_reducible refine free_past (by with_reducible assumption) (by with_reducible assumption) (by first | omega | (dsimp only; omega))) | (with_reducible refine size_past (by with_reducible assumption) (by with_reducible assumption)) | (with_reducible refine past_trans (by with_reducible assumption) (by with_reducible assumption)) | (with_reducible refine free_new (by first | omega | (simp; done) | (simp; omega))) | (with_reducible refine Grown.past ?_) | (with_reducible exact Grown.refl _) | (with_reducible exact Past.refl _) | (simp only [World.size_alloc]; omega) | omega)); done)), by (((try dsimp only); (try go_split_ands); (repeat' with_reducible apply And.intro)) <;> ((repeat (first | (with_reducible assumption) | (with_reducible refine box_set ?_ (by first | (simp; done) | (dsimp only; omega) | (simp; omega))) | (with_reducible refine has_set ?_) | (with_reducible refine cell_set ?_ (by first | (simp; done) | (dsimp only; omega) | (simp; omega))) | (with_reducible refine free_set ?_) | (with_reducible refine size_set ?_) | (with_reducible refine Grown.setCell ?_ (by first | (simp; done) | (dsimp only; omega) | (simp; omega)) _) | (with_reducible refine Past.setCell ?_ (by first | (simp; done) | (dsimp only; omega) | (simp; omega)) _) | (with_reducible refine box_drewN ?_) | (with_reducible refine has_drewN ?_) | (with_reducible refine cell_drewN ?_) | (with_reducible refine free_drewN ?_) | (with_reducible refine size_drewN ?_) | (with_reducible refine Grown.drewN ?_) | (with_reducible refine Past.drewN ?_) | (with_reducible refine box_drew ?_) | (with_reducible refine has_drew ?_) | (with_reducible refine cell_drew ?_) | (with_reducible refine free_drew ?_) | (with_reducible refine size_drew ?_) | (with_reducible refine Grown.drew ?_) | (with_reducible refine Past.drew ?_) | (with_reducible refine box_new (by first | omega | (simp; done) | (simp; omega))) | (with_reducible refine box_old ?_ (by first | omega | (simp; done) | (simp; omega))) | (with_reducible refine has_alloc ?_ (by first | omega | (simp; done) | (simp; omega))) | (with_reducible refine cell_alloc ?_ (by first | omega | (simp; done) | (simp; omega))) | (with_reducible refine free_alloc ?_) | (with_reducible refine size_alloc2 True.intro (by simp only [World.size_alloc]; omega)) | (with_reducible refine Grown.alloc ?_ _ _) | (with_reducible refine Past.alloc ?_ _) | (with_reducible refine box_grown (by with_reducible assumption) (by with_reducible assumption) (by first | omega | (dsimp only; omega))) | (with_reducible refine has_grown (by with_reducible assumption) (by with_reducible assumption) (by first | omega | (dsimp only; omega))) | (with_reducible refine cell_grown (by with_reducible assumption) (by with_reducible assumption) (by first | omega | (dsimp only; omega))) | (with_reducible refine size_grown (by with_reducible assumption) (by with_reducible assumption)) | (with_reducible refine free_grown (by with_reducible assumption) (by with_reducible assumption)) | (with_reducible refine grown_trans' (by with_reducible assumption) (by with_reducible assumption)) | (with_reducible refine box_past (by with_reducible assumption) (by with_reducible assumption) (by first | omega | (dsimp only; omega))) | (with_reducible refine has_past (by with_reducible assumption) (by with_reducible assumption) (by first | omega | (dsimp only; omega))) | (with_reducible refine cell_past (by with_reducible assumption) (by with_reducible assumption) (by first | omega | (dsimp only; omega))) | (with_reducible refine free_past (by with_reducible assumption) (by with_reducible assumption) (by first | omega | (dsimp only; omega))) | (with_reducible refine size_past (by with_reducible assumption) (by with_reducible assumption)) | (with_reducible refine past_trans (by with_reducible assumption) (by with_reducible assumption)) | (with_reducible refine free_new (by first | omega | (simp; done) | (simp; omega))) | (with_reducible refine Grown.past ?_) | (with_reducible exact Grown.refl _) | (with_reducible exact Past.refl _) | (simp only [World.size_alloc]; omega) | omega)); done)), by (((try dsimp only); (try go_split_ands); (repeat' with_reducible apply And.intro)) <;> ((repeat (first | (with_reducible assumption) | (with_reducible refine box_set ?_ (by first | (simp; done) | (dsimp only; omega) | (simp; omega))) | (with_reducible refine has_set ?_) | (with_reducible refine cell_set ?_ (by first | (simp; done) | (dsimp only; omega) | (simp; omega))) | (with_reducible refine free_set ?_) | (with_reducible refine size_set ?_) | (with_reducible refine Grown.setCell ?_ (by first | (simp; done) | (dsimp only; omega) | (simp; omega)) _) | (with_reducible refine Past.setCell ?_ (by first | (simp; done) | (dsimp only; omega) | (simp; omega)) _) | (with_reducible refine box_drewN ?_) | (with_reducible refine has_drewN ?_) | (with_reducible refine cell_drewN ?_) | (with_reducible refine free_drewN ?_) | (with_reducible refine size_drewN ?_) | (with_reducible refine Grown.drewN ?_) | (with_reducible refine Past.drewN ?_) | (with_reducible refine box_drew ?_) | (with_reducible refine has_drew ?_) | (with_reducible refine cell_drew ?_) | (with_reducible refine free_drew ?_) | (with_reducible refine size_drew ?_) | (with_reducible refine Grown.drew ?_) | (with_reducible refine Past.drew ?_) | (with_reducible refine box_new (by first | omega | (simp; done) | (simp; omega))) | (with_reducible refine box_old ?_ (by first | omega | (simp; done) | (simp; omega))) | (with_reducible refine has_alloc ?_ (by first | omega | (simp; done) | (simp; omega))) | (with_reducible refine cell_alloc ?_ (by first | omega | (simp; done) | (simp; omega))) | (with_reducible refine free_alloc ?_) | (with_reducible refine size_alloc2 True.intro (by simp only [World.size_alloc]; omega)) | (with_reducible refine Grown.alloc ?_ _ _) | (with_reducible refine Past.alloc ?_ _) | (with_reducible refine box_grown (by with_reducible assumption) (by with_reducible assumption) (by first | omega | (dsimp only; omega))) | (with_reducible refine has_grown (by with_reducible assumption) (by with_reducible assumption) (by first | omega | (dsimp only; omega))) | (with_reducible refine cell_grown (by with_reducible assumption) (by with_reducible assumption) (by first | omega | (dsimp only; omega))) | (with_reducible refine size_grown (by with_reducible assumption) (by with_reducible assumption)) | (with_reducible refine free_grown (by with_reducible assumption) (by with_reducible assumption)) | (with_reducible refine grown_trans' (by with_reducible assumption) (by with_reducible assumption)) | (with_reducible refine box_past (by with_reducible assumption) (by with_reducible assumption) (by first | omega | (dsimp only; omega))) | (with_reducible refine has_past (by with_reducible assumption) (by with_reducible assumption) (by first | omega | (dsimp only; omega))) | (with_reducible refine cell_past (by with_reducible assumption) (by with_reducible assumption) (by first | omega | (dsimp only; omega))) | (with_reducible refine free_past (by with_reducible assumption) (by with_reducible assumption) (by first | omega | (dsimp only; omega))) | (with_reducible refine size_past (by with_reducible assumption) (by with_reducible assumption)) | (with_reducible refine past_trans (by with_reducible assumption) (by with_reducible assumption)) | (with_reducible refine free_new (by first | omega | (simp; done) | (simp; omega))) | (with_reducible refine Grown.past ?_) | (with_reducible exact Grown.refl _) | (with_reducible exact Past.refl _) | (simp only [World.size_alloc]; omega) | omega)); done))⟩, vals_save HI.out (noInt_box b3) ((((Save.refl _ _).set _ _).set _ _).set _ _), nodes_save HN.out (noInt_box b3) ((((Save.refl _ _).set _ _).set _ _).set _ _), nums_save HO.out (noInt_box b3) ((((Save.refl _ _).set _ _).set _ _).set _ _)⟩ ?_
  rintro w4 ⟨⟨b4, f4, p4, s4⟩, hi, hn, ho⟩
  clear b3 f3 s3 q4 HI HN HO
  have HI := Lib.hid hi
  have HN := Lib.hid hn
  have HO := Lib.hid ho
  have HV := Lib.hid (fun w (p : Past w4 w) => values_any g _ w ⟨_, _, _, rfl, HI.out.grow p, HN.out.grow p, HO.out.grow p⟩ CU.out)
  clear hi hn ho
  go_wp2_with fail
  refine (HV.out _ (Past.refl _)).mono ?_
  rintro e w5 ⟨v, rfl, hl, q5⟩
  have HL := Lib.hid hl
  obtain ⟨AL, cl, rfl, l1, l2, _, _, l5⟩ := hl
  have L5 := Lib.hid l5
  have m4 : (valuesL g).length ≤ 9223372036854775807 := by unfold maxLen at l2; omega
  obtain ⟨b5, f5, s5⟩ : (∀ o : Nat, w5.cell? ⟨W.heap.size, o, none⟩ = (#[.slice A1 g.ins.length c1, .slice A2 g.nodes.length c2, .slice A3 g.outs.length c3] : Array Value)[o]?) ∧ (∀ o : Nat, w5.frozen? ⟨W.heap.size, o, none⟩ = false) ∧ W.heap.size + 1 ≤ w5.heap.size := by
    clear p4
    (((try dsimp only); (try go_split_ands); (repeat' with_reducible apply And.intro)) <;> ((repeat (first | (with_reducible assumption) | (with_reducible refine box_set ?_ (by first | (simp; done) | (dsimp only; omega) | (simp; omega))) | (with_reducible refine has_set ?_) | (with_reducible refine cell_set ?_ (by first | (simp; done) | (dsimp only; omega) | (simp; omega))) | (with_reducible refine free_set ?_) | (with_reducible refine size_set ?_) | (with_reducible refine Grown.setCell ?_ (by first | (simp; done) | (dsimp only; omega) | (simp; omega)) _) | (with_reducible refine Past.setCell ?_ (by first | (simp; done) | (dsimp only; omega) | (simp; omega)) _) | (with_reducible refine box_drewN ?_) | (with_reducible refine has_drewN ?_) | (with_reducible refine cell_drewN ?_) | (with_reducible refine free_drewN ?_) | (with_reducible refine size_drewN ?_) | (with_reducible refine Grown.drewN ?_) | (with_reducible refine Past.drewN ?_) | (with_reducible refine box_drew ?_) | (with_reducible refine has_drew ?_) | (with_reducible refine cell_drew ?_) | (with_reducible refine free_drew ?_) | (with_reducible refine size_drew ?_) | (with_reducible refine Grown.drew ?_) | (with_reducible refine Past.drew ?_) | (with_reducible refine box_new (by first | omega | (simp; done) | (simp; omega))) | (with_reducible refine box_old ?_ (by first | omega | (simp; done) | (simp; omega))) | (with_reducible refine has_alloc ?_ (by first | omega | (simp; done) | (simp; omega))) | (with_reducible refine cell_alloc ?_ (by first | omega | (simp; done) | (simp; omega))) | (with_reducible refine free_alloc ?_) | (with_reducible refine size_alloc2 True.intro (by simp only [World.size_alloc]; omega)) | (with_reducible refine Grown.alloc ?_ _ _) | (with_reducible refine Past.alloc ?_ _) | (with_reducible refine box_grown (by with_reducible assumption) (by with_reducible assumption) (by first | omega | (dsimp only; omega))) | (with_reducible refine has_grown (by with_reducible assumption) (by with_reducible assumption) (by first | omega | (dsimp only; omega))) | (with_reducible refine cell_grown (by with_reducible assumption) (by with_reducible assumption) (by first | omega | (dsimp only; omega))) | (with_reducible refine size_grown (by with_reducible assumption) (by with_reducible assumption)) | (with_reducible refine free_grown (by with_reducible assumption) (by with_reducible assumption)) | (with_reducible refine grown_trans' (by with_reducible assumption) (by with_reducible assumption)) | (with_reducible refine box_past (by with_reducible assumption) (by with_reducible assumption) (by first | omega | (dsimp only; omega))) | (with_reducible refine has_past (by with_reducible assumption) (by with_reducible assumption) (by first | omega | (dsimp only; omega))) | (with_reducible refine cell_past (by with_reducible assumption) (by with_reducible assumption) (by first | omega | (dsimp only; omega))) | (with_reducible refine free_past (by with_reducible assumption) (by with_reducible assumption) (by first | omega | (dsimp only; omega))) | (with_reducible refine size_past (by with_reducible assumption) (by with_reducible assumption)) | (with_reducible refine past_trans (by with_reducible assumption) (by with_reducible assumption)) | (with_reducible refine free_new (by first | omega | (simp; done) | (simp; omega))) | (with_reducible refine Grown.past ?_) | (with_reducible exact Grown.refl _) | (with_reducible exact Past.refl _) | (simp only [World.size_alloc]; omega) | omega)); done))
  have p5 : Past W w5 := p4.trans q5
  have Q5 := Lib.hid q5
  obtain ⟨L, hL⟩ : ∃ L, valuesL g = L := ⟨_, rfl⟩
  rw [hL] at m4 L5 HL
  rw [hL]
  have EL := Lib.hid hL
  obtain ⟨E, hE⟩ : ∃ E, valuesE g = E := ⟨_, rfl⟩
  rw [hE]
  have EE := Lib.hid hE
  clear b4 f4 p4 s4 q5 l1 l2 l5 hL hE
  cases e0 : (E == 0) with
  | false =>
    have e1 : (E != 0) = true := by simp [bne, e0]
    have EN : Hid (E ≠ 0) := Lib.hid (by simpa using e0)
    have L0 : Hid (L = []) := Lib.hid (by rw [← EL.out]; unfold valuesL; rw [if_neg (by rw [EE.out]; exact EN.out)])
    have d0 : ((L.length : Int) == 0) = true := by rw [L0.out]; rfl
    go_wp2_with fail
    go_ret
    exact ⟨rfl, p5⟩
  | true =>
    have e1 : (E != 0) = false := by simp [bne, e0]
    have E0 : Hid (valuesE g = 0) := Lib.hid (by rw [EE.out]; simpa using e0)
    have MF := Lib.hid (makes_facts E0.out)
    rw [EL.out] at MF
    have ll : L.length = g.ins.length + g.nodes.length := MF.out.1
    have kk := (begins_ok (values_ok E0.out).1).1
    obtain ⟨k1, k2, k3, k4, k5⟩ := kk
    have d0 : ((L.length : Int) == (g.ins.length : Int) + (g.nodes.length : Int)) = true := by simp only [beq_iff_eq]; omega
    have d1 : ((L.length : Int) != (g.ins.length : Int) + (g.nodes.length : Int)) = false := by simp only [bne_eq_false_iff_eq]; omega
    have LL := Lib.hid ll
    clear ll e0
    go_wp2_with fail
    go_loopw [6] (fun i wr => ∃ k : Nat, k ≤ L.length ∧ i = .int .i64 k ∧ (∀ o : Nat, wr.cell? ⟨W.heap.size, o, none⟩ = (#[.slice A1 g.ins.length c1, .slice A2 g.nodes.length c2, .slice A3 g.outs.length c3] : Array Value)[o]?) ∧ (∀ o : Nat, wr.frozen? ⟨W.heap.size, o, none⟩ = false) ∧ Past W wr ∧ Past w5 wr ∧ W.heap.size + 1 ≤ wr.heap.size) (fun i _ => L.length - (intOf i).toNat)
    case atStart => exact ⟨0, by omega, rfl, b5, f5, p5, Past.refl _, s5⟩
    case round =>
      clear b5 f5 p5 s5 d0 d1 e1
      obtain ⟨k, hk, rfl, b6, f6, p6, q6, s6⟩ := hrel
      have i1 : (0 : Int) ≤ (k : Int) := by omega
      by_cases h : k < L.length
      · have i2 : (k : Int) < (L.length : Int) := by omega
        obtain ⟨lb, lo, rfl, hlb, hlc⟩ := L5.out (by omega)
        have hlb2 : lb < wr.heap.size := Nat.lt_of_lt_of_le hlb q6.2.2.1
        obtain ⟨y0, y1, y2, y3⟩ := (hlc k h).grow hlb q6
        obtain ⟨y, hy⟩ : ∃ y, L.getD k default = y := ⟨_, rfl⟩
        rw [hy] at y0 y1 y2 y3
        have my : mayV y := by rw [← hy]; exact MF.out.2.1 k h
        have RM := Lib.hid (fun w => rmay_yes y.h y.w y.c w my)
        have HY := Lib.hid hy
        clear hlc hy my

        by_cases c : k < g.ins.length
        · have d2 : decide ((g.ins.length : Int) ≤ (k : Int)) = false := by simp; omega
          have d3 : ¬ g.ins.length ≤ k := by omega
          go_wp2_with fail
          refine wp_region_fill (fun w' => (∀ o : Nat, w'.cell? ⟨W.heap.size, o, none⟩ = (#[.slice A1 g.ins.length c1, .slice A2 g.nodes.length c2, .slice A3 g.outs.length c3] : Array Value)[o]?) ∧ (∀ o : Nat, w'.frozen? ⟨W.heap.size, o, none⟩ = false) ∧ Past W w' ∧ Past w5 w' ∧ W.heap.size + 1 ≤ w'.heap.size ∧ wr.heap.size ≤ w'.heap.size ∧ w'.cell? ⟨lb, lo + k * 4, none⟩ = some (.int .i64 y.h) ∧ w'.cell? ⟨lb, lo + k * 4 + 1, none⟩ = some (.int .i64 y.w) ∧ w'.cell? ⟨lb, lo + k * 4 + 2, none⟩ = some (.int .i64 y.c) ∧ w'.cell? ⟨lb, lo + k * 4 + 3, none⟩ = some (.int .i64 y.z)) [(43, ?v43), (44, ?v44), (45, ?v45), (46, ?v46), (47, ?v47), (48, ?v48), (49, ?v49), (50, ?v50), (51, ?v51), (52, ?v52), (53, ?v53), (54, ?v54), (55, ?v55), (56, ?v56), (57, ?v57), (58, ?v58), (59, ?v59), (60, ?v60), (61, ?v61), (62, ?v62), (63, ?v63), (64, ?v64), (65, ?v65), (66, ?v66), (67, ?v67), (68, ?v68), (69, ?v69), (70, ?v70), (71, ?v71), (72, ?v72), (73, ?v73), (74, ?v74)] [43, 44, 45, 46, 47, 48, 49, 50, 51, 52, 53, 54, 55, 56, 57, 58, 59, 60, 61, 62, 63, 64, 65, 66, 67, 68, 69, 70, 71, 72, 73, 74] (by kernel_rfl) (by kernel_rfl) rfl (by kernel_rfl) ⟨b6, f6, p6, q6, s6, Nat.le_refl _, y0, y1, y2, y3⟩ (fun w h => h) ?all ?fin
          case all =>
            simp only [fillA, Act.put, List.setIfInBounds_toArray, List.set_cons_zero, List.set_cons_succ]
            iterate 5 (refine owes_cons (fun w hw K hK => ?_) ?_; focus ((have hS := Lib.hid hw); go_split_ands; go_simp; (try simp only [Act.put, List.setIfInBounds_toArray, List.set_cons_zero, List.set_cons_succ]); exact hK _ hS.out))
            refine owes_cons (fun w hw K hK => ?_) ?_
            · have hS := Lib.hid hw
              go_split_ands
              go_simp
              refine (RM.out _).mono ?_
              rintro e w6 ⟨rfl, gg⟩
              refine hK _ ?_
              have gp := Grown.past gg
              (((try dsimp only); (try go_split_ands); (repeat' with_reducible apply And.intro)) <;> ((repeat (first | (with_reducible assumption) | (with_reducible refine box_set ?_ (by first | (simp; done) | (dsimp only; omega) | (simp; omega))) | (with_reducible refine has_set ?_) | (with_reducible refine cell_set ?_ (by first | (simp; done) | (dsimp only; omega) | (simp; omega))) | (with_reducible refine free_set ?_) | (with_reducible refine size_set ?_) | (with_reducible refine Grown.setCell ?_ (by first | (simp; done) | (dsimp only; omega) | (simp; omega)) _) | (with_reducible refine Past.setCell ?_ (by first | (simp; done) | (dsimp only; omega) | (simp; omega)) _) | (with_reducible refine box_drewN ?_) | (with_reducible refine has_drewN ?_) | (with_reducible refine cell_drewN ?_) | (with_reducible refine free_drewN ?_) | (with_reducible refine size_drewN ?_) | (with_reducible refine Grown.drewN ?_) | (with_reducible refine Past.drewN ?_) | (with_reducible refine box_drew ?_) | (with_reducible refine has_drew ?_) | (with_reducible refine cell_drew ?_) | (with_reducible refine free_drew ?_) | (with_reducible refine size_drew ?_) | (with_reducible refine Grown.drew ?_) | (with_reducible refine Past.drew ?_) | (with_reducible refine box_new (by first | omega | (simp; done) | (simp; omega))) | (with_reducible refine box_old ?_ (by first | omega | (simp; done) | (simp; omega))) | (with_reducible refine has_alloc ?_ (by first | omega | (simp; done) | (simp; omega))) | (with_reducible refine cell_alloc ?_ (by first | omega | (simp; done) | (simp; omega))) | (with_reducible refine free_alloc ?_) | (with_reducible refine size_alloc2 True.intro (by simp only [World.size_alloc]; omega)) | (with_reducible refine Grown.alloc ?_ _ _) | (with_reducible refine Past.alloc ?_ _) | (with_reducible refine box_grown (by with_reducible assumption) (by with_reducible assumption) (by first | omega | (dsimp only; omega))) | (with_reducible refine has_grown (by with_reducible assumption) (by with_reducible assumption) (by first | omega | (dsimp only; omega))) | (with_reducible refine cell_grown (by with_reducible assumption) (by with_reducible assumption) (by first | omega | (dsimp only; omega))) | (with_reducible refine size_grown (by with_reducible assumption) (by with_reducible assumption)) | (with_reducible refine free_grown (by with_reducible assumption) (by with_reducible assumption)) | (with_reducible refine grown_trans' (by with_reducible assumption) (by with_reducible assumption)) | (with_reducible refine box_past (by with_reducible assumption) (by with_reducible assumption) (by first | omega | (dsimp only; omega))) | (with_reducible refine has_past (by with_reducible assumption) (by with_reducible assumption) (by first | omega | (dsimp only; omega))) | (with_reducible refine cell_past (by with_reducible assumption) (by with_reducible assumption) (by first | omega | (dsimp only; omega))) | (with_reducible refine free_past (by with_reducible assumption) (by with_reducible assumption) (by first | omega | (dsimp only; omega))) | (with_reducible refine size_past (by with_reducible assumption) (by with_reducible assumption)) | (with_reducible refine past_trans (by with_reducible assumption) (by with_reducible assumption)) | (with_reducible refine free_new (by first | omega | (simp; done) | (simp; omega))) | (with_reducible refine Grown.past ?_) | (with_reducible exact Grown.refl _) | (with_reducible exact Past.refl _) | (simp only [World.size_alloc]; omega) | omega)); done))
            iterate 26 (refine owes_cons (fun w hw K hK => ?_) ?_; focus ((have hS := Lib.hid hw); go_split_ands; go_simp; (try simp only [Act.put, List.setIfInBounds_toArray, List.set_cons_zero, List.set_cons_succ]); exact hK _ hS.out))
            exact True.intro
          case fin =>
            rintro w7 ⟨b7, f7, p7, q7, s7, _, _⟩
            simp only [fillA, Act.put, List.setIfInBounds_toArray, List.set_cons_zero, List.set_cons_succ]
            go_wp2_with fail
            go_roundw
            case rel => exact ⟨k + 1, by omega, by go_num, b7, f7, p7, q7, s7⟩
            case measure => simp [intOf]; omega
        · have d2 : decide ((g.ins.length : Int) ≤ (k : Int)) = true := by simp; omega
          have d3 : g.ins.length ≤ k := by omega
          obtain ⟨j, hj⟩ : ∃ j, k = g.ins.length + j := ⟨k - g.ins.length, by omega⟩
          have jl : j < g.nodes.length := by have := LL.out; omega
          obtain ⟨A, cp, eA, _, _, _, _, h5⟩ := HN.out
          obtain ⟨rfl, rfl⟩ : A2 = A ∧ c2 = cp := by simpa using eA
          obtain ⟨nb, no, rfl, hnb, hnc⟩ := h5 (by omega)
          have hnb2 : nb < wr.heap.size := Nat.lt_of_lt_of_le hnb (Q5.out.trans q6).2.2.1
          obtain ⟨n, hnj⟩ : ∃ n, g.nodes.getD j default = n := ⟨_, rfl⟩
          have nz : wr.cell? ⟨nb, no + j * 14 + 8, none⟩ = some (.int .i64 n.zero) := by
            obtain ⟨vi, vw, vb, _, hcell⟩ := (hnc j jl).grow hnb (Q5.out.trans q6)
            rw [hnj] at hcell
            exact hcell 8 (by omega)
          have yz : y.z = n.zero := by
            have := MF.out.2.2 k (by omega) h
            rw [HY.out, show k - g.ins.length = j by omega, hnj] at this
            exact this
          have yb : (y.z == n.zero) = true := by simp [yz]
          have yc : (y.z != n.zero) = false := by simp [yz]
          have w1 : IntKind.i64.wrap ((k : Int) - (g.ins.length : Int)) = (j : Int) := by
            rw [show (k : Int) - (g.ins.length : Int) = (j : Int) by omega]
            exact IntWalk.i64_in _ (by omega)
          have w2 : (0 : Int) ≤ (j : Int) := by omega
          have w3' : (j : Int) < (g.nodes.length : Int) := by omega
          clear eA h5 hnc hnj yz hj
          go_wp2_with fail
          refine wp_region_fill (fun w' => (∀ o : Nat, w'.cell? ⟨W.heap.size, o, none⟩ = (#[.slice A1 g.ins.length c1, .slice (some ⟨nb, no, none⟩) g.nodes.length c2, .slice A3 g.outs.length c3] : Array Value)[o]?) ∧ (∀ o : Nat, w'.frozen? ⟨W.heap.size, o, none⟩ = false) ∧ Past W w' ∧ Past w5 w' ∧ W.heap.size + 1 ≤ w'.heap.size ∧ wr.heap.size ≤ w'.heap.size ∧ w'.cell? ⟨lb, lo + k * 4, none⟩ = some (.int .i64 y.h) ∧ w'.cell? ⟨lb, lo + k * 4 + 1, none⟩ = some (.int .i64 y.w) ∧ w'.cell? ⟨lb, lo + k * 4 + 2, none⟩ = some (.int .i64 y.c) ∧ w'.cell? ⟨lb, lo + k * 4 + 3, none⟩ = some (.int .i64 y.z) ∧ w'.cell? ⟨nb, no + j * 14 + 8, none⟩ = some (.int .i64 n.zero)) [(43, ?vb43), (44, ?vb44), (45, ?vb45), (46, ?vb46), (47, ?vb47), (48, ?vb48), (49, ?vb49), (50, ?vb50), (51, ?vb51), (52, ?vb52), (53, ?vb53), (54, ?vb54), (55, ?vb55), (56, ?vb56), (57, ?vb57), (58, ?vb58), (59, ?vb59), (60, ?vb60), (61, ?vb61), (62, ?vb62), (63, ?vb63), (64, ?vb64), (65, ?vb65), (66, ?vb66), (67, ?vb67), (68, ?vb68), (69, ?vb69), (70, ?vb70), (71, ?vb71), (72, ?vb72), (73, ?vb73), (74, ?vb74)] [43, 44, 45, 46, 47, 48, 49, 50, 51, 52, 53, 54, 55, 56, 57, 58, 59, 60, 61, 62, 63, 64, 65, 66, 67, 68, 69, 70, 71, 72, 73, 74] (by kernel_rfl) (by kernel_rfl) rfl (by kernel_rfl) ⟨b6, f6, p6, q6, s6, Nat.le_refl _, y0, y1, y2, y3, nz⟩ (fun w h => h) ?allb ?finb
          case allb =>
            simp only [fillA, Act.put, List.setIfInBounds_toArray, List.set_cons_zero, List.set_cons_succ]
            iterate 5 (refine owes_cons (fun w hw K hK => ?_) ?_; focus ((have hS := Lib.hid hw); go_split_ands; go_simp; (try simp only [Act.put, List.setIfInBounds_toArray, List.set_cons_zero, List.set_cons_succ]); exact hK _ hS.out))
            refine owes_cons (fun w hw K hK => ?_) ?_
            · have hS := Lib.hid hw
              go_split_ands
              go_simp
              refine (RM.out _).mono ?_
              rintro e w6 ⟨rfl, gg⟩
              refine hK _ ?_
              have gp := Grown.past gg
              (((try dsimp only); (try go_split_ands); (repeat' with_reducible apply And.intro)) <;> ((repeat (first | (with_reducible assumption) | (with_reducible refine box_set ?_ (by first | (simp; done) | (dsimp only; omega) | (simp; omega))) | (with_reducible refine has_set ?_) | (with_reducible refine cell_set ?_ (by first | (simp; done) | (dsimp only; omega) | (simp; omega))) | (with_reducible refine free_set ?_) | (with_reducible refine size_set ?_) | (with_reducible refine Grown.setCell ?_ (by first | (simp; done) | (dsimp only; omega) | (simp; omega)) _) | (with_reducible refine Past.setCell ?_ (by first | (simp; done) | (dsimp only; omega) | (simp; omega)) _) | (with_reducible refine box_drewN ?_) | (with_reducible refine has_drewN ?_) | (with_reducible refine cell_drewN ?_) | (with_reducible refine free_drewN ?_) | (with_reducible refine size_drewN ?_) | (with_reducible refine Grown.drewN ?_) | (with_reducible refine Past.drewN ?_) | (with_reducible refine box_drew ?_) | (with_reducible refine has_drew ?_) | (with_reducible refine cell_drew ?_) | (with_reducible refine free_drew ?_) | (with_reducible refine size_drew ?_) | (with_reducible refine Grown.drew ?_) | (with_reducible refine Past.drew ?_) | (with_reducible refine box_new (by first | omega | (simp; done) | (simp; omega))) | (with_reducible refine box_old ?_ (by first | omega | (simp; done) | (simp; omega))) | (with_reducible refine has_alloc ?_ (by first | omega | (simp; done) | (simp; omega))) | (with_reducible refine cell_alloc ?_ (by first | omega | (simp; done) | (simp; omega))) | (with_reducible refine free_alloc ?_) | (with_reducible refine size_alloc2 True.intro (by simp only [World.size_alloc]; omega)) | (with_reducible refine Grown.alloc ?_ _ _) | (with_reducible refine Past.alloc ?_ _) | (with_reducible refine box_grown (by with_reducible assumption) (by with_reducible assumption) (by first | omega | (dsimp only; omega))) | (with_reducible refine has_grown (by with_reducible assumption) (by with_reducible assumption) (by first | omega | (dsimp only; omega))) | (with_reducible refine cell_grown (by with_reducible assumption) (by with_reducible assumption) (by first | omega | (dsimp only; omega))) | (with_reducible refine size_grown (by with_reducible assumption) (by with_reducible assumption)) | (with_reducible refine free_grown (by with_reducible assumption) (by with_reducible assumption)) | (with_reducible refine grown_trans' (by with_reducible assumption) (by with_reducible assumption)) | (with_reducible refine box_past (by with_reducible assumption) (by with_reducible assumption) (by first | omega | (dsimp only; omega))) | (with_reducible refine has_past (by with_reducible assumption) (by with_reducible assumption) (by first | omega | (dsimp only; omega))) | (with_reducible refine cell_past (by with_reducible assumption) (by with_reducible assumption) (by first | omega | (dsimp only; omega))) | (with_reducible refine free_past (by with_reducible assumption) (by with_reducible assumption) (by first | omega | (dsimp only; omega))) | (with_reducible refine size_past (by with_reducible assumption) (by with_reducible assumption)) | (with_reducible refine past_trans (by with_reducible assumption) (by with_reducible assumption)) | (with_reducible refine free_new (by first | omega | (simp; done) | (simp; omega))) | (with_reducible refine Grown.past ?_) | (with_reducible exact Grown.refl _) | (with_reducible exact Past.refl _) | (simp only [World.size_alloc]; omega) | omega)); done))
            iterate 26 (refine owes_cons (fun w hw K hK => ?_) ?_; focus ((have hS := Lib.hid hw); go_split_ands; go_simp; (try simp only [Act.put, List.setIfInBounds_toArray, List.set_cons_zero, List.set_cons_succ]); exact hK _ hS.out))
            exact True.intro
          case finb =>
            rintro w7 ⟨b7, f7, p7, q7, s7, _, _⟩
            simp only [fillA, Act.put, List.setIfInBounds_toArray, List.set_cons_zero, List.set_cons_succ]
            go_wp2_with fail
            go_roundw
            case rel => exact ⟨k + 1, by omega, by go_num, b7, f7, p7, q7, s7⟩
            case measure => simp [intOf]; omega
      · have kl : k = L.length := by omega
        have d4 : decide ((k : Int) < (L.length : Int)) = false := by simp; omega
        clear d4 kl
        have n2' : W.heap.size ≠ wr.heap.size := by omega
        have n3' : W.heap.size < wr.heap.size := by omega
        obtain ⟨P7, hP⟩ : ∃ P7, wr.heap.size = P7 := ⟨_, rfl⟩
        have qP : W.heap.size + 1 ≤ P7 := by omega
        go_upto_region 14 with fail
        refine opq (fun w' => (∀ o : Nat, w'.cell? ⟨W.heap.size, o, none⟩ = (#[.slice A1 g.ins.length c1, .slice A2 g.nodes.length c2, .slice A3 g.outs.length c3] : Array Value)[o]?) ∧ (∀ o : Nat, w'.cell? ⟨P7, o, none⟩ = (#[.slice A1 g.ins.length c1, .slice A2 g.nodes.length c2, .slice A3 g.outs.length c3] : Array Value)[o]?) ∧ (∀ o : Nat, w'.frozen? ⟨P7, o, none⟩ = false) ∧ Past W w' ∧ Past w5 w' ∧ P7 + 1 ≤ w'.heap.size) (by
          subst hP
          (((try dsimp only); (try go_split_ands); (repeat' with_reducible apply And.intro)) <;> ((repeat (first | (with_reducible assumption) | (with_reducible refine box_set ?_ (by first | (simp; done) | (dsimp only; omega) | (simp; omega))) | (with_reducible refine has_set ?_) | (with_reducible refine cell_set ?_ (by first | (simp; done) | (dsimp only; omega) | (simp; omega))) | (with_reducible refine free_set ?_) | (with_reducible refine size_set ?_) | (with_reducible refine Grown.setCell ?_ (by first | (simp; done) | (dsimp only; omega) | (simp; omega)) _) | (with_reducible refine Past.setCell ?_ (by first | (simp; done) | (dsimp only; omega) | (simp; omega)) _) | (with_reducible refine box_drewN ?_) | (with_reducible refine has_drewN ?_) | (with_reducible refine cell_drewN ?_) | (with_reducible refine free_drewN ?_) | (with_reducible refine size_drewN ?_) | (with_reducible refine Grown.drewN ?_) | (with_reducible refine Past.drewN ?_) | (with_reducible refine box_drew ?_) | (with_reducible refine has_drew ?_) | (with_reducible refine cell_drew ?_) | (with_reducible refine free_drew ?_) | (with_reducible refine size_drew ?_) | (with_reducible refine Grown.drew ?_) | (with_reducible refine Past.drew ?_) | (with_reducible refine box_new (by first | omega | (simp; done) | (simp; omega))) | (with_reducible refine box_old ?_ (by first | omega | (simp; done) | (simp; omega))) | (with_reducible refine has_alloc ?_ (by first | omega | (simp; done) | (simp; omega))) | (with_reducible refine cell_alloc ?_ (by first | omega | (simp; done) | (simp; omega))) | (with_reducible refine free_alloc ?_) | (with_reducible refine size_alloc2 True.intro (by simp only [World.size_alloc]; omega)) | (with_reducible refine Grown.alloc ?_ _ _) | (with_reducible refine Past.alloc ?_ _) | (with_reducible refine box_grown (by with_reducible assumption) (by with_reducible assumption) (by first | omega | (dsimp only; omega))) | (with_reducible refine has_grown (by with_reducible assumption) (by with_reducible assumption) (by first | omega | (dsimp only; omega))) | (with_reducible refine cell_grown (by with_reducible assumption) (by with_reducible assumption) (by first | omega | (dsimp only; omega))) | (with_reducible refine size_grown (by with_reducible assumption) (by with_reducible assumption)) | (with_reducible refine free_grown (by with_reducible assumption) (by with_reducible assumption)) | (with_reducible refine grown_trans' (by with_reducible assumption) (by with_reducible assumption)) | (with_reducible refine box_past (by with_reducible assumption) (by with_reducible assumption) (by first | omega | (dsimp only; omega))) | (with_reducible refine has_past (by with_reducible assumption) (by with_reducible assumption) (by first | omega | (dsimp only; omega))) | (with_reducible refine cell_past (by with_reducible assumption) (by with_reducible assumption) (by first | omega | (dsimp only; omega))) | (with_reducible refine free_past (by with_reducible assumption) (by with_reducible assumption) (by first | omega | (dsimp only; omega))) | (with_reducible refine size_past (by with_reducible assumption) (by with_reducible assumption)) | (with_reducible refine past_trans (by with_reducible assumption) (by with_reducible assumption)) | (with_reducible refine free_new (by first | omega | (simp; done) | (simp; omega))) | (with_reducible refine Grown.past ?_) | (with_reducible exact Grown.refl _) | (with_reducible exact Past.refl _) | (simp only [World.size_alloc]; omega) | omega)); done))) ?_
        rintro w6 ⟨b7, x7, f7, p7, Q6, s7⟩
        have q9 : w5.heap.size ≤ P7 := by have := q6.2.2.1; omega
        clear b6 f6 p6 q6 s6 n2' n3' hP
        go_upto_if 79 with fail
        go_cut [7] (fun c7 wx => c7 = .pointer (some ⟨P7, 0, none⟩) ∧ (∀ o : Nat, wx.cell? ⟨W.heap.size, o, none⟩ = (#[.slice A1 g.ins.length c1, .slice A2 g.nodes.length c2, .slice A3 g.outs.length c3] : Array Value)[o]?) ∧ (∀ o : Nat, wx.cell? ⟨P7, o, none⟩ = (#[.slice A1 g.ins.length c1, .slice A2 (g.nodes.length - 1) c2, .slice A3 g.outs.length c3] : Array Value)[o]?) ∧ Past W wx ∧ Past w5 wx ∧ P7 + 1 ≤ wx.heap.size)
        case first =>
          by_cases zn : g.nodes.length = 0
          · have d5 : decide ((0 : Int) < (g.nodes.length : Int)) = false := by simp only [decide_eq_false_iff_not]; omega
            have ez : g.nodes.length - 1 = g.nodes.length := by omega
            have EZ := Lib.hid ez
            have d6 : ¬ 0 < g.nodes.length := by omega
            clear zn ez
            go_wp2_with fail
            go_meet
            exact ⟨rfl, b7, by rw [EZ.out]; exact x7, p7, Q6, s7⟩
          · have d5 : decide ((0 : Int) < (g.nodes.length : Int)) = true := by simp only [decide_eq_true_eq]; omega
            have d6 : 0 < g.nodes.length := by omega
            have nc : g.nodes.length ≤ c2 := by
              obtain ⟨A, cp, eA, h1, _⟩ := HN.out
              simp only [Value.slice.injEq] at eA
              omega
            have nc1 : (g.nodes.length : Int) - 1 ≤ (c2 : Int) := by omega
            have nc2 : (0 : Int) ≤ (g.nodes.length : Int) - 1 := by omega
            have nc3 : ((g.nodes.length : Int) - 1).toNat = g.nodes.length - 1 := by omega
            clear zn
            go_wp2_with fail
            go_meet
            exact ⟨rfl, box_set b7 (by dsimp only; omega), box_set1of3 x7, p7.setCell (by dsimp only; omega) _, Q6.setCell (by dsimp only; omega) _, size_set s7⟩
        case rest =>
          obtain ⟨rfl, b8, x8, p8, q8, s8⟩ := hcut
          clear b7 x7 f7 p7 Q6 s7
          obtain ⟨T, hT⟩ : ∃ T : Int, ((g.ins.length + (g.nodes.length - 1) : Nat) : Int) = T := ⟨_, rfl⟩
          have hT2 : (g.ins.length : Int) + ((g.nodes.length - 1 : Nat) : Int) = T := by omega
          have HT := Lib.hid hT
          have wT : IntKind.i64.wrap T = T := IntWalk.i64_in _ (by omega)
          clear hT
          go_wp2_with fail
          go_loopw [8, 9] (fun b i wr2 => ∃ (k2 : Nat) (t : Bool), k2 ≤ g.outs.length ∧ b = .bool t ∧ i = .int .i64 k2 ∧ Hid (t = true ↔ ∃ j, j < k2 ∧ T ≤ g.outs.getD j 0) ∧ (∀ o : Nat, wr2.cell? ⟨W.heap.size, o, none⟩ = (#[.slice A1 g.ins.length c1, .slice A2 g.nodes.length c2, .slice A3 g.outs.length c3] : Array Value)[o]?) ∧ (∀ o : Nat, wr2.cell? ⟨P7, o, none⟩ = (#[.slice A1 g.ins.length c1, .slice A2 (g.nodes.length - 1) c2, .slice A3 g.outs.length c3] : Array Value)[o]?) ∧ Past W wr2 ∧ Past w5 wr2 ∧ P7 + 1 ≤ wr2.heap.size) (fun _ i _ => g.outs.length - (intOf i).toNat)
          case atStart => exact ⟨0, false, by omega, rfl, rfl, Lib.hid ⟨fun h => (by cases h), fun ⟨j, h, _⟩ => by omega⟩, b8, x8, p8, q8, s8⟩
          case round =>
            clear b8 x8 p8 q8 s8
            obtain ⟨k2, t, hk2, rfl, rfl, ht, b8, x8, p8, q8, s8⟩ := hrel
            have i1' : (0 : Int) ≤ (k2 : Int) := by omega
            by_cases h2 : k2 < g.outs.length
            · have i2' : (k2 : Int) < (g.outs.length : Int) := by omega
              obtain ⟨A, cp, eA, _, _, _, _, h5⟩ := HO.out
              obtain ⟨rfl, rfl⟩ : A3 = A ∧ c3 = cp := by simpa using eA
              obtain ⟨ob, oo, rfl, hob, hoc⟩ := h5 (by omega)
              have hob2 : ob < wr.heap.size := Nat.lt_of_lt_of_le hob (Q5.out.trans q8).2.2.1
              obtain ⟨x, hx⟩ : ∃ x, g.outs.getD k2 0 = x := ⟨_, rfl⟩
              have z0 : wr.cell? ⟨ob, oo + k2, none⟩ = some (.int .i64 x) := by
                rw [← hx]
                exact ((Q5.out.trans q8).cell (p := ⟨ob, oo + k2, none⟩) hob).trans (hoc k2 h2)
              have HXX := Lib.hid hx
              clear eA h5 hoc hx
              cases t with
              | true =>
                go_wp2_with fail
                refine wp_region_fillL (fun w' => (∀ o : Nat, w'.cell? ⟨W.heap.size, o, none⟩ = (#[.slice A1 g.ins.length c1, .slice A2 g.nodes.length c2, .slice (some ⟨ob, oo, none⟩) g.outs.length c3] : Array Value)[o]?) ∧ (∀ o : Nat, w'.cell? ⟨P7, o, none⟩ = (#[.slice A1 g.ins.length c1, .slice A2 (g.nodes.length - 1) c2, .slice (some ⟨ob, oo, none⟩) g.outs.length c3] : Array Value)[o]?) ∧ Past W w' ∧ Past w5 w' ∧ P7 + 1 ≤ w'.heap.size ∧ w'.cell? ⟨ob, oo + k2, none⟩ = some (.int .i64 x)) [(95, ?vc95), (96, ?vc96), (97, ?vc97), (98, ?vc98), (99, ?vc99), (100, ?vc100), (101, ?vc101), (102, ?vc102), (103, ?vc103), (104, ?vc104), (105, ?vc105), (106, ?vc106), (107, ?vc107), (108, ?vc108), (109, ?vc109), (110, ?vc110)] [95, 96, 97, 98, 99, 100, 101, 102, 103, 104, 105, 106, 107, 108, 109, 110] (by kernel_rfl) (by kernel_rfl) rfl (by kernel_rfl) ⟨b8, x8, p8, q8, s8, z0⟩ (fun w h => h) ?allc ?finc
                case allc =>
                  simp only [List.dropLast, fillA, Act.put, List.setIfInBounds_toArray, List.set_cons_zero, List.set_cons_succ]
                  iterate 16 (refine owes_cons (fun w hw K hK => ?_) ?_; focus ((have hS := Lib.hid hw); go_split_ands; go_simp; (try simp only [Act.put, List.setIfInBounds_toArray, List.set_cons_zero, List.set_cons_succ]); exact hK _ hS.out))
                  exact True.intro
                case finc =>
                  rintro w9 ⟨b9, x9, p9, q9', s9, _⟩
                  simp only [fillA, Act.put, List.setIfInBounds_toArray, List.set_cons_zero, List.set_cons_succ]
                  unfold wpOp
                  go_simp
                  refine .inl ?_
                  go_wp2_with fail
                  go_roundw
                  case rel => exact ⟨k2 + 1, true, by omega, rfl, by go_num, Lib.hid (⟨fun _ => by obtain ⟨j, j1, j2⟩ := ht.out.mp (by trivial); exact ⟨j, by omega, j2⟩, fun _ => rfl⟩), b9, x9, p9, q9', s9⟩
                  case measure => simp [intOf]; omega
              | false =>
                by_cases c : T ≤ x
                · have d7 : decide (T ≤ x) = true := by simpa using c
                  go_wp2_with fail
                  refine wp_region_fillL (fun w' => (∀ o : Nat, w'.cell? ⟨W.heap.size, o, none⟩ = (#[.slice A1 g.ins.length c1, .slice A2 g.nodes.length c2, .slice (some ⟨ob, oo, none⟩) g.outs.length c3] : Array Value)[o]?) ∧ (∀ o : Nat, w'.cell? ⟨P7, o, none⟩ = (#[.slice A1 g.ins.length c1, .slice A2 (g.nodes.length - 1) c2, .slice (some ⟨ob, oo, none⟩) g.outs.length c3] : Array Value)[o]?) ∧ Past W w' ∧ Past w5 w' ∧ P7 + 1 ≤ w'.heap.size ∧ w'.cell? ⟨ob, oo + k2, none⟩ = some (.int .i64 x)) [(95, ?vd95), (96, ?vd96), (97, ?vd97), (98, ?vd98), (99, ?vd99), (100, ?vd100), (101, ?vd101), (102, ?vd102), (103, ?vd103), (104, ?vd104), (105, ?vd105), (106, ?vd106), (107, ?vd107), (108, ?vd108), (109, ?vd109), (110, ?vd110)] [95, 96, 97, 98, 99, 100, 101, 102, 103, 104, 105, 106, 107, 108, 109, 110] (by kernel_rfl) (by kernel_rfl) rfl (by kernel_rfl) ⟨b8, x8, p8, q8, s8, z0⟩ (fun w h => h) ?alld ?find
                  case alld =>
                    simp only [List.dropLast, fillA, Act.put, List.setIfInBounds_toArray, List.set_cons_zero, List.set_cons_succ]
                    iterate 16 (refine owes_cons (fun w hw K hK => ?_) ?_; focus ((have hS := Lib.hid hw); go_split_ands; go_simp; (try simp only [Act.put, List.setIfInBounds_toArray, List.set_cons_zero, List.set_cons_succ]); exact hK _ hS.out))
                    exact True.intro
                  case find =>
                    rintro w9 ⟨b9, x9, p9, q9', s9, _⟩
                    simp only [fillA, Act.put, List.setIfInBounds_toArray, List.set_cons_zero, List.set_cons_succ]
                    unfold wpOp
                    go_simp
                    refine .inl ?_
                    go_wp2_with fail
                    go_roundw
                    case rel => exact ⟨k2 + 1, true, by omega, rfl, by go_num, Lib.hid (⟨fun _ => ⟨k2, by omega, by rw [HXX.out]; exact c⟩, fun _ => rfl⟩), b9, x9, p9, q9', s9⟩
                    case measure => simp [intOf]; omega
                · have d7 : decide (T ≤ x) = false := by simpa using c
                  go_wp2_with fail
                  refine wp_region_fillL (fun w' => (∀ o : Nat, w'.cell? ⟨W.heap.size, o, none⟩ = (#[.slice A1 g.ins.length c1, .slice A2 g.nodes.length c2, .slice (some ⟨ob, oo, none⟩) g.outs.length c3] : Array Value)[o]?) ∧ (∀ o : Nat, w'.cell? ⟨P7, o, none⟩ = (#[.slice A1 g.ins.length c1, .slice A2 (g.nodes.length - 1) c2, .slice (some ⟨ob, oo, none⟩) g.outs.length c3] : Array Value)[o]?) ∧ Past W w' ∧ Past w5 w' ∧ P7 + 1 ≤ w'.heap.size ∧ w'.cell? ⟨ob, oo + k2, none⟩ = some (.int .i64 x)) [(95, ?ve95), (96, ?ve96), (97, ?ve97), (98, ?ve98), (99, ?ve99), (100, ?ve100), (101, ?ve101), (102, ?ve102), (103, ?ve103), (104, ?ve104), (105, ?ve105), (106, ?ve106), (107, ?ve107), (108, ?ve108), (109, ?ve109), (110, ?ve110)] [95, 96, 97, 98, 99, 100, 101, 102, 103, 104, 105, 106, 107, 108, 109, 110] (by kernel_rfl) (by kernel_rfl) rfl (by kernel_rfl) ⟨b8, x8, p8, q8, s8, z0⟩ (fun w h => h) ?alle ?fine
                  case alle =>
                    simp only [List.dropLast, fillA, Act.put, List.setIfInBounds_toArray, List.set_cons_zero, List.set_cons_succ]
                    iterate 16 (refine owes_cons (fun w hw K hK => ?_) ?_; focus ((have hS := Lib.hid hw); go_split_ands; go_simp; (try simp only [Act.put, List.setIfInBounds_toArray, List.set_cons_zero, List.set_cons_succ]); exact hK _ hS.out))
                    exact True.intro
                  case fine =>
                    rintro w9 ⟨b9, x9, p9, q9', s9, _⟩
                    simp only [fillA, Act.put, List.setIfInBounds_toArray, List.set_cons_zero, List.set_cons_succ]
                    unfold wpOp
                    go_simp
                    refine .inl ?_
                    go_wp2_with fail
                    go_roundw
                    case rel => exact ⟨k2 + 1, false, by omega, rfl, by go_num, Lib.hid (⟨fun f => (by cases f), fun ⟨j, j1, j2⟩ => by (by_cases cj : j = k2; (rw [cj, HXX.out] at j2; exact absurd j2 (by omega)); exact ht.out.mpr ⟨j, by omega, j2⟩)⟩), b9, x9, p9, q9', s9⟩
                    case measure => simp [intOf]; omega
            · have ke : k2 = g.outs.length := by omega
              have HT' := HT.out
              have sh := short_E E0.out
              have e7 : (shortD g).nodes.length = g.nodes.length - 1 := by simp [shortD]
              have HK2 : Hid (valuesE (shortD g) = if t = true then 13 else 0) := Lib.hid (by
                rw [sh, e7, HT', ← ke]
                by_cases ct : t = true
                · rw [if_pos ct, if_pos (ht.out.mp ct)]
                · rw [if_neg ct, if_neg (fun f => ct (ht.out.mpr f))])
              have HG : Hid (∀ w, Past wr w → IsGraph w (.agg #[.slice A1 g.ins.length c1, .slice A2 (g.nodes.length - 1) c2, .slice A3 g.outs.length c3]) (shortD g)) := Lib.hid (fun w p => by
                have p0 := (Q5.out.trans q8).trans p
                refine ⟨_, _, _, rfl, HI.out.grow p0, ?_, HO.out.grow p0⟩
                obtain ⟨A, cp, eA, a1, a2, a3, a4, a5⟩ := HN.out.grow p0
                obtain ⟨rfl, rfl⟩ : A2 = A ∧ c2 = cp := by simpa using eA
                refine ⟨A2, c2, by rw [e7], by rw [e7]; exact Nat.le_trans (Nat.sub_le _ _) a1, a2, a3, fun n hn => a4 n (List.mem_of_mem_take hn), fun hp => ?_⟩
                rw [e7] at hp
                obtain ⟨b', o', e', hb', hc'⟩ := a5 (Nat.lt_of_lt_of_le hp (Nat.sub_le _ _))
                refine ⟨b', o', e', hb', fun i hi => ?_⟩
                rw [e7] at hi
                have := hc' i (Nat.lt_of_lt_of_le hi (Nat.sub_le _ _))
                have e8 : (shortD g).nodes.getD i default = g.nodes.getD i default := by
                  show (g.nodes.take (g.nodes.length - 1)).getD i default = _
                  rw [List.getD_eq_getElem?_getD, List.getD_eq_getElem?_getD, List.getElem?_take_of_lt hi]
                rw [e8]
                exact this)
              have CK := Lib.hid (check_any (shortD g) _ wr (HG.out wr (Past.refl _)) (cut_short CU.out))
              clear ke HT' sh e7
              cases t with
              | true =>
                have CK2 : Hid (Calls Try.prog 19 #[.agg #[.slice A1 g.ins.length c1, .slice A2 (g.nodes.length - 1) c2, .slice A3 g.outs.length c3]] wr fun e w' => e = .returned (.int .i64 13) ∧ Past wr w') := Lib.hid (by have := CK.out; rw [HK2.out] at this; exact this)
                go_wp2_with fail
                refine CK2.out.mono ?_
                rintro e w9 ⟨rfl, p9⟩
                go_wp2_with fail
                go_ret
                exact ⟨rfl, p8.trans p9⟩
              | false =>
                have CK2 : Hid (Calls Try.prog 19 #[.agg #[.slice A1 g.ins.length c1, .slice A2 (g.nodes.length - 1) c2, .slice A3 g.outs.length c3]] wr fun e w' => e = .returned (.int .i64 0) ∧ Past wr w') := Lib.hid (by have := CK.out; rw [HK2.out] at this; exact this)
                go_wp2_with fail
                refine CK2.out.mono ?_
                rintro e w9 ⟨rfl, p9⟩
                go_wp2_with fail
                go_ret
                exact ⟨rfl, p8.trans p9⟩
end Go.Proofs.Ytpfenpfnflkfiaa
