/- The walk of GraphBounds. -/
import Derived.Test.YtpfenpfnflkfiaaM1
import Derived.Test.YtpfenpfnflkfiaaB1
import Derived.Deep.DeepCutAuto
namespace Go.Proofs.Ytpfenpfnflkfiaa
open Go.ChangeShapes Go.WideShapes Go.ChangeAt Go.RowKit
set_option maxRecDepth 20000
set_option linter.unusedVariables false

theorem Save.alloc {B : Nat} {w w' : World} (h : Save B w w') (x : Obj) : Save B w (w'.alloc x) :=
  ⟨by rw [World.size_alloc]; have := h.1; omega, fun k hk hne => (Below.heap_alloc w' x k (Nat.lt_of_lt_of_le hk h.1)).trans (h.2 k hk hne)⟩
theorem Save.grownBy {B : Nat} {w w' w'' : World} {row : Option Nat} (h : Save B w w') (g : w'.grownBy w'' row) (hr : ∀ k, row = some k → w.heap.size ≤ k) : Save B w w'' :=
  ⟨Nat.le_trans h.1 g.size, fun k hk hne => (g.block k (Nat.lt_of_lt_of_le hk h.1) (fun e => by have := hr k e.symm; omega)).trans (h.2 k hk hne)⟩
theorem free_grownBy {w w' : World} {row : Option Nat} {b : Nat} (g : w.grownBy w' row) (h : (∀ o : Nat, w.frozen? ⟨b, o, none⟩ = false)) (hb : b < w.heap.size) (hr : some b ≠ row) : (∀ o : Nat, w'.frozen? ⟨b, o, none⟩ = false) :=
  fun o => (World.frozen?_of_block (a := ⟨b, o, none⟩) (g.block b hb hr)).trans (h o)
theorem box_at0 {w : World} {b : Nat} {x0 x1 x2 y : Value} (h : (∀ o : Nat, w.cell? ⟨b, o, none⟩ = (#[x0, x1, x2] : Array Value)[o]?)) : (∀ o : Nat, (w.setCell ⟨b, 0, none⟩ y).cell? ⟨b, o, none⟩ = (#[y, x1, x2] : Array Value)[o]?) := by
  intro o
  match o with
  | 0 => exact World.cell?_setCell_same w _ _ (h 0)
  | k + 1 => rw [World.cell?_setCell_other _ _ _ _ (by simp)]; have := h (k + 1); simpa using this
theorem box_at1 {w : World} {b : Nat} {x0 x1 x2 y : Value} (h : (∀ o : Nat, w.cell? ⟨b, o, none⟩ = (#[x0, x1, x2] : Array Value)[o]?)) : (∀ o : Nat, (w.setCell ⟨b, 1, none⟩ y).cell? ⟨b, o, none⟩ = (#[x0, y, x2] : Array Value)[o]?) := by
  intro o
  match o with
  | 0 => rw [World.cell?_setCell_other _ _ _ _ (by simp)]; exact h 0
  | 1 => exact World.cell?_setCell_same w _ _ (h 1)
  | k + 2 => rw [World.cell?_setCell_other _ _ _ _ (by simp)]; have := h (k + 2); simpa using this
theorem box_at2 {w : World} {b : Nat} {x0 x1 x2 y : Value} (h : (∀ o : Nat, w.cell? ⟨b, o, none⟩ = (#[x0, x1, x2] : Array Value)[o]?)) : (∀ o : Nat, (w.setCell ⟨b, 2, none⟩ y).cell? ⟨b, o, none⟩ = (#[x0, x1, y] : Array Value)[o]?) := by
  intro o
  match o with
  | 0 => rw [World.cell?_setCell_other _ _ _ _ (by simp)]; exact h 0
  | 1 => rw [World.cell?_setCell_other _ _ _ _ (by simp)]; exact h 1
  | 2 => exact World.cell?_setCell_same w _ _ (h 2)
  | k + 3 => rw [World.cell?_setCell_other _ _ _ _ (by simp)]; have := h (k + 3); simpa using this

theorem info3 : (Try.prog.info? 3).map (fun i => (i.zero, i.size, i.bytes)) = some (some (.int .i64 0), 1, 8) := by kernel_rfl

theorem nums_of_own {w : World} {base : Nat} {v : Value} {xs : List Int} (ho : w.ownsRow base 3 1 v xs.length (xs.map (Value.int .i64))) (wf : ∀ x ∈ xs, (Lit.int .i64 x).wf = true) : IsNums .i64 w v xs := by
  obtain ⟨hl, h⟩ := ho
  rcases h with ⟨rfl, h0⟩ | ⟨b, cap, cur, rfl, hb, hg, hn, hm, hs, ht⟩
  · have : xs = [] := List.eq_nil_of_length_eq_zero h0
    subst this
    exact ⟨none, 0, rfl, Nat.le_refl _, Nat.zero_le _, fun _ => rfl, by simp, by simp⟩
  · refine ⟨some ⟨b, 0, none⟩, cap, rfl, hn, hm, (fun h => by cases h), wf, fun hp => ⟨b, 0, rfl, (Array.getElem?_eq_some_iff.1 hg).1, fun i hi => ?_⟩⟩
    have key : w.cell? ⟨b, 0 + i, none⟩ = (xs.map (Value.int .i64))[i]? := by
      rw [← ht, List.getElem?_take_of_lt (by omega)]
      simp [World.cell?, hg]
    rw [key]
    simp [List.getD, hi]

/-- The first k of the law's own nodes: each one's In is a block of its own, which holds a nought. -/
def Ins0 (P : Nat) (w : World) (k : Nat) (xs : List Value) : Prop :=
  ∀ j, j < k → ∃ nb, P < nb ∧ nb < w.heap.size ∧ w.cell? ⟨nb, 0, none⟩ = some (.int .i64 0) ∧ (xs.drop (j * 14)).take 14 = nodeCells reluN (.slice (some ⟨nb, 0, none⟩) 1 1) (.slice none 0 0) (.slice none 0 0)
theorem Ins0.keep {P : Nat} {w w' : World} {k : Nat} {xs : List Value} (h : Ins0 P w k xs) (hs : w.heap.size ≤ w'.heap.size) (hc : ∀ nb, 0 < k → P < nb → nb < w.heap.size → w.cell? ⟨nb, 0, none⟩ = some (.int .i64 0) → w'.cell? ⟨nb, 0, none⟩ = some (.int .i64 0)) : Ins0 P w' k xs := by
  intro j hj
  obtain ⟨nb, h1, h2, h3, h4⟩ := h j hj
  exact ⟨nb, h1, Nat.lt_of_lt_of_le h2 hs, hc nb (by omega) h1 h2 h3, h4⟩
theorem Ins0.more {P : Nat} {w : World} {k nb : Nat} {xs : List Value} (h : Ins0 P w k xs) (hl : xs.length = k * 14) (h1 : P < nb) (h2 : nb < w.heap.size) (h3 : w.cell? ⟨nb, 0, none⟩ = some (.int .i64 0)) : Ins0 P w (k + 1) (xs ++ nodeCells reluN (.slice (some ⟨nb, 0, none⟩) 1 1) (.slice none 0 0) (.slice none 0 0)) := by
  intro j hj
  by_cases c : j < k
  · obtain ⟨nb', k1, k2, k3, k4⟩ := h j c
    refine ⟨nb', k1, k2, k3, ?_⟩
    rw [List.drop_append_of_le_length (by omega), List.take_append_of_le_length (by rw [List.length_drop]; omega)]
    exact k4
  · obtain rfl : j = k := by omega
    refine ⟨nb, h1, h2, h3, ?_⟩
    rw [← hl, List.drop_left]
    rfl
theorem Ins0.first {P : Nat} {w : World} {k : Nat} {xs : List Value} (h : Ins0 P w k xs) (hk : 0 < k) : xs[0]? = some (.int .i64 8) := by
  obtain ⟨nb, _, _, _, h4⟩ := h 0 hk
  have := congrArg (fun l => l[0]?) h4
  simpa [nodeCells, reluN] using this
theorem nums_one0 {w : World} {nb : Nat} (h2 : nb < w.heap.size) (h3 : w.cell? ⟨nb, 0, none⟩ = some (.int .i64 0)) : IsNums .i64 w (.slice (some ⟨nb, 0, none⟩) 1 1) [0] :=
  ⟨some ⟨nb, 0, none⟩, 1, rfl, Nat.le_refl _, by decide, (fun h => by cases h), (by simp; decide), fun _ => ⟨nb, 0, rfl, h2, fun i hi => by
    simp only [List.length_cons, List.length_nil] at hi
    obtain rfl : i = 0 := by omega
    simpa using h3⟩⟩
theorem Ins0.rows {P : Nat} {w : World} {k : Nat} {xs : List Value} (h : Ins0 P w k xs) : Rows14 w (List.replicate k reluN) k xs := by
  intro j hj
  obtain ⟨nb, h1, h2, h3, h4⟩ := h j hj
  rw [repl_getD _ _ _ _ hj]
  exact ⟨_, _, _, ⟨nums_one0 h2 h3, nums_nil _ _, nums_nil _ _⟩, h4⟩
/-- An append to the law's own nodes leaves the Ins alone. -/
theorem Ins0.step {P : Nat} {w w' w'' : World} {base k : Nat} {v : Value} {xs : List Value} (h : Ins0 P w k xs) (ho : w.ownsRow base 28 14 v k xs) (hw : ∀ nb, nb < w.heap.size → w'.cell? ⟨nb, 0, none⟩ = w.cell? ⟨nb, 0, none⟩) (hs : w.heap.size ≤ w'.heap.size) (g : w'.grownBy w'' v.ownBlock) : Ins0 P w'' k xs := by
  refine h.keep (Nat.le_trans hs g.size) (fun nb hk h1 h2 h3 => ?_)
  have hne : some nb ≠ v.ownBlock := by
    intro e
    have c := World.ownsRow.cells ho e.symm 0 _ (h.first hk)
    rw [add_plain] at c
    rw [show (⟨nb, 0 + 0, none⟩ : Addr) = ⟨nb, 0, none⟩ from rfl, h3] at c
    cases c
  rw [World.cell?_of_block (a := ⟨nb, 0, none⟩) (g.block nb (Nat.lt_of_lt_of_le h2 hs) hne), hw nb h2]
  exact h3
theorem one_wf : ValWf oneV := by unfold ValWf; decide
theorem relu_wf : NodeWf reluN := by unfold NodeWf; decide
theorem bool_of0 {p : Prop} : ∃ t : Bool, (t = true ↔ p) := by
  rcases Classical.em p with h | h
  · exact ⟨true, by simp [h]⟩
  · exact ⟨false, by simp [h]⟩
theorem own_len {w : World} {base e size n : Nat} {v : Value} {xs : List Value} (h : w.ownsRow base e size v n xs) : xs.length = n * size := h.1

set_option maxHeartbeats 8000000 in
theorem bounds_walk (W : World) (x0 : Int) (v0 : (Lit.int .u8 x0).wf = true) (x1 : Int) (v1 : (Lit.int .u8 x1).wf = true) (x2 : Int) (v2 : (Lit.int .u8 x2).wf = true) : Calls Try.prog 9 #[.int .u8 x0, .int .u8 x1, .int .u8 x2] W fun e w' => e = .returned (.bool true) ∧ Past W w' := by
  obtain ⟨a, ha, la⟩ : ∃ a : Nat, bits .and .u8 x0 7 = (a : Int) ∧ a ≤ 7 := by
    have := mask_u8 x0 7 (by decide) (by decide)
    exact ⟨(bits .and .u8 x0 7).toNat, by omega, by omega⟩
  obtain ⟨b, hb, lb⟩ : ∃ a : Nat, bits .and .u8 x1 15 = (a : Int) ∧ a ≤ 15 := by
    have := mask_u8 x1 15 (by decide) (by decide)
    exact ⟨(bits .and .u8 x1 15).toNat, by omega, by omega⟩
  obtain ⟨c, hc, lc⟩ : ∃ a : Nat, bits .and .u8 x2 7 = (a : Int) ∧ a ≤ 7 := by
    have := mask_u8 x2 7 (by decide) (by decide)
    exact ⟨(bits .and .u8 x2 7).toNat, by omega, by omega⟩
  go_enter Try.func9, Try.ntmps9
  go_wp2_with fail
  refine (shown_any _).mono ?_
  rintro e w1 ⟨rfl, g1⟩
  have p1 : Past W w1 := Grown.past g1
  go_upto_region 5 with fail
  try simp only [ha, hb, hc]
  clear ha hb hc g1
  obtain ⟨P, hP⟩ : ∃ P, w1.heap.size = P := ⟨_, rfl⟩
  have QW : W.heap.size ≤ P := by have := p1.2.2.1; omega
  go_upto_region 6 with fail
  refine opq (fun w' => (∀ o : Nat, w'.cell? ⟨P, o, none⟩ = (#[.slice none 0 0, .slice none 0 0, .slice none 0 0] : Array Value)[o]?) ∧ (∀ o : Nat, w'.frozen? ⟨P, o, none⟩ = false) ∧ Past W w' ∧ P + 1 ≤ w'.heap.size) (by
    subst hP
    exact ⟨box_new rfl, by (((try dsimp only); (try go_split_ands); (repeat' with_reducible apply And.intro)) <;> ((repeat (first | (with_reducible assumption) | (with_reducible refine box_set ?_ (by first | (simp; done) | (dsimp only; omega) | (simp; omega))) | (with_reducible refine has_set ?_) | (with_reducible refine cell_set ?_ (by first | (simp; done) | (dsimp only; omega) | (simp; omega))) | (with_reducible refine free_set ?_) | (with_reducible refine size_set ?_) | (with_reducible refine Grown.setCell ?_ (by first | (simp; done) | (dsimp only; omega) | (simp; omega)) _) | (with_reducible refine Past.setCell ?_ (by first | (simp; done) | (dsimp only; omega) | (simp; omega)) _) | (with_reducible refine box_drewN ?_) | (with_reducible refine has_drewN ?_) | (with_reducible refine cell_drewN ?_) | (with_reducible refine free_drewN ?_) | (with_reducible refine size_drewN ?_) | (with_reducible refine Grown.drewN ?_) | (with_reducible refine Past.drewN ?_) | (with_reducible refine box_drew ?_) | (with_reducible refine has_drew ?_) | (with_reducible refine cell_drew ?_) | (with_reducible refine free_drew ?_) | (with_reducible refine size_drew ?_) | (with_reducible refine Grown.drew ?_) | (with_reducible refine Past.drew ?_) | (with_reducible refine box_new (by first | omega | (simp; done) | (simp; omega))) | (with_reducible refine box_old ?_ (by first | omega | (simp; done) | (simp; omega))) | (with_reducible refine has_alloc ?_ (by first | omega | (simp; done) | (simp; omega))) | (with_reducible refine cell_alloc ?_ (by first | omega | (simp; done) | (simp; omega))) | (with_reducible refine free_alloc ?_) | (with_reducible refine size_alloc2 True.intro (by simp only [World.size_alloc]; omega)) | (with_reducible refine Grown.alloc ?_ _ _) | (with_reducible refine Past.alloc ?_ _) | (with_reducible refine box_grown (by with_reducible assumption) (by with_reducible assumption) (by first | omega | (dsimp only; omega))) | (with_reducible refine has_grown (by with_reducible assumption) (by with_reducible assumption) (by first | omega | (dsimp only; omega))) | (with_reducible refine cell_grown (by with_reducible assumption) (by with_reducible assumption) (by first | omega | (dsimp only; omega))) | (with_reducible refine size_grown (by with_reducible assumption) (by with_reducible assumption)) | (with_reducible refine free_grown (by with_reducible assumption) (by with_reducible assumption)) | (with_reducible refine grown_trans' (by with_reducible assumption) (by with_reducible assumption)) | (with_reducible refine box_past (by with_reducible assumption) (by with_reducible assumption) (by first | omega | (dsimp only; omega))) | (with_reducible refine has_past (by with_reducible assumption) (by with_reducible assumption) (by first | omega | (dsimp only; omega))) | (with_reducible refine cell_past (by with_reducible assumption) (by with_reducible assumption) (by first | omega | (dsimp only; omega))) | (with_reducible refine free_past (by with_reducible assumption) (by with_reducible assumption) (by first | omega | (dsimp only; omega))) | (with_reducible refine size_past (by with_reducible assumption) (by with_reducible assumption)) | (with_reducible refine past_trans (by with_reducible assumption) (by with_reducible assumption)) | (with_reducible refine free_new (by first | omega | (simp; done) | (simp; omega))) | (with_reducible refine Grown.past ?_) | (with_reducible exact Grown.refl _) | (with_reducible exact Past.refl _) | (simp only [World.size_alloc]; omega) | omega)); done)), by (((try dsimp only); (try go_split_ands); (repeat' with_reducible apply And.intro)) <;> ((repeat (first | (with_reducible assumption) | (with_reducible refine box_set ?_ (by first | (simp; done) | (dsimp only; omega) | (simp; omega))) | (with_reducible refine has_set ?_) | (with_reducible refine cell_set ?_ (by first | (simp; done) | (dsimp only; omega) | (simp; omega))) | (with_reducible refine free_set ?_) | (with_reducible refine size_set ?_) | (with_reducible refine Grown.setCell ?_ (by first | (simp; done) | (dsimp only; omega) | (simp; omega)) _) | (with_reducible refine Past.setCell ?_ (by first | (simp; done) | (dsimp only; omega) | (simp; omega)) _) | (with_reducible refine box_drewN ?_) | (with_reducible refine has_drewN ?_) | (with_reducible refine cell_drewN ?_) | (with_reducible refine free_drewN ?_) | (with_reducible refine size_drewN ?_) | (with_reducible refine Grown.drewN ?_) | (with_reducible refine Past.drewN ?_) | (with_reducible refine box_drew ?_) | (with_reducible refine has_drew ?_) | (with_reducible refine cell_drew ?_) | (with_reducible refine free_drew ?_) | (with_reducible refine size_drew ?_) | (with_reducible refine Grown.drew ?_) | (with_reducible refine Past.drew ?_) | (with_reducible refine box_new (by first | omega | (simp; done) | (simp; omega))) | (with_reducible refine box_old ?_ (by first | omega | (simp; done) | (simp; omega))) | (with_reducible refine has_alloc ?_ (by first | omega | (simp; done) | (simp; omega))) | (with_reducible refine cell_alloc ?_ (by first | omega | (simp; done) | (simp; omega))) | (with_reducible refine free_alloc ?_) | (with_reducible refine size_alloc2 True.intro (by simp only [World.size_alloc]; omega)) | (with_reducible refine Grown.alloc ?_ _ _) | (with_reducible refine Past.alloc ?_ _) | (with_reducible refine box_grown (by with_reducible assumption) (by with_reducible assumption) (by first | omega | (dsimp only; omega))) | (with_reducible refine has_grown (by with_reducible assumption) (by with_reducible assumption) (by first | omega | (dsimp only; omega))) | (with_reducible refine cell_grown (by with_reducible assumption) (by with_reducible assumption) (by first | omega | (dsimp only; omega))) | (with_reducible refine size_grown (by with_reducible assumption) (by with_reducible assumption)) | (with_reducible refine free_grown (by with_reducible assumption) (by with_reducible assumption)) | (with_reducible refine grown_trans' (by with_reducible assumption) (by with_reducible assumption)) | (with_reducible refine box_past (by with_reducible assumption) (by with_reducible assumption) (by first | omega | (dsimp only; omega))) | (with_reducible refine has_past (by with_reducible assumption) (by with_reducible assumption) (by first | omega | (dsimp only; omega))) | (with_reducible refine cell_past (by with_reducible assumption) (by with_reducible assumption) (by first | omega | (dsimp only; omega))) | (with_reducible refine free_past (by with_reducible assumption) (by with_reducible assumption) (by first | omega | (dsimp only; omega))) | (with_reducible refine size_past (by with_reducible assumption) (by with_reducible assumption)) | (with_reducible refine past_trans (by with_reducible assumption) (by with_reducible assumption)) | (with_reducible refine free_new (by first | omega | (simp; done) | (simp; omega))) | (with_reducible refine Grown.past ?_) | (with_reducible exact Grown.refl _) | (with_reducible exact Past.refl _) | (simp only [World.size_alloc]; omega) | omega)); done)), by (((try dsimp only); (try go_split_ands); (repeat' with_reducible apply And.intro)) <;> ((repeat (first | (with_reducible assumption) | (with_reducible refine box_set ?_ (by first | (simp; done) | (dsimp only; omega) | (simp; omega))) | (with_reducible refine has_set ?_) | (with_reducible refine cell_set ?_ (by first | (simp; done) | (dsimp only; omega) | (simp; omega))) | (with_reducible refine free_set ?_) | (with_reducible refine size_set ?_) | (with_reducible refine Grown.setCell ?_ (by first | (simp; done) | (dsimp only; omega) | (simp; omega)) _) | (with_reducible refine Past.setCell ?_ (by first | (simp; done) | (dsimp only; omega) | (simp; omega)) _) | (with_reducible refine box_drewN ?_) | (with_reducible refine has_drewN ?_) | (with_reducible refine cell_drewN ?_) | (with_reducible refine free_drewN ?_) | (with_reducible refine size_drewN ?_) | (with_reducible refine Grown.drewN ?_) | (with_reducible refine Past.drewN ?_) | (with_reducible refine box_drew ?_) | (with_reducible refine has_drew ?_) | (with_reducible refine cell_drew ?_) | (with_reducible refine free_drew ?_) | (with_reducible refine size_drew ?_) | (with_reducible refine Grown.drew ?_) | (with_reducible refine Past.drew ?_) | (with_reducible refine box_new (by first | omega | (simp; done) | (simp; omega))) | (with_reducible refine box_old ?_ (by first | omega | (simp; done) | (simp; omega))) | (with_reducible refine has_alloc ?_ (by first | omega | (simp; done) | (simp; omega))) | (with_reducible refine cell_alloc ?_ (by first | omega | (simp; done) | (simp; omega))) | (with_reducible refine free_alloc ?_) | (with_reducible refine size_alloc2 True.intro (by simp only [World.size_alloc]; omega)) | (with_reducible refine Grown.alloc ?_ _ _) | (with_reducible refine Past.alloc ?_ _) | (with_reducible refine box_grown (by with_reducible assumption) (by with_reducible assumption) (by first | omega | (dsimp only; omega))) | (with_reducible refine has_grown (by with_reducible assumption) (by with_reducible assumption) (by first | omega | (dsimp only; omega))) | (with_reducible refine cell_grown (by with_reducible assumption) (by with_reducible assumption) (by first | omega | (dsimp only; omega))) | (with_reducible refine size_grown (by with_reducible assumption) (by with_reducible assumption)) | (with_reducible refine free_grown (by with_reducible assumption) (by with_reducible assumption)) | (with_reducible refine grown_trans' (by with_reducible assumption) (by with_reducible assumption)) | (with_reducible refine box_past (by with_reducible assumption) (by with_reducible assumption) (by first | omega | (dsimp only; omega))) | (with_reducible refine has_past (by with_reducible assumption) (by with_reducible assumption) (by first | omega | (dsimp only; omega))) | (with_reducible refine cell_past (by with_reducible assumption) (by with_reducible assumption) (by first | omega | (dsimp only; omega))) | (with_reducible refine free_past (by with_reducible assumption) (by with_reducible assumption) (by first | omega | (dsimp only; omega))) | (with_reducible refine size_past (by with_reducible assumption) (by with_reducible assumption)) | (with_reducible refine past_trans (by with_reducible assumption) (by with_reducible assumption)) | (with_reducible refine free_new (by first | omega | (simp; done) | (simp; omega))) | (with_reducible refine Grown.past ?_) | (with_reducible exact Grown.refl _) | (with_reducible exact Past.refl _) | (simp only [World.size_alloc]; omega) | omega)); done))⟩) ?_
  rintro w2 ⟨b2, f2, p2, s2⟩
  clear p1 hP
  obtain ⟨i0, hi0, hz0, hz1, hz2⟩ := info_parts info32
  have I1 := Lib.hid hi0
  have I2 := Lib.hid hz0
  have I3 := Lib.hid hz1
  have I4 := Lib.hid hz2
  clear hi0 hz0 hz1 hz2
  go_wp2_with fail
  go_loopw [12] (fun i wr => ∃ (k : Nat) (v : Value), k ≤ a ∧ i = .int .i64 k ∧ (∀ o : Nat, wr.cell? ⟨P, o, none⟩ = (#[v, .slice none 0 0, .slice none 0 0] : Array Value)[o]?) ∧ (∀ o : Nat, wr.frozen? ⟨P, o, none⟩ = false) ∧ Hid (OwnVals wr (P + 1) v (List.replicate k oneV)) ∧ Past W wr ∧ P + 1 ≤ wr.heap.size) (fun i _ => a - (intOf i).toNat)
  case atStart => exact ⟨0, _, by omega, rfl, b2, f2, Lib.hid (World.ownsRow_nil _ _ _ _), p2, s2⟩
  case round =>
    clear b2 f2 p2 s2
    obtain ⟨k, v, hk, rfl, b3, f3, own, p3, s3⟩ := hrel
    obtain ⟨A, cp, hv, l1, l2⟩ := own_slice' own.out
    rw [List.length_replicate] at hv l1
    subst hv
    by_cases h : k < a
    · have i1 : (0 : Int) ≤ (k : Int) := by omega
      have i2 : (k : Int) < (a : Int) := by omega
      have HLT := Lib.hid (World.ownsRow.lt own.out)
      have n3 : P < wr.heap.size := by omega
      go_wp2_with (at_builtin; refine wpList_append_own _ rfl (.tmp 35) (.tmp 38) 29 rfl (P + 1) 32 i0 _ 4 32 Try.underlying29 I1.out I2.out I3.out I4.out rfl (by decide) _ _ _ rfl (World.ownsRow.alloc (by have := own.out; unfold OwnVals at this; rw [List.length_replicate] at this; exact this) _) ⟨wr.heap.size, 0, none⟩ 1 1 (valCells oneV) rfl rfl (fun j u hu => cells_new' wr _ 32 j u hu) (val_one oneV) ?c4 ?c5 ?c6 ?_)
      case c4 => unfold maxLen; omega
      case c5 => omega
      case c6 => simp; omega
      intro v8 w8 hown8 hgrow _
      obtain ⟨A8, c8, rfl, l3, l4⟩ := own_slice' hown8
      have b4 := box_grownBy hgrow (box_old (x := .cells (valCells oneV).toArray 32) b3 n3) (by simp; omega) (fun e => by have := (HLT.out _ e.symm).1; omega)
      have f4 := free_grownBy hgrow (free_alloc (cs := (valCells oneV).toArray) (t := 32) f3) (by simp; omega) (fun e => by have := (HLT.out _ e.symm).1; omega)
      have p4 : Past W w8 := (p3.alloc _).grownBy hgrow (fun j hj => by have := (HLT.out j hj).1; omega)
      have s4 : P + 1 ≤ w8.heap.size := by have := hgrow.size; simp at this; omega
      have own8 : Hid (OwnVals w8 (P + 1) (.slice A8 (k + 1) c8) (List.replicate (k + 1) oneV)) := Lib.hid (by
        unfold OwnVals
        rw [List.replicate_succ', valsCells_snoc]
        simp only [List.length_append, List.length_cons, List.length_nil, List.length_replicate]
        exact hown8)
      clear hown8 hgrow b3 f3 p3 s3 own HLT n3
      go_wp2_with fail
      go_roundw
      case rel => exact ⟨k + 1, _, by omega, by go_num, box_at0 b4, free_set f4, Lib.hid (ownsRow_setCell_below own8.out (by dsimp only; omega) _), p4.setCell (by dsimp only; omega) _, size_set s4⟩
      case measure => simp [intOf]; omega
    · obtain rfl : k = a := by omega
      have IV : IsVals wr (.slice A k cp) (List.replicate k oneV) := vals_of_own own.out (fun x hx => by rw [List.eq_of_mem_replicate hx]; exact one_wf)
      refine opq (fun w' => (∀ o : Nat, w'.cell? ⟨P, o, none⟩ = (#[.slice A k cp, .slice none 0 0, .slice none 0 0] : Array Value)[o]?) ∧ (∀ o : Nat, w'.frozen? ⟨P, o, none⟩ = false) ∧ Past W w' ∧ P + 1 ≤ w'.heap.size ∧ Hid (IsVals w' (.slice A k cp) (List.replicate k oneV))) ⟨b3, f3, p3, s3, Lib.hid IV⟩ ?_
      rintro w5 ⟨b5, f5, p5, s5, IV5⟩
      clear b3 f3 p3 s3 own IV I1 I2 I3 I4
      obtain ⟨i1, hi1, hz3, hz4, hz5⟩ := info_parts info28
      have I1 := Lib.hid hi1
      have I2 := Lib.hid hz3
      have I3 := Lib.hid hz4
      have I4 := Lib.hid hz5
      clear hi1 hz3 hz4 hz5
      go_wp2_with fail
      go_loopw [13] (fun i wr => ∃ (m : Nat) (v : Value) (xs : List Value), m ≤ b ∧ i = .int .i64 m ∧ (∀ o : Nat, wr.cell? ⟨P, o, none⟩ = (#[.slice A k cp, v, .slice none 0 0] : Array Value)[o]?) ∧ (∀ o : Nat, wr.frozen? ⟨P, o, none⟩ = false) ∧ Hid (wr.ownsRow w5.heap.size 28 14 v m xs) ∧ Hid (Ins0 P wr m xs) ∧ Save P w5 wr ∧ Past W wr ∧ P + 1 ≤ wr.heap.size) (fun i _ => b - (intOf i).toNat)
      case atStart => exact ⟨0, _, [], by omega, rfl, b5, f5, Lib.hid (World.ownsRow_nil _ _ _ _), Lib.hid (fun j hj => by omega), Save.refl _ _, p5, s5⟩
      case round =>
        obtain ⟨m, v, xs, hm, rfl, b6, f6, own, ins, sv, p6, s6⟩ := hrel
        obtain ⟨A1, cq, hv, l3, l4⟩ := own_slice' own.out
        subst hv
        by_cases h2 : m < b
        · have i1' : (0 : Int) ≤ (m : Int) := by omega
          have i2' : (m : Int) < (b : Int) := by omega
          have HLT := Lib.hid (World.ownsRow.lt own.out)
          have n3 : P < wr.heap.size := by omega
          have q5 : w5.heap.size ≤ wr.heap.size := sv.1
          go_wp2_with (at_builtin; go_loud (refine wpList_append_own _ rfl (.tmp 47) (.tmp 50) 38 rfl w5.heap.size 28 i1 _ 14 160 Try.underlying38 I1.out I2.out I3.out I4.out rfl (by decide) _ _ _ rfl (World.ownsRow.alloc (World.ownsRow.alloc own.out _) _) ⟨wr.heap.size + 1, 0, none⟩ 1 1 (nodeCells reluN (.slice (some ⟨wr.heap.size, 0, none⟩) 1 1) (.slice none 0 0) (.slice none 0 0)) rfl rfl (fun j u hu => by have := cells_new (wr.alloc (.cells #[.int .i64 0] 3)) _ 28 j u hu; (rw [World.size_alloc] at this); exact this) ?c3 ?c4 ?c5 ?c6 ?_))
          case c3 =>
            intro u hu
            simp only [nodeCells, List.mem_cons, List.not_mem_nil, or_false] at hu
            rcases hu with rfl | rfl | rfl | rfl | rfl | rfl | rfl | rfl | rfl | rfl | rfl | rfl | rfl | rfl <;> rfl
          case c4 => unfold maxLen; omega
          case c5 => omega
          case c6 => simp; omega
          intro v8 w8 hown8 hgrow _
          obtain ⟨A8, c8, rfl, l5, l6⟩ := own_slice' hown8
          have ne8 : ∀ j, j < w5.heap.size → some j ≠ (Value.slice A1 m cq).ownBlock := fun j hj e => by have := (HLT.out j e.symm).1; omega
          have P5 : P < w5.heap.size := by omega
          have b7 := box_grownBy hgrow (box_old (x := .cells #[.int .i64 8, .slice (some ⟨wr.heap.size, 0, none⟩) 1 1, .int .i64 0, .int .i64 0, .int .i64 0, .int .i64 0, .int .i64 1, .int .i64 0, .int .i64 0, .int .i64 0, .int .i64 0, .int .i64 0, .slice none 0 0, .slice none 0 0] 28) (box_old (x := .cells #[.int .i64 0] 3) b6 n3) (by simp; omega)) (by simp; omega) (ne8 P P5)
          have f7 := free_grownBy hgrow (free_alloc (cs := #[.int .i64 8, .slice (some ⟨wr.heap.size, 0, none⟩) 1 1, .int .i64 0, .int .i64 0, .int .i64 0, .int .i64 0, .int .i64 1, .int .i64 0, .int .i64 0, .int .i64 0, .int .i64 0, .int .i64 0, .slice none 0 0, .slice none 0 0]) (t := 28) (free_alloc (cs := #[.int .i64 0]) (t := 3) f6)) (by simp; omega) (ne8 P P5)
          have p7 : Past W w8 := ((p6.alloc _).alloc _).grownBy hgrow (fun j hj => by have := (HLT.out j hj).1; omega)
          have s7 : P + 1 ≤ w8.heap.size := by have := hgrow.size; simp at this; omega
          have sv7 : Save P w5 w8 := ((sv.alloc _).alloc _).grownBy hgrow (fun j hj => (HLT.out j hj).1)
          have c7 : w8.cell? ⟨wr.heap.size, 0, none⟩ = some (.int .i64 0) := by
            have e0 : some wr.heap.size ≠ (Value.slice A1 m cq).ownBlock := fun e => by have := (HLT.out _ e.symm).2; omega
            rw [World.cell?_of_block (a := ⟨wr.heap.size, 0, none⟩) (hgrow.block _ (by simp; omega) e0), World.cell?_alloc_lt _ _ _ (by simp)]
            exact box_new rfl 0
          have ins7 : Hid (Ins0 P w8 (m + 1) (xs ++ nodeCells reluN (.slice (some ⟨wr.heap.size, 0, none⟩) 1 1) (.slice none 0 0) (.slice none 0 0))) := Lib.hid ((ins.out.step own.out (fun nb hnb => by rw [World.cell?_alloc_lt _ _ _ (by simp; omega), World.cell?_alloc_lt _ _ _ hnb]) (by simp; omega) hgrow).more (own_len own.out) n3 (by have := hgrow.size; simp at this; omega) c7)
          have own7 := Lib.hid hown8
          clear hown8 hgrow b6 f6 p6 s6 own ins sv HLT n3 c7 ne8
          go_wp2_with fail
          go_roundw
          case rel => exact ⟨m + 1, _, _, by omega, by go_num, box_at1 b7, free_set f7, Lib.hid (ownsRow_setCell_below own7.out P5 _), Lib.hid (ins7.out.keep (by simp [World.setCell]) (fun nb _ h1 _ h3 => by rw [World.cell?_setCell_other _ _ _ _ (by first | (simp; done) | (simp; omega))]; exact h3)), sv7.set _ _, p7.setCell (by dsimp only; omega) _, size_set s7⟩
          case measure => simp [intOf]; omega
        · obtain rfl : m = b := by omega
          have IN : IsNodes wr (.slice A1 m cq) (List.replicate m reluN) := nodes_of_own (w0 := wr) (by have := own.out; rw [List.length_replicate]; exact this) (by rw [List.length_replicate]; exact ins.out.rows) (Past.refl _) (fun x hx => by rw [List.eq_of_mem_replicate hx]; exact relu_wf)
          refine opq (fun w' => (∀ o : Nat, w'.cell? ⟨P, o, none⟩ = (#[.slice A k cp, .slice A1 m cq, .slice none 0 0] : Array Value)[o]?) ∧ (∀ o : Nat, w'.frozen? ⟨P, o, none⟩ = false) ∧ Past W w' ∧ P + 1 ≤ w'.heap.size ∧ Hid (IsVals w' (.slice A k cp) (List.replicate k oneV)) ∧ Hid (IsNodes w' (.slice A1 m cq) (List.replicate m reluN))) ⟨b6, f6, p6, s6, Lib.hid (vals_save IV5.out (noInt_box b5) sv), Lib.hid IN⟩ ?_
          rintro w6 ⟨b7, f7, p7, s7, IV6, IN6⟩
          clear b6 f6 p6 s6 own ins sv IN b5 f5 p5 s5 IV5 I1 I2 I3 I4
          obtain ⟨i2, hi2, hz3, hz4, hz5⟩ := info_parts info3
          have I1 := Lib.hid hi2
          have I2 := Lib.hid hz3
          have I3 := Lib.hid hz4
          have I4 := Lib.hid hz5
          clear hi2 hz3 hz4 hz5
          go_wp2_with fail
          go_loopw [14] (fun i wr => ∃ (n : Nat) (v : Value), n ≤ c ∧ i = .int .i64 n ∧ (∀ o : Nat, wr.cell? ⟨P, o, none⟩ = (#[.slice A k cp, .slice A1 m cq, v] : Array Value)[o]?) ∧ (∀ o : Nat, wr.frozen? ⟨P, o, none⟩ = false) ∧ Hid (wr.ownsRow w6.heap.size 3 1 v n ((List.replicate n (0 : Int)).map (Value.int .i64))) ∧ Save P w6 wr ∧ Past W wr ∧ P + 1 ≤ wr.heap.size) (fun i _ => c - (intOf i).toNat)
          case atStart => exact ⟨0, _, by omega, rfl, b7, f7, Lib.hid (World.ownsRow_nil _ _ _ _), Save.refl _ _, p7, s7⟩
          case round =>
            obtain ⟨n, v, hn, rfl, b8, f8, own, sv, p8, s8⟩ := hrel
            obtain ⟨A2, cr, hv, l5, l6⟩ := own_slice' own.out
            subst hv
            by_cases h3 : n < c
            · have i1' : (0 : Int) ≤ (n : Int) := by omega
              have i2' : (n : Int) < (c : Int) := by omega
              have HLT := Lib.hid (World.ownsRow.lt own.out)
              have n3 : P < wr.heap.size := by omega
              have q5 : w6.heap.size ≤ wr.heap.size := sv.1
              go_wp2_with (at_builtin; go_loud (refine wpList_append_own _ rfl (.tmp 59) (.tmp 60) 22 rfl w6.heap.size 3 i2 _ 1 8 Try.underlying22 I1.out I2.out I3.out I4.out rfl (by decide) _ _ _ rfl (World.ownsRow.alloc own.out _) ⟨wr.heap.size, 0, none⟩ 1 1 [.int .i64 0] rfl rfl (fun j u hu => cells_new wr _ 3 j u hu) ?c3 ?c4 ?c5 ?c6 ?_))
              case c3 =>
                intro u hu
                simp only [List.mem_cons, List.not_mem_nil, or_false] at hu
                subst hu
                rfl
              case c4 => unfold maxLen; omega
              case c5 => omega
              case c6 => simp; omega
              intro v8 w8 hown8 hgrow _
              obtain ⟨A8, c8, rfl, l7, l8⟩ := own_slice' hown8
              have P5 : P < w6.heap.size := by omega
              have ne8 : some P ≠ (Value.slice A2 n cr).ownBlock := fun e => by have := (HLT.out P e.symm).1; omega
              have b9 := box_grownBy hgrow (box_old (x := .cells #[.int .i64 0] 3) b8 n3) (by simp; omega) ne8
              have f9 := free_grownBy hgrow (free_alloc (cs := #[.int .i64 0]) (t := 3) f8) (by simp; omega) ne8
              have p9 : Past W w8 := (p8.alloc _).grownBy hgrow (fun j hj => by have := (HLT.out j hj).1; omega)
              have s9 : P + 1 ≤ w8.heap.size := by have := hgrow.size; simp at this; omega
              have sv9 : Save P w6 w8 := (sv.alloc _).grownBy hgrow (fun j hj => (HLT.out j hj).1)
              have own9 : Hid (w8.ownsRow w6.heap.size 3 1 (.slice A8 (n + 1) c8) (n + 1) ((List.replicate (n + 1) (0 : Int)).map (Value.int .i64))) := Lib.hid (by
                rw [List.replicate_succ', List.map_append, List.map_replicate]
                exact hown8)
              clear hown8 hgrow b8 f8 p8 s8 own sv HLT n3 ne8
              go_wp2_with fail
              go_roundw
              case rel => exact ⟨n + 1, _, by omega, by go_num, box_at2 b9, free_set f9, Lib.hid (ownsRow_setCell_below own9.out P5 _), sv9.set _ _, p9.setCell (by dsimp only; omega) _, size_set s9⟩
              case measure => simp [intOf]; omega
            · obtain rfl : n = c := by omega
              have IO : IsNums .i64 wr (.slice A2 n cr) (List.replicate n 0) := nums_of_own (by have := own.out; rw [List.length_replicate]; exact this) (fun x hx => by rw [List.eq_of_mem_replicate hx]; decide)
              refine opq (fun w' => (∀ o : Nat, w'.cell? ⟨P, o, none⟩ = (#[.slice A k cp, .slice A1 m cq, .slice A2 n cr] : Array Value)[o]?) ∧ Past W w' ∧ Hid (IsGraph w' (.agg #[.slice A k cp, .slice A1 m cq, .slice A2 n cr]) (boundG k m n))) ⟨b8, p8, Lib.hid ⟨_, _, _, rfl, vals_save IV6.out (noInt_box b7) sv, nodes_save IN6.out (noInt_box b7) sv, IO⟩⟩ ?_
              rintro w7 ⟨b9, p9, HG⟩
              clear b8 f8 p8 s8 own sv IO b7 f7 p7 s7 IV6 IN6 I1 I2 I3 I4
              obtain ⟨z, hz⟩ := bool_of0 (p := k = 0 ∨ n = 0)
              obtain ⟨y, hy⟩ := bool_of0 (p := 4 < k ∨ 12 < m ∨ 4 < n)
              obtain ⟨E, hE⟩ : ∃ E, valuesE (boundG k m n) = E := ⟨_, rfl⟩
              have HE : Hid (E = if y = true then 3 else if z = true then 13 else 0) := Lib.hid (by
                rw [← hE, bound_E]
                by_cases c1 : 4 < k ∨ 12 < m ∨ 4 < n
                · rw [if_pos c1, if_pos (hy.mpr c1)]
                · rw [if_neg c1, if_neg (fun f => c1 (hy.mp f))]
                  by_cases c2 : k = 0 ∨ n = 0
                  · rw [if_pos c2, if_pos (hz.mpr c2)]
                  · rw [if_neg c2, if_neg (fun f => c2 (hz.mp f))])
              have HV := Lib.hid (values_any (boundG k m n) _ w7 HG.out ⟨by simp [boundG]; omega, fun x hx => by
                have := List.eq_of_mem_replicate hx
                subst this
                exact ⟨by simp [reluN], by simp [reluN]⟩⟩)
              have HL := Lib.hid (bound_L k m n)
              have HEE := Lib.hid hE
              have Hz := Lib.hid hz
              have Hy := Lib.hid hy
              clear hz hy hE HG
              go_upto_region 19 with fail
              go_cut [68] (fun q w' => q = .bool z ∧ w' = w7)
              case first =>
                cases e1 : ((k : Int) == 0) with
                | true =>
                  obtain rfl : z = true := Hz.out.mpr (.inl (by have := beq_iff_eq.mp e1; omega))
                  go_wp2_with fail
                  go_meet
                  exact ⟨rfl, rfl⟩
                | false =>
                  cases e2 : ((n : Int) == 0) with
                  | true =>
                    obtain rfl : z = true := Hz.out.mpr (.inr (by have := beq_iff_eq.mp e2; omega))
                    go_wp2_with fail
                    go_meet
                    exact ⟨rfl, rfl⟩
                  | false =>
                    obtain rfl : z = false := Bool.eq_false_iff.mpr (fun h => by
                      have k1 : ¬ (k : Int) = 0 := by simpa using e1
                      have k2 : ¬ (n : Int) = 0 := by simpa using e2
                      have := Hz.out.mp h
                      omega)
                    go_wp2_with fail
                    go_meet
                    exact ⟨rfl, rfl⟩
              case rest =>
                obtain ⟨rfl, rfl⟩ := hcut
                obtain ⟨F, hF⟩ : ∃ F : Int, F = if z = true then 13 else 0 := ⟨_, rfl⟩
                have HF := Lib.hid hF
                clear hF
                go_upto_if 68 with fail
                go_cut [15] (fun q w' => q = .int .i64 F ∧ w' = wc)
                case first =>
                  cases z with
                  | true =>
                    obtain rfl : F = 13 := HF.out
                    go_wp2_with fail
                    go_meet
                    exact ⟨rfl, rfl⟩
                  | false =>
                    obtain rfl : F = 0 := HF.out
                    go_wp2_with fail
                    go_meet
                    exact ⟨rfl, rfl⟩
                case rest =>
                  obtain ⟨rfl, rfl⟩ := hcut
                  go_upto_region 21 with fail
                  go_cut [78] (fun q w' => q = .bool y ∧ w' = wc)
                  case first =>
                    cases e1 : decide ((4 : Int) < (k : Int)) with
                    | true =>
                      obtain rfl : y = true := Hy.out.mpr (.inl (by have := of_decide_eq_true e1; omega))
                      go_wp2_with fail
                      go_meet
                      exact ⟨rfl, rfl⟩
                    | false =>
                      cases e2 : decide ((12 : Int) < (m : Int)) with
                      | true =>
                        obtain rfl : y = true := Hy.out.mpr (.inr (.inl (by have := of_decide_eq_true e2; omega)))
                        go_wp2_with fail
                        go_meet
                        exact ⟨rfl, rfl⟩
                      | false =>
                        cases e3 : decide ((4 : Int) < (n : Int)) with
                        | true =>
                          obtain rfl : y = true := Hy.out.mpr (.inr (.inr (by have := of_decide_eq_true e3; omega)))
                          go_wp2_with fail
                          go_meet
                          exact ⟨rfl, rfl⟩
                        | false =>
                          obtain rfl : y = false := Bool.eq_false_iff.mpr (fun h => by
                            have k1 := of_decide_eq_false e1
                            have k2 := of_decide_eq_false e2
                            have k3 := of_decide_eq_false e3
                            have := Hy.out.mp h
                            omega)
                          go_wp2_with fail
                          go_meet
                          exact ⟨rfl, rfl⟩
                  case rest =>
                    obtain ⟨rfl, rfl⟩ := hcut
                    go_upto_if 78 with fail
                    go_cut [15] (fun q w' => q = .int .i64 E ∧ w' = wc)
                    case first =>
                      have HE2 : Hid (E = if y = true then 3 else F) := Lib.hid (by rw [HE.out, HF.out])
                      cases y with
                      | true =>
                        obtain rfl : E = 3 := HE2.out
                        go_wp2_with fail
                        go_meet
                        exact ⟨rfl, rfl⟩
                      | false =>
                        obtain rfl : E = F := HE2.out
                        go_wp2_with fail
                        go_meet
                        exact ⟨rfl, rfl⟩
                    case rest =>
                      obtain ⟨rfl, rfl⟩ := hcut
                      go_wp2_with fail
                      refine HV.out.mono ?_
                      rintro e w8 ⟨v, rfl, hl, q8⟩
                      obtain ⟨AL, cl, rfl, _, m2, _, _, _⟩ := hl
                      have m4 : (valuesL (boundG k m n)).length ≤ 9223372036854775807 := by unfold maxLen at m2; omega
                      obtain ⟨L, hL⟩ : ∃ L, valuesL (boundG k m n) = L := ⟨_, rfl⟩
                      rw [hL] at m4 HL ⊢
                      rw [HEE.out] at HL ⊢
                      have p10 := p9.trans q8
                      clear hL m2 q8
                      cases e0 : (E == 0) with
                      | true =>
                        have d1 : (E != 0) = false := by simp [bne, e0]
                        have d2 : ((L.length : Int) == (k : Int) + (m : Int)) = true := by
                          have := HL.out.1 (by simpa using e0)
                          rw [beq_iff_eq]
                          omega
                        go_wp2_with fail
                        go_ret
                        exact ⟨rfl, p10⟩
                      | false =>
                        have d1 : (E != 0) = true := by simp [bne, e0]
                        have d2 : ((L.length : Int) == 0) = true := by
                          have := HL.out.2 (by simpa using e0)
                          rw [this]
                          rfl
                        go_wp2_with fail
                        go_ret
                        exact ⟨rfl, p10⟩
end Go.Proofs.Ytpfenpfnflkfiaa
