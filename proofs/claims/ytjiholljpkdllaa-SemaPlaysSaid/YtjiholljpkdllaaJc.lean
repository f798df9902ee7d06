/- SemaCounts: its walk. -/
import Derived.Test.YtjiholljpkdllaaKO
namespace Go.Proofs.Ytjiholljpkdllaa
open Go.ChangeShapes Go.WideShapes Go.ChangeAt Go.RowKit
set_option maxRecDepth 20000
set_option linter.unusedVariables false
/-- The semaphore that a number names. -/
def semK (x : Int) : Nat := (bits .and .i64 x 7).toNat
theorem semK_lt (x : Int) : semK x < 8 := by
  have := mask_bd x 7 (by omega) (by omega)
  unfold semK; omega
theorem semK_is (x : Int) : bits .and .i64 x 7 = (semK x : Int) := by
  have := mask_bd x 7 (by omega) (by omega)
  unfold semK; omega
theorem sig_yes {l : List Nat} {k : Nat} (hk : k < 8) (h : l.getD k 0 < 15) : sigE l k = 0 ∧ sigL l k = l.set k (l.getD k 0 + 1) := by
  have c := okS_iff.2 ⟨k, hk, rfl⟩
  exact ⟨by simp only [sigE, c, if_true, Int.toNat_natCast, h], sigL_in hk h⟩
theorem sig_no {l : List Nat} {k : Nat} (hk : k < 8) (h : ¬ l.getD k 0 < 15) : sigE l k = 22 ∧ sigL l k = l := by
  have c := okS_iff.2 ⟨k, hk, rfl⟩
  exact ⟨by simp only [sigE, c, if_true, Int.toNat_natCast, h, if_false], by simp only [sigL, c, if_true, Int.toNat_natCast, h, if_false]⟩
theorem wait_yes {l : List Nat} {k : Nat} (hk : k < 8) (h : 0 < l.getD k 0) : waitE l k = 0 ∧ waitL l k = l.set k (l.getD k 0 - 1) := by
  have c := okS_iff.2 ⟨k, hk, rfl⟩
  exact ⟨by simp only [waitE, c, if_true, Int.toNat_natCast, h], by simp only [waitL, c, if_true, Int.toNat_natCast, h]⟩
theorem wait_no {l : List Nat} {k : Nat} (hk : k < 8) (h : ¬ 0 < l.getD k 0) : waitE l k = 20 ∧ waitL l k = l := by
  have c := okS_iff.2 ⟨k, hk, rfl⟩
  exact ⟨by simp only [waitE, c, if_true, Int.toNat_natCast, h, if_false], by simp only [waitL, c, if_true, Int.toNat_natCast, h, if_false]⟩
set_option maxHeartbeats 4000000 in
theorem counts_walk (W : World) (v : Value) (xs : List (Int × Bool)) (hv : IsOps W v xs) : Calls Try.prog 4 #[v] W fun e w' => e = .returned (.bool true) ∧ Past W w' := by
  obtain ⟨A, cap, rfl, a1, a2, a3, a4, a5⟩ := hv
  have hm : maxLen ≤ 9223372036854775807 := by decide
  have hl1 : xs.length ≤ 9223372036854775807 := by omega
  clear hm a2 a3 a4
  go_enter Try.func4, Try.ntmps4
  go_upto_region 2 with (go_at_call 8; refine (shown_any _).mono ?_; rintro e wa ⟨rfl, ga⟩)
  go_upto_region 5 with (go_at_call 9; refine (new_any _).mono ?_; rintro e wb ⟨rfl, hS, gb⟩)
  have g0 := ga.trans gb
  have hB : W.heap.size ≤ wa.heap.size := ga.2.2.1
  generalize wa.heap.size = B at *
  have hmk := mk8 wb
  have hA : AllAt (wb.alloc (.cells #[.int .i64 0, .int .i64 0, .int .i64 0, .int .i64 0, .int .i64 0, .int .i64 0, .int .i64 0, .int .i64 0] 3)) wb.heap.size (List.replicate 8 0) 8 := by
    refine ⟨by simp, fun j hj => ?_, free_alloc (free_new (Nat.le_refl _))⟩
    rw [box_new rfl, if_pos hj, rep0]
    match j, hj with
    | 0, _ | 1, _ | 2, _ | 3, _ | 4, _ | 5, _ | 6, _ | 7, _ => rfl
  have hS1 := hS.grow ((Past.refl wb).alloc (.cells #[.int .i64 0, .int .i64 0, .int .i64 0, .int .i64 0, .int .i64 0, .int .i64 0, .int .i64 0, .int .i64 0] 3))
  have g1 := g0.alloc (.cells #[.int .i64 0, .int .i64 0, .int .i64 0, .int .i64 0, .int .i64 0, .int .i64 0, .int .i64 0, .int .i64 0] 3)
  have hdis0 : B + 9 ≤ wb.heap.size := hS.size
  go_wp2_with fail
  generalize wb.heap.size = P at *
  have hdis : P < B + 1 ∨ B + 9 ≤ P := Or.inr hdis0
  have hdis2 : B + 9 ≤ P ∨ P + 1 ≤ B := Or.inl hdis0
  have hP1 : W.heap.size ≤ P := by omega
  have hB1 : W.heap.size ≤ B + 1 := by omega
  clear hmk
  go_loopw [6, 7, 8, 9, 10] (fun i x7 x8 x9 x10 wr => ∃ i' : Nat, i' ≤ xs.length ∧ i = .int .i64 i' ∧ ∃ l, SemAt wr B l ∧ AllAt wr P l 8 ∧ Past W wr) (fun i _ _ _ _ _ => xs.length - (intOf i).toNat)
  case atStart => exact ⟨0, by omega, rfl, _, hS1, hA, g1⟩
  case round =>
    obtain ⟨i, hi, rfl, l, hS, hA, gP⟩ := hrel
    clear hS1 g1 g0 hdis0
    have i1 : (0 : Int) ≤ (i : Int) := by omega
    by_cases c : i < xs.length
    · have d1 : decide ((i : Int) < (xs.length : Int)) = true := by simpa using c
      by_cases c2 : i < 200
      · have d2 : decide ((i : Int) < 200) = true := by simp; omega
        obtain ⟨b, off, rfl, hb, hx⟩ := a5 (by omega)
        obtain ⟨c3, c4⟩ := hx i c
        have x1 := cell_past gP c3 hb
        have x2 := cell_past gP c4 hb
        clear c3 c4 hx a5
        obtain ⟨⟨at1, sg⟩, hat⟩ : ∃ p, xs.getD i (0, false) = p := ⟨_, rfl⟩
        rw [hat] at x1 x2
        simp only at x1 x2
        clear hat
        have ek := semK_is at1
        have hk := semK_lt at1
        generalize semK at1 = k at *
        have k1 : (0 : Int) ≤ (k : Int) := by omega
        have k2 : (k : Int) < 8 := by omega
        have hm := hS.most k hk
        obtain ⟨n, hn⟩ : ∃ n, l.getD k 0 = n := ⟨_, rfl⟩
        have hn' := Lib.hid hn
        rw [hn] at hm
        clear hn
        cases sg
        · by_cases d : 0 < l.getD k 0
          · have q : 0 < n := by rw [← hn'.out]; exact d
            have d3 : decide (0 < (n : Int)) = true := by simp; omega
            obtain ⟨y1, y2⟩ := wait_yes hk d
            rw [hn'.out] at y2
            go_upto_region 17 with (go_at_call 12; refine (wait_any _ _ _ _ hS).mono ?_; rintro e w3 ⟨rfl, h3, g3⟩; rw [y2] at h3; rw [y1])
            have a3 := hA.keep g3 hdis
            have p3 := g3.past gP hB1
            have x1 := a3.cell k hk
            rw [if_pos hk, hn'.out] at x1
            have x2 := a3.free
            have a4 := a3.put (k := k) (x := n - 1) hS.len hk
            have s4 := h3.keep (But.setCell w3 (lo := P) (hi := P + 1) (a := ⟨P, k, none⟩) (Nat.le_refl _) (Nat.lt_succ_self _) (.int .i64 ((n - 1 : Nat) : Int))) hdis2
            have p4 := p3.setCell (p := ⟨P, k, none⟩) hP1 (.int .i64 ((n - 1 : Nat) : Int))
            have ec : (((n - 1 : Nat) : Int)) = (n : Int) - 1 := by omega
            rw [ec] at a4 s4 p4
            clear ec
            clear a3 h3 p3 hA hS
            have Q4 := Lib.hid (Past.refl)
            go_wp2_with (first | (go_at_call 18; refine (all_at _ _ _ s4).mono ?_; rintro e w5 ⟨p5, q5, rfl, h5, g5⟩) | (go_at_call 17; refine (Ints_any _ _ _ _ _ true h5 ((a4.grow g5).nums s4.len s4.most) (Lib.hid ⟨fun _ => rfl, fun _ => rfl⟩)).mono ?_; rintro e w6 ⟨rfl, g6⟩))
            go_roundw
            case rel => exact ⟨i + 1, by omega, by go_num, _, s4.grow (g5.trans g6), a4.grow (g5.trans g6), p4.trans (g5.trans g6)⟩
            case measure => simp [intOf]; omega
          · have q : n = 0 := by rw [← hn'.out]; omega
            subst q
            obtain ⟨y1, y2⟩ := wait_no hk d
            go_upto_region 17 with (go_at_call 12; refine (wait_any _ _ _ _ hS).mono ?_; rintro e w3 ⟨rfl, h3, g3⟩; rw [y2] at h3; rw [y1])
            have a3 := hA.keep g3 hdis
            have p3 := g3.past gP hB1
            have x1 := a3.cell k hk
            rw [if_pos hk, hn'.out] at x1
            have x2 := a3.free
            have a4 := a3
            have s4 := h3
            have p4 := p3
            clear a3 h3 p3 hA hS
            have Q4 := Lib.hid (Past.refl)
            go_wp2_with (first | (go_at_call 18; refine (all_at _ _ _ s4).mono ?_; rintro e w5 ⟨p5, q5, rfl, h5, g5⟩) | (go_at_call 17; refine (Ints_any _ _ _ _ _ true h5 ((a4.grow g5).nums s4.len s4.most) (Lib.hid ⟨fun _ => rfl, fun _ => rfl⟩)).mono ?_; rintro e w6 ⟨rfl, g6⟩))
            go_roundw
            case rel => exact ⟨i + 1, by omega, by go_num, _, s4.grow (g5.trans g6), a4.grow (g5.trans g6), p4.trans (g5.trans g6)⟩
            case measure => simp [intOf]; omega
        · by_cases d : l.getD k 0 < 15
          · have q : n < 15 := by rw [← hn'.out]; exact d
            have d3 : decide ((n : Int) < 15) = true := by simp; omega
            obtain ⟨y1, y2⟩ := sig_yes hk d
            rw [hn'.out] at y2
            go_upto_region 12 with (go_at_call 11; refine (sig_any _ _ _ _ hS).mono ?_; rintro e w3 ⟨rfl, h3, g3⟩; rw [y2] at h3; rw [y1])
            have a3 := hA.keep g3 hdis
            have p3 := g3.past gP hB1
            have x1 := a3.cell k hk
            rw [if_pos hk, hn'.out] at x1
            have x2 := a3.free
            have a4 := a3.put (k := k) (x := n + 1) hS.len hk
            have s4 := h3.keep (But.setCell w3 (lo := P) (hi := P + 1) (a := ⟨P, k, none⟩) (Nat.le_refl _) (Nat.lt_succ_self _) (.int .i64 ((n + 1 : Nat) : Int))) hdis2
            have p4 := p3.setCell (p := ⟨P, k, none⟩) hP1 (.int .i64 ((n + 1 : Nat) : Int))
            have ec : (((n + 1 : Nat) : Int)) = (n : Int) + 1 := by omega
            rw [ec] at a4 s4 p4
            clear ec
            clear a3 h3 p3 hA hS
            have Q4 := Lib.hid (Past.refl)
            go_wp2_with (first | (go_at_call 18; refine (all_at _ _ _ s4).mono ?_; rintro e w5 ⟨p5, q5, rfl, h5, g5⟩) | (go_at_call 17; refine (Ints_any _ _ _ _ _ true h5 ((a4.grow g5).nums s4.len s4.most) (Lib.hid ⟨fun _ => rfl, fun _ => rfl⟩)).mono ?_; rintro e w6 ⟨rfl, g6⟩))
            go_roundw
            case rel => exact ⟨i + 1, by omega, by go_num, _, s4.grow (g5.trans g6), a4.grow (g5.trans g6), p4.trans (g5.trans g6)⟩
            case measure => simp [intOf]; omega
          · have q : ¬ n < 15 := by rw [← hn'.out]; exact d
            have d3 : decide ((n : Int) < 15) = false := by simp; omega
            obtain ⟨y1, y2⟩ := sig_no hk d
            go_upto_region 12 with (go_at_call 11; refine (sig_any _ _ _ _ hS).mono ?_; rintro e w3 ⟨rfl, h3, g3⟩; rw [y2] at h3; rw [y1])
            have a3 := hA.keep g3 hdis
            have p3 := g3.past gP hB1
            have x1 := a3.cell k hk
            rw [if_pos hk, hn'.out] at x1
            have x2 := a3.free
            have a4 := a3
            have s4 := h3
            have p4 := p3
            clear a3 h3 p3 hA hS
            have Q4 := Lib.hid (Past.refl)
            go_wp2_with (first | (go_at_call 18; refine (all_at _ _ _ s4).mono ?_; rintro e w5 ⟨p5, q5, rfl, h5, g5⟩) | (go_at_call 17; refine (Ints_any _ _ _ _ _ true h5 ((a4.grow g5).nums s4.len s4.most) (Lib.hid ⟨fun _ => rfl, fun _ => rfl⟩)).mono ?_; rintro e w6 ⟨rfl, g6⟩))
            go_roundw
            case rel => exact ⟨i + 1, by omega, by go_num, _, s4.grow (g5.trans g6), a4.grow (g5.trans g6), p4.trans (g5.trans g6)⟩
            case measure => simp [intOf]; omega
      · have d2 : decide ((i : Int) < 200) = false := by simp; omega
        go_wp2_with fail
        go_ret
        exact ⟨rfl, gP⟩
    · have d1 : decide ((i : Int) < (xs.length : Int)) = false := by simp; omega
      go_wp2_with fail
      go_ret
      exact ⟨rfl, gP⟩
end Go.Proofs.Ytjiholljpkdllaa
