/- IsaSteps: the walk. -/
import Derived.Test.YtlnlodbjkicgoaaI12
namespace Go.Proofs.Ytlnlodbjkicgoaa
open Go.ChangeShapes Go.WideShapes Go.ChangeAt Go.RowKit
set_option maxRecDepth 20000
set_option linter.unusedVariables false
set_option linter.unusedSimpArgs false

theorem steps_kinds {c : List Int} (h : okC c) : (∃ k r, c.getD 0 0 = k ∧ c.getD 4 0 = r ∧ (k = 1 ∨ k = 2 ∨ k = 3 ∨ k = 4) ∧ stepsD c = r ∧ 1 ≤ r ∧ r ≤ 16) ∨ (∃ k r, c.getD 0 0 = k ∧ c.getD 4 0 = r ∧ (k = 5 ∨ k = 6 ∨ k = 7) ∧ stepsD c = 1) := by
  have hb := steps_bd h
  have hk := h.2.1
  unfold stepsD at *
  by_cases q : 1 ≤ c.getD 0 0 ∧ c.getD 0 0 ≤ 4
  · rw [if_pos q] at hb ⊢
    exact .inl ⟨_, _, rfl, rfl, by omega, rfl, hb⟩
  · rw [if_neg q]
    unfold kindP at hk
    exact .inr ⟨_, _, rfl, rfl, by omega, rfl⟩
theorem steps_bad (W : World) (c : List Int) (hc : wfC c) (hm : ¬ mayD c) : Calls Try.prog 8 #[.agg ⟨cellC c⟩] W fun e w' => e = .returned (.bool true) ∧ Past W w' := by
  have MA := Lib.hid (fun w => may_any c hc.1 w)
  have e : mayE c = 1 := by unfold mayE; rw [if_neg hm]
  rw [e] at MA
  have HC := Lib.hid hc
  clear hm e hc
  go_enter Try.func8, Try.ntmps8
  go_upto_region 1 with fail
  obtain ⟨Q, hQ⟩ : ∃ Q, W.heap.size = Q := ⟨_, rfl⟩
  refine opq (fun w' => Hid ((∀ o : Nat, w'.cell? ⟨Q, o, none⟩ = (⟨cellC c⟩ : Array Value)[o]?)) ∧ Past W w' ∧ Q < w'.heap.size) (by subst hQ; exact ⟨Lib.hid (box_new rfl), (Past.refl W).alloc _, by simp⟩) ?_
  rintro w1 ⟨b1, p1, z1⟩
  try simp only [hQ]
  clear hQ
  go_wp2_with fail
  refine (shown_any w1).mono ?_
  rintro e w2 ⟨rfl, p2⟩
  have b2 := Lib.hid (box_past p2 b1.out z1)
  clear b1
  go_wp2_with (first | refine wpList_load_cmd rfl (.tmp 1) rfl _ rfl c HC.out.1 b2.out ?_)
  refine (MA.out w2).mono ?_
  rintro e w3 ⟨rfl, p3⟩
  go_wp2_with fail
  go_ret
  exact ⟨rfl, (p1.trans p2).trans p3⟩
theorem steps_good (W : World) (c : List Int) (hc : wfC c) (hm : mayD c) (k r m : Int) (hk : c.getD 0 0 = k) (hr : c.getD 4 0 = r) (hs : stepsD c = m) (h1 : 1 ≤ m) (h2 : m ≤ 16) (hkm : (k = 1 ∨ k = 2 ∨ k = 3 ∨ k = 4) ∧ m = r ∨ (k = 5 ∨ k = 6 ∨ k = 7) ∧ m = 1) : Calls Try.prog 8 #[.agg ⟨cellC c⟩] W fun e w' => e = .returned (.bool true) ∧ Past W w' := by
  have MA := Lib.hid (fun w => may_any c hc.1 w)
  have ST := Lib.hid (fun w => steps_any c hc.1 w)
  have e : mayE c = 0 := by unfold mayE; rw [if_pos hm]
  rw [e] at MA
  rw [hs] at ST
  have HC := Lib.hid hc
  have HK := Lib.hid hk
  have HR := Lib.hid hr
  have KM := Lib.hid hkm
  clear hm e hc hk hr hs hkm
  go_enter Try.func8, Try.ntmps8
  go_upto_region 1 with fail
  obtain ⟨Q, hQ⟩ : ∃ Q, W.heap.size = Q := ⟨_, rfl⟩
  refine opq (fun w' => Hid ((∀ o : Nat, w'.cell? ⟨Q, o, none⟩ = (⟨cellC c⟩ : Array Value)[o]?)) ∧ Past W w' ∧ Q < w'.heap.size) (by subst hQ; exact ⟨Lib.hid (box_new rfl), (Past.refl W).alloc _, by simp⟩) ?_
  rintro w1 ⟨b1, p1, z1⟩
  try simp only [hQ]
  clear hQ
  go_wp2_with fail
  refine (shown_any w1).mono ?_
  rintro e w2 ⟨rfl, p2⟩
  have b2 := Lib.hid (box_past p2 b1.out z1)
  have z2 : Q < w2.heap.size := Nat.lt_of_lt_of_le z1 p2.2.2.1
  have P2 := Lib.hid (p1.trans p2)
  clear b1 p1 p2 z1
  go_wp2_with (first | refine wpList_load_cmd rfl (.tmp 1) rfl _ rfl c HC.out.1 b2.out ?_)
  refine (MA.out w2).mono ?_
  rintro e w3 ⟨rfl, p3⟩
  have b3 := Lib.hid (box_past p3 b2.out z2)
  have z3 : Q < w3.heap.size := Nat.lt_of_lt_of_le z2 p3.2.2.1
  have P3 := Lib.hid (P2.out.trans p3)
  clear b2 p3 z2 P2
  go_wp2_with (first | refine wpList_load_cmd rfl (.tmp 1) rfl _ rfl c HC.out.1 b3.out ?_)
  refine (ST.out w3).mono ?_
  rintro e w4 ⟨rfl, p4⟩
  have b4 := box_past p4 b3.out z3
  have c0 := boxC_cell b4 (j := 0) (by rw [HC.out.1]; omega)
  have c4 := boxC_cell b4 (j := 4) (by rw [HC.out.1]; omega)
  rw [HK.out] at c0
  rw [HR.out] at c4
  have P4 := Lib.hid (P3.out.trans p4)
  clear b3 p4 z3 P3 b4
  obtain ⟨hkm⟩ := KM
  have d1 : decide (1 ≤ m) = true := by simpa using h1
  have d2 : decide (m ≤ 16) = true := by simpa using h2
  rcases hkm with ⟨rfl | rfl | rfl | rfl, rfl⟩ | ⟨rfl | rfl | rfl, rfl⟩
  · go_wp2_with fail
    all_goals
      go_ret
      exact ⟨rfl, P4.out⟩
  · go_wp2_with fail
    all_goals
      go_ret
      exact ⟨rfl, P4.out⟩
  · go_wp2_with fail
    all_goals
      go_ret
      exact ⟨rfl, P4.out⟩
  · go_wp2_with fail
    all_goals
      go_ret
      exact ⟨rfl, P4.out⟩
theorem steps_walk (W : World) (v : Value) (c : List Int) (hv : v = .agg ⟨cellC c⟩ ∧ wfC c) : Calls Try.prog 8 #[v] W fun e w' => e = .returned (.bool true) ∧ Past W w' := by
  obtain ⟨rfl, hc⟩ := hv
  by_cases hm : mayD c
  · rcases steps_kinds ⟨hc.1, hm⟩ with ⟨k, r, hk, hr, q, hs, h1, h2⟩ | ⟨k, r, hk, hr, q, hs⟩
    · exact steps_good W c hc hm k r r hk hr hs h1 h2 (.inl ⟨q, rfl⟩)
    · exact steps_good W c hc hm k r 1 hk hr hs (by omega) (by omega) (.inr ⟨q, rfl⟩)
  · exact steps_bad W c hc hm
end Go.Proofs.Ytlnlodbjkicgoaa
