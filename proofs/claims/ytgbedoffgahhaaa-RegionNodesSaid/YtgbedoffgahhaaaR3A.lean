/- The reference of layer 3: its small tests. -/
import Derived.Test.YtgbedoffgahhaaaR2

namespace Go.Proofs.Ytgbedoffgahhaaa
open Go.ChangeShapes Go.WideShapes Go.ChangeAt Go.RowKit
set_option maxRecDepth 20000
set_option linter.unusedVariables false

theorem rin_any (x lo hi : Int) (t : Bool) (w : World) (ht : Hid (t = true ↔ lo ≤ x ∧ x ≤ hi)) : Calls Try.prog 24 #[.int .i64 x, .int .i64 lo, .int .i64 hi] w fun e w' => e = .returned (.bool t) ∧ Grown w w' := by
  by_cases c1 : lo ≤ x
  · have d1 : decide (lo ≤ x) = true := by simpa using c1
    by_cases c2 : x ≤ hi
    · have d2 : decide (x ≤ hi) = true := by simpa using c2
      obtain rfl : t = true := ht.out.mpr ⟨c1, c2⟩
      clear c1 c2 ht
      go_enter Try.func24, Try.ntmps24
      go_wp2_with fail
      go_ret
      exact ⟨rfl, by go_grown⟩
    · have d2 : decide (x ≤ hi) = false := by simpa using c2
      obtain rfl : t = false := by
        cases t
        · rfl
        · exact absurd (ht.out.mp rfl).2 c2
      clear c1 c2 ht
      go_enter Try.func24, Try.ntmps24
      go_wp2_with fail
      go_ret
      exact ⟨rfl, by go_grown⟩
  · have d1 : decide (lo ≤ x) = false := by simpa using c1
    obtain rfl : t = false := by
      cases t
      · rfl
      · exact absurd (ht.out.mp rfl).1 c1
    clear c1 ht
    go_enter Try.func24, Try.ntmps24
    go_wp2_with fail
    go_ret
    exact ⟨rfl, by go_grown⟩

theorem two_any (o : Int) (t : Bool) (w : World) (ht : Hid (t = true ↔ o = 6 ∨ o = 7 ∨ o = 10)) : Calls Try.prog 44 #[.int .i64 o] w fun e w' => e = .returned (.bool t) ∧ Grown w w' := by
  by_cases c6 : o = 6
  · obtain rfl : t = true := ht.out.mpr (by simp [c6])
    subst c6
    clear ht
    go_enter Try.func44, Try.ntmps44
    go_wp2_with fail
    go_ret
    exact ⟨rfl, by go_grown⟩
  have d6 : (o == 6) = false := by simp [c6]
  by_cases c7 : o = 7
  · obtain rfl : t = true := ht.out.mpr (by simp [c7])
    subst c7
    clear ht
    go_enter Try.func44, Try.ntmps44
    go_wp2_with fail
    go_ret
    exact ⟨rfl, by go_grown⟩
  have d7 : (o == 7) = false := by simp [c7]
  by_cases c10 : o = 10
  · obtain rfl : t = true := ht.out.mpr (by simp [c10])
    subst c10
    clear ht
    go_enter Try.func44, Try.ntmps44
    go_wp2_with fail
    go_ret
    exact ⟨rfl, by go_grown⟩
  have d10 : (o == 10) = false := by simp [c10]
  obtain rfl : t = false := by
    cases t
    · rfl
    · have := ht.out.mp rfl
      omega
  clear c6 c7 c10 ht
  go_enter Try.func44, Try.ntmps44
  go_wp2_with fail
  go_ret
  exact ⟨rfl, by go_grown⟩

theorem rkeeps_any (o : Int) (t : Bool) (w : World) (ht : Hid (t = true ↔ o = 4 ∨ o = 5 ∨ o = 8 ∨ o = 9 ∨ o = 10 ∨ o = 11)) : Calls Try.prog 31 #[.int .i64 o] w fun e w' => e = .returned (.bool t) ∧ Grown w w' := by
  by_cases c4 : o = 4
  · obtain rfl : t = true := ht.out.mpr (by simp [c4])
    subst c4
    clear ht
    go_enter Try.func31, Try.ntmps31
    go_wp2_with fail
    go_ret
    exact ⟨rfl, by go_grown⟩
  have d4 : (o == 4) = false := by simp [c4]
  by_cases c5 : o = 5
  · obtain rfl : t = true := ht.out.mpr (by simp [c5])
    subst c5
    clear ht
    go_enter Try.func31, Try.ntmps31
    go_wp2_with fail
    go_ret
    exact ⟨rfl, by go_grown⟩
  have d5 : (o == 5) = false := by simp [c5]
  by_cases c8 : o = 8
  · obtain rfl : t = true := ht.out.mpr (by simp [c8])
    subst c8
    clear ht
    go_enter Try.func31, Try.ntmps31
    go_wp2_with fail
    go_ret
    exact ⟨rfl, by go_grown⟩
  have d8 : (o == 8) = false := by simp [c8]
  by_cases c9 : o = 9
  · obtain rfl : t = true := ht.out.mpr (by simp [c9])
    subst c9
    clear ht
    go_enter Try.func31, Try.ntmps31
    go_wp2_with fail
    go_ret
    exact ⟨rfl, by go_grown⟩
  have d9 : (o == 9) = false := by simp [c9]
  by_cases c10 : o = 10
  · obtain rfl : t = true := ht.out.mpr (by simp [c10])
    subst c10
    clear ht
    go_enter Try.func31, Try.ntmps31
    go_wp2_with fail
    go_ret
    exact ⟨rfl, by go_grown⟩
  have d10 : (o == 10) = false := by simp [c10]
  by_cases c11 : o = 11
  · obtain rfl : t = true := ht.out.mpr (by simp [c11])
    subst c11
    clear ht
    go_enter Try.func31, Try.ntmps31
    go_wp2_with fail
    go_ret
    exact ⟨rfl, by go_grown⟩
  have d11 : (o == 11) = false := by simp [c11]
  obtain rfl : t = false := by
    cases t
    · rfl
    · have := ht.out.mp rfl
      omega
  clear c4 c5 c8 c9 c10 c11 ht
  go_enter Try.func31, Try.ntmps31
  go_wp2_with fail
  go_ret
  exact ⟨rfl, by go_grown⟩

theorem window_any (o : Int) (t : Bool) (w : World) (ht : Hid (t = true ↔ 1 ≤ o ∧ o ≤ 5 ∧ o ≠ 3)) : Calls Try.prog 45 #[.int .i64 o] w fun e w' => e = .returned (.bool t) ∧ Grown w w' := by
  by_cases c1 : 1 ≤ o
  · have d1 : decide (1 ≤ o) = true := by simpa using c1
    by_cases c2 : o ≤ 5
    · have d2 : decide (o ≤ 5) = true := by simpa using c2
      by_cases c3 : o = 3
      · obtain rfl : t = false := by
          cases t
          · rfl
          · exact absurd c3 (ht.out.mp rfl).2.2
        subst c3
        clear c1 c2 d1 d2 ht
        go_enter Try.func45, Try.ntmps45
        go_wp2_with fail
        go_ret
        exact ⟨rfl, by go_grown⟩
      · have d3 : (o != 3) = true := by simpa using c3
        obtain rfl : t = true := ht.out.mpr ⟨c1, c2, c3⟩
        clear c1 c2 c3 ht
        go_enter Try.func45, Try.ntmps45
        go_wp2_with fail
        go_ret
        exact ⟨rfl, by go_grown⟩
    · have d2 : decide (o ≤ 5) = false := by simpa using c2
      obtain rfl : t = false := by
        cases t
        · rfl
        · exact absurd (ht.out.mp rfl).2.1 c2
      clear c1 c2 ht
      go_enter Try.func45, Try.ntmps45
      go_wp2_with fail
      go_ret
      exact ⟨rfl, by go_grown⟩
  · have d1 : decide (1 ≤ o) = false := by simpa using c1
    obtain rfl : t = false := by
      cases t
      · rfl
      · exact absurd (ht.out.mp rfl).1 c1
    clear c1 ht
    go_enter Try.func45, Try.ntmps45
    go_wp2_with fail
    go_ret
    exact ⟨rfl, by go_grown⟩
end Go.Proofs.Ytgbedoffgahhaaa
