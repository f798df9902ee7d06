/- Value at nodes without slices. isa: the reader: a command. Small: a Bool for what may be; nodes and graphs part by part. The reference of layer 3: its small tests. -/
import Derived.Test.YtejllmjkeefloaaLG12
import Derived.Test.YtejllmjkeefloaaLN1
import Derived.Test.YtejllmjkeefloaaLI7
import Derived.Test.YtejllmjkeefloaaLRead
import Derived.Test.YtejllmjkeefloaaLG6A
namespace Go.Proofs.Ytejllmjkeefloaa
open Go.ChangeShapes Go.WideShapes Go.ChangeAt Go.RowKit
set_option maxRecDepth 20000
set_option linter.unusedVariables false

theorem nums_nil (k : IntKind) (w : World) : IsNums k w (.slice none 0 0) [] := ⟨none, 0, rfl, Nat.le_refl _, Nat.zero_le _, fun _ => rfl, by simp, by simp⟩
theorem vals_one {w : World} {b : Nat} {x : ValD} (hb : b < w.heap.size) (wf : ValWf x) (h : ValAt w b 0 x) : IsVals w (.slice (some ⟨b, 0, none⟩) 1 1) [x] :=
  ⟨some ⟨b, 0, none⟩, 1, rfl, Nat.le_refl _, by decide, (fun h => by cases h), by simpa using wf, fun _ => ⟨b, 0, rfl, hb, fun i hi => by
    simp only [List.length_cons, List.length_nil] at hi
    obtain rfl : i = 0 := by omega
    simpa using h⟩⟩
end Go.Proofs.Ytejllmjkeefloaa
namespace Go.Proofs.Ytejllmjkeefloaa.Q8
open Go.ChangeShapes Go.WideShapes Go.ChangeAt Go.RowKit
set_option maxRecDepth 20000
set_option linter.unusedVariables false
set_option linter.unusedSimpArgs false

theorem RdAt.past {w w' : World} {B P : Nat} {s : Rd} (h : RdAt w B P s) (g : Past w w') : RdAt w' B P s := by
  obtain ⟨A, cap, bx, fr, by', hB, hP⟩ := h
  exact ⟨A, cap, box_past g bx hP, free_past g fr hP, by'.keep (Keep.of_past g) hB (by omega), hB, Nat.lt_of_lt_of_le hP g.2.2.1⟩
theorem RdAt.lt {w : World} {B P : Nat} {s : Rd} (h : RdAt w B P s) : P < w.heap.size := h.choose_spec.choose_spec.2.2.2.2
theorem FldsP.keep {w w' : World} {P X : Nat} {A : Option Addr} {fs : List Fld} (h : FldsP w P A fs) (g : Keep X w w') (hX : ∀ b, A = some ⟨b, 0, none⟩ → b ≠ X) : FldsP w' P A fs := fun q => by
  obtain ⟨b, e, h1, h2⟩ := h q
  exact ⟨b, e, Nat.lt_of_lt_of_le h1 g.2.2.1, box_keep g h2 h1 (hX b e)⟩
theorem one_cellC (c : List Int) : (⟨cellC c⟩ : Array Value).all (·.oneCell') = true := by
  simp [cellC, Value.oneCell']
end Go.Proofs.Ytejllmjkeefloaa.Q8
namespace Go.Proofs.Ytejllmjkeefloaa
open Go.ChangeShapes Go.WideShapes Go.ChangeAt Go.RowKit
set_option linter.unusedVariables false

theorem bool_any (p : Prop) : ∃ t : Bool, (t = true ↔ p) := by
  rcases Classical.em p with h | h
  · exact ⟨true, by simp [h]⟩
  · exact ⟨false, by simp [h]⟩
end Go.Proofs.Ytejllmjkeefloaa
namespace Go.Proofs.Ytejllmjkeefloaa
open Go.ChangeShapes Go.WideShapes Go.ChangeAt Go.RowKit
set_option maxRecDepth 20000
set_option linter.unusedVariables false

theorem rin_any (x lo hi : Int) (t : Bool) (w : World) (ht : Hid (t = true ↔ lo ≤ x ∧ x ≤ hi)) : Calls Try.prog 38 #[.int .i64 x, .int .i64 lo, .int .i64 hi] w fun e w' => e = .returned (.bool t) ∧ Grown w w' := by
  by_cases c1 : lo ≤ x
  · have d1 : decide (lo ≤ x) = true := by simpa using c1
    by_cases c2 : x ≤ hi
    · have d2 : decide (x ≤ hi) = true := by simpa using c2
      obtain rfl : t = true := ht.out.mpr ⟨c1, c2⟩
      clear c1 c2 ht
      go_enter Try.func38, Try.ntmps38
      go_wp2_with fail
      go_ret
      exact ⟨rfl, by go_grown⟩
    · have d2 : decide (x ≤ hi) = false := by simpa using c2
      obtain rfl : t = false := by
        cases t
        · rfl
        · exact absurd (ht.out.mp rfl).2 c2
      clear c1 c2 ht
      go_enter Try.func38, Try.ntmps38
      go_wp2_with fail
      go_ret
      exact ⟨rfl, by go_grown⟩
  · have d1 : decide (lo ≤ x) = false := by simpa using c1
    obtain rfl : t = false := by
      cases t
      · rfl
      · exact absurd (ht.out.mp rfl).1 c1
    clear c1 ht
    go_enter Try.func38, Try.ntmps38
    go_wp2_with fail
    go_ret
    exact ⟨rfl, by go_grown⟩
theorem two_any (o : Int) (t : Bool) (w : World) (ht : Hid (t = true ↔ o = 6 ∨ o = 7 ∨ o = 10)) : Calls Try.prog 87 #[.int .i64 o] w fun e w' => e = .returned (.bool t) ∧ Grown w w' := by
  by_cases c6 : o = 6
  · obtain rfl : t = true := ht.out.mpr (by simp [c6])
    subst c6
    clear ht
    go_enter Try.func87, Try.ntmps87
    go_wp2_with fail
    go_ret
    exact ⟨rfl, by go_grown⟩
  have d6 : (o == 6) = false := by simp [c6]
  by_cases c7 : o = 7
  · obtain rfl : t = true := ht.out.mpr (by simp [c7])
    subst c7
    clear ht
    go_enter Try.func87, Try.ntmps87
    go_wp2_with fail
    go_ret
    exact ⟨rfl, by go_grown⟩
  have d7 : (o == 7) = false := by simp [c7]
  by_cases c10 : o = 10
  · obtain rfl : t = true := ht.out.mpr (by simp [c10])
    subst c10
    clear ht
    go_enter Try.func87, Try.ntmps87
    go_wp2_with fail
    go_ret
    exact ⟨rfl, by go_grown⟩
  have d10 : (o == 10) = false := by simp [c10]
  obtain rfl : t = false := by
    cases t
    · rfl
    · have := ht.out.mp rfl
      omega
  clear c6 c7 c10 ht
  go_enter Try.func87, Try.ntmps87
  go_wp2_with fail
  go_ret
  exact ⟨rfl, by go_grown⟩
theorem rkeeps_any (o : Int) (t : Bool) (w : World) (ht : Hid (t = true ↔ o = 4 ∨ o = 5 ∨ o = 8 ∨ o = 9 ∨ o = 10 ∨ o = 11)) : Calls Try.prog 63 #[.int .i64 o] w fun e w' => e = .returned (.bool t) ∧ Grown w w' := by
  by_cases c4 : o = 4
  · obtain rfl : t = true := ht.out.mpr (by simp [c4])
    subst c4
    clear ht
    go_enter Try.func63, Try.ntmps63
    go_wp2_with fail
    go_ret
    exact ⟨rfl, by go_grown⟩
  have d4 : (o == 4) = false := by simp [c4]
  by_cases c5 : o = 5
  · obtain rfl : t = true := ht.out.mpr (by simp [c5])
    subst c5
    clear ht
    go_enter Try.func63, Try.ntmps63
    go_wp2_with fail
    go_ret
    exact ⟨rfl, by go_grown⟩
  have d5 : (o == 5) = false := by simp [c5]
  by_cases c8 : o = 8
  · obtain rfl : t = true := ht.out.mpr (by simp [c8])
    subst c8
    clear ht
    go_enter Try.func63, Try.ntmps63
    go_wp2_with fail
    go_ret
    exact ⟨rfl, by go_grown⟩
  have d8 : (o == 8) = false := by simp [c8]
  by_cases c9 : o = 9
  · obtain rfl : t = true := ht.out.mpr (by simp [c9])
    subst c9
    clear ht
    go_enter Try.func63, Try.ntmps63
    go_wp2_with fail
    go_ret
    exact ⟨rfl, by go_grown⟩
  have d9 : (o == 9) = false := by simp [c9]
  by_cases c10 : o = 10
  · obtain rfl : t = true := ht.out.mpr (by simp [c10])
    subst c10
    clear ht
    go_enter Try.func63, Try.ntmps63
    go_wp2_with fail
    go_ret
    exact ⟨rfl, by go_grown⟩
  have d10 : (o == 10) = false := by simp [c10]
  by_cases c11 : o = 11
  · obtain rfl : t = true := ht.out.mpr (by simp [c11])
    subst c11
    clear ht
    go_enter Try.func63, Try.ntmps63
    go_wp2_with fail
    go_ret
    exact ⟨rfl, by go_grown⟩
  have d11 : (o == 11) = false := by simp [c11]
  obtain rfl : t = false := by
    cases t
    · rfl
    · have := ht.out.mp rfl
      omega
  clear c4 c5 c8 c9 c10 c11 ht
  go_enter Try.func63, Try.ntmps63
  go_wp2_with fail
  go_ret
  exact ⟨rfl, by go_grown⟩
theorem window_any (o : Int) (t : Bool) (w : World) (ht : Hid (t = true ↔ 1 ≤ o ∧ o ≤ 5 ∧ o ≠ 3)) : Calls Try.prog 88 #[.int .i64 o] w fun e w' => e = .returned (.bool t) ∧ Grown w w' := by
  by_cases c1 : 1 ≤ o
  · have d1 : decide (1 ≤ o) = true := by simpa using c1
    by_cases c2 : o ≤ 5
    · have d2 : decide (o ≤ 5) = true := by simpa using c2
      by_cases c3 : o = 3
      · obtain rfl : t = false := by
          cases t
          · rfl
          · exact absurd c3 (ht.out.mp rfl).2.2
        subst c3
        clear c1 c2 d1 d2 ht
        go_enter Try.func88, Try.ntmps88
        go_wp2_with fail
        go_ret
        exact ⟨rfl, by go_grown⟩
      · have d3 : (o != 3) = true := by simpa using c3
        obtain rfl : t = true := ht.out.mpr ⟨c1, c2, c3⟩
        clear c1 c2 c3 ht
        go_enter Try.func88, Try.ntmps88
        go_wp2_with fail
        go_ret
        exact ⟨rfl, by go_grown⟩
    · have d2 : decide (o ≤ 5) = false := by simpa using c2
      obtain rfl : t = false := by
        cases t
        · rfl
        · exact absurd (ht.out.mp rfl).2.1 c2
      clear c1 c2 ht
      go_enter Try.func88, Try.ntmps88
      go_wp2_with fail
      go_ret
      exact ⟨rfl, by go_grown⟩
  · have d1 : decide (1 ≤ o) = false := by simpa using c1
    obtain rfl : t = false := by
      cases t
      · rfl
      · exact absurd (ht.out.mp rfl).1 c1
    clear c1 ht
    go_enter Try.func88, Try.ntmps88
    go_wp2_with fail
    go_ret
    exact ⟨rfl, by go_grown⟩
end Go.Proofs.Ytejllmjkeefloaa
