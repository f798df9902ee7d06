/- graph: bounds.hold, zeros, tooFar, mayNotBe. -/
import Derived.Test.YtgbedoffgahhaaaSh2
import Derived.Test.YtgbedoffgahhaaaRead
namespace Go.Proofs.Ytgbedoffgahhaaa
open Go.ChangeShapes Go.WideShapes Go.ChangeAt Go.RowKit

def holdB (lo hi x : Int) : Bool := decide (lo ≤ x ∧ x ≤ hi)
theorem holdB_t {lo hi x : Int} : holdB lo hi x = true ↔ lo ≤ x ∧ x ≤ hi := by unfold holdB; simp
theorem holdB_f {lo hi x : Int} : holdB lo hi x = false ↔ ¬ (lo ≤ x ∧ x ≤ hi) := by unfold holdB; simp

theorem hold_any (lo hi x : Int) (w : World) :
    Calls Try.prog 51 #[.agg #[.int .i64 lo, .int .i64 hi], .int .i64 x] w fun e w' => e = .returned (.bool (holdB lo hi x)) ∧ w' = w.alloc (.cells #[.int .i64 lo, .int .i64 hi] 97) := by
  by_cases h1 : lo ≤ x
  · by_cases h2 : x ≤ hi
    · rw [holdB_t.mpr ⟨h1, h2⟩]
      go_enter Try.func51, Try.ntmps51
      go_wp2
      go_ret
      exact ⟨rfl, rfl⟩
    · rw [holdB_f.mpr (fun h => h2 h.2)]
      go_enter Try.func51, Try.ntmps51
      go_wp2
      go_ret
      exact ⟨rfl, rfl⟩
  · rw [holdB_f.mpr (fun h => h1 h.1)]
    go_enter Try.func51, Try.ntmps51
    go_wp2
    go_ret
    exact ⟨rfl, rfl⟩

theorem zeros_any (w : World) :
    Calls Try.prog 50 #[] w fun e w' => e = .returned (.agg #[.int .i64 (-128), .int .i64 127]) ∧ Grown w w' := by
  go_enter Try.func50, Try.ntmps50
  go_wp2
  exact bodyPost_ret (v := .agg #[.int .i64 (-128), .int .i64 127]) (by simp [results, Try.results50, go_sem]) rfl ⟨rfl, by go_grown⟩

theorem tooFar_any (x : Int) (w : World) (h : (Lit.int .i32 x).wf = true) :
    Calls Try.prog 55 #[.int .i32 x] w fun e w' => e = .returned (.bool (!holdB (-16777216) 16777216 x)) ∧ Grown w w' := by
  have hx : -2147483648 ≤ x ∧ x ≤ 2147483647 := by simpa [Lit.wf, IntKind.min, IntKind.max, IntKind.bits, IntKind.signed] using h
  obtain ⟨hx1, hx2⟩ := hx
  clear h
  go_enter Try.func55, Try.ntmps55
  go_wp2_with (first | (go_at_call 51; refine (hold_any _ _ _ _).mono ?_; rintro e w' ⟨rfl, rfl⟩))
  go_ret
  exact ⟨rfl, by go_grown⟩

open Classical in
noncomputable def mayB (s : Int × Int × Int) : Bool := decide (mayS s.1 s.2.1 s.2.2)

theorem mayB_t {a b c : Int} (m : mayS a b c) : mayB (a, b, c) = true := by unfold mayB; simpa using m
theorem mayB_f {a b c : Int} (m : ¬ mayS a b c) : mayB (a, b, c) = false := by unfold mayB; simpa using m
theorem mayB_iff {s : Int × Int × Int} : mayB s = true ↔ mayS s.1 s.2.1 s.2.2 := by unfold mayB; simp

theorem mayNotBe_any (h w c z : Int) (W : World) :
    Calls Try.prog 48 #[.agg #[.int .i64 h, .int .i64 w, .int .i64 c, .int .i64 z]] W fun e w' => e = .returned (.bool (!mayB (h, w, c))) ∧ Grown W w' := by
  by_cases m : mayS h w c
  · rw [mayB_t m]
    go_enter Try.func48, Try.ntmps48
    go_wp2_with fail
    refine (may_yes h w c _ m).mono ?_; rintro e w1 ⟨rfl, g⟩
    go_wp2_with fail
    go_ret
    exact ⟨rfl, grown_trans (by go_grown) g⟩
  · rw [mayB_f m]
    go_enter Try.func48, Try.ntmps48
    go_wp2_with fail
    refine (may_no h w c _ m).mono ?_; rintro e w1 ⟨rfl, g⟩
    go_wp2_with fail
    go_ret
    exact ⟨rfl, grown_trans (by go_grown) g⟩
end Go.Proofs.Ytgbedoffgahhaaa
