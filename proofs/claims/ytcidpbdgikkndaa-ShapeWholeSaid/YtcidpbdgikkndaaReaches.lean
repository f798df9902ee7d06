/- What is under places one behind the other: the first, the last, all. -/
import Derived.Test.YtcidpbdgikkndaaLawMath
namespace Go.Proofs.Ytcidpbdgikkndaa
open Go.ChangeShapes Go.WideShapes Go.ChangeAt Go.RowKit

theorem rs_last {first k stride pad size : Int} {j : Nat} (h : leastI stride pad (first + j) < overI k stride pad size (first + j)) : (rs first k stride pad size (j + 1)).2 = overI k stride pad size (first + j) := by
  by_cases h0 : (rs first k stride pad size j).2 = 0
  · rw [rs_first (Lib.hid rfl) (Lib.hid rfl) h h0]
  · rw [rs_more (Lib.hid rfl) (Lib.hid rfl) h h0]

theorem rs_begin {first k stride pad size : Int} (h : leastI stride pad first < overI k stride pad size first) (j : Nat) :
    (rs first k stride pad size (j + 1)).1 = leastI stride pad first ∧ (rs first k stride pad size (j + 1)).2 ≠ 0 := by
  have l0 : 0 ≤ leastI stride pad first := by unfold leastI; omega
  induction j with
  | zero =>
    have e : first + ((0 : Nat) : Int) = first := by simp
    have h' := h
    rw [← e] at h'
    rw [rs_first (Lib.hid rfl) (Lib.hid rfl) h' rfl, e]
    exact ⟨rfl, by simp only []; omega⟩
  | succ j ih =>
    by_cases hx : leastI stride pad (first + ((j + 1 : Nat) : Int)) < overI k stride pad size (first + ((j + 1 : Nat) : Int))
    · rw [rs_more (Lib.hid rfl) (Lib.hid rfl) hx ih.2]
      have : 0 ≤ leastI stride pad (first + ((j + 1 : Nat) : Int)) := by unfold leastI; omega
      exact ⟨ih.1, by simp only []; omega⟩
    · rw [rs_out (Lib.hid rfl) (Lib.hid rfl) hx]
      exact ih

theorem rs_one {p k stride pad size : Int} : (leastI stride pad p < overI k stride pad size p → rs p k stride pad size 1 = (leastI stride pad p, overI k stride pad size p)) ∧ (¬ leastI stride pad p < overI k stride pad size p → rs p k stride pad size 1 = (0, 0)) := by
  have e : p + ((0 : Nat) : Int) = p := by simp
  constructor
  · intro h
    have h' := h
    rw [← e] at h'
    rw [rs_first (j := 0) (Lib.hid rfl) (Lib.hid rfl) h' rfl, e]
  · intro h
    have h' := h
    rw [← e] at h'
    rw [rs_out (j := 0) (Lib.hid rfl) (Lib.hid rfl) h']
    rfl

/-- Something is under every place of a window that is wider than the padding. -/
theorem under_some {size k stride pad p : Int} (hw : mayWin size k stride pad) (h0 : 0 ≤ p) (hp : p < outI size k stride pad) (c : pad < k) : leastI stride pad p < overI k stride pad size p := by
  obtain ⟨b1, b2⟩ := place_bd hw h0 hp
  obtain ⟨h1, h2, h3, h4, h5, h6, h7, h8, h9⟩ := hw
  unfold leastI overI
  omega

theorem least_mono {stride pad p q : Int} (h : 1 ≤ stride) (l : p ≤ q) : leastI stride pad p ≤ leastI stride pad q := by
  have := Int.mul_le_mul_of_nonneg_right l (show 0 ≤ stride by omega)
  unfold leastI
  omega
theorem over_mono {k stride pad size p q : Int} (h : 1 ≤ stride) (l : p ≤ q) : overI k stride pad size p ≤ overI k stride pad size q := by
  have := Int.mul_le_mul_of_nonneg_right l (show 0 ≤ stride by omega)
  unfold overI
  omega

theorem reach_one {size k stride pad p : Int} (hw : mayWin size k stride pad) (h0 : 0 ≤ p) (hp : p < outI size k stride pad) : reachI p 1 k stride pad size = rs p k stride pad size 1 :=
  reachI_yes ⟨hw, h0, by omega, by omega⟩

theorem reaches_facts {A M k stride pad size n F T O E L V : Int} (hw : mayWin size k stride pad) (hn : n = outI size k stride pad) (a1 : 0 ≤ A) (a2 : A < n) (b1 : 0 ≤ M) (b2 : M < n - A)
    (hF : F = (reachI A (1 + M) k stride pad size).1) (hT : T = (reachI A (1 + M) k stride pad size).2) (hO : O = (reachI A 1 k stride pad size).1) (hE : E = (reachI A 1 k stride pad size).2)
    (hL : L = (reachI (A + (1 + M) - 1) 1 k stride pad size).1) (hV : V = (reachI (A + (1 + M) - 1) 1 k stride pad size).2) :
    ((T = 0 ∨ E = 0 ∨ V = 0) → 0 < pad ∧ k ≤ pad) ∧ (T ≠ 0 → E ≠ 0 → V ≠ 0 → F = O ∧ T = V ∧ O ≤ L ∧ E ≤ V ∧ T ≤ size) := by
  have e1 : A + (1 + M) - 1 = A + (M.toNat : Int) := by omega
  have e2 : (1 + M).toNat = M.toNat + 1 := by omega
  rw [reachI_yes (show inR A (1 + M) k stride pad size from ⟨hw, a1, by omega, by omega⟩), e2] at hF hT
  rw [reach_one hw a1 (by omega)] at hO hE
  rw [e1, reach_one hw (by omega) (by omega)] at hL hV
  have g1 : 1 ≤ stride := hw.2.2.2.2.1
  have ml := least_mono (pad := pad) g1 (show A ≤ A + (M.toNat : Int) by omega)
  have mo := over_mono (k := k) (pad := pad) (size := size) g1 (show A ≤ A + (M.toNat : Int) by omega)
  have l0 : 0 ≤ leastI stride pad A := by unfold leastI; omega
  have l1 : 0 ≤ leastI stride pad (A + (M.toNat : Int)) := by unfold leastI; omega
  have o1 : overI k stride pad size (A + (M.toNat : Int)) ≤ size := by unfold overI; omega
  constructor
  · intro h
    by_cases c : pad < k
    · exfalso
      have u1 := under_some hw a1 (by omega) c
      have u2 := under_some hw (show 0 ≤ A + (M.toNat : Int) by omega) (by omega) c
      rw [rs_last u2] at hT
      rw [rs_one.1 u1] at hE
      rw [rs_one.1 u2] at hV
      simp only [] at hE hV
      omega
    · have := hw.2.2.1
      omega
  · intro t0 e0 v0
    by_cases u2 : leastI stride pad (A + (M.toNat : Int)) < overI k stride pad size (A + (M.toNat : Int))
    · by_cases u1 : leastI stride pad A < overI k stride pad size A
      · rw [rs_last u2] at hT
        rw [(rs_begin u1 _).1] at hF
        rw [rs_one.1 u1] at hO hE
        rw [rs_one.1 u2] at hL hV
        simp only [] at hO hE hL hV
        omega
      · rw [rs_one.2 u1] at hE
        exact absurd hE e0
    · rw [rs_one.2 u2] at hV
      exact absurd hV v0

/-- All places together: from the least of the first to the greatest of the last; and each within. -/
theorem whole_facts {k stride pad size n F T : Int} (hw : mayWin size k stride pad) (hn : n = outI size k stride pad) (c : pad < k) (hF : F = (reachI 0 n k stride pad size).1) (hT : T = (reachI 0 n k stride pad size).2) :
    F = 0 ∧ T = overI k stride pad size (n - 1) ∧ ∀ i : Int, 0 ≤ i → i < n → (reachI i 1 k stride pad size) = (leastI stride pad i, overI k stride pad size i) ∧ leastI stride pad i < overI k stride pad size i ∧ overI k stride pad size i - leastI stride pad i ≤ k ∧ F ≤ leastI stride pad i ∧ overI k stride pad size i ≤ T := by
  have n1 := (out_bd hw).1
  rw [← hn] at n1
  obtain ⟨m, hm⟩ : ∃ m : Nat, n = ((m + 1 : Nat) : Int) := ⟨(n - 1).toNat, by omega⟩
  have e2 : n.toNat = m + 1 := by omega
  rw [reachI_yes (show inR 0 n k stride pad size from ⟨hw, by omega, by omega, by omega⟩), e2] at hF hT
  have g1 : 1 ≤ stride := hw.2.2.2.2.1
  have u1 := under_some hw (show (0 : Int) ≤ 0 by omega) (by omega) c
  have u2 := under_some hw (show (0 : Int) ≤ 0 + (m : Int) by omega) (by omega) c
  rw [(rs_begin u1 _).1] at hF
  rw [rs_last u2] at hT
  have hF0 : F = 0 := by
    rw [hF]; unfold leastI
    have := hw.2.2.2.2.2.2.1
    omega
  have em : (0 : Int) + (m : Int) = n - 1 := by omega
  rw [em] at hT
  refine ⟨hF0, hT, fun i i0 i1 => ?_⟩
  have u := under_some hw i0 (by omega) c
  rw [reach_one hw i0 (by omega), rs_one.1 u]
  have mo := over_mono (k := k) (pad := pad) (size := size) g1 (show i ≤ n - 1 by omega)
  rw [← hT] at mo
  refine ⟨rfl, u, ?_, ?_, mo⟩
  · unfold leastI overI; omega
  · rw [hF0]; unfold leastI; omega
end Go.Proofs.Ytcidpbdgikkndaa
