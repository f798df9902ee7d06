/- Semaphores: the head of the laws. -/
import Derived.Test.YtjiholljpkdllaaK5
namespace Go.Proofs.Ytjiholljpkdllaa
open Go.ChangeShapes Go.WideShapes Go.ChangeAt Go.RowKit
set_option maxRecDepth 20000
set_option linter.unusedVariables false
set_option maxHeartbeats 2000000 in
theorem shown_any (w : World) : Calls Try.prog 8 #[] w fun e w' => e = .returned (.bool true) ∧ Past w w' := by
  go_enter Try.func8, Try.ntmps8
  go_upto_region 2 with (go_at_call 9; refine (new_any _).mono ?_; rintro e w1 ⟨rfl, h1, g1⟩)
  go_upto_region 5 with (go_at_call 12; refine (wait_any _ _ _ _ h1).mono ?_; rintro e w2 ⟨rfl, h2, g2⟩; rw [show waitE (List.replicate 8 0) 0 = 20 from rfl]; rw [show waitL (List.replicate 8 0) 0 = List.replicate 8 0 from rfl] at h2)
  go_upto_region 6 with (go_at_call 11; refine (sig_any _ _ _ _ h2).mono ?_; rintro e w3 ⟨rfl, h3, g3⟩; rw [show sigE (List.replicate 8 0) 0 = 0 from rfl]; rw [show sigL (List.replicate 8 0) 0 = (List.replicate 8 0).set 0 1 from rfl] at h3)
  go_upto_region 7 with (go_at_call 12; refine (wait_any _ _ _ _ h3).mono ?_; rintro e w4 ⟨rfl, h4, g4⟩; rw [show waitE ((List.replicate 8 0).set 0 1) 0 = 0 from rfl]; rw [show waitL ((List.replicate 8 0).set 0 1) 0 = List.replicate 8 0 from rfl] at h4)
  go_wp2_with (first | (go_at_call 12; refine (wait_any _ _ _ _ h4).mono ?_; rintro e w5 ⟨rfl, h5, g5⟩; rw [show waitE (List.replicate 8 0) 0 = 20 from rfl]; rw [show waitL (List.replicate 8 0) 0 = List.replicate 8 0 from rfl] at h5) | (go_at_call 11; refine (sig_any _ _ _ _ h5).mono ?_; rintro e w6 ⟨rfl, h6, g6⟩; rw [show sigE (List.replicate 8 0) 8 = 1 from rfl]))
  go_ret
  exact ⟨rfl, (g2.trans (g3.trans (g4.trans (g5.trans g6)))).past g1 (Nat.le_succ _)⟩
theorem getD_ext {xs ys : List Int} (h : xs.length = ys.length) : xs = ys ↔ ∀ j, j < xs.length → xs.getD j 0 = ys.getD j 0 := by
  constructor
  · rintro rfl j _; rfl
  · intro k
    refine List.ext_getElem h (fun i h1 h2 => ?_)
    have := k i h1
    simpa [List.getD, h1, h2] using this

set_option maxHeartbeats 1000000 in
theorem ints_any (w : World) (v u : Value) (xs ys : List Int) (t : Bool) (hv : IsNums .i64 w v xs) (hu : IsNums .i64 w u ys) (ht : Hid (t = true ↔ xs = ys)) :
    Calls Try.prog 22 #[v, u] w fun e w' => e = .returned (.bool t) ∧ Grown w w' := by
  obtain ⟨A, c1, rfl, a1, a2, a3, a4, a5⟩ := hv
  obtain ⟨B, c2, rfl, b1, b2, b3, b4, b5⟩ := hu
  have hm : maxLen ≤ 9223372036854775807 := by decide
  have hl1 : xs.length ≤ 9223372036854775807 := by omega
  have hl2 : ys.length ≤ 9223372036854775807 := by omega
  clear hm a2 b2
  by_cases hl : xs.length = ys.length
  · have HE := Lib.hid (getD_ext hl)
    have e0 : ((xs.length : Int) == (ys.length : Int)) = true := by simp only [beq_iff_eq]; omega
    go_enter Try.func22, Try.ntmps22
    go_wp2_with fail
    go_loopw [5] (fun i wr => ∃ k : Nat, k ≤ xs.length ∧ i = .int .i64 k ∧ Hid (∀ j, j < k → xs.getD j 0 = ys.getD j 0) ∧ Grown w wr) (fun i _ => xs.length - (intOf i).toNat)
    case atStart => exact ⟨0, by omega, rfl, Lib.hid (fun j h => by omega), Grown.refl _⟩
    case round =>
      obtain ⟨k, hk, rfl, hx, hg⟩ := hrel
      by_cases l : k < xs.length
      · obtain ⟨p, o, rfl, hp, hc⟩ := a5 (by omega)
        obtain ⟨p', o', rfl, hp', hc'⟩ := b5 (by omega)
        have x1 := (grown_cell hg (p := ⟨p, o + k, none⟩) hp).trans (hc k l)
        have x2 := (grown_cell hg (p := ⟨p', o' + k, none⟩) hp').trans (hc' k (by omega))
        obtain ⟨x, hxx⟩ : ∃ x, xs.getD k 0 = x := ⟨_, rfl⟩
        obtain ⟨y, hyy⟩ : ∃ y, ys.getD k 0 = y := ⟨_, rfl⟩
        rw [hxx] at x1
        rw [hyy] at x2
        have i1 : (0 : Int) ≤ (k : Int) := by omega
        have i2 : (k : Int) < (xs.length : Int) := by omega
        have i3 : (k : Int) < (ys.length : Int) := by omega
        by_cases q : x = y
        · have E : Hid (∀ j, j < k + 1 → xs.getD j 0 = ys.getD j 0) := Lib.hid (fun j h => by
            by_cases c : j = k
            · subst c; rw [hxx, hyy, q]
            · exact hx.out j (by omega))
          clear hc hc' hxx hyy
          subst q
          go_wp2_with fail
          go_region
          go_wp2_with fail
          go_roundw
          case rel => exact ⟨k + 1, by omega, by go_num, E, hg.drew⟩
          case measure => simp [intOf]; omega
        · have T : t = false := by
            cases t with
            | false => rfl
            | true => exact absurd (by rw [← hxx, ← hyy]; exact (HE.out.1 (ht.out.1 rfl)) k l) q
          subst T
          have e1 : (x == y) = false := by simpa using q
          clear hc hc' hxx hyy
          go_wp2_with fail
          go_region
          go_wp2_with fail
          go_ret
          exact ⟨rfl, hg.drew⟩
      · have T : t = true := ht.out.2 (HE.out.2 (fun j h => hx.out j (by omega)))
        subst T
        go_wp2_with fail
        go_ret
        exact ⟨rfl, hg⟩
  · have T : t = false := by
      cases t with
      | false => rfl
      | true => exact absurd (congrArg List.length (ht.out.1 rfl)) hl
    subst T
    have e0 : ((xs.length : Int) == (ys.length : Int)) = false := by simp only [beq_eq_false_iff_ne, ne_eq]; omega
    go_enter Try.func22, Try.ntmps22
    go_wp2_with fail
    go_ret
    exact ⟨rfl, Grown.refl _⟩
set_option maxHeartbeats 1000000 in
theorem Ints_any (w : World) (v u : Value) (xs ys : List Int) (t : Bool) (hv : IsNums .i64 w v xs) (hu : IsNums .i64 w u ys) (ht : Hid (t = true ↔ xs = ys)) :
    Calls Try.prog 17 #[v, u] w fun e w' => e = .returned (.bool t) ∧ Past w w' := by
  go_enter Try.func17, Try.ntmps17
  go_wp2_with (go_at_call 22; refine (ints_any _ _ _ _ _ _ hv hu ht).mono ?_; rintro e w1 ⟨rfl, g1⟩)
  go_ret
  exact ⟨rfl, Grown.past g1⟩
end Go.Proofs.Ytjiholljpkdllaa
