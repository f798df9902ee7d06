/- The reference of layer 3: ints, SameValues. -/
import Derived.Test.YtbfdoonlohijiaaRead
import Derived.OpenShut
import Derived.Deep.QuietTactic
import Derived.BigQuiet
namespace Go.Proofs.Ytbfdoonlohijiaa
open Go.ChangeShapes Go.WideShapes Go.ChangeAt Go.RowKit
set_option linter.unusedVariables false

theorem getD_ext {xs ys : List Int} (h : xs.length = ys.length) : xs = ys ↔ ∀ j, j < xs.length → xs.getD j 0 = ys.getD j 0 := by
  constructor
  · rintro rfl j _; rfl
  · intro k
    refine List.ext_getElem h (fun i h1 h2 => ?_)
    have := k i h1
    simpa [List.getD, h1, h2] using this

set_option maxHeartbeats 1000000 in
theorem ints_any (w : World) (v u : Value) (xs ys : List Int) (t : Bool) (hv : IsNums .i64 w v xs) (hu : IsNums .i64 w u ys) (ht : Hid (t = true ↔ xs = ys)) :
    Calls Try.prog 27 #[v, u] w fun e w' => e = .returned (.bool t) ∧ Grown w w' := by
  obtain ⟨A, c1, rfl, a1, a2, a3, a4, a5⟩ := hv
  obtain ⟨B, c2, rfl, b1, b2, b3, b4, b5⟩ := hu
  have hm : maxLen ≤ 9223372036854775807 := by decide
  have hl1 : xs.length ≤ 9223372036854775807 := by omega
  have hl2 : ys.length ≤ 9223372036854775807 := by omega
  clear hm a2 b2
  by_cases hl : xs.length = ys.length
  · have HE := Lib.hid (getD_ext hl)
    have e0 : ((xs.length : Int) == (ys.length : Int)) = true := by simp only [beq_iff_eq]; omega
    go_enter Try.func27, Try.ntmps27
    go_wp2_with fail
    go_loopw [5] (fun i wr => ∃ k : Nat, k ≤ xs.length ∧ i = .int .i64 k ∧ Hid (∀ j, j < k → xs.getD j 0 = ys.getD j 0) ∧ Grown w wr) (fun i _ => xs.length - (intOf i).toNat)
    case atStart => exact ⟨0, by omega, rfl, Lib.hid (fun j h => by omega), Grown.refl _⟩
    case round =>
      obtain ⟨k, hk, rfl, hx, hg⟩ := hrel
      by_cases l : k < xs.length
      · obtain ⟨p, o, rfl, hp, hc⟩ := a5 (by omega)
        obtain ⟨p', o', rfl, hp', hc'⟩ := b5 (by omega)
        have x1 := (grown_cell hg (p := ⟨p, o + k, none⟩) hp).trans (hc k l)
        have x2 := (grown_cell hg (p := ⟨p', o' + k, none⟩) hp').trans (hc' k (by omega))
        obtain ⟨x, hxx⟩ : ∃ x, xs.getD k 0 = x := ⟨_, rfl⟩
        obtain ⟨y, hyy⟩ : ∃ y, ys.getD k 0 = y := ⟨_, rfl⟩
        rw [hxx] at x1
        rw [hyy] at x2
        have i1 : (0 : Int) ≤ (k : Int) := by omega
        have i2 : (k : Int) < (xs.length : Int) := by omega
        have i3 : (k : Int) < (ys.length : Int) := by omega
        by_cases q : x = y
        · have E : Hid (∀ j, j < k + 1 → xs.getD j 0 = ys.getD j 0) := Lib.hid (fun j h => by
            by_cases c : j = k
            · subst c; rw [hxx, hyy, q]
            · exact hx.out j (by omega))
          clear hc hc' hxx hyy
          subst q
          go_wp2_with fail
          go_region
          go_wp2_with fail
          go_roundw
          case rel => exact ⟨k + 1, by omega, by go_num, E, hg.drew⟩
          case measure => simp [intOf]; omega
        · have T : t = false := by
            cases t with
            | false => rfl
            | true => exact absurd (by rw [← hxx, ← hyy]; exact (HE.out.1 (ht.out.1 rfl)) k l) q
          subst T
          have e1 : (x == y) = false := by simpa using q
          clear hc hc' hxx hyy
          go_wp2_with fail
          go_region
          go_wp2_with fail
          go_ret
          exact ⟨rfl, hg.drew⟩
      · have T : t = true := ht.out.2 (HE.out.2 (fun j h => hx.out j (by omega)))
        subst T
        go_wp2_with fail
        go_ret
        exact ⟨rfl, hg⟩
  · have T : t = false := by
      cases t with
      | false => rfl
      | true => exact absurd (congrArg List.length (ht.out.1 rfl)) hl
    subst T
    have e0 : ((xs.length : Int) == (ys.length : Int)) = false := by simp only [beq_eq_false_iff_ne, ne_eq]; omega
    go_enter Try.func27, Try.ntmps27
    go_wp2_with fail
    go_ret
    exact ⟨rfl, Grown.refl _⟩
theorem vals_ext {xs ys : List ValD} (h : xs.length = ys.length) : xs = ys ↔ ∀ j, j < xs.length → xs.getD j default = ys.getD j default := by
  constructor
  · rintro rfl j _; rfl
  · intro k
    refine List.ext_getElem h (fun i h1 h2 => ?_)
    have := k i h1
    simpa [List.getD, h1, h2] using this

set_option maxHeartbeats 1000000 in
theorem vals_any (w : World) (v u : Value) (xs ys : List ValD) (t : Bool) (hv : IsVals w v xs) (hu : IsVals w u ys) (ht : Hid (t = true ↔ xs = ys)) :
    Calls Try.prog 26 #[v, u] w fun e w' => e = .returned (.bool t) ∧ Grown w w' := by
  obtain ⟨A, c1, rfl, a1, a2, a3, a4, a5⟩ := hv
  obtain ⟨B, c2, rfl, b1, b2, b3, b4, b5⟩ := hu
  have hm : maxLen ≤ 9223372036854775807 := by decide
  have hl1 : xs.length ≤ 9223372036854775807 := by omega
  have hl2 : ys.length ≤ 9223372036854775807 := by omega
  clear hm a2 b2
  by_cases hl : xs.length = ys.length
  · have HE := Lib.hid (vals_ext hl)
    have e0 : ((xs.length : Int) == (ys.length : Int)) = true := by simp only [beq_iff_eq]; omega
    go_enter Try.func26, Try.ntmps26
    go_wp2_with fail
    go_loopw [5] (fun i wr => ∃ k : Nat, k ≤ xs.length ∧ i = .int .i64 k ∧ Hid (∀ j, j < k → xs.getD j default = ys.getD j default) ∧ Grown w wr) (fun i _ => xs.length - (intOf i).toNat)
    case atStart => exact ⟨0, by omega, rfl, Lib.hid (fun j h => by omega), Grown.refl _⟩
    case round =>
      obtain ⟨k, hk, rfl, hx, hg⟩ := hrel
      by_cases l : k < xs.length
      · obtain ⟨p, o, rfl, hp, hc⟩ := a5 (by omega)
        obtain ⟨p', o', rfl, hp', hc'⟩ := b5 (by omega)
        obtain ⟨m0, m1, m2, m3⟩ := (hc k l).grow hp (Grown.past hg)
        obtain ⟨n0, n1, n2, n3⟩ := (hc' k (by omega)).grow hp' (Grown.past hg)
        obtain ⟨x, hxx⟩ : ∃ x, xs.getD k default = x := ⟨_, rfl⟩
        obtain ⟨y, hyy⟩ : ∃ y, ys.getD k default = y := ⟨_, rfl⟩
        rw [hxx] at m0 m1 m2 m3
        rw [hyy] at n0 n1 n2 n3
        obtain ⟨xh, xw, xc, xz⟩ := x
        obtain ⟨yh, yw, yc, yz⟩ := y
        simp only at m0 m1 m2 m3 n0 n1 n2 n3
        have i1 : (0 : Int) ≤ (k : Int) := by omega
        have i2 : (k : Int) < (xs.length : Int) := by omega
        have i3 : (k : Int) < (ys.length : Int) := by omega
        by_cases q : (⟨xh, xw, xc, xz⟩ : ValD) = ⟨yh, yw, yc, yz⟩
        · have E : Hid (∀ j, j < k + 1 → xs.getD j default = ys.getD j default) := Lib.hid (fun j h => by
            by_cases c : j = k
            · subst c; rw [hxx, hyy, q]
            · exact hx.out j (by omega))
          clear hc hc' hxx hyy
          simp only [ValD.mk.injEq] at q
          obtain ⟨rfl, rfl, rfl, rfl⟩ := q
          go_wp2_with fail
          go_region
          go_wp2_with fail
          go_roundw
          case rel => exact ⟨k + 1, by omega, by go_num, E, hg.drew⟩
          case measure => simp [intOf]; omega
        · have T : t = false := by
            cases t with
            | false => rfl
            | true => exact absurd (by rw [← hxx, ← hyy]; exact (HE.out.1 (ht.out.1 rfl)) k l) q
          subst T
          clear hc hc' hxx hyy
          simp only [ValD.mk.injEq] at q
          by_cases q1 : xh = yh
          · subst q1
            by_cases q2 : xw = yw
            · subst q2
              by_cases q3 : xc = yc
              · subst q3
                have q4 : ¬ xz = yz := fun e => q ⟨rfl, rfl, rfl, e⟩
                go_wp2_with fail
                go_region
                go_wp2_with fail
                go_ret
                exact ⟨rfl, hg.drew⟩
              · go_wp2_with fail
                go_region
                go_wp2_with fail
                go_ret
                exact ⟨rfl, hg.drew⟩
            · go_wp2_with fail
              go_region
              go_wp2_with fail
              go_ret
              exact ⟨rfl, hg.drew⟩
          · go_wp2_with fail
            go_region
            go_wp2_with fail
            go_ret
            exact ⟨rfl, hg.drew⟩
      · have T : t = true := ht.out.2 (HE.out.2 (fun j h => hx.out j (by omega)))
        subst T
        go_wp2_with fail
        go_ret
        exact ⟨rfl, hg⟩
  · have T : t = false := by
      cases t with
      | false => rfl
      | true => exact absurd (congrArg List.length (ht.out.1 rfl)) hl
    subst T
    have e0 : ((xs.length : Int) == (ys.length : Int)) = false := by simp only [beq_eq_false_iff_ne, ne_eq]; omega
    go_enter Try.func26, Try.ntmps26
    go_wp2_with fail
    go_ret
    exact ⟨rfl, Grown.refl _⟩
end Go.Proofs.Ytbfdoonlohijiaa
