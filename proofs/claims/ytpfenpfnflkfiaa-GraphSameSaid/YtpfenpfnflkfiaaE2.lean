/- slices.Equal over values. -/
import Derived.Test.YtpfenpfnflkfiaaR3Same
import Derived.Test.YtpfenpfnflkfiaaG2
namespace Go.Proofs.Ytpfenpfnflkfiaa
open Go.ChangeShapes Go.WideShapes Go.ChangeAt Go.RowKit
set_option maxRecDepth 20000
set_option linter.unusedVariables false

set_option maxHeartbeats 1000000 in
theorem equal_vals (w : World) (v u : Value) (xs ys : List ValD) (t : Bool) (hv : IsVals w v xs) (hu : IsVals w u ys) (ht : Hid (t = true ↔ xs = ys)) :
    Calls Try.prog 33 #[v, u] w fun e w' => e = .returned (.bool t) ∧ Grown w w' := by
  obtain ⟨A, c1, rfl, a1, a2, a3, a4, a5⟩ := hv
  obtain ⟨B, c2, rfl, b1, b2, b3, b4, b5⟩ := hu
  have hm : maxLen ≤ 9223372036854775807 := by decide
  have hl1 : xs.length ≤ 9223372036854775807 := by omega
  have hl2 : ys.length ≤ 9223372036854775807 := by omega
  clear hm a2 b2
  by_cases hl : xs.length = ys.length
  · have HE := Lib.hid (vals_ext hl)
    have e0 : ((xs.length : Int) == (ys.length : Int)) = true := by simp only [beq_iff_eq]; omega
    have e9 : ((xs.length : Int) != (ys.length : Int)) = false := by simp [bne, e0]
    go_enter Try.func33, Try.ntmps33
    go_wp2_with fail
    go_loopw [5, 13] (fun _ i wr => ∃ k : Nat, k ≤ xs.length ∧ i = .int .i64 k ∧ Hid (∀ j, j < k → xs.getD j default = ys.getD j default) ∧ Grown w wr) (fun _ i _ => xs.length - (intOf i).toNat)
    case atStart => exact ⟨0, by omega, rfl, Lib.hid (fun j h => by omega), Grown.refl _⟩
    case round =>
      obtain ⟨k, hk, rfl, hx, hg⟩ := hrel
      by_cases l : k < xs.length
      · obtain ⟨p, o, rfl, hp, hc⟩ := a5 (by omega)
        obtain ⟨p', o', rfl, hp', hc'⟩ := b5 (by omega)
        obtain ⟨m0, m1, m2, m3⟩ := (hc k l).grow hp (Grown.past hg)
        obtain ⟨n0, n1, n2, n3⟩ := (hc' k (by omega)).grow hp' (Grown.past hg)
        obtain ⟨x, hxx⟩ : ∃ x, xs.getD k default = x := ⟨_, rfl⟩
        obtain ⟨y, hyy⟩ : ∃ y, ys.getD k default = y := ⟨_, rfl⟩
        rw [hxx] at m0 m1 m2 m3
        rw [hyy] at n0 n1 n2 n3
        obtain ⟨xh, xw, xc, xz⟩ := x
        obtain ⟨yh, yw, yc, yz⟩ := y
        simp only at m0 m1 m2 m3 n0 n1 n2 n3
        have i1 : (0 : Int) ≤ (k : Int) := by omega
        have i2 : (k : Int) < (xs.length : Int) := by omega
        have i3 : (k : Int) < (ys.length : Int) := by omega
        by_cases q : (⟨xh, xw, xc, xz⟩ : ValD) = ⟨yh, yw, yc, yz⟩
        · have E : Hid (∀ j, j < k + 1 → xs.getD j default = ys.getD j default) := Lib.hid (fun j h => by
            by_cases c : j = k
            · subst c; rw [hxx, hyy, q]
            · exact hx.out j (by omega))
          clear hc hc' hxx hyy
          simp only [ValD.mk.injEq] at q
          obtain ⟨rfl, rfl, rfl, rfl⟩ := q
          go_wp2_with fail
          go_region
          go_wp2_with fail
          go_roundw
          case rel => exact ⟨k + 1, by omega, by go_num, E, hg.drew⟩
          case measure => simp [intOf]; omega
        · have T : t = false := by
            cases t with
            | false => rfl
            | true => exact absurd (by rw [← hxx, ← hyy]; exact (HE.out.1 (ht.out.1 rfl)) k l) q
          subst T
          clear hc hc' hxx hyy
          simp only [ValD.mk.injEq] at q
          by_cases q1 : xh = yh
          · subst q1
            by_cases q2 : xw = yw
            · subst q2
              by_cases q3 : xc = yc
              · subst q3
                have q4 : ¬ xz = yz := fun e => q ⟨rfl, rfl, rfl, e⟩
                go_wp2_with fail
                go_region
                go_wp2_with fail
                go_ret
                exact ⟨rfl, hg.drew⟩
              · go_wp2_with fail
                go_region
                go_wp2_with fail
                go_ret
                exact ⟨rfl, hg.drew⟩
            · go_wp2_with fail
              go_region
              go_wp2_with fail
              go_ret
              exact ⟨rfl, hg.drew⟩
          · go_wp2_with fail
            go_region
            go_wp2_with fail
            go_ret
            exact ⟨rfl, hg.drew⟩
      · have T : t = true := ht.out.2 (HE.out.2 (fun j h => hx.out j (by omega)))
        subst T
        go_wp2_with fail
        go_ret
        exact ⟨rfl, hg⟩
  · have T : t = false := by
      cases t with
      | false => rfl
      | true => exact absurd (congrArg List.length (ht.out.1 rfl)) hl
    subst T
    have e0 : ((xs.length : Int) == (ys.length : Int)) = false := by simp only [beq_eq_false_iff_ne, ne_eq]; omega
    have e9 : ((xs.length : Int) != (ys.length : Int)) = true := by simp [bne, e0]
    go_enter Try.func33, Try.ntmps33
    go_wp2_with fail
    go_ret
    exact ⟨rfl, Grown.refl _⟩
end Go.Proofs.Ytpfenpfnflkfiaa
