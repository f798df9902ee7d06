/- slices.ContainsFunc over values and over numbers. -/
import Derived.Test.YtgbedoffgahhaaaG1
import Derived.Test.YtgbedoffgahhaaaG2
namespace Go.Proofs.Ytgbedoffgahhaaa
open Go.ChangeShapes Go.WideShapes Go.ChangeAt Go.RowKit
set_option maxRecDepth 20000
set_option linter.unusedVariables false

/-- The place of one that meets p, or -1. -/
def IdxPost (any : Prop) (W : World) (e : Ending) (w' : World) : Prop := ∃ i : Int, e = .returned (.int .i64 i) ∧ ((0 ≤ i ∧ any) ∨ (i = -1 ∧ ¬ any)) ∧ Grown W w'

set_option maxHeartbeats 1000000 in
theorem indexVals_any (fid : FuncId) (p : ValD → Bool) (xs : List ValD) (v : Value) (W : World) (hv : IsVals W v xs)
    (hE : ∀ (xs : Array Value) (w : World), (callFunc fid xs).run Try.prog w = .ok (.enter fid xs) w)
    (hF : ∀ x ∈ xs, ∀ w, Calls Try.prog fid #[.agg #[.int .i64 x.h, .int .i64 x.w, .int .i64 x.c, .int .i64 x.z]] w fun e w' => e = .returned (.bool (p x)) ∧ Grown w w') :
    Calls Try.prog 65 #[v, .func (.func fid) #[] #[]] W (IdxPost (∃ j, j < xs.length ∧ p (xs.getD j default) = true) W) := by
  obtain ⟨A, c1, rfl, a1, a2, a3, a4, a5⟩ := hv
  have hl1 : xs.length ≤ 9223372036854775807 := by unfold maxLen at a2; omega
  have HF := Lib.hid hF
  have HE := Lib.hid hE
  have A5 := Lib.hid a5
  clear a2 a3 a4 hF hE a5
  go_enter Try.func65, Try.ntmps65
  go_wp2_with fail
  go_loopw [8] (fun i wr => ∃ k : Nat, k ≤ xs.length ∧ i = .int .i64 k ∧ Hid (∀ j, j < k → p (xs.getD j default) = false) ∧ Grown W wr) (fun i _ => xs.length - (intOf i).toNat)
  case atStart => exact ⟨0, by omega, rfl, Lib.hid (fun j h => by omega), Grown.refl _⟩
  case round =>
    obtain ⟨k, hk, rfl, hs, hg⟩ := hrel
    by_cases l : k < xs.length
    · obtain ⟨b, off, rfl, hb, hc⟩ := A5.out (by omega)
      obtain ⟨m0, m1, m2, m3⟩ := (hc k l).grow hb (Grown.past hg)
      clear hc
      have hm : xs.getD k default ∈ xs := by simp [List.getD, l]
      obtain ⟨x, hx⟩ : ∃ x, xs.getD k default = x := ⟨_, rfl⟩
      rw [hx] at m0 m1 m2 m3 hm
      have HX := Lib.hid hx
      have HM := Lib.hid hm
      clear hx hm
      have i1 : (0 : Int) ≤ (k : Int) := by omega
      have i2 : (k : Int) < (xs.length : Int) := by omega
      have hE := fun xs w => HE.out xs w
      cases hp : p x with
      | true =>
        go_wp2_with fail
        refine (HF.out x HM.out _).mono ?_; rintro e w1 ⟨rfl, g⟩
        rw [hp]
        clear hE
        go_wp2_with fail
        go_ret
        exact ⟨_, rfl, .inl ⟨by omega, k, l, by rw [HX.out, hp]⟩, grown_trans hg g⟩
      | false =>
        go_wp2_with fail
        refine (HF.out x HM.out _).mono ?_; rintro e w1 ⟨rfl, g⟩
        rw [hp]
        clear hE
        go_wp2_with fail
        go_roundw
        case rel => exact ⟨k + 1, by omega, by go_num, Lib.hid (fun j h => by
          by_cases c : j = k
          · subst c; rw [HX.out, hp]
          · exact hs.out j (by omega)), grown_trans hg g⟩
        case measure => simp [intOf]; omega
    · go_wp2_with fail
      go_ret
      exact ⟨_, rfl, .inr ⟨rfl, fun ⟨j, h1, h2⟩ => by rw [hs.out j (by omega)] at h2; cases h2⟩, hg⟩

theorem containsVals_any (fid : FuncId) (p : ValD → Bool) (xs : List ValD) (v : Value) (W : World) (t : Bool) (hv : IsVals W v xs)
    (hE : ∀ (xs : Array Value) (w : World), (callFunc fid xs).run Try.prog w = .ok (.enter fid xs) w)
    (hF : ∀ x ∈ xs, ∀ w, Calls Try.prog fid #[.agg #[.int .i64 x.h, .int .i64 x.w, .int .i64 x.c, .int .i64 x.z]] w fun e w' => e = .returned (.bool (p x)) ∧ Grown w w')
    (ht : Hid (t = true ↔ ∃ j, j < xs.length ∧ p (xs.getD j default) = true)) :
    Calls Try.prog 47 #[v, .func (.func fid) #[] #[]] W fun e w' => e = .returned (.bool t) ∧ Grown W w' := by
  have H := Lib.hid (indexVals_any fid p xs v W hv hE hF)
  obtain ⟨A, c1, rfl, a1, a2, a3, a4, a5⟩ := hv
  clear hE hF a1 a2 a3 a4 a5
  go_enter Try.func47, Try.ntmps47
  go_wp2_with fail
  refine H.out.mono ?_
  rintro e w1 ⟨i, rfl, hi, g⟩
  rcases hi with ⟨h0, ha⟩ | ⟨rfl, ha⟩
  · have T : t = true := ht.out.mpr ha
    subst T
    go_wp2_with fail
    go_ret
    exact ⟨rfl, g⟩
  · have T : t = false := by
      cases t with
      | false => rfl
      | true => exact absurd (ht.out.mp rfl) ha
    subst T
    go_wp2_with fail
    go_ret
    exact ⟨rfl, g⟩

set_option maxHeartbeats 1000000 in
theorem indexNums_any (fid : FuncId) (p : Int → Bool) (xs : List Int) (v : Value) (W : World) (hv : IsNums .i32 W v xs)
    (hE : ∀ (xs : Array Value) (w : World), (callFunc fid xs).run Try.prog w = .ok (.enter fid xs) w)
    (hF : ∀ x ∈ xs, (Lit.int .i32 x).wf = true → ∀ w, Calls Try.prog fid #[.int .i32 x] w fun e w' => e = .returned (.bool (p x)) ∧ Grown w w') :
    Calls Try.prog 81 #[v, .func (.func fid) #[] #[]] W (IdxPost (∃ j, j < xs.length ∧ p (xs.getD j 0) = true) W) := by
  obtain ⟨A, c1, rfl, a1, a2, a3, a4, a5⟩ := hv
  have hl1 : xs.length ≤ 9223372036854775807 := by unfold maxLen at a2; omega
  have HF := Lib.hid hF
  have HE := Lib.hid hE
  have A5 := Lib.hid a5
  have WF := Lib.hid a4
  clear a2 a3 a4 hF hE a5
  go_enter Try.func81, Try.ntmps81
  go_wp2_with fail
  go_loopw [8] (fun i wr => ∃ k : Nat, k ≤ xs.length ∧ i = .int .i64 k ∧ Hid (∀ j, j < k → p (xs.getD j 0) = false) ∧ Grown W wr) (fun i _ => xs.length - (intOf i).toNat)
  case atStart => exact ⟨0, by omega, rfl, Lib.hid (fun j h => by omega), Grown.refl _⟩
  case round =>
    obtain ⟨k, hk, rfl, hs, hg⟩ := hrel
    by_cases l : k < xs.length
    · obtain ⟨b, off, rfl, hb, hc⟩ := A5.out (by omega)
      have m0 := (grown_cell (p := ⟨b, off + k, none⟩) hg hb).trans (hc k l)
      clear hc
      have hm : xs.getD k 0 ∈ xs := by simp [List.getD, l]
      obtain ⟨x, hx⟩ : ∃ x, xs.getD k 0 = x := ⟨_, rfl⟩
      rw [hx] at m0 hm
      have HX := Lib.hid hx
      have HM := Lib.hid hm
      clear hx hm
      have i1 : (0 : Int) ≤ (k : Int) := by omega
      have i2 : (k : Int) < (xs.length : Int) := by omega
      have hE := fun xs w => HE.out xs w
      cases hp : p x with
      | true =>
        go_wp2_with fail
        refine (HF.out x HM.out (WF.out x HM.out) _).mono ?_; rintro e w1 ⟨rfl, g⟩
        rw [hp]
        clear hE
        go_wp2_with fail
        go_ret
        exact ⟨_, rfl, .inl ⟨by omega, k, l, by rw [HX.out, hp]⟩, grown_trans hg g⟩
      | false =>
        go_wp2_with fail
        refine (HF.out x HM.out (WF.out x HM.out) _).mono ?_; rintro e w1 ⟨rfl, g⟩
        rw [hp]
        clear hE
        go_wp2_with fail
        go_roundw
        case rel => exact ⟨k + 1, by omega, by go_num, Lib.hid (fun j h => by
          by_cases c : j = k
          · subst c; rw [HX.out, hp]
          · exact hs.out j (by omega)), grown_trans hg g⟩
        case measure => simp [intOf]; omega
    · go_wp2_with fail
      go_ret
      exact ⟨_, rfl, .inr ⟨rfl, fun ⟨j, h1, h2⟩ => by rw [hs.out j (by omega)] at h2; cases h2⟩, hg⟩

theorem containsNums_any (fid : FuncId) (p : Int → Bool) (xs : List Int) (v : Value) (W : World) (t : Bool) (hv : IsNums .i32 W v xs)
    (hE : ∀ (xs : Array Value) (w : World), (callFunc fid xs).run Try.prog w = .ok (.enter fid xs) w)
    (hF : ∀ x ∈ xs, (Lit.int .i32 x).wf = true → ∀ w, Calls Try.prog fid #[.int .i32 x] w fun e w' => e = .returned (.bool (p x)) ∧ Grown w w')
    (ht : Hid (t = true ↔ ∃ j, j < xs.length ∧ p (xs.getD j 0) = true)) :
    Calls Try.prog 54 #[v, .func (.func fid) #[] #[]] W fun e w' => e = .returned (.bool t) ∧ Grown W w' := by
  have H := Lib.hid (indexNums_any fid p xs v W hv hE hF)
  obtain ⟨A, c1, rfl, a1, a2, a3, a4, a5⟩ := hv
  clear hE hF a1 a2 a3 a4 a5
  go_enter Try.func54, Try.ntmps54
  go_wp2_with fail
  refine H.out.mono ?_
  rintro e w1 ⟨i, rfl, hi, g⟩
  rcases hi with ⟨h0, ha⟩ | ⟨rfl, ha⟩
  · have T : t = true := ht.out.mpr ha
    subst T
    go_wp2_with fail
    go_ret
    exact ⟨rfl, g⟩
  · have T : t = false := by
      cases t with
      | false => rfl
      | true => exact absurd (ht.out.mp rfl) ha
    subst T
    go_wp2_with fail
    go_ret
    exact ⟨rfl, g⟩
end Go.Proofs.Ytgbedoffgahhaaa
