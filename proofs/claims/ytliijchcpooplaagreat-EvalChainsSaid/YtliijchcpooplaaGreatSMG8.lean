/- slices.ContainsFunc over values and over numbers. graph: opOf, 9, 10, 11, 12, no. The reference of layer 3: its small tests. The reference of layer 3: many. -/
import Derived.Test.YtliijchcpooplaaGreatSMSh2
import Derived.Test.YtliijchcpooplaaGreatSMG4
import Derived.Deep.DeepCutAuto
import Derived.Test.YtliijchcpooplaaGreatSMFxMath
namespace Go.Proofs.YtliijchcpooplaaGreat
open Go.ChangeShapes Go.WideShapes Go.ChangeAt Go.RowKit
set_option maxRecDepth 20000
set_option linter.unusedVariables false

/-- The place of one that meets p, or -1. -/
def IdxPost (any : Prop) (W : World) (e : Ending) (w' : World) : Prop := ∃ i : Int, e = .returned (.int .i64 i) ∧ ((0 ≤ i ∧ any) ∨ (i = -1 ∧ ¬ any)) ∧ Grown W w'
set_option maxHeartbeats 1000000 in
theorem indexVals_any (fid : FuncId) (p : ValD → Bool) (xs : List ValD) (v : Value) (W : World) (hv : IsVals W v xs)
    (hE : ∀ (xs : Array Value) (w : World), (callFunc fid xs).run Tryz.prog w = .ok (.enter fid xs) w)
    (hF : ∀ x ∈ xs, ∀ w, Calls Tryz.prog fid #[.agg #[.int .i64 x.h, .int .i64 x.w, .int .i64 x.c, .int .i64 x.z]] w fun e w' => e = .returned (.bool (p x)) ∧ Grown w w') :
    Calls Tryz.prog 66 #[v, .func (.func fid) #[] #[]] W (IdxPost (∃ j, j < xs.length ∧ p (xs.getD j default) = true) W) := by
  obtain ⟨A, c1, rfl, a1, a2, a3, a4, a5⟩ := hv
  have hl1 : xs.length ≤ 9223372036854775807 := by unfold maxLen at a2; omega
  have HF := Lib.hid hF
  have HE := Lib.hid hE
  have A5 := Lib.hid a5
  clear a2 a3 a4 hF hE a5
  go_enter Tryz.func66, Tryz.ntmps66
  go_wp2_with fail
  go_loopw [8] (fun i wr => ∃ k : Nat, k ≤ xs.length ∧ i = .int .i64 k ∧ Hid (∀ j, j < k → p (xs.getD j default) = false) ∧ Grown W wr) (fun i _ => xs.length - (intOf i).toNat)
  case atStart => exact ⟨0, by omega, rfl, Lib.hid (fun j h => by omega), Grown.refl _⟩
  case round =>
    obtain ⟨k, hk, rfl, hs, hg⟩ := hrel
    by_cases l : k < xs.length
    · obtain ⟨b, off, rfl, hb, hc⟩ := A5.out (by omega)
      obtain ⟨m0, m1, m2, m3⟩ := (hc k l).grow hb (Grown.past hg)
      clear hc
      have hm : xs.getD k default ∈ xs := by simp [List.getD, l]
      obtain ⟨x, hx⟩ : ∃ x, xs.getD k default = x := ⟨_, rfl⟩
      rw [hx] at m0 m1 m2 m3 hm
      have HX := Lib.hid hx
      have HM := Lib.hid hm
      clear hx hm
      have i1 : (0 : Int) ≤ (k : Int) := by omega
      have i2 : (k : Int) < (xs.length : Int) := by omega
      have hE := fun xs w => HE.out xs w
      cases hp : p x with
      | true =>
        go_wp2_with fail
        refine (HF.out x HM.out _).mono ?_; rintro e w1 ⟨rfl, g⟩
        rw [hp]
        clear hE
        go_wp2_with fail
        go_ret
        exact ⟨_, rfl, .inl ⟨by omega, k, l, by rw [HX.out, hp]⟩, grown_trans hg g⟩
      | false =>
        go_wp2_with fail
        refine (HF.out x HM.out _).mono ?_; rintro e w1 ⟨rfl, g⟩
        rw [hp]
        clear hE
        go_wp2_with fail
        go_roundw
        case rel => exact ⟨k + 1, by omega, by go_num, Lib.hid (fun j h => by
          by_cases c : j = k
          · subst c; rw [HX.out, hp]
          · exact hs.out j (by omega)), grown_trans hg g⟩
        case measure => simp [intOf]; omega
    · go_wp2_with fail
      go_ret
      exact ⟨_, rfl, .inr ⟨rfl, fun ⟨j, h1, h2⟩ => by rw [hs.out j (by omega)] at h2; cases h2⟩, hg⟩
theorem containsVals_any (fid : FuncId) (p : ValD → Bool) (xs : List ValD) (v : Value) (W : World) (t : Bool) (hv : IsVals W v xs)
    (hE : ∀ (xs : Array Value) (w : World), (callFunc fid xs).run Tryz.prog w = .ok (.enter fid xs) w)
    (hF : ∀ x ∈ xs, ∀ w, Calls Tryz.prog fid #[.agg #[.int .i64 x.h, .int .i64 x.w, .int .i64 x.c, .int .i64 x.z]] w fun e w' => e = .returned (.bool (p x)) ∧ Grown w w')
    (ht : Hid (t = true ↔ ∃ j, j < xs.length ∧ p (xs.getD j default) = true)) :
    Calls Tryz.prog 47 #[v, .func (.func fid) #[] #[]] W fun e w' => e = .returned (.bool t) ∧ Grown W w' := by
  have H := Lib.hid (indexVals_any fid p xs v W hv hE hF)
  obtain ⟨A, c1, rfl, a1, a2, a3, a4, a5⟩ := hv
  clear hE hF a1 a2 a3 a4 a5
  go_enter Tryz.func47, Tryz.ntmps47
  go_wp2_with fail
  refine H.out.mono ?_
  rintro e w1 ⟨i, rfl, hi, g⟩
  rcases hi with ⟨h0, ha⟩ | ⟨rfl, ha⟩
  · have T : t = true := ht.out.mpr ha
    subst T
    go_wp2_with fail
    go_ret
    exact ⟨rfl, g⟩
  · have T : t = false := by
      cases t with
      | false => rfl
      | true => exact absurd (ht.out.mp rfl) ha
    subst T
    go_wp2_with fail
    go_ret
    exact ⟨rfl, g⟩
set_option maxHeartbeats 1000000 in
theorem indexNums_any (fid : FuncId) (p : Int → Bool) (xs : List Int) (v : Value) (W : World) (hv : IsNums .i32 W v xs)
    (hE : ∀ (xs : Array Value) (w : World), (callFunc fid xs).run Tryz.prog w = .ok (.enter fid xs) w)
    (hF : ∀ x ∈ xs, (Lit.int .i32 x).wf = true → ∀ w, Calls Tryz.prog fid #[.int .i32 x] w fun e w' => e = .returned (.bool (p x)) ∧ Grown w w') :
    Calls Tryz.prog 82 #[v, .func (.func fid) #[] #[]] W (IdxPost (∃ j, j < xs.length ∧ p (xs.getD j 0) = true) W) := by
  obtain ⟨A, c1, rfl, a1, a2, a3, a4, a5⟩ := hv
  have hl1 : xs.length ≤ 9223372036854775807 := by unfold maxLen at a2; omega
  have HF := Lib.hid hF
  have HE := Lib.hid hE
  have A5 := Lib.hid a5
  have WF := Lib.hid a4
  clear a2 a3 a4 hF hE a5
  go_enter Tryz.func82, Tryz.ntmps82
  go_wp2_with fail
  go_loopw [8] (fun i wr => ∃ k : Nat, k ≤ xs.length ∧ i = .int .i64 k ∧ Hid (∀ j, j < k → p (xs.getD j 0) = false) ∧ Grown W wr) (fun i _ => xs.length - (intOf i).toNat)
  case atStart => exact ⟨0, by omega, rfl, Lib.hid (fun j h => by omega), Grown.refl _⟩
  case round =>
    obtain ⟨k, hk, rfl, hs, hg⟩ := hrel
    by_cases l : k < xs.length
    · obtain ⟨b, off, rfl, hb, hc⟩ := A5.out (by omega)
      have m0 := (grown_cell (p := ⟨b, off + k, none⟩) hg hb).trans (hc k l)
      clear hc
      have hm : xs.getD k 0 ∈ xs := by simp [List.getD, l]
      obtain ⟨x, hx⟩ : ∃ x, xs.getD k 0 = x := ⟨_, rfl⟩
      rw [hx] at m0 hm
      have HX := Lib.hid hx
      have HM := Lib.hid hm
      clear hx hm
      have i1 : (0 : Int) ≤ (k : Int) := by omega
      have i2 : (k : Int) < (xs.length : Int) := by omega
      have hE := fun xs w => HE.out xs w
      cases hp : p x with
      | true =>
        go_wp2_with fail
        refine (HF.out x HM.out (WF.out x HM.out) _).mono ?_; rintro e w1 ⟨rfl, g⟩
        rw [hp]
        clear hE
        go_wp2_with fail
        go_ret
        exact ⟨_, rfl, .inl ⟨by omega, k, l, by rw [HX.out, hp]⟩, grown_trans hg g⟩
      | false =>
        go_wp2_with fail
        refine (HF.out x HM.out (WF.out x HM.out) _).mono ?_; rintro e w1 ⟨rfl, g⟩
        rw [hp]
        clear hE
        go_wp2_with fail
        go_roundw
        case rel => exact ⟨k + 1, by omega, by go_num, Lib.hid (fun j h => by
          by_cases c : j = k
          · subst c; rw [HX.out, hp]
          · exact hs.out j (by omega)), grown_trans hg g⟩
        case measure => simp [intOf]; omega
    · go_wp2_with fail
      go_ret
      exact ⟨_, rfl, .inr ⟨rfl, fun ⟨j, h1, h2⟩ => by rw [hs.out j (by omega)] at h2; cases h2⟩, hg⟩
theorem containsNums_any (fid : FuncId) (p : Int → Bool) (xs : List Int) (v : Value) (W : World) (t : Bool) (hv : IsNums .i32 W v xs)
    (hE : ∀ (xs : Array Value) (w : World), (callFunc fid xs).run Tryz.prog w = .ok (.enter fid xs) w)
    (hF : ∀ x ∈ xs, (Lit.int .i32 x).wf = true → ∀ w, Calls Tryz.prog fid #[.int .i32 x] w fun e w' => e = .returned (.bool (p x)) ∧ Grown w w')
    (ht : Hid (t = true ↔ ∃ j, j < xs.length ∧ p (xs.getD j 0) = true)) :
    Calls Tryz.prog 54 #[v, .func (.func fid) #[] #[]] W fun e w' => e = .returned (.bool t) ∧ Grown W w' := by
  have H := Lib.hid (indexNums_any fid p xs v W hv hE hF)
  obtain ⟨A, c1, rfl, a1, a2, a3, a4, a5⟩ := hv
  clear hE hF a1 a2 a3 a4 a5
  go_enter Tryz.func54, Tryz.ntmps54
  go_wp2_with fail
  refine H.out.mono ?_
  rintro e w1 ⟨i, rfl, hi, g⟩
  rcases hi with ⟨h0, ha⟩ | ⟨rfl, ha⟩
  · have T : t = true := ht.out.mpr ha
    subst T
    go_wp2_with fail
    go_ret
    exact ⟨rfl, g⟩
  · have T : t = false := by
      cases t with
      | false => rfl
      | true => exact absurd (ht.out.mp rfl) ha
    subst T
    go_wp2_with fail
    go_ret
    exact ⟨rfl, g⟩
end Go.Proofs.YtliijchcpooplaaGreat
namespace Go.Proofs.YtliijchcpooplaaGreat
open Go.ChangeShapes Go.WideShapes Go.ChangeAt Go.RowKit
set_option maxRecDepth 20000
set_option linter.unusedVariables false

set_option maxHeartbeats 2000000 in
theorem opOf_9 (w : World) : Calls Tryz.prog 52 #[.int .i64 9] w (Made0 ⟨1, 0, 0, 0, 0, 1, 1, 0, 0, false, true⟩ 78 96 (.int .i64 0) w) := by
  go_enter Tryz.func52, Tryz.ntmps52
  go_wp2_with (first | (go_at_call 76; with_reducible refine (always_any _ _).mono ?_; rintro e w1 ⟨rfl, rfl⟩) | (go_at_call 68; with_reducible refine (slid_any _ _).mono ?_; rintro e w1 ⟨rfl, rfl⟩) | (go_at_call 70; with_reducible refine (ofChannels_any _ _).mono ?_; rintro e w1 ⟨rfl, rfl⟩))
  exact bodyPost_ret (by simp [results, Tryz.results52, go_sem]; rfl) rfl ⟨_, rfl, by go_cell, by simp, by go_grown⟩
set_option maxHeartbeats 2000000 in
theorem opOf_10 (w : World) : Calls Tryz.prog 52 #[.int .i64 10] w (Made0 ⟨2, 0, 0, 0, 0, 0, 0, 0, 0, false, true⟩ 79 96 (.int .i64 0) w) := by
  go_enter Tryz.func52, Tryz.ntmps52
  go_wp2_with (first | (go_at_call 76; with_reducible refine (always_any _ _).mono ?_; rintro e w1 ⟨rfl, rfl⟩) | (go_at_call 68; with_reducible refine (slid_any _ _).mono ?_; rintro e w1 ⟨rfl, rfl⟩) | (go_at_call 70; with_reducible refine (ofChannels_any _ _).mono ?_; rintro e w1 ⟨rfl, rfl⟩))
  exact bodyPost_ret (by simp [results, Tryz.results52, go_sem]; rfl) rfl ⟨_, rfl, by go_cell, by simp, by go_grown⟩
set_option maxHeartbeats 2000000 in
theorem opOf_11 (w : World) : Calls Tryz.prog 52 #[.int .i64 11] w (Made0 ⟨1, 0, 0, 0, 0, 0, 0, 0, 0, true, true⟩ 80 96 (.int .i64 0) w) := by
  go_enter Tryz.func52, Tryz.ntmps52
  go_wp2_with (first | (go_at_call 76; with_reducible refine (always_any _ _).mono ?_; rintro e w1 ⟨rfl, rfl⟩) | (go_at_call 68; with_reducible refine (slid_any _ _).mono ?_; rintro e w1 ⟨rfl, rfl⟩) | (go_at_call 70; with_reducible refine (ofChannels_any _ _).mono ?_; rintro e w1 ⟨rfl, rfl⟩))
  exact bodyPost_ret (by simp [results, Tryz.results52, go_sem]; rfl) rfl ⟨_, rfl, by go_cell, by simp, by go_grown⟩
set_option maxHeartbeats 2000000 in
theorem opOf_12 (w : World) : Calls Tryz.prog 52 #[.int .i64 12] w (Made0 ⟨1, 0, 0, 0, 0, 0, 0, 0, 0, false, false⟩ 77 96 (.int .i64 256) w) := by
  go_enter Tryz.func52, Tryz.ntmps52
  go_wp2_with (first | (go_at_call 76; with_reducible refine (always_any _ _).mono ?_; rintro e w1 ⟨rfl, rfl⟩) | (go_at_call 68; with_reducible refine (slid_any _ _).mono ?_; rintro e w1 ⟨rfl, rfl⟩) | (go_at_call 70; with_reducible refine (ofChannels_any _ _).mono ?_; rintro e w1 ⟨rfl, rfl⟩))
  exact bodyPost_ret (by simp [results, Tryz.results52, go_sem]; rfl) rfl ⟨_, rfl, by go_cell, by simp, by go_grown⟩
def NoOp (w : World) (e : Ending) (w' : World) : Prop := e = .returned (.tuple #[opV ⟨0, 0, 0, 0, 0, 0, 0, 0, 0, false, false⟩ .nilFunc .nilFunc, .bool false]) ∧ Grown w w'
set_option maxHeartbeats 2000000 in
theorem opOf_no (o : Int) (w : World) (h : ¬ (1 ≤ o ∧ o ≤ 12)) : Calls Tryz.prog 52 #[.int .i64 o] w (NoOp w) := by
  have b1 : (o == 1) = false := by simp; omega
  have b2 : (o == 2) = false := by simp; omega
  have b3 : (o == 3) = false := by simp; omega
  have b4 : (o == 4) = false := by simp; omega
  have b5 : (o == 5) = false := by simp; omega
  have b6 : (o == 6) = false := by simp; omega
  have b7 : (o == 7) = false := by simp; omega
  have b8 : (o == 8) = false := by simp; omega
  have b9 : (o == 9) = false := by simp; omega
  have b10 : (o == 10) = false := by simp; omega
  have b11 : (o == 11) = false := by simp; omega
  have b12 : (o == 12) = false := by simp; omega
  clear h
  go_enter Tryz.func52, Tryz.ntmps52
  go_wp2_with fail
  exact bodyPost_ret (by simp [results, Tryz.results52, go_sem]; rfl) rfl ⟨rfl, by go_grown⟩
end Go.Proofs.YtliijchcpooplaaGreat
namespace Go.Proofs.YtliijchcpooplaaGreat
open Go.ChangeShapes Go.WideShapes Go.ChangeAt Go.RowKit
set_option maxRecDepth 20000
set_option linter.unusedVariables false

theorem rin_any (x lo hi : Int) (t : Bool) (w : World) (ht : Hid (t = true ↔ lo ≤ x ∧ x ≤ hi)) : Calls Tryz.prog 21 #[.int .i64 x, .int .i64 lo, .int .i64 hi] w fun e w' => e = .returned (.bool t) ∧ Grown w w' := by
  by_cases c1 : lo ≤ x
  · have d1 : decide (lo ≤ x) = true := by simpa using c1
    by_cases c2 : x ≤ hi
    · have d2 : decide (x ≤ hi) = true := by simpa using c2
      obtain rfl : t = true := ht.out.mpr ⟨c1, c2⟩
      clear c1 c2 ht
      go_enter Tryz.func21, Tryz.ntmps21
      go_wp2_with fail
      go_ret
      exact ⟨rfl, by go_grown⟩
    · have d2 : decide (x ≤ hi) = false := by simpa using c2
      obtain rfl : t = false := by
        cases t
        · rfl
        · exact absurd (ht.out.mp rfl).2 c2
      clear c1 c2 ht
      go_enter Tryz.func21, Tryz.ntmps21
      go_wp2_with fail
      go_ret
      exact ⟨rfl, by go_grown⟩
  · have d1 : decide (lo ≤ x) = false := by simpa using c1
    obtain rfl : t = false := by
      cases t
      · rfl
      · exact absurd (ht.out.mp rfl).1 c1
    clear c1 ht
    go_enter Tryz.func21, Tryz.ntmps21
    go_wp2_with fail
    go_ret
    exact ⟨rfl, by go_grown⟩
theorem two_any (o : Int) (t : Bool) (w : World) (ht : Hid (t = true ↔ o = 6 ∨ o = 7 ∨ o = 10)) : Calls Tryz.prog 44 #[.int .i64 o] w fun e w' => e = .returned (.bool t) ∧ Grown w w' := by
  by_cases c6 : o = 6
  · obtain rfl : t = true := ht.out.mpr (by simp [c6])
    subst c6
    clear ht
    go_enter Tryz.func44, Tryz.ntmps44
    go_wp2_with fail
    go_ret
    exact ⟨rfl, by go_grown⟩
  have d6 : (o == 6) = false := by simp [c6]
  by_cases c7 : o = 7
  · obtain rfl : t = true := ht.out.mpr (by simp [c7])
    subst c7
    clear ht
    go_enter Tryz.func44, Tryz.ntmps44
    go_wp2_with fail
    go_ret
    exact ⟨rfl, by go_grown⟩
  have d7 : (o == 7) = false := by simp [c7]
  by_cases c10 : o = 10
  · obtain rfl : t = true := ht.out.mpr (by simp [c10])
    subst c10
    clear ht
    go_enter Tryz.func44, Tryz.ntmps44
    go_wp2_with fail
    go_ret
    exact ⟨rfl, by go_grown⟩
  have d10 : (o == 10) = false := by simp [c10]
  obtain rfl : t = false := by
    cases t
    · rfl
    · have := ht.out.mp rfl
      omega
  clear c6 c7 c10 ht
  go_enter Tryz.func44, Tryz.ntmps44
  go_wp2_with fail
  go_ret
  exact ⟨rfl, by go_grown⟩
theorem rkeeps_any (o : Int) (t : Bool) (w : World) (ht : Hid (t = true ↔ o = 4 ∨ o = 5 ∨ o = 8 ∨ o = 9 ∨ o = 10 ∨ o = 11)) : Calls Tryz.prog 31 #[.int .i64 o] w fun e w' => e = .returned (.bool t) ∧ Grown w w' := by
  by_cases c4 : o = 4
  · obtain rfl : t = true := ht.out.mpr (by simp [c4])
    subst c4
    clear ht
    go_enter Tryz.func31, Tryz.ntmps31
    go_wp2_with fail
    go_ret
    exact ⟨rfl, by go_grown⟩
  have d4 : (o == 4) = false := by simp [c4]
  by_cases c5 : o = 5
  · obtain rfl : t = true := ht.out.mpr (by simp [c5])
    subst c5
    clear ht
    go_enter Tryz.func31, Tryz.ntmps31
    go_wp2_with fail
    go_ret
    exact ⟨rfl, by go_grown⟩
  have d5 : (o == 5) = false := by simp [c5]
  by_cases c8 : o = 8
  · obtain rfl : t = true := ht.out.mpr (by simp [c8])
    subst c8
    clear ht
    go_enter Tryz.func31, Tryz.ntmps31
    go_wp2_with fail
    go_ret
    exact ⟨rfl, by go_grown⟩
  have d8 : (o == 8) = false := by simp [c8]
  by_cases c9 : o = 9
  · obtain rfl : t = true := ht.out.mpr (by simp [c9])
    subst c9
    clear ht
    go_enter Tryz.func31, Tryz.ntmps31
    go_wp2_with fail
    go_ret
    exact ⟨rfl, by go_grown⟩
  have d9 : (o == 9) = false := by simp [c9]
  by_cases c10 : o = 10
  · obtain rfl : t = true := ht.out.mpr (by simp [c10])
    subst c10
    clear ht
    go_enter Tryz.func31, Tryz.ntmps31
    go_wp2_with fail
    go_ret
    exact ⟨rfl, by go_grown⟩
  have d10 : (o == 10) = false := by simp [c10]
  by_cases c11 : o = 11
  · obtain rfl : t = true := ht.out.mpr (by simp [c11])
    subst c11
    clear ht
    go_enter Tryz.func31, Tryz.ntmps31
    go_wp2_with fail
    go_ret
    exact ⟨rfl, by go_grown⟩
  have d11 : (o == 11) = false := by simp [c11]
  obtain rfl : t = false := by
    cases t
    · rfl
    · have := ht.out.mp rfl
      omega
  clear c4 c5 c8 c9 c10 c11 ht
  go_enter Tryz.func31, Tryz.ntmps31
  go_wp2_with fail
  go_ret
  exact ⟨rfl, by go_grown⟩
theorem window_any (o : Int) (t : Bool) (w : World) (ht : Hid (t = true ↔ 1 ≤ o ∧ o ≤ 5 ∧ o ≠ 3)) : Calls Tryz.prog 45 #[.int .i64 o] w fun e w' => e = .returned (.bool t) ∧ Grown w w' := by
  by_cases c1 : 1 ≤ o
  · have d1 : decide (1 ≤ o) = true := by simpa using c1
    by_cases c2 : o ≤ 5
    · have d2 : decide (o ≤ 5) = true := by simpa using c2
      by_cases c3 : o = 3
      · obtain rfl : t = false := by
          cases t
          · rfl
          · exact absurd c3 (ht.out.mp rfl).2.2
        subst c3
        clear c1 c2 d1 d2 ht
        go_enter Tryz.func45, Tryz.ntmps45
        go_wp2_with fail
        go_ret
        exact ⟨rfl, by go_grown⟩
      · have d3 : (o != 3) = true := by simpa using c3
        obtain rfl : t = true := ht.out.mpr ⟨c1, c2, c3⟩
        clear c1 c2 c3 ht
        go_enter Tryz.func45, Tryz.ntmps45
        go_wp2_with fail
        go_ret
        exact ⟨rfl, by go_grown⟩
    · have d2 : decide (o ≤ 5) = false := by simpa using c2
      obtain rfl : t = false := by
        cases t
        · rfl
        · exact absurd (ht.out.mp rfl).2.1 c2
      clear c1 c2 ht
      go_enter Tryz.func45, Tryz.ntmps45
      go_wp2_with fail
      go_ret
      exact ⟨rfl, by go_grown⟩
  · have d1 : decide (1 ≤ o) = false := by simpa using c1
    obtain rfl : t = false := by
      cases t
      · rfl
      · exact absurd (ht.out.mp rfl).1 c1
    clear c1 ht
    go_enter Tryz.func45, Tryz.ntmps45
    go_wp2_with fail
    go_ret
    exact ⟨rfl, by go_grown⟩
end Go.Proofs.YtliijchcpooplaaGreat
namespace Go.Proofs.YtliijchcpooplaaGreat
open Go.ChangeShapes Go.WideShapes Go.ChangeAt Go.RowKit
set_option maxRecDepth 20000
set_option linter.unusedVariables false

set_option maxHeartbeats 4000000 in
theorem many_1 (n : NodeD) (vi vw vb : Value) (x : ValD) (W : World) (k1 : 1 ≤ n.k) (k2 : n.k ≤ 3) (c1 : 1 ≤ x.c) (c2 : x.c ≤ 8) (o1 : 1 ≤ n.out) (o2 : n.out ≤ 8) (d1 : (n.op == 1) = true) :
    Calls Tryz.prog 33 #[.agg (nC n vi vw vb), .agg #[.int .i64 x.h, .int .i64 x.w, .int .i64 x.c]] W fun e w' => e = .returned (.tuple #[.int .i64 (n.k * n.k * x.c * n.out), .int .i64 n.out]) ∧ Grown W w' := by
  obtain ⟨m1, m2⟩ := mul_bd k1 k2 k1 k2
  obtain ⟨m3, m4⟩ := mul_bd m1 m2 c1 c2
  obtain ⟨m5, m6⟩ := mul_bd m3 m4 o1 o2
  have e0 : IntKind.i64.wrap (n.k * n.k) = n.k * n.k := IntWalk.i64_in _ (by omega)
  have e1 : IntKind.i64.wrap (n.k * n.k * x.c) = n.k * n.k * x.c := IntWalk.i64_in _ (by omega)
  have e2 : IntKind.i64.wrap (n.k * n.k * x.c * n.out) = n.k * n.k * x.c * n.out := IntWalk.i64_in _ (by omega)
  clear m1 m2 m3 m4 m5 m6
  go_enter Tryz.func33, Tryz.ntmps33
  go_upto_region 1 with fail
  refine opq (fun w' => (Bx w' (W.heap.size) (nC n vi vw vb)) ∧ (Bx w' (W.heap.size + 1) #[.int .i64 x.h, .int .i64 x.w, .int .i64 x.c]) ∧ Grown W w') kLaid ?_
  rintro W1 ⟨b1, b2, g1⟩
  go_upto_region 3 with fail
  go_quiet (fail)
  go_wp2_with fail
  go_ret2
  exact ⟨rfl, by (exact kKeep)⟩
set_option maxHeartbeats 4000000 in
theorem many_2 (n : NodeD) (vi vw vb : Value) (x : ValD) (W : World) (k1 : 1 ≤ n.k) (k2 : n.k ≤ 3) (c1 : 1 ≤ x.c) (c2 : x.c ≤ 8) (d1 : (n.op == 1) = false) (d2 : (n.op == 2) = true) :
    Calls Tryz.prog 33 #[.agg (nC n vi vw vb), .agg #[.int .i64 x.h, .int .i64 x.w, .int .i64 x.c]] W fun e w' => e = .returned (.tuple #[.int .i64 (n.k * n.k * x.c), .int .i64 x.c]) ∧ Grown W w' := by
  obtain ⟨m1, m2⟩ := mul_bd k1 k2 k1 k2
  obtain ⟨m3, m4⟩ := mul_bd m1 m2 c1 c2
  have e0 : IntKind.i64.wrap (n.k * n.k) = n.k * n.k := IntWalk.i64_in _ (by omega)
  have e1 : IntKind.i64.wrap (n.k * n.k * x.c) = n.k * n.k * x.c := IntWalk.i64_in _ (by omega)
  clear m1 m2 m3 m4
  go_enter Tryz.func33, Tryz.ntmps33
  go_upto_region 1 with fail
  refine opq (fun w' => (Bx w' (W.heap.size) (nC n vi vw vb)) ∧ (Bx w' (W.heap.size + 1) #[.int .i64 x.h, .int .i64 x.w, .int .i64 x.c]) ∧ Grown W w') kLaid ?_
  rintro W1 ⟨b1, b2, g1⟩
  go_upto_region 5 with fail
  go_quiet (fail)
  go_wp2_with fail
  go_ret2
  exact ⟨rfl, by (exact kKeep)⟩
set_option maxHeartbeats 4000000 in
theorem many_3 (n : NodeD) (vi vw vb : Value) (x : ValD) (W : World) (q : Int) (hq : Hid (q = sizeI x.h x.w x.c)) (q1 : 1 ≤ q) (q2 : q ≤ 2048) (o1 : 1 ≤ n.out) (o2 : n.out ≤ 8) (d1 : (n.op == 1) = false) (d2 : (n.op == 2) = false) (d3 : (n.op == 3) = true) :
    Calls Tryz.prog 33 #[.agg (nC n vi vw vb), .agg #[.int .i64 x.h, .int .i64 x.w, .int .i64 x.c]] W fun e w' => e = .returned (.tuple #[.int .i64 (q * n.out), .int .i64 n.out]) ∧ Grown W w' := by
  obtain ⟨m5, m6⟩ := mul_bd q1 q2 o1 o2
  have e2 : IntKind.i64.wrap (q * n.out) = q * n.out := IntWalk.i64_in _ (by omega)
  clear m5 m6
  go_enter Tryz.func33, Tryz.ntmps33
  go_upto_region 1 with fail
  refine opq (fun w' => (Bx w' (W.heap.size) (nC n vi vw vb)) ∧ (Bx w' (W.heap.size + 1) #[.int .i64 x.h, .int .i64 x.w, .int .i64 x.c]) ∧ Grown W w' ∧ W.heap.size + 2 ≤ w'.heap.size) kLaid ?_
  rintro W1 ⟨b1, b2, g1, z1⟩
  go_upto_region 7 with fail
  go_region_held3 (fun w' => (Bx w' (W.heap.size) (nC n vi vw vb)) ∧ (Bx w' (W.heap.size + 1) #[.int .i64 x.h, .int .i64 x.w, .int .i64 x.c]) ∧ Grown W w' ∧ W.heap.size + 2 ≤ w'.heap.size) (exact kKeep) (first | (go_at_call 16; with_reducible refine (rsize_any x.h x.w x.c q _ hq).mono ?_; rintro e w1 ⟨rfl, g⟩))
  all_goals
    go_wp2_with fail
    go_split_ands
    go_ret2
    exact ⟨rfl, by (exact kKeep)⟩
set_option maxHeartbeats 4000000 in
theorem many_12 (n : NodeD) (vi vw vb : Value) (x : ValD) (W : World) (d1 : (n.op == 1) = false) (d2 : (n.op == 2) = false) (d3 : (n.op == 3) = false) (d12 : (n.op == 12) = true) :
    Calls Tryz.prog 33 #[.agg (nC n vi vw vb), .agg #[.int .i64 x.h, .int .i64 x.w, .int .i64 x.c]] W fun e w' => e = .returned (.tuple #[.int .i64 256, .int .i64 0]) ∧ Grown W w' := by
  go_enter Tryz.func33, Tryz.ntmps33
  go_upto_region 1 with fail
  refine opq (fun w' => (Bx w' (W.heap.size) (nC n vi vw vb)) ∧ (Bx w' (W.heap.size + 1) #[.int .i64 x.h, .int .i64 x.w, .int .i64 x.c]) ∧ Grown W w') kLaid ?_
  rintro W1 ⟨b1, b2, g1⟩
  go_wp2_with fail
  go_ret2
  exact ⟨rfl, by (exact kKeep)⟩
set_option maxHeartbeats 4000000 in
theorem many_0 (n : NodeD) (vi vw vb : Value) (x : ValD) (W : World) (d1 : (n.op == 1) = false) (d2 : (n.op == 2) = false) (d3 : (n.op == 3) = false) (d12 : (n.op == 12) = false) :
    Calls Tryz.prog 33 #[.agg (nC n vi vw vb), .agg #[.int .i64 x.h, .int .i64 x.w, .int .i64 x.c]] W fun e w' => e = .returned (.tuple #[.int .i64 0, .int .i64 0]) ∧ Grown W w' := by
  go_enter Tryz.func33, Tryz.ntmps33
  go_upto_region 1 with fail
  refine opq (fun w' => (Bx w' (W.heap.size) (nC n vi vw vb)) ∧ (Bx w' (W.heap.size + 1) #[.int .i64 x.h, .int .i64 x.w, .int .i64 x.c]) ∧ Grown W w') kLaid ?_
  rintro W1 ⟨b1, b2, g1⟩
  go_wp2_with fail
  go_ret2
  exact ⟨rfl, by (exact kKeep)⟩
end Go.Proofs.YtliijchcpooplaaGreat
