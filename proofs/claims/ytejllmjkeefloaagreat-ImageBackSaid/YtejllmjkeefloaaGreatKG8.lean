/- slices.ContainsFunc over values and over numbers. graph: opOf, 1, 2, 3, 4. -/
import Derived.Test.YtejllmjkeefloaaGreatKSh1A
import Derived.Test.YtejllmjkeefloaaGreatKG6
namespace Go.Proofs.YtejllmjkeefloaaGreat
open Go.ChangeShapes Go.WideShapes Go.ChangeAt Go.RowKit
set_option maxRecDepth 20000
set_option linter.unusedVariables false

/-- The place of one that meets p, or -1. -/
def IdxPost (any : Prop) (W : World) (e : Ending) (w' : World) : Prop := ∃ i : Int, e = .returned (.int .i64 i) ∧ ((0 ≤ i ∧ any) ∨ (i = -1 ∧ ¬ any)) ∧ Grown W w'
set_option maxHeartbeats 1000000 in
theorem indexVals_any (fid : FuncId) (p : ValD → Bool) (xs : List ValD) (v : Value) (W : World) (hv : IsVals W v xs)
    (hE : ∀ (xs : Array Value) (w : World), (callFunc fid xs).run Tryz.prog w = .ok (.enter fid xs) w)
    (hF : ∀ x ∈ xs, ∀ w, Calls Tryz.prog fid #[.agg #[.int .i64 x.h, .int .i64 x.w, .int .i64 x.c, .int .i64 x.z]] w fun e w' => e = .returned (.bool (p x)) ∧ Grown w w') :
    Calls Tryz.prog 119 #[v, .func (.func fid) #[] #[]] W (IdxPost (∃ j, j < xs.length ∧ p (xs.getD j default) = true) W) := by
  obtain ⟨A, c1, rfl, a1, a2, a3, a4, a5⟩ := hv
  have hl1 : xs.length ≤ 9223372036854775807 := by unfold maxLen at a2; omega
  have HF := Lib.hid hF
  have HE := Lib.hid hE
  have A5 := Lib.hid a5
  clear a2 a3 a4 hF hE a5
  go_enter Tryz.func119, Tryz.ntmps119
  go_wp2_with fail
  go_loopw [8] (fun i wr => ∃ k : Nat, k ≤ xs.length ∧ i = .int .i64 k ∧ Hid (∀ j, j < k → p (xs.getD j default) = false) ∧ Grown W wr) (fun i _ => xs.length - (intOf i).toNat)
  case atStart => exact ⟨0, by omega, rfl, Lib.hid (fun j h => by omega), Grown.refl _⟩
  case round =>
    obtain ⟨k, hk, rfl, hs, hg⟩ := hrel
    by_cases l : k < xs.length
    · obtain ⟨b, off, rfl, hb, hc⟩ := A5.out (by omega)
      obtain ⟨m0, m1, m2, m3⟩ := (hc k l).grow hb (Grown.past hg)
      clear hc
      have hm : xs.getD k default ∈ xs := by simp [List.getD, l]
      obtain ⟨x, hx⟩ : ∃ x, xs.getD k default = x := ⟨_, rfl⟩
      rw [hx] at m0 m1 m2 m3 hm
      have HX := Lib.hid hx
      have HM := Lib.hid hm
      clear hx hm
      have i1 : (0 : Int) ≤ (k : Int) := by omega
      have i2 : (k : Int) < (xs.length : Int) := by omega
      have hE := fun xs w => HE.out xs w
      cases hp : p x with
      | true =>
        go_wp2_with fail
        refine (HF.out x HM.out _).mono ?_; rintro e w1 ⟨rfl, g⟩
        rw [hp]
        clear hE
        go_wp2_with fail
        go_ret
        exact ⟨_, rfl, .inl ⟨by omega, k, l, by rw [HX.out, hp]⟩, grown_trans hg g⟩
      | false =>
        go_wp2_with fail
        refine (HF.out x HM.out _).mono ?_; rintro e w1 ⟨rfl, g⟩
        rw [hp]
        clear hE
        go_wp2_with fail
        go_roundw
        case rel => exact ⟨k + 1, by omega, by go_num, Lib.hid (fun j h => by
          by_cases c : j = k
          · subst c; rw [HX.out, hp]
          · exact hs.out j (by omega)), grown_trans hg g⟩
        case measure => simp [intOf]; omega
    · go_wp2_with fail
      go_ret
      exact ⟨_, rfl, .inr ⟨rfl, fun ⟨j, h1, h2⟩ => by rw [hs.out j (by omega)] at h2; cases h2⟩, hg⟩
theorem containsVals_any (fid : FuncId) (p : ValD → Bool) (xs : List ValD) (v : Value) (W : World) (t : Bool) (hv : IsVals W v xs)
    (hE : ∀ (xs : Array Value) (w : World), (callFunc fid xs).run Tryz.prog w = .ok (.enter fid xs) w)
    (hF : ∀ x ∈ xs, ∀ w, Calls Tryz.prog fid #[.agg #[.int .i64 x.h, .int .i64 x.w, .int .i64 x.c, .int .i64 x.z]] w fun e w' => e = .returned (.bool (p x)) ∧ Grown w w')
    (ht : Hid (t = true ↔ ∃ j, j < xs.length ∧ p (xs.getD j default) = true)) :
    Calls Tryz.prog 94 #[v, .func (.func fid) #[] #[]] W fun e w' => e = .returned (.bool t) ∧ Grown W w' := by
  have H := Lib.hid (indexVals_any fid p xs v W hv hE hF)
  obtain ⟨A, c1, rfl, a1, a2, a3, a4, a5⟩ := hv
  clear hE hF a1 a2 a3 a4 a5
  go_enter Tryz.func94, Tryz.ntmps94
  go_wp2_with fail
  refine H.out.mono ?_
  rintro e w1 ⟨i, rfl, hi, g⟩
  rcases hi with ⟨h0, ha⟩ | ⟨rfl, ha⟩
  · have T : t = true := ht.out.mpr ha
    subst T
    go_wp2_with fail
    go_ret
    exact ⟨rfl, g⟩
  · have T : t = false := by
      cases t with
      | false => rfl
      | true => exact absurd (ht.out.mp rfl) ha
    subst T
    go_wp2_with fail
    go_ret
    exact ⟨rfl, g⟩
set_option maxHeartbeats 1000000 in
theorem indexNums_any (fid : FuncId) (p : Int → Bool) (xs : List Int) (v : Value) (W : World) (hv : IsNums .i32 W v xs)
    (hE : ∀ (xs : Array Value) (w : World), (callFunc fid xs).run Tryz.prog w = .ok (.enter fid xs) w)
    (hF : ∀ x ∈ xs, (Lit.int .i32 x).wf = true → ∀ w, Calls Tryz.prog fid #[.int .i32 x] w fun e w' => e = .returned (.bool (p x)) ∧ Grown w w') :
    Calls Tryz.prog 134 #[v, .func (.func fid) #[] #[]] W (IdxPost (∃ j, j < xs.length ∧ p (xs.getD j 0) = true) W) := by
  obtain ⟨A, c1, rfl, a1, a2, a3, a4, a5⟩ := hv
  have hl1 : xs.length ≤ 9223372036854775807 := by unfold maxLen at a2; omega
  have HF := Lib.hid hF
  have HE := Lib.hid hE
  have A5 := Lib.hid a5
  have WF := Lib.hid a4
  clear a2 a3 a4 hF hE a5
  go_enter Tryz.func134, Tryz.ntmps134
  go_wp2_with fail
  go_loopw [8] (fun i wr => ∃ k : Nat, k ≤ xs.length ∧ i = .int .i64 k ∧ Hid (∀ j, j < k → p (xs.getD j 0) = false) ∧ Grown W wr) (fun i _ => xs.length - (intOf i).toNat)
  case atStart => exact ⟨0, by omega, rfl, Lib.hid (fun j h => by omega), Grown.refl _⟩
  case round =>
    obtain ⟨k, hk, rfl, hs, hg⟩ := hrel
    by_cases l : k < xs.length
    · obtain ⟨b, off, rfl, hb, hc⟩ := A5.out (by omega)
      have m0 := (grown_cell (p := ⟨b, off + k, none⟩) hg hb).trans (hc k l)
      clear hc
      have hm : xs.getD k 0 ∈ xs := by simp [List.getD, l]
      obtain ⟨x, hx⟩ : ∃ x, xs.getD k 0 = x := ⟨_, rfl⟩
      rw [hx] at m0 hm
      have HX := Lib.hid hx
      have HM := Lib.hid hm
      clear hx hm
      have i1 : (0 : Int) ≤ (k : Int) := by omega
      have i2 : (k : Int) < (xs.length : Int) := by omega
      have hE := fun xs w => HE.out xs w
      cases hp : p x with
      | true =>
        go_wp2_with fail
        refine (HF.out x HM.out (WF.out x HM.out) _).mono ?_; rintro e w1 ⟨rfl, g⟩
        rw [hp]
        clear hE
        go_wp2_with fail
        go_ret
        exact ⟨_, rfl, .inl ⟨by omega, k, l, by rw [HX.out, hp]⟩, grown_trans hg g⟩
      | false =>
        go_wp2_with fail
        refine (HF.out x HM.out (WF.out x HM.out) _).mono ?_; rintro e w1 ⟨rfl, g⟩
        rw [hp]
        clear hE
        go_wp2_with fail
        go_roundw
        case rel => exact ⟨k + 1, by omega, by go_num, Lib.hid (fun j h => by
          by_cases c : j = k
          · subst c; rw [HX.out, hp]
          · exact hs.out j (by omega)), grown_trans hg g⟩
        case measure => simp [intOf]; omega
    · go_wp2_with fail
      go_ret
      exact ⟨_, rfl, .inr ⟨rfl, fun ⟨j, h1, h2⟩ => by rw [hs.out j (by omega)] at h2; cases h2⟩, hg⟩
theorem containsNums_any (fid : FuncId) (p : Int → Bool) (xs : List Int) (v : Value) (W : World) (t : Bool) (hv : IsNums .i32 W v xs)
    (hE : ∀ (xs : Array Value) (w : World), (callFunc fid xs).run Tryz.prog w = .ok (.enter fid xs) w)
    (hF : ∀ x ∈ xs, (Lit.int .i32 x).wf = true → ∀ w, Calls Tryz.prog fid #[.int .i32 x] w fun e w' => e = .returned (.bool (p x)) ∧ Grown w w')
    (ht : Hid (t = true ↔ ∃ j, j < xs.length ∧ p (xs.getD j 0) = true)) :
    Calls Tryz.prog 101 #[v, .func (.func fid) #[] #[]] W fun e w' => e = .returned (.bool t) ∧ Grown W w' := by
  have H := Lib.hid (indexNums_any fid p xs v W hv hE hF)
  obtain ⟨A, c1, rfl, a1, a2, a3, a4, a5⟩ := hv
  clear hE hF a1 a2 a3 a4 a5
  go_enter Tryz.func101, Tryz.ntmps101
  go_wp2_with fail
  refine H.out.mono ?_
  rintro e w1 ⟨i, rfl, hi, g⟩
  rcases hi with ⟨h0, ha⟩ | ⟨rfl, ha⟩
  · have T : t = true := ht.out.mpr ha
    subst T
    go_wp2_with fail
    go_ret
    exact ⟨rfl, g⟩
  · have T : t = false := by
      cases t with
      | false => rfl
      | true => exact absurd (ht.out.mp rfl) ha
    subst T
    go_wp2_with fail
    go_ret
    exact ⟨rfl, g⟩
end Go.Proofs.YtejllmjkeefloaaGreat
namespace Go.Proofs.YtejllmjkeefloaaGreat
open Go.ChangeShapes Go.WideShapes Go.ChangeAt Go.RowKit
set_option maxRecDepth 20000
set_option linter.unusedVariables false

set_option maxHeartbeats 2000000 in
theorem opOf_1 (w : World) : Calls Tryz.prog 99 #[.int .i64 1] w (Made1 ⟨1, 1, 3, 1, 2, 0, 1, 1, 8, false, false⟩ 146 149 (.func (.func 121) #[] #[]) (.func (.func 123) #[] #[]) w) := by
  go_enter Tryz.func99, Tryz.ntmps99
  go_wp2_with (first | (go_at_call 128; with_reducible refine (always_any _ _).mono ?_; rintro e w1 ⟨rfl, rfl⟩) | (go_at_call 120; with_reducible refine (slid_any _ _).mono ?_; rintro e w1 ⟨rfl, rfl⟩) | (go_at_call 122; with_reducible refine (ofChannels_any _ _).mono ?_; rintro e w1 ⟨rfl, rfl⟩))
  go_region_held3 (fun w' => w'.cell? ⟨w.heap.size + 1 + 1, 0, none⟩ = some (.int .i64 0) ∧ w'.cell? ⟨w.heap.size + 1 + 1, 1, none⟩ = some (.int .i64 1) ∧ w'.cell? ⟨w.heap.size + 1 + 1 + 1, 0, none⟩ = some (.int .i64 1) ∧ w'.cell? ⟨w.heap.size + 1 + 1 + 1, 1, none⟩ = some (.int .i64 8)) (((repeat' with_reducible apply And.intro) <;> go_cell)) (first | (go_at_call 128; with_reducible refine (always_any _ _).mono ?_; rintro e w1 ⟨rfl, rfl⟩) | (go_at_call 120; with_reducible refine (slid_any _ _).mono ?_; rintro e w1 ⟨rfl, rfl⟩) | (go_at_call 122; with_reducible refine (ofChannels_any _ _).mono ?_; rintro e w1 ⟨rfl, rfl⟩))
  all_goals
    go_wp2_with fail
    exact bodyPost_ret (by simp [results, Tryz.results99, go_sem]; rfl) rfl ⟨_, _, rfl, by go_cell, by simp, by go_cell, by simp, by go_grown⟩
set_option maxHeartbeats 2000000 in
theorem opOf_2 (w : World) : Calls Tryz.prog 99 #[.int .i64 2] w (Made1 ⟨1, 1, 3, 1, 2, 0, 1, 0, 0, false, false⟩ 146 149 (.func (.func 124) #[] #[]) (.func (.func 125) #[] #[]) w) := by
  go_enter Tryz.func99, Tryz.ntmps99
  go_wp2_with (first | (go_at_call 128; with_reducible refine (always_any _ _).mono ?_; rintro e w1 ⟨rfl, rfl⟩) | (go_at_call 120; with_reducible refine (slid_any _ _).mono ?_; rintro e w1 ⟨rfl, rfl⟩) | (go_at_call 122; with_reducible refine (ofChannels_any _ _).mono ?_; rintro e w1 ⟨rfl, rfl⟩))
  go_region_held3 (fun w' => w'.cell? ⟨w.heap.size + 1 + 1, 0, none⟩ = some (.int .i64 0) ∧ w'.cell? ⟨w.heap.size + 1 + 1, 1, none⟩ = some (.int .i64 1) ∧ w'.cell? ⟨w.heap.size + 1 + 1 + 1, 0, none⟩ = some (.int .i64 1) ∧ w'.cell? ⟨w.heap.size + 1 + 1 + 1, 1, none⟩ = some (.int .i64 8)) (((repeat' with_reducible apply And.intro) <;> go_cell)) (first | (go_at_call 128; with_reducible refine (always_any _ _).mono ?_; rintro e w1 ⟨rfl, rfl⟩) | (go_at_call 120; with_reducible refine (slid_any _ _).mono ?_; rintro e w1 ⟨rfl, rfl⟩) | (go_at_call 122; with_reducible refine (ofChannels_any _ _).mono ?_; rintro e w1 ⟨rfl, rfl⟩))
  all_goals
    go_wp2_with fail
    exact bodyPost_ret (by simp [results, Tryz.results99, go_sem]; rfl) rfl ⟨_, _, rfl, by go_cell, by simp, by go_cell, by simp, by go_grown⟩
set_option maxHeartbeats 2000000 in
theorem opOf_3 (w : World) : Calls Tryz.prog 99 #[.int .i64 3] w (Made0 ⟨1, 0, 0, 0, 0, 0, 0, 1, 8, false, false⟩ 126 149 (.func (.func 127) #[] #[]) w) := by
  go_enter Tryz.func99, Tryz.ntmps99
  go_wp2_with (first | (go_at_call 128; with_reducible refine (always_any _ _).mono ?_; rintro e w1 ⟨rfl, rfl⟩) | (go_at_call 120; with_reducible refine (slid_any _ _).mono ?_; rintro e w1 ⟨rfl, rfl⟩) | (go_at_call 122; with_reducible refine (ofChannels_any _ _).mono ?_; rintro e w1 ⟨rfl, rfl⟩))
  go_region_held3 (fun w' => w'.cell? ⟨w.heap.size + 1 + 1, 0, none⟩ = some (.int .i64 0) ∧ w'.cell? ⟨w.heap.size + 1 + 1, 1, none⟩ = some (.int .i64 1) ∧ w'.cell? ⟨w.heap.size + 1 + 1 + 1, 0, none⟩ = some (.int .i64 1) ∧ w'.cell? ⟨w.heap.size + 1 + 1 + 1, 1, none⟩ = some (.int .i64 8)) (((repeat' with_reducible apply And.intro) <;> go_cell)) (first | (go_at_call 128; with_reducible refine (always_any _ _).mono ?_; rintro e w1 ⟨rfl, rfl⟩) | (go_at_call 120; with_reducible refine (slid_any _ _).mono ?_; rintro e w1 ⟨rfl, rfl⟩) | (go_at_call 122; with_reducible refine (ofChannels_any _ _).mono ?_; rintro e w1 ⟨rfl, rfl⟩))
  all_goals
    go_wp2_with fail
    exact bodyPost_ret (by simp [results, Tryz.results99, go_sem]; rfl) rfl ⟨_, rfl, by go_cell, by simp, by go_grown⟩
set_option maxHeartbeats 2000000 in
theorem opOf_4 (w : World) : Calls Tryz.prog 99 #[.int .i64 4] w (Made1 ⟨1, 1, 3, 1, 2, 0, 0, 0, 0, false, true⟩ 146 150 (.func (.func 124) #[] #[]) (.int .i64 0) w) := by
  go_enter Tryz.func99, Tryz.ntmps99
  go_wp2_with (first | (go_at_call 128; with_reducible refine (always_any _ _).mono ?_; rintro e w1 ⟨rfl, rfl⟩) | (go_at_call 120; with_reducible refine (slid_any _ _).mono ?_; rintro e w1 ⟨rfl, rfl⟩) | (go_at_call 122; with_reducible refine (ofChannels_any _ _).mono ?_; rintro e w1 ⟨rfl, rfl⟩))
  exact bodyPost_ret (by simp [results, Tryz.results99, go_sem]; rfl) rfl ⟨_, _, rfl, by go_cell, by simp, by go_cell, by simp, by go_grown⟩
end Go.Proofs.YtejllmjkeefloaaGreat
