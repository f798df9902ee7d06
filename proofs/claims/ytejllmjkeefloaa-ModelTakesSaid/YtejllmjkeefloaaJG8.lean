/- slices.ContainsFunc over values and over numbers. Clone; begins. graph: opOf, 5, 6, 7, 8. -/
import Derived.Test.YtejllmjkeefloaaJSh1A
import Derived.Test.YtejllmjkeefloaaJG2
import Derived.WalkSpells
import Derived.Lib.BufferMore
import Derived.Test.YtejllmjkeefloaaJG6
import Derived.Test.YtejllmjkeefloaaJV1
namespace Go.Proofs.Ytejllmjkeefloaa
open Go.ChangeShapes Go.WideShapes Go.ChangeAt Go.RowKit
set_option maxRecDepth 20000
set_option linter.unusedVariables false

/-- The place of one that meets p, or -1. -/
def IdxPost (any : Prop) (W : World) (e : Ending) (w' : World) : Prop := ∃ i : Int, e = .returned (.int .i64 i) ∧ ((0 ≤ i ∧ any) ∨ (i = -1 ∧ ¬ any)) ∧ Grown W w'
set_option maxHeartbeats 1000000 in
theorem indexVals_any (fid : FuncId) (p : ValD → Bool) (xs : List ValD) (v : Value) (W : World) (hv : IsVals W v xs)
    (hE : ∀ (xs : Array Value) (w : World), (callFunc fid xs).run Try.prog w = .ok (.enter fid xs) w)
    (hF : ∀ x ∈ xs, ∀ w, Calls Try.prog fid #[.agg #[.int .i64 x.h, .int .i64 x.w, .int .i64 x.c, .int .i64 x.z]] w fun e w' => e = .returned (.bool (p x)) ∧ Grown w w') :
    Calls Try.prog 106 #[v, .func (.func fid) #[] #[]] W (IdxPost (∃ j, j < xs.length ∧ p (xs.getD j default) = true) W) := by
  obtain ⟨A, c1, rfl, a1, a2, a3, a4, a5⟩ := hv
  have hl1 : xs.length ≤ 9223372036854775807 := by unfold maxLen at a2; omega
  have HF := Lib.hid hF
  have HE := Lib.hid hE
  have A5 := Lib.hid a5
  clear a2 a3 a4 hF hE a5
  go_enter Try.func106, Try.ntmps106
  go_wp2_with fail
  go_loopw [8] (fun i wr => ∃ k : Nat, k ≤ xs.length ∧ i = .int .i64 k ∧ Hid (∀ j, j < k → p (xs.getD j default) = false) ∧ Grown W wr) (fun i _ => xs.length - (intOf i).toNat)
  case atStart => exact ⟨0, by omega, rfl, Lib.hid (fun j h => by omega), Grown.refl _⟩
  case round =>
    obtain ⟨k, hk, rfl, hs, hg⟩ := hrel
    by_cases l : k < xs.length
    · obtain ⟨b, off, rfl, hb, hc⟩ := A5.out (by omega)
      obtain ⟨m0, m1, m2, m3⟩ := (hc k l).grow hb (Grown.past hg)
      clear hc
      have hm : xs.getD k default ∈ xs := by simp [List.getD, l]
      obtain ⟨x, hx⟩ : ∃ x, xs.getD k default = x := ⟨_, rfl⟩
      rw [hx] at m0 m1 m2 m3 hm
      have HX := Lib.hid hx
      have HM := Lib.hid hm
      clear hx hm
      have i1 : (0 : Int) ≤ (k : Int) := by omega
      have i2 : (k : Int) < (xs.length : Int) := by omega
      have hE := fun xs w => HE.out xs w
      cases hp : p x with
      | true =>
        go_wp2_with fail
        refine (HF.out x HM.out _).mono ?_; rintro e w1 ⟨rfl, g⟩
        rw [hp]
        clear hE
        go_wp2_with fail
        go_ret
        exact ⟨_, rfl, .inl ⟨by omega, k, l, by rw [HX.out, hp]⟩, grown_trans hg g⟩
      | false =>
        go_wp2_with fail
        refine (HF.out x HM.out _).mono ?_; rintro e w1 ⟨rfl, g⟩
        rw [hp]
        clear hE
        go_wp2_with fail
        go_roundw
        case rel => exact ⟨k + 1, by omega, by go_num, Lib.hid (fun j h => by
          by_cases c : j = k
          · subst c; rw [HX.out, hp]
          · exact hs.out j (by omega)), grown_trans hg g⟩
        case measure => simp [intOf]; omega
    · go_wp2_with fail
      go_ret
      exact ⟨_, rfl, .inr ⟨rfl, fun ⟨j, h1, h2⟩ => by rw [hs.out j (by omega)] at h2; cases h2⟩, hg⟩
theorem containsVals_any (fid : FuncId) (p : ValD → Bool) (xs : List ValD) (v : Value) (W : World) (t : Bool) (hv : IsVals W v xs)
    (hE : ∀ (xs : Array Value) (w : World), (callFunc fid xs).run Try.prog w = .ok (.enter fid xs) w)
    (hF : ∀ x ∈ xs, ∀ w, Calls Try.prog fid #[.agg #[.int .i64 x.h, .int .i64 x.w, .int .i64 x.c, .int .i64 x.z]] w fun e w' => e = .returned (.bool (p x)) ∧ Grown w w')
    (ht : Hid (t = true ↔ ∃ j, j < xs.length ∧ p (xs.getD j default) = true)) :
    Calls Try.prog 94 #[v, .func (.func fid) #[] #[]] W fun e w' => e = .returned (.bool t) ∧ Grown W w' := by
  have H := Lib.hid (indexVals_any fid p xs v W hv hE hF)
  obtain ⟨A, c1, rfl, a1, a2, a3, a4, a5⟩ := hv
  clear hE hF a1 a2 a3 a4 a5
  go_enter Try.func94, Try.ntmps94
  go_wp2_with fail
  refine H.out.mono ?_
  rintro e w1 ⟨i, rfl, hi, g⟩
  rcases hi with ⟨h0, ha⟩ | ⟨rfl, ha⟩
  · have T : t = true := ht.out.mpr ha
    subst T
    go_wp2_with fail
    go_ret
    exact ⟨rfl, g⟩
  · have T : t = false := by
      cases t with
      | false => rfl
      | true => exact absurd (ht.out.mp rfl) ha
    subst T
    go_wp2_with fail
    go_ret
    exact ⟨rfl, g⟩
set_option maxHeartbeats 1000000 in
theorem indexNums_any (fid : FuncId) (p : Int → Bool) (xs : List Int) (v : Value) (W : World) (hv : IsNums .i32 W v xs)
    (hE : ∀ (xs : Array Value) (w : World), (callFunc fid xs).run Try.prog w = .ok (.enter fid xs) w)
    (hF : ∀ x ∈ xs, (Lit.int .i32 x).wf = true → ∀ w, Calls Try.prog fid #[.int .i32 x] w fun e w' => e = .returned (.bool (p x)) ∧ Grown w w') :
    Calls Try.prog 122 #[v, .func (.func fid) #[] #[]] W (IdxPost (∃ j, j < xs.length ∧ p (xs.getD j 0) = true) W) := by
  obtain ⟨A, c1, rfl, a1, a2, a3, a4, a5⟩ := hv
  have hl1 : xs.length ≤ 9223372036854775807 := by unfold maxLen at a2; omega
  have HF := Lib.hid hF
  have HE := Lib.hid hE
  have A5 := Lib.hid a5
  have WF := Lib.hid a4
  clear a2 a3 a4 hF hE a5
  go_enter Try.func122, Try.ntmps122
  go_wp2_with fail
  go_loopw [8] (fun i wr => ∃ k : Nat, k ≤ xs.length ∧ i = .int .i64 k ∧ Hid (∀ j, j < k → p (xs.getD j 0) = false) ∧ Grown W wr) (fun i _ => xs.length - (intOf i).toNat)
  case atStart => exact ⟨0, by omega, rfl, Lib.hid (fun j h => by omega), Grown.refl _⟩
  case round =>
    obtain ⟨k, hk, rfl, hs, hg⟩ := hrel
    by_cases l : k < xs.length
    · obtain ⟨b, off, rfl, hb, hc⟩ := A5.out (by omega)
      have m0 := (grown_cell (p := ⟨b, off + k, none⟩) hg hb).trans (hc k l)
      clear hc
      have hm : xs.getD k 0 ∈ xs := by simp [List.getD, l]
      obtain ⟨x, hx⟩ : ∃ x, xs.getD k 0 = x := ⟨_, rfl⟩
      rw [hx] at m0 hm
      have HX := Lib.hid hx
      have HM := Lib.hid hm
      clear hx hm
      have i1 : (0 : Int) ≤ (k : Int) := by omega
      have i2 : (k : Int) < (xs.length : Int) := by omega
      have hE := fun xs w => HE.out xs w
      cases hp : p x with
      | true =>
        go_wp2_with fail
        refine (HF.out x HM.out (WF.out x HM.out) _).mono ?_; rintro e w1 ⟨rfl, g⟩
        rw [hp]
        clear hE
        go_wp2_with fail
        go_ret
        exact ⟨_, rfl, .inl ⟨by omega, k, l, by rw [HX.out, hp]⟩, grown_trans hg g⟩
      | false =>
        go_wp2_with fail
        refine (HF.out x HM.out (WF.out x HM.out) _).mono ?_; rintro e w1 ⟨rfl, g⟩
        rw [hp]
        clear hE
        go_wp2_with fail
        go_roundw
        case rel => exact ⟨k + 1, by omega, by go_num, Lib.hid (fun j h => by
          by_cases c : j = k
          · subst c; rw [HX.out, hp]
          · exact hs.out j (by omega)), grown_trans hg g⟩
        case measure => simp [intOf]; omega
    · go_wp2_with fail
      go_ret
      exact ⟨_, rfl, .inr ⟨rfl, fun ⟨j, h1, h2⟩ => by rw [hs.out j (by omega)] at h2; cases h2⟩, hg⟩
theorem containsNums_any (fid : FuncId) (p : Int → Bool) (xs : List Int) (v : Value) (W : World) (t : Bool) (hv : IsNums .i32 W v xs)
    (hE : ∀ (xs : Array Value) (w : World), (callFunc fid xs).run Try.prog w = .ok (.enter fid xs) w)
    (hF : ∀ x ∈ xs, (Lit.int .i32 x).wf = true → ∀ w, Calls Try.prog fid #[.int .i32 x] w fun e w' => e = .returned (.bool (p x)) ∧ Grown w w')
    (ht : Hid (t = true ↔ ∃ j, j < xs.length ∧ p (xs.getD j 0) = true)) :
    Calls Try.prog 101 #[v, .func (.func fid) #[] #[]] W fun e w' => e = .returned (.bool t) ∧ Grown W w' := by
  have H := Lib.hid (indexNums_any fid p xs v W hv hE hF)
  obtain ⟨A, c1, rfl, a1, a2, a3, a4, a5⟩ := hv
  clear hE hF a1 a2 a3 a4 a5
  go_enter Try.func101, Try.ntmps101
  go_wp2_with fail
  refine H.out.mono ?_
  rintro e w1 ⟨i, rfl, hi, g⟩
  rcases hi with ⟨h0, ha⟩ | ⟨rfl, ha⟩
  · have T : t = true := ht.out.mpr ha
    subst T
    go_wp2_with fail
    go_ret
    exact ⟨rfl, g⟩
  · have T : t = false := by
      cases t with
      | false => rfl
      | true => exact absurd (ht.out.mp rfl) ha
    subst T
    go_wp2_with fail
    go_ret
    exact ⟨rfl, g⟩
end Go.Proofs.Ytejllmjkeefloaa
namespace Go.Proofs.Ytejllmjkeefloaa
open Go.ChangeShapes Go.WideShapes Go.ChangeAt Go.RowKit
set_option maxRecDepth 20000
set_option linter.unusedVariables false

def ClonePost (xs : List ValD) (W : World) (e : Ending) (w' : World) : Prop := ∃ v, e = .returned v ∧ OwnVals w' W.heap.size v xs ∧ Past W w'
set_option maxHeartbeats 1000000 in
theorem clone_any (xs : List ValD) (b off cap : Nat) (W : World) (h0 : 0 < xs.length) (h1 : xs.length ≤ 1000) (hc : xs.length ≤ cap) (hbb : b < W.heap.size) (hx : ∀ i, i < xs.length → ValAt W b (off + i * 4) (xs.getD i default)) :
    Calls Try.prog 76 #[.slice (some ⟨b, off, none⟩) xs.length cap] W (ClonePost xs W) := by
  obtain ⟨i0, hi0, hz0, hz1, hz2⟩ := info_parts info32
  have I1 := Lib.hid hi0
  have I2 := Lib.hid hz0
  have I3 := Lib.hid hz1
  have I4 := Lib.hid hz2
  have HX := Lib.hid (fun i hi => (hx i hi).grow hbb ((Past.refl W).alloc (.cells #[] 57)))
  have own : (W.alloc (.cells #[] 57)).ownsRow W.heap.size 57 4 (.slice (some ⟨W.heap.size, 0, none⟩) 0 0) 0 [] := by
    have := World.ownsRow_made (base := W.heap.size) (e := 57) (size := 4) W #[] 0 (by simp) (by simp) (by simp)
    simpa using this
  have OW := Lib.hid own
  have eN := fun (w : World) => Lib.run_eql_slice_some_nil (P := Try.prog) w (t := 25) ⟨b, off, none⟩ xs.length cap Try.underlying25
  clear hi0 hz0 hz1 hz2 hx own
  go_enter Try.func76, Try.ntmps76
  go_wp2_with (at_builtin; refine wpList_append_own _ rfl (.tmp 5) (.tmp 6) 25 rfl W.heap.size 57 i0 _ 4 32 Try.underlying25 I1.out I2.out I3.out I4.out rfl (by decide) _ 0 [] rfl OW.out ⟨b, off, none⟩ xs.length cap (valsCells xs) rfl (valsCells_len xs) (news_of_vals HX.out) (vals_one' xs) ?c4 ?c5 ?c6 ?_)
  case c4 => unfold maxLen; omega
  case c5 => omega
  case c6 => simp
  intro v4 w4 hown4 hgrow _
  have hp4 : Past W w4 := ((Past.refl W).alloc _).grownBy hgrow (fun j hj => by simp [Value.ownBlock] at hj; omega)
  have ho4 : OwnVals w4 W.heap.size v4 xs := by
    unfold OwnVals
    simpa using hown4
  clear hown4 hgrow
  go_wp2_with fail
  go_ret
  exact ⟨_, rfl, ho4, hp4⟩
theorem zeros_eq (w : World) : Calls Try.prog 97 #[] w fun e w' => e = .returned (.agg #[.int .i64 (-128), .int .i64 127]) ∧ w' = w.alloc (.cells #[.int .i64 (-128), .int .i64 127] 129) := by
  go_enter Try.func97, Try.ntmps97
  go_wp2
  exact bodyPost_ret (v := .agg #[.int .i64 (-128), .int .i64 127]) (by simp [results, Try.results97, go_sem]) rfl ⟨rfl, rfl⟩
theorem badZero_any (h w c z : Int) (W : World) :
    Calls Try.prog 96 #[.agg #[.int .i64 h, .int .i64 w, .int .i64 c, .int .i64 z]] W fun e w' => e = .returned (.bool (!holdB (-128) 127 z)) ∧ Grown W w' := by
  go_enter Try.func96, Try.ntmps96
  go_wp2_with fail
  go_region_held3 (fun w' => w'.cell? ⟨W.heap.size, 3, none⟩ = some (.int .i64 z)) (((try dsimp only) <;> go_cell))
    (first | (go_at_call 97; with_reducible refine (zeros_eq _).mono ?_; rintro e w1 ⟨rfl, rfl⟩) | (go_at_call 98; with_reducible refine (hold_any _ _ _ _).mono ?_; rintro e w1 ⟨rfl, rfl⟩))
  all_goals
    go_wp2_with fail
    go_ret
    exact ⟨rfl, by go_grown⟩
end Go.Proofs.Ytejllmjkeefloaa
namespace Go.Proofs.Ytejllmjkeefloaa
open Go.ChangeShapes Go.WideShapes Go.ChangeAt Go.RowKit
set_option maxRecDepth 20000
set_option linter.unusedVariables false

set_option maxHeartbeats 2000000 in
theorem opOf_5 (w : World) : Calls Try.prog 99 #[.int .i64 5] w (Made1 ⟨1, 1, 3, 1, 2, 0, 0, 0, 0, false, true⟩ 128 132 (.func (.func 112) #[] #[]) (.int .i64 0) w) := by
  go_enter Try.func99, Try.ntmps99
  go_wp2_with (first | (go_at_call 116; with_reducible refine (always_any _ _).mono ?_; rintro e w1 ⟨rfl, rfl⟩) | (go_at_call 108; with_reducible refine (slid_any _ _).mono ?_; rintro e w1 ⟨rfl, rfl⟩) | (go_at_call 110; with_reducible refine (ofChannels_any _ _).mono ?_; rintro e w1 ⟨rfl, rfl⟩))
  exact bodyPost_ret (by simp [results, Try.results99, go_sem]; rfl) rfl ⟨_, _, rfl, by go_cell, by simp, by go_cell, by simp, by go_grown⟩
set_option maxHeartbeats 2000000 in
theorem opOf_6 (w : World) : Calls Try.prog 99 #[.int .i64 6] w (Made0 ⟨2, 0, 0, 0, 0, 0, 0, 0, 0, false, false⟩ 117 132 (.int .i64 0) w) := by
  go_enter Try.func99, Try.ntmps99
  go_wp2_with (first | (go_at_call 116; with_reducible refine (always_any _ _).mono ?_; rintro e w1 ⟨rfl, rfl⟩) | (go_at_call 108; with_reducible refine (slid_any _ _).mono ?_; rintro e w1 ⟨rfl, rfl⟩) | (go_at_call 110; with_reducible refine (ofChannels_any _ _).mono ?_; rintro e w1 ⟨rfl, rfl⟩))
  exact bodyPost_ret (by simp [results, Try.results99, go_sem]; rfl) rfl ⟨_, rfl, by go_cell, by simp, by go_grown⟩
set_option maxHeartbeats 2000000 in
theorem opOf_7 (w : World) : Calls Try.prog 99 #[.int .i64 7] w (Made0 ⟨2, 0, 0, 0, 0, 0, 0, 0, 0, false, false⟩ 117 132 (.int .i64 0) w) := by
  go_enter Try.func99, Try.ntmps99
  go_wp2_with (first | (go_at_call 116; with_reducible refine (always_any _ _).mono ?_; rintro e w1 ⟨rfl, rfl⟩) | (go_at_call 108; with_reducible refine (slid_any _ _).mono ?_; rintro e w1 ⟨rfl, rfl⟩) | (go_at_call 110; with_reducible refine (ofChannels_any _ _).mono ?_; rintro e w1 ⟨rfl, rfl⟩))
  exact bodyPost_ret (by simp [results, Try.results99, go_sem]; rfl) rfl ⟨_, rfl, by go_cell, by simp, by go_grown⟩
set_option maxHeartbeats 2000000 in
theorem opOf_8 (w : World) : Calls Try.prog 99 #[.int .i64 8] w (Made0 ⟨1, 0, 0, 0, 0, 0, 0, 0, 0, false, true⟩ 117 132 (.int .i64 0) w) := by
  go_enter Try.func99, Try.ntmps99
  go_wp2_with (first | (go_at_call 116; with_reducible refine (always_any _ _).mono ?_; rintro e w1 ⟨rfl, rfl⟩) | (go_at_call 108; with_reducible refine (slid_any _ _).mono ?_; rintro e w1 ⟨rfl, rfl⟩) | (go_at_call 110; with_reducible refine (ofChannels_any _ _).mono ?_; rintro e w1 ⟨rfl, rfl⟩))
  exact bodyPost_ret (by simp [results, Try.results99, go_sem]; rfl) rfl ⟨_, rfl, by go_cell, by simp, by go_grown⟩
end Go.Proofs.Ytejllmjkeefloaa
