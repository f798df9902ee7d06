/- slices.ContainsFunc over values and over numbers. graph: opOf, 9, 10, 11, 12, no. A region whose order is open and whose operations leave what was there alone: calls that make memory, guarded or not, and those that lean on what they made. -/
import Derived.Test.YtejllmjkeefloaaLSh1A
import Derived.Test.YtejllmjkeefloaaLG2
import Derived.Test.YtejllmjkeefloaaLG6
import Derived.Test.YtejllmjkeefloaaLFixR
import Derived.Test.YtejllmjkeefloaaLRead
namespace Go.Proofs.Ytejllmjkeefloaa
open Go.ChangeShapes Go.WideShapes Go.ChangeAt Go.RowKit
set_option maxRecDepth 20000
set_option linter.unusedVariables false

/-- The place of one that meets p, or -1. -/
def IdxPost (any : Prop) (W : World) (e : Ending) (w' : World) : Prop := ∃ i : Int, e = .returned (.int .i64 i) ∧ ((0 ≤ i ∧ any) ∨ (i = -1 ∧ ¬ any)) ∧ Grown W w'
set_option maxHeartbeats 1000000 in
theorem indexVals_any (fid : FuncId) (p : ValD → Bool) (xs : List ValD) (v : Value) (W : World) (hv : IsVals W v xs)
    (hE : ∀ (xs : Array Value) (w : World), (callFunc fid xs).run Try.prog w = .ok (.enter fid xs) w)
    (hF : ∀ x ∈ xs, ∀ w, Calls Try.prog fid #[.agg #[.int .i64 x.h, .int .i64 x.w, .int .i64 x.c, .int .i64 x.z]] w fun e w' => e = .returned (.bool (p x)) ∧ Grown w w') :
    Calls Try.prog 106 #[v, .func (.func fid) #[] #[]] W (IdxPost (∃ j, j < xs.length ∧ p (xs.getD j default) = true) W) := by
  obtain ⟨A, c1, rfl, a1, a2, a3, a4, a5⟩ := hv
  have hl1 : xs.length ≤ 9223372036854775807 := by unfold maxLen at a2; omega
  have HF := Lib.hid hF
  have HE := Lib.hid hE
  have A5 := Lib.hid a5
  clear a2 a3 a4 hF hE a5
  go_enter Try.func106, Try.ntmps106
  go_wp2_with fail
  go_loopw [8] (fun i wr => ∃ k : Nat, k ≤ xs.length ∧ i = .int .i64 k ∧ Hid (∀ j, j < k → p (xs.getD j default) = false) ∧ Grown W wr) (fun i _ => xs.length - (intOf i).toNat)
  case atStart => exact ⟨0, by omega, rfl, Lib.hid (fun j h => by omega), Grown.refl _⟩
  case round =>
    obtain ⟨k, hk, rfl, hs, hg⟩ := hrel
    by_cases l : k < xs.length
    · obtain ⟨b, off, rfl, hb, hc⟩ := A5.out (by omega)
      obtain ⟨m0, m1, m2, m3⟩ := (hc k l).grow hb (Grown.past hg)
      clear hc
      have hm : xs.getD k default ∈ xs := by simp [List.getD, l]
      obtain ⟨x, hx⟩ : ∃ x, xs.getD k default = x := ⟨_, rfl⟩
      rw [hx] at m0 m1 m2 m3 hm
      have HX := Lib.hid hx
      have HM := Lib.hid hm
      clear hx hm
      have i1 : (0 : Int) ≤ (k : Int) := by omega
      have i2 : (k : Int) < (xs.length : Int) := by omega
      have hE := fun xs w => HE.out xs w
      cases hp : p x with
      | true =>
        go_wp2_with fail
        refine (HF.out x HM.out _).mono ?_; rintro e w1 ⟨rfl, g⟩
        rw [hp]
        clear hE
        go_wp2_with fail
        go_ret
        exact ⟨_, rfl, .inl ⟨by omega, k, l, by rw [HX.out, hp]⟩, grown_trans hg g⟩
      | false =>
        go_wp2_with fail
        refine (HF.out x HM.out _).mono ?_; rintro e w1 ⟨rfl, g⟩
        rw [hp]
        clear hE
        go_wp2_with fail
        go_roundw
        case rel => exact ⟨k + 1, by omega, by go_num, Lib.hid (fun j h => by
          by_cases c : j = k
          · subst c; rw [HX.out, hp]
          · exact hs.out j (by omega)), grown_trans hg g⟩
        case measure => simp [intOf]; omega
    · go_wp2_with fail
      go_ret
      exact ⟨_, rfl, .inr ⟨rfl, fun ⟨j, h1, h2⟩ => by rw [hs.out j (by omega)] at h2; cases h2⟩, hg⟩
theorem containsVals_any (fid : FuncId) (p : ValD → Bool) (xs : List ValD) (v : Value) (W : World) (t : Bool) (hv : IsVals W v xs)
    (hE : ∀ (xs : Array Value) (w : World), (callFunc fid xs).run Try.prog w = .ok (.enter fid xs) w)
    (hF : ∀ x ∈ xs, ∀ w, Calls Try.prog fid #[.agg #[.int .i64 x.h, .int .i64 x.w, .int .i64 x.c, .int .i64 x.z]] w fun e w' => e = .returned (.bool (p x)) ∧ Grown w w')
    (ht : Hid (t = true ↔ ∃ j, j < xs.length ∧ p (xs.getD j default) = true)) :
    Calls Try.prog 94 #[v, .func (.func fid) #[] #[]] W fun e w' => e = .returned (.bool t) ∧ Grown W w' := by
  have H := Lib.hid (indexVals_any fid p xs v W hv hE hF)
  obtain ⟨A, c1, rfl, a1, a2, a3, a4, a5⟩ := hv
  clear hE hF a1 a2 a3 a4 a5
  go_enter Try.func94, Try.ntmps94
  go_wp2_with fail
  refine H.out.mono ?_
  rintro e w1 ⟨i, rfl, hi, g⟩
  rcases hi with ⟨h0, ha⟩ | ⟨rfl, ha⟩
  · have T : t = true := ht.out.mpr ha
    subst T
    go_wp2_with fail
    go_ret
    exact ⟨rfl, g⟩
  · have T : t = false := by
      cases t with
      | false => rfl
      | true => exact absurd (ht.out.mp rfl) ha
    subst T
    go_wp2_with fail
    go_ret
    exact ⟨rfl, g⟩
set_option maxHeartbeats 1000000 in
theorem indexNums_any (fid : FuncId) (p : Int → Bool) (xs : List Int) (v : Value) (W : World) (hv : IsNums .i32 W v xs)
    (hE : ∀ (xs : Array Value) (w : World), (callFunc fid xs).run Try.prog w = .ok (.enter fid xs) w)
    (hF : ∀ x ∈ xs, (Lit.int .i32 x).wf = true → ∀ w, Calls Try.prog fid #[.int .i32 x] w fun e w' => e = .returned (.bool (p x)) ∧ Grown w w') :
    Calls Try.prog 122 #[v, .func (.func fid) #[] #[]] W (IdxPost (∃ j, j < xs.length ∧ p (xs.getD j 0) = true) W) := by
  obtain ⟨A, c1, rfl, a1, a2, a3, a4, a5⟩ := hv
  have hl1 : xs.length ≤ 9223372036854775807 := by unfold maxLen at a2; omega
  have HF := Lib.hid hF
  have HE := Lib.hid hE
  have A5 := Lib.hid a5
  have WF := Lib.hid a4
  clear a2 a3 a4 hF hE a5
  go_enter Try.func122, Try.ntmps122
  go_wp2_with fail
  go_loopw [8] (fun i wr => ∃ k : Nat, k ≤ xs.length ∧ i = .int .i64 k ∧ Hid (∀ j, j < k → p (xs.getD j 0) = false) ∧ Grown W wr) (fun i _ => xs.length - (intOf i).toNat)
  case atStart => exact ⟨0, by omega, rfl, Lib.hid (fun j h => by omega), Grown.refl _⟩
  case round =>
    obtain ⟨k, hk, rfl, hs, hg⟩ := hrel
    by_cases l : k < xs.length
    · obtain ⟨b, off, rfl, hb, hc⟩ := A5.out (by omega)
      have m0 := (grown_cell (p := ⟨b, off + k, none⟩) hg hb).trans (hc k l)
      clear hc
      have hm : xs.getD k 0 ∈ xs := by simp [List.getD, l]
      obtain ⟨x, hx⟩ : ∃ x, xs.getD k 0 = x := ⟨_, rfl⟩
      rw [hx] at m0 hm
      have HX := Lib.hid hx
      have HM := Lib.hid hm
      clear hx hm
      have i1 : (0 : Int) ≤ (k : Int) := by omega
      have i2 : (k : Int) < (xs.length : Int) := by omega
      have hE := fun xs w => HE.out xs w
      cases hp : p x with
      | true =>
        go_wp2_with fail
        refine (HF.out x HM.out (WF.out x HM.out) _).mono ?_; rintro e w1 ⟨rfl, g⟩
        rw [hp]
        clear hE
        go_wp2_with fail
        go_ret
        exact ⟨_, rfl, .inl ⟨by omega, k, l, by rw [HX.out, hp]⟩, grown_trans hg g⟩
      | false =>
        go_wp2_with fail
        refine (HF.out x HM.out (WF.out x HM.out) _).mono ?_; rintro e w1 ⟨rfl, g⟩
        rw [hp]
        clear hE
        go_wp2_with fail
        go_roundw
        case rel => exact ⟨k + 1, by omega, by go_num, Lib.hid (fun j h => by
          by_cases c : j = k
          · subst c; rw [HX.out, hp]
          · exact hs.out j (by omega)), grown_trans hg g⟩
        case measure => simp [intOf]; omega
    · go_wp2_with fail
      go_ret
      exact ⟨_, rfl, .inr ⟨rfl, fun ⟨j, h1, h2⟩ => by rw [hs.out j (by omega)] at h2; cases h2⟩, hg⟩
theorem containsNums_any (fid : FuncId) (p : Int → Bool) (xs : List Int) (v : Value) (W : World) (t : Bool) (hv : IsNums .i32 W v xs)
    (hE : ∀ (xs : Array Value) (w : World), (callFunc fid xs).run Try.prog w = .ok (.enter fid xs) w)
    (hF : ∀ x ∈ xs, (Lit.int .i32 x).wf = true → ∀ w, Calls Try.prog fid #[.int .i32 x] w fun e w' => e = .returned (.bool (p x)) ∧ Grown w w')
    (ht : Hid (t = true ↔ ∃ j, j < xs.length ∧ p (xs.getD j 0) = true)) :
    Calls Try.prog 101 #[v, .func (.func fid) #[] #[]] W fun e w' => e = .returned (.bool t) ∧ Grown W w' := by
  have H := Lib.hid (indexNums_any fid p xs v W hv hE hF)
  obtain ⟨A, c1, rfl, a1, a2, a3, a4, a5⟩ := hv
  clear hE hF a1 a2 a3 a4 a5
  go_enter Try.func101, Try.ntmps101
  go_wp2_with fail
  refine H.out.mono ?_
  rintro e w1 ⟨i, rfl, hi, g⟩
  rcases hi with ⟨h0, ha⟩ | ⟨rfl, ha⟩
  · have T : t = true := ht.out.mpr ha
    subst T
    go_wp2_with fail
    go_ret
    exact ⟨rfl, g⟩
  · have T : t = false := by
      cases t with
      | false => rfl
      | true => exact absurd (ht.out.mp rfl) ha
    subst T
    go_wp2_with fail
    go_ret
    exact ⟨rfl, g⟩
end Go.Proofs.Ytejllmjkeefloaa
namespace Go.Proofs.Ytejllmjkeefloaa
open Go.ChangeShapes Go.WideShapes Go.ChangeAt Go.RowKit
set_option maxRecDepth 20000
set_option linter.unusedVariables false

set_option maxHeartbeats 2000000 in
theorem opOf_9 (w : World) : Calls Try.prog 99 #[.int .i64 9] w (Made0 ⟨1, 0, 0, 0, 0, 1, 1, 0, 0, false, true⟩ 118 132 (.int .i64 0) w) := by
  go_enter Try.func99, Try.ntmps99
  go_wp2_with (first | (go_at_call 116; with_reducible refine (always_any _ _).mono ?_; rintro e w1 ⟨rfl, rfl⟩) | (go_at_call 108; with_reducible refine (slid_any _ _).mono ?_; rintro e w1 ⟨rfl, rfl⟩) | (go_at_call 110; with_reducible refine (ofChannels_any _ _).mono ?_; rintro e w1 ⟨rfl, rfl⟩))
  exact bodyPost_ret (by simp [results, Try.results99, go_sem]; rfl) rfl ⟨_, rfl, by go_cell, by simp, by go_grown⟩
set_option maxHeartbeats 2000000 in
theorem opOf_10 (w : World) : Calls Try.prog 99 #[.int .i64 10] w (Made0 ⟨2, 0, 0, 0, 0, 0, 0, 0, 0, false, true⟩ 119 132 (.int .i64 0) w) := by
  go_enter Try.func99, Try.ntmps99
  go_wp2_with (first | (go_at_call 116; with_reducible refine (always_any _ _).mono ?_; rintro e w1 ⟨rfl, rfl⟩) | (go_at_call 108; with_reducible refine (slid_any _ _).mono ?_; rintro e w1 ⟨rfl, rfl⟩) | (go_at_call 110; with_reducible refine (ofChannels_any _ _).mono ?_; rintro e w1 ⟨rfl, rfl⟩))
  exact bodyPost_ret (by simp [results, Try.results99, go_sem]; rfl) rfl ⟨_, rfl, by go_cell, by simp, by go_grown⟩
set_option maxHeartbeats 2000000 in
theorem opOf_11 (w : World) : Calls Try.prog 99 #[.int .i64 11] w (Made0 ⟨1, 0, 0, 0, 0, 0, 0, 0, 0, true, true⟩ 120 132 (.int .i64 0) w) := by
  go_enter Try.func99, Try.ntmps99
  go_wp2_with (first | (go_at_call 116; with_reducible refine (always_any _ _).mono ?_; rintro e w1 ⟨rfl, rfl⟩) | (go_at_call 108; with_reducible refine (slid_any _ _).mono ?_; rintro e w1 ⟨rfl, rfl⟩) | (go_at_call 110; with_reducible refine (ofChannels_any _ _).mono ?_; rintro e w1 ⟨rfl, rfl⟩))
  exact bodyPost_ret (by simp [results, Try.results99, go_sem]; rfl) rfl ⟨_, rfl, by go_cell, by simp, by go_grown⟩
set_option maxHeartbeats 2000000 in
theorem opOf_12 (w : World) : Calls Try.prog 99 #[.int .i64 12] w (Made0 ⟨1, 0, 0, 0, 0, 0, 0, 0, 0, false, false⟩ 117 132 (.int .i64 256) w) := by
  go_enter Try.func99, Try.ntmps99
  go_wp2_with (first | (go_at_call 116; with_reducible refine (always_any _ _).mono ?_; rintro e w1 ⟨rfl, rfl⟩) | (go_at_call 108; with_reducible refine (slid_any _ _).mono ?_; rintro e w1 ⟨rfl, rfl⟩) | (go_at_call 110; with_reducible refine (ofChannels_any _ _).mono ?_; rintro e w1 ⟨rfl, rfl⟩))
  exact bodyPost_ret (by simp [results, Try.results99, go_sem]; rfl) rfl ⟨_, rfl, by go_cell, by simp, by go_grown⟩
def NoOp (w : World) (e : Ending) (w' : World) : Prop := e = .returned (.tuple #[opV ⟨0, 0, 0, 0, 0, 0, 0, 0, 0, false, false⟩ .nilFunc .nilFunc, .bool false]) ∧ Grown w w'
set_option maxHeartbeats 2000000 in
theorem opOf_no (o : Int) (w : World) (h : ¬ (1 ≤ o ∧ o ≤ 12)) : Calls Try.prog 99 #[.int .i64 o] w (NoOp w) := by
  have b1 : (o == 1) = false := by simp; omega
  have b2 : (o == 2) = false := by simp; omega
  have b3 : (o == 3) = false := by simp; omega
  have b4 : (o == 4) = false := by simp; omega
  have b5 : (o == 5) = false := by simp; omega
  have b6 : (o == 6) = false := by simp; omega
  have b7 : (o == 7) = false := by simp; omega
  have b8 : (o == 8) = false := by simp; omega
  have b9 : (o == 9) = false := by simp; omega
  have b10 : (o == 10) = false := by simp; omega
  have b11 : (o == 11) = false := by simp; omega
  have b12 : (o == 12) = false := by simp; omega
  clear h
  go_enter Try.func99, Try.ntmps99
  go_wp2_with fail
  exact bodyPost_ret (by simp [results, Try.results99, go_sem]; rfl) rfl ⟨rfl, by go_grown⟩
end Go.Proofs.Ytejllmjkeefloaa
namespace Go.Proofs.Ytejllmjkeefloaa
open Go

/-- What a late one owes: it is done; it leaves what was there alone, and its own fact holds. -/
def LateP (P : Program) (ops : Array Oper) (W : World) (F : (Nat → Value) → Act) (J : Nat → Value → World → Prop) (deps : List (Nat × List Nat)) (late : List Nat) : Nat → List Oper → Prop
  | _, [] => True
  | k, o :: l => (late.contains k = false ∨ ∀ v w, Past W w → (∀ i, (deps.lookup k |>.getD []).contains i = true → J i (v i) w) → Region.wanted o (yielded ops (F v).tmps) = true ∧ ∀ K : Act → World → Prop, (∀ x w', Past w w' → J k x w' → K ((F v).put o.dst x) w') → o.wp P (F v) w K noPost) ∧ LateP P ops W F J deps late (k + 1) l
theorem lateP_skip {P : Program} {ops : Array Oper} {W : World} {F : (Nat → Value) → Act} {J : Nat → Value → World → Prop} {deps : List (Nat × List Nat)} {late : List Nat} {k : Nat} {o : Oper} {l : List Oper} (h : late.contains k = false) (g : LateP P ops W F J deps late (k + 1) l) : LateP P ops W F J deps late k (o :: l) := ⟨.inl h, g⟩
theorem lateP_cons {P : Program} {ops : Array Oper} {W : World} {F : (Nat → Value) → Act} {J : Nat → Value → World → Prop} {deps : List (Nat × List Nat)} {late : List Nat} {k : Nat} {o : Oper} {l : List Oper}
    (h : ∀ v w, Past W w → (∀ i, (deps.lookup k |>.getD []).contains i = true → J i (v i) w) → Region.wanted o (yielded ops (F v).tmps) = true ∧ ∀ K : Act → World → Prop, (∀ x w', Past w w' → J k x w' → K ((F v).put o.dst x) w') → o.wp P (F v) w K noPost) (g : LateP P ops W F J deps late (k + 1) l) : LateP P ops W F J deps late k (o :: l) := ⟨.inr h, g⟩
theorem lateP_x {P : Program} {ops : Array Oper} {W : World} {F : (Nat → Value) → Act} {J : Nat → Value → World → Prop} {deps : List (Nat × List Nat)} {late : List Nat} (hJ : ∀ i x w w', Past w w' → J i x w → J i x w') {l : List Oper} : ∀ {k : Nat}, LateP P ops W F J deps late k l → LateX P ops (Past W) F (fun i v w => J i (v i) w) deps [] [] late k l := by
  induction l with
  | nil => intro k _; trivial
  | cons o l ih =>
    intro k h
    refine ⟨?_, ih h.2⟩
    rcases h.1 with h | h
    · exact .inl h
    · refine .inr (fun v w hS hd => ?_)
      obtain ⟨h1, h2⟩ := h v w hS hd
      refine ⟨h1, fun K hK => h2 K (fun x w' p hj => ?_)⟩
      refine hK x w' (hS.trans p) (by show J k (updV v k x k) w'; rw [updV_same]; exact hj) (fun i hi _ _ hI => ?_)
      show J i (updV v k x i) w'
      rw [updV_ne v x hi]
      exact hJ i _ _ _ p hI
theorem wp_region_past {P : Program} {Q : Exit → Act → World → Prop} {ops : List Oper} {id : Nat} {a : Act} {w : World} (W : World) (ups : List (Tmp × Value)) (lates : List (Nat × Tmp)) (J : Nat → Value → World → Prop) (deps : List (Nat × List Nat)) (fin : List Nat) (hJ : ∀ i x w w', Past w w' → J i x w → J i x w')
    (hm : P.follows .mixedOrders = true) (hok : leanOK .any ops.toArray lates [] deps [] [] fin = true) (hu : ((ups.map (·.1) ++ lates.map (·.2)).all fun t => ops.any fun o => o.dst == some t) = true) (hd : ∀ q ∈ lates, q.2 < a.tmps.size) (hS : Past W w)
    (hE : EarlyX P ops.toArray (Past W) (fun v => fillA (fillA a ups) (latesV lates v)) (fun i v w => J i (v i) w) deps (lates.map (·.1) ++ []) 0 ops) (hL : LateP P ops.toArray W (fun v => fillA (fillA a ups) (latesV lates v)) J deps (lates.map (·.1) ++ []) 0 ops)
    (hQ : ∀ v w, Past W w → (∀ i, fin.contains i = true → J i (v i) w) → Q .normal (fillA (fillA a ups) (latesV lates v)) w) : (Code.region id ops.toArray true).wp P Q a w :=
  wp_region_lean (Past W) ups lates [] (fun i v w => J i (v i) w) deps [] [] fin hm hok hu hd hS (fun _ h => h) hE (lateP_x hJ hL) hQ
end Go.Proofs.Ytejllmjkeefloaa
