/- Whatever two numbers: FixedShifts returns true, and changes nothing that it was handed.
   Conditions: none beyond the row's own cells. -/
import Derived.Test.YtceiljhokcghgaaFns
import Derived.Lib.Hide
import Derived.Handy
import Derived.Outline
import Derived.WalkKit
import Derived.ProofKit
import Derived.OpenShut
namespace Go.Proofs.Ytceiljhokcghgaa.fixedShifts
open Go.ChangeShapes Go.WideShapes Go.ChangeAt Go.RowKit
set_option linter.unusedVariables false      -- a walk need not use every 'w<i>' (that an integer argument fits its kind)

theorem own : ownKnob Try.prog.godebug = none := by kernel_rfl

set_option maxHeartbeats 1000000 in
theorem walk (a0 : Int) (a1 : Int) (w0 : (Lit.int .i64 a0).wf = true) (w1 : (Lit.int .i64 a1).wf = true) (w : World) :
    Calls Try.prog 6 #[.int .i64 a0, .int .i64 a1] w fun e w' => e = .returned (.bool true) ∧ Grown w w' := by
  obtain ⟨h1, h2⟩ := wf_bd w0
  obtain ⟨h3, h4⟩ := wf_bd w1
  obtain ⟨y1, y2⟩ := tmod_bd a0 1152921504606846977 (by omega)
  by_cases k1 : a1 < 0
  · clear h3
    have hp : ∀ n : Nat, (n : Int) ≤ 0 → (1 : Int) ≤ 2 ^ n ∧ (2 : Int) ^ n ≤ 2147483648 := fun n h => by have := pow_bd n (by omega); simpa using this
    have HP := Lib.hid hp
    clear hp
    have ek : Hid (0 = held 0 31 a1) := Lib.hid (by unfold held; omega)
    have ek2 : Hid (0 = held 0 31 0) := Lib.hid (by unfold held; omega)
    have e0 : Hid (0 = held 0 31 0) := Lib.hid (by decide)
    have d1 : Hid (a0.tmod 1152921504606846977 = rd (a0.tmod 1152921504606846977) (2 ^ Int.toNat 0)) := by show _ = _; rw [Int.toNat_zero, Int.pow_zero, rd_one]
    obtain ⟨q, hq⟩ : ∃ q, Hid (q = rd (a0.tmod 1152921504606846977) (2 ^ Int.toNat (0))) := ⟨_, Lib.hid rfl⟩
    go_enter Try.func6, Try.ntmps6
    go_wp2_with fail
    refine (shown_any _).mono ?_; rintro e w1 ⟨rfl, g1⟩
    go_wp2_with fail
    refine (near_any _ _).mono ?_; rintro e w2 ⟨rfl, g2⟩
    go_wp2_with fail
    go_loop [8, 9] (fun b i => ∃ n : Nat, (n : Int) ≤ 0 ∧ i = .int .i64 n ∧ b = .int .i64 (2 ^ n)) (fun _ i => (0 - intOf i).toNat)
    case atStart => exact ⟨0, by omega, rfl, rfl⟩
    case round =>
      obtain ⟨n, hn, rfl, rfl⟩ := hrel
      obtain ⟨p1, p2⟩ := HP.out n hn
      by_cases hlt : (n : Int) < 0
      · go_wp2_with fail
        go_round
        case rel => exact ⟨n + 1, by omega, by go_num, by rw [Int.pow_succ]⟩
        case measure => simp [intOf]; omega
      · have hb : Hid (q = rd (a0.tmod 1152921504606846977) (2 ^ n)) := by
          have e : n = Int.toNat (0) := by omega
          rw [e]; exact hq
        go_wp2_with fail
        refine (shift_any _ _ (0) q _ (by omega) (by omega) ek (by omega) (by omega) hq).mono ?_; rintro e w3 ⟨rfl, g3⟩
        go_wp2_with fail
        refine (div_at _ _ q _ hb (by omega) (by omega) (by omega) (by omega)).mono ?_; rintro e w4 ⟨rfl, g4⟩
        go_wp2_with fail
        refine (shift_any _ _ 0 _ _ (by omega) (by omega) e0 (by omega) (by omega) d1).mono ?_; rintro e w5 ⟨rfl, g5⟩
        go_wp2_with fail
        refine (shift_any _ _ (0) q _ (by omega) (by omega) ek (by omega) (by omega) hq).mono ?_; rintro e w6 ⟨rfl, g6⟩
        go_wp2_with fail
        refine (shift_any _ _ (0) q _ (by omega) (by omega) ek2 (by omega) (by omega) hq).mono ?_; rintro e w7 ⟨rfl, g7⟩
        go_wp2_with fail
        go_ret
        exact ⟨rfl, grown_trans g1 (grown_trans g2 (grown_trans g3 (grown_trans g4 (grown_trans g5 (grown_trans g6 g7)))))⟩
  · by_cases k2 : 31 < a1
    · clear h4
      have hp : ∀ n : Nat, (n : Int) ≤ 31 → (1 : Int) ≤ 2 ^ n ∧ (2 : Int) ^ n ≤ 2147483648 := fun n h => by have := pow_bd n (by omega); simpa using this
      have HP := Lib.hid hp
      clear hp
      have ek : Hid (31 = held 0 31 a1) := Lib.hid (by unfold held; omega)
      have ek2 : Hid (31 = held 0 31 31) := Lib.hid (by unfold held; omega)
      have e0 : Hid (0 = held 0 31 0) := Lib.hid (by decide)
      have d1 : Hid (a0.tmod 1152921504606846977 = rd (a0.tmod 1152921504606846977) (2 ^ Int.toNat 0)) := by show _ = _; rw [Int.toNat_zero, Int.pow_zero, rd_one]
      obtain ⟨q, hq⟩ : ∃ q, Hid (q = rd (a0.tmod 1152921504606846977) (2 ^ Int.toNat (31))) := ⟨_, Lib.hid rfl⟩
      go_enter Try.func6, Try.ntmps6
      go_wp2_with fail
      refine (shown_any _).mono ?_; rintro e w1 ⟨rfl, g1⟩
      go_wp2_with fail
      refine (near_any _ _).mono ?_; rintro e w2 ⟨rfl, g2⟩
      go_wp2_with fail
      go_loop [8, 9] (fun b i => ∃ n : Nat, (n : Int) ≤ 31 ∧ i = .int .i64 n ∧ b = .int .i64 (2 ^ n)) (fun _ i => (31 - intOf i).toNat)
      case atStart => exact ⟨0, by omega, rfl, rfl⟩
      case round =>
        obtain ⟨n, hn, rfl, rfl⟩ := hrel
        obtain ⟨p1, p2⟩ := HP.out n hn
        by_cases hlt : (n : Int) < 31
        · go_wp2_with fail
          go_round
          case rel => exact ⟨n + 1, by omega, by go_num, by rw [Int.pow_succ]⟩
          case measure => simp [intOf]; omega
        · have hb : Hid (q = rd (a0.tmod 1152921504606846977) (2 ^ n)) := by
            have e : n = Int.toNat (31) := by omega
            rw [e]; exact hq
          go_wp2_with fail
          refine (shift_any _ _ (31) q _ (by omega) (by omega) ek (by omega) (by omega) hq).mono ?_; rintro e w3 ⟨rfl, g3⟩
          go_wp2_with fail
          refine (div_at _ _ q _ hb (by omega) (by omega) (by omega) (by omega)).mono ?_; rintro e w4 ⟨rfl, g4⟩
          go_wp2_with fail
          refine (shift_any _ _ 0 _ _ (by omega) (by omega) e0 (by omega) (by omega) d1).mono ?_; rintro e w5 ⟨rfl, g5⟩
          go_wp2_with fail
          refine (shift_any _ _ (31) q _ (by omega) (by omega) ek (by omega) (by omega) hq).mono ?_; rintro e w6 ⟨rfl, g6⟩
          go_wp2_with fail
          refine (shift_any _ _ (31) q _ (by omega) (by omega) ek2 (by omega) (by omega) hq).mono ?_; rintro e w7 ⟨rfl, g7⟩
          go_wp2_with fail
          go_ret
          exact ⟨rfl, grown_trans g1 (grown_trans g2 (grown_trans g3 (grown_trans g4 (grown_trans g5 (grown_trans g6 g7)))))⟩
    · obtain ⟨k, rfl⟩ : ∃ k : Nat, a1 = k := ⟨a1.toNat, by omega⟩
      have k3 : k ≤ 31 := by omega
      clear h4 h3 k1 k2
      have hp : ∀ n : Nat, (n : Int) ≤ (k : Int) → (1 : Int) ≤ 2 ^ n ∧ (2 : Int) ^ n ≤ 2147483648 := fun n h => by have := pow_bd n (by omega); simpa using this
      have HP := Lib.hid hp
      clear hp
      have ek : Hid ((k : Int) = held 0 31 (k : Int)) := Lib.hid (by unfold held; omega)
      have ek2 : Hid ((k : Int) = held 0 31 (k : Int)) := Lib.hid (by unfold held; omega)
      have e0 : Hid (0 = held 0 31 0) := Lib.hid (by decide)
      have d1 : Hid (a0.tmod 1152921504606846977 = rd (a0.tmod 1152921504606846977) (2 ^ Int.toNat 0)) := by show _ = _; rw [Int.toNat_zero, Int.pow_zero, rd_one]
      obtain ⟨q, hq⟩ : ∃ q, Hid (q = rd (a0.tmod 1152921504606846977) (2 ^ Int.toNat ((k : Int)))) := ⟨_, Lib.hid rfl⟩
      go_enter Try.func6, Try.ntmps6
      go_wp2_with fail
      refine (shown_any _).mono ?_; rintro e w1 ⟨rfl, g1⟩
      go_wp2_with fail
      refine (near_any _ _).mono ?_; rintro e w2 ⟨rfl, g2⟩
      go_wp2_with fail
      go_loop [8, 9] (fun b i => ∃ n : Nat, (n : Int) ≤ (k : Int) ∧ i = .int .i64 n ∧ b = .int .i64 (2 ^ n)) (fun _ i => ((k : Int) - intOf i).toNat)
      case atStart => exact ⟨0, by omega, rfl, rfl⟩
      case round =>
        obtain ⟨n, hn, rfl, rfl⟩ := hrel
        obtain ⟨p1, p2⟩ := HP.out n hn
        by_cases hlt : (n : Int) < (k : Int)
        · go_wp2_with fail
          go_round
          case rel => exact ⟨n + 1, by omega, by go_num, by rw [Int.pow_succ]⟩
          case measure => simp [intOf]; omega
        · have hb : Hid (q = rd (a0.tmod 1152921504606846977) (2 ^ n)) := by
            have e : n = Int.toNat ((k : Int)) := by omega
            rw [e]; exact hq
          go_wp2_with fail
          refine (shift_any _ _ ((k : Int)) q _ (by omega) (by omega) ek (by omega) (by omega) hq).mono ?_; rintro e w3 ⟨rfl, g3⟩
          go_wp2_with fail
          refine (div_at _ _ q _ hb (by omega) (by omega) (by omega) (by omega)).mono ?_; rintro e w4 ⟨rfl, g4⟩
          go_wp2_with fail
          refine (shift_any _ _ 0 _ _ (by omega) (by omega) e0 (by omega) (by omega) d1).mono ?_; rintro e w5 ⟨rfl, g5⟩
          go_wp2_with fail
          refine (shift_any _ _ ((k : Int)) q _ (by omega) (by omega) ek (by omega) (by omega) hq).mono ?_; rintro e w6 ⟨rfl, g6⟩
          go_wp2_with fail
          refine (shift_any _ _ ((k : Int)) q _ (by omega) (by omega) ek2 (by omega) (by omega) hq).mono ?_; rintro e w7 ⟨rfl, g7⟩
          go_wp2_with fail
          go_ret
          exact ⟨rfl, grown_trans g1 (grown_trans g2 (grown_trans g3 (grown_trans g4 (grown_trans g5 (grown_trans g6 g7)))))⟩

/-! ### THE ROW's STEP: WRITTEN OUT: LEAVE IT -/
set_option maxRecDepth 100000 in
theorem lifted (os : Os) (started : os.Started) (H : Type) (enc : TypeId × Value → H) :
    ReturnsInHanded {} Try.checked os 6 .any (Rows.fixedShiftsSpec.pre6 enc Try.prog Try.f6 Rows.fixedShiftsRow.domain false) (Rows.fixedShiftsSpec.post enc Try.prog Try.f6 false true false false) := by
  refine returnsInHanded_of_change (C := Try.checked) own started (by kernel_rfl) Try.func6
    (ChangeSpec.witness6 (enc := enc) (C := Try.checked) false ⟨#[], #[.int .i64 0, .int .i64 0], []⟩ 8 (by kernel_rfl) (by kernel_rfl) (by kernel_rfl) (by kernel_rfl)) ?_
  intro W base args ds gs before hval0 hW hcnd _
  have hval : ∀ (j : Nat) t v, Try.f6.params[j]? = some t → args[j]? = some v → Value.okWide Try.prog W .any base t v := hval0
  have hW' := hW
  obtain ⟨p, q, hA0, hV, rfl, hfz, hnd⟩ := hW
  have hA : DataW.TrodAll enc Try.prog W 0 (fun _ => true) true Try.f6.params.toList args.toList ds p := hA0
  rw [Try.params6] at hA hval
  obtain ⟨v0, vs0, d0, ds0, p0, q0, hargs, rfl, rfl, h0, r0⟩ := trodAll_cons hA
  obtain ⟨v1, vs1, d1, ds1, p1, q1, rfl, rfl, rfl, h1, r1⟩ := trodAll_cons r0
  obtain ⟨rfl, rfl, rfl⟩ := trodAll_nil r1
  obtain rfl : args = #[v0, v1] := by cases args; simp_all
  obtain ⟨rfl, rfl⟩ := trodVars_none hV
  obtain ⟨a0, rfl, rfl, rfl, w0⟩ := open_int Try.underlying3 (hval 0 3 v0 rfl rfl) h0
  obtain ⟨a1, rfl, rfl, rfl, w1⟩ := open_int Try.underlying3 (hval 1 3 v1 rfl rfl) h1
  clear hA0 hval0
  simp only [List.append_nil] at hW'
  refine (walk a0 a1 w0 w1 W).mono fun e W' ⟨he, hg⟩ => ?_
  subst he
  exact ⟨_, rfl, post_of_same (pa := []) (pv := []) hW' (fun _ _ _ => (trodAll_cons_mk (shut_bool Try.underlying4 _) trodAll_mk0)) (fun sp _ => (trodAll_cons_mk (shut_int Try.underlying3 w0) (trodAll_cons_mk (shut_int Try.underlying3 w1) trodAll_mk0))) (fun _ _ => rfl) rfl
    (hg.frame _) hg.2.1 (ok_one (by kernel_rfl) rfl (okWide_bool_mk Try.underlying4 _))⟩

theorem over : Rows.fixedShiftsRow.holds Try.pinned (OpenSpec.ofChange Rows.fixedShiftsSpec) :=
  OpenClaim.holds_of_wide 6 Try.f6 rfl rfl rfl rfl rfl rfl rfl ⟨rfl, rfl, rfl, rfl, rfl⟩ rfl rfl rfl rfl rfl (by kernel_rfl) Try.func6 (by kernel_rfl)
    (of_decide_eq_true (by kernel_rfl)) (by unfold Func.isWrapper; first | (rw [if_pos (by decide +kernel)]; kernel_rfl) | (rw [if_neg (by decide +kernel)]; exact ⟨rfl, rfl⟩))
    (fun os started H enc _ => lifted os started H enc)

/-- ████ THE STATEMENT ████ -/
theorem proved : Rows.FixedShiftsSaid :=
  over
#print axioms proved
end Go.Proofs.Ytceiljhokcghgaa.fixedShifts
