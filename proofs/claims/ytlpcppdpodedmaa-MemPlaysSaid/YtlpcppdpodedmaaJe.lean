/- MemEdges: its walk. -/
import Derived.Test.YtlpcppdpodedmaaK4
import Derived.Deep.QuietTactic
import Derived.BigQuiet
namespace Go.Proofs.Ytlpcppdpodedmaa
open Go.ChangeShapes Go.WideShapes Go.ChangeAt Go.RowKit
set_option maxRecDepth 20000
set_option linter.unusedVariables false
theorem memN_nat {k : Nat} (h : k ≤ 65536) : memN (k : Int) = k := by unfold memN; omega
theorem rep_len (n : Nat) : (List.replicate n (0 : Int)).length = n := List.length_replicate
theorem rep_at (n j : Nat) : (List.replicate n (0 : Int)).getD j 0 = 0 := by
  by_cases h : j < n
  · rw [List.getD, List.getElem?_replicate, if_pos h]; rfl
  · rw [List.getD, List.getElem?_replicate, if_neg h]; rfl
theorem putM_nil (l : List Int) (i : Nat) : putM l [] i = l := by simp [putM]
theorem okM_no {n : Nat} {a k : Int} (h : ¬ (0 ≤ a ∧ 0 ≤ k ∧ a + k ≤ n)) : okM n a k = false := by
  cases c : okM n a k with
  | false => rfl
  | true =>
    obtain ⟨i, j, rfl, rfl, hij⟩ := okM_iff.1 c
    exact absurd ⟨by omega, by omega, by omega⟩ h
set_option maxHeartbeats 4000000 in
theorem edges_walk (W : World) (s : Int) (hs : (Lit.int .i64 s).wf = true) (a : Int) (ha : (Lit.int .i64 a).wf = true) (n : Int) (hn : (Lit.int .i64 n).wf = true) : Calls Try.prog 6 #[.int .i64 s, .int .i64 a, .int .i64 n] W fun e w' => e = .returned (.bool true) ∧ Past W w' := by
  clear hs
  obtain ⟨m1, m2⟩ := mask_bd s 255 (by omega) (by omega)
  obtain ⟨K, hK⟩ : ∃ K, bits .and .i64 s 255 = K := ⟨_, rfl⟩
  rw [hK] at m1 m2
  obtain ⟨k, rfl⟩ : ∃ k : Nat, K = k := ⟨K.toNat, by omega⟩
  obtain ⟨na, nb⟩ := wf_bd hn
  obtain ⟨aa, ab⟩ := wf_bd ha
  have ek := memN_nat (show k ≤ 65536 by omega)
  go_enter Try.func6, Try.ntmps6
  go_upto_region 2 with (go_at_call 8; refine (shown_any _).mono ?_; rintro e w1 ⟨rfl, g1⟩)
  go_upto_region 4 with (go_at_call 9; refine (new_any _ _).mono ?_; rintro e w2 ⟨B, R, q2, rfl, h2, g2⟩; rw [ek] at h2)
  have r0 := rep_len k
  go_upto_region 7 with (go_at_call 15; refine (read_ok _ _ _ _ h2 0 k (by omega)).mono ?_; rintro e w3 ⟨P, q3, rfl, r3, g3⟩)
  have h3 := h2.grow g3
  have e3 : ((List.replicate k (0 : Int)).drop 0).take k = List.replicate k 0 := by simp
  rw [e3] at r3
  have f7 : okM (List.replicate k (0 : Int)).length 0 ((k : Int) + 1) = false := okM_no (by omega)
  have wf7 : (Lit.int .i64 ((k : Int) + 1)).wf = true := by simp [Lit.wf, IntKind.min, IntKind.max, IntKind.bits, IntKind.signed]; omega
  go_upto_region 8 with (go_at_call 15; refine (read_no _ _ _ _ h3 0 ((k : Int) + 1) wf7 f7).mono ?_; rintro e w4 ⟨rfl, rfl⟩)
  go_upto_region 9 with (go_at_call 15; refine (read_ok _ _ _ _ h3 k 0 (by omega)).mono ?_; rintro e w5 ⟨P', q5, rfl, r5, g5⟩)
  have h5 := h3.grow g5
  have r5' := r3.past g5
  have gg : Past W w5 := g1.trans (g2.trans (g3.trans g5))
  have H5 := Lib.hid h5
  have R5 := Lib.hid r5'
  have GG := Lib.hid gg
  have HRW : Hid (W.heap.size ≤ R) := Lib.hid (Nat.le_trans g1.2.2.1 q2.out.1)
  clear h3 r3 h2 e3 f7 wf7 h5 r5' gg r5 g1 g2 g3 g5 q2 q3 q5
  go_wp2_with fail
  go_loopw [16] (fun i wr => ∃ j : Nat, j ≤ k ∧ i = .int .i64 j ∧ wr = w5) (fun i _ => k - (intOf i).toNat)
  case atStart => exact ⟨0, by omega, rfl, rfl⟩
  case round =>
    obtain ⟨j, hj, rfl, rfl⟩ := hrel
    by_cases c : j < k
    · have c0 := R5.out.cell (i := j) (by rw [rep_len]; exact c)
      rw [rep_at] at c0
      have i1 : (0 : Int) ≤ (j : Int) := by omega
      have i2 : (j : Int) < (k : Int) := by omega
      go_wp2_with fail
      go_roundw
      case rel => exact ⟨j + 1, by omega, by go_num, True.intro⟩
      case measure => simp [intOf]; omega
    · obtain rfl : j = k := by omega
      by_cases t : 0 ≤ a ∧ 0 ≤ n ∧ a + n ≤ (j : Int)
      · obtain ⟨i, rfl⟩ : ∃ i : Nat, a = i := ⟨a.toNat, by omega⟩
        obtain ⟨m, rfl⟩ : ∃ i : Nat, n = i := ⟨n.toNat, by omega⟩
        have d1 : decide ((i : Int) ≤ (j : Int)) = true := by simp; omega
        have d2 : decide ((m : Int) ≤ (j : Int) - (i : Int)) = true := by simp; omega
        have w1 : IntKind.i64.wrap ((j : Int) - (i : Int)) = (j : Int) - (i : Int) := by rw [IntKind.wrap_i64]; omega
        go_upto_region 15 with (go_at_call 15; refine (read_ok _ _ _ _ H5.out i m (by rw [rep_len]; omega)).mono ?_; rintro e w6 ⟨P6, q6, rfl, r6, g6⟩)
        have H6 := Lib.hid (H5.out.grow g6)
        clear r6 q6
        have ok7 := Lib.hid (show j + ([] : List Int).length ≤ (List.replicate j (0 : Int)).length by rw [rep_len]; simp)
        have no8 := Lib.hid (show okM (List.replicate j (0 : Int)).length (j : Int) (([1] : List Int).length : Int) = false from okM_no (by rw [rep_len]; simp; omega))
        have wf1 : (Lit.int .i8 1).wf = true := by decide
        go_wp2_with (first | (go_at_call 13; with_reducible refine (write_at _ _ _ _ H6.out _ _ _ (nums_none _) j rfl ok7.out).mono ?_; rintro e w7 ⟨rfl, h7, g7⟩; rw [putM_nil] at h7; have H7 := Lib.hid h7; have G7 := Lib.hid g7; clear h7 g7) | (go_at_call 13; with_reducible refine (write_no _ _ _ _ (H7.out.grow ((Past.refl _).alloc _)) _ _ _ (nums_1 _ 1 wf1) no8.out).mono ?_; rintro e w8 ⟨rfl, h8, g8⟩; have H8 := Lib.hid h8; have G8 := Lib.hid g8; clear h8 g8) | (go_at_call 11; with_reducible refine (size_any _ _ _ _ H8.out).mono ?_; rintro e w9 ⟨rfl, rfl⟩; rw [rep_len]))
        go_ret
        exact ⟨rfl, G8.out.past ((G7.out.past (GG.out.trans g6) HRW.out).alloc _) HRW.out⟩
      · have no6 : okM (List.replicate j (0 : Int)).length a n = false := okM_no (by rw [rep_len]; exact t)
        have HN := Lib.hid hn
        go_upto_region 15 with (go_at_call 15; refine (read_no _ _ _ _ H5.out a n HN.out no6).mono ?_; rintro e w6 ⟨rfl, rfl⟩)
        have four : (a < 0) ∨ (0 ≤ a ∧ n < 0) ∨ (0 ≤ a ∧ 0 ≤ n ∧ (j : Int) < a) ∨ (0 ≤ a ∧ 0 ≤ n ∧ a ≤ (j : Int) ∧ (j : Int) - a < n) := by omega
        clear t no6
        rcases four with t1 | ⟨t1, t2⟩ | ⟨t1, t2, t3⟩ | ⟨t1, t2, t3, t4⟩
        · have d1 : decide (0 ≤ a) = false := by simpa using t1
          have ok7 := Lib.hid (show j + ([] : List Int).length ≤ (List.replicate j (0 : Int)).length by rw [rep_len]; simp)
          have no8 := Lib.hid (show okM (List.replicate j (0 : Int)).length (j : Int) (([1] : List Int).length : Int) = false from okM_no (by rw [rep_len]; simp; omega))
          have wf1 : (Lit.int .i8 1).wf = true := by decide
          go_wp2_with (first | (go_at_call 13; with_reducible refine (write_at _ _ _ _ H5.out _ _ _ (nums_none _) j rfl ok7.out).mono ?_; rintro e w7 ⟨rfl, h7, g7⟩; rw [putM_nil] at h7; have H7 := Lib.hid h7; have G7 := Lib.hid g7; clear h7 g7) | (go_at_call 13; with_reducible refine (write_no _ _ _ _ (H7.out.grow ((Past.refl _).alloc _)) _ _ _ (nums_1 _ 1 wf1) no8.out).mono ?_; rintro e w8 ⟨rfl, h8, g8⟩; have H8 := Lib.hid h8; have G8 := Lib.hid g8; clear h8 g8) | (go_at_call 11; with_reducible refine (size_any _ _ _ _ H8.out).mono ?_; rintro e w9 ⟨rfl, rfl⟩; rw [rep_len]))
          go_ret
          exact ⟨rfl, G8.out.past ((G7.out.past GG.out HRW.out).alloc _) HRW.out⟩
        · have d1 : decide (0 ≤ a) = true := by simpa using t1
          have d2 : decide (0 ≤ n) = false := by simpa using t2
          have ok7 := Lib.hid (show j + ([] : List Int).length ≤ (List.replicate j (0 : Int)).length by rw [rep_len]; simp)
          have no8 := Lib.hid (show okM (List.replicate j (0 : Int)).length (j : Int) (([1] : List Int).length : Int) = false from okM_no (by rw [rep_len]; simp; omega))
          have wf1 : (Lit.int .i8 1).wf = true := by decide
          go_wp2_with (first | (go_at_call 13; with_reducible refine (write_at _ _ _ _ H5.out _ _ _ (nums_none _) j rfl ok7.out).mono ?_; rintro e w7 ⟨rfl, h7, g7⟩; rw [putM_nil] at h7; have H7 := Lib.hid h7; have G7 := Lib.hid g7; clear h7 g7) | (go_at_call 13; with_reducible refine (write_no _ _ _ _ (H7.out.grow ((Past.refl _).alloc _)) _ _ _ (nums_1 _ 1 wf1) no8.out).mono ?_; rintro e w8 ⟨rfl, h8, g8⟩; have H8 := Lib.hid h8; have G8 := Lib.hid g8; clear h8 g8) | (go_at_call 11; with_reducible refine (size_any _ _ _ _ H8.out).mono ?_; rintro e w9 ⟨rfl, rfl⟩; rw [rep_len]))
          go_ret
          exact ⟨rfl, G8.out.past ((G7.out.past GG.out HRW.out).alloc _) HRW.out⟩
        · have d1 : decide (0 ≤ a) = true := by simpa using t1
          have d2 : decide (0 ≤ n) = true := by simpa using t2
          have d3 : decide (a ≤ (j : Int)) = false := by simpa using t3
          have ok7 := Lib.hid (show j + ([] : List Int).length ≤ (List.replicate j (0 : Int)).length by rw [rep_len]; simp)
          have no8 := Lib.hid (show okM (List.replicate j (0 : Int)).length (j : Int) (([1] : List Int).length : Int) = false from okM_no (by rw [rep_len]; simp; omega))
          have wf1 : (Lit.int .i8 1).wf = true := by decide
          go_wp2_with (first | (go_at_call 13; with_reducible refine (write_at _ _ _ _ H5.out _ _ _ (nums_none _) j rfl ok7.out).mono ?_; rintro e w7 ⟨rfl, h7, g7⟩; rw [putM_nil] at h7; have H7 := Lib.hid h7; have G7 := Lib.hid g7; clear h7 g7) | (go_at_call 13; with_reducible refine (write_no _ _ _ _ (H7.out.grow ((Past.refl _).alloc _)) _ _ _ (nums_1 _ 1 wf1) no8.out).mono ?_; rintro e w8 ⟨rfl, h8, g8⟩; have H8 := Lib.hid h8; have G8 := Lib.hid g8; clear h8 g8) | (go_at_call 11; with_reducible refine (size_any _ _ _ _ H8.out).mono ?_; rintro e w9 ⟨rfl, rfl⟩; rw [rep_len]))
          go_ret
          exact ⟨rfl, G8.out.past ((G7.out.past GG.out HRW.out).alloc _) HRW.out⟩
        · have d1 : decide (0 ≤ a) = true := by simpa using t1
          have d2 : decide (0 ≤ n) = true := by simpa using t2
          have d3 : decide (a ≤ (j : Int)) = true := by simpa using t3
          have wr4 : IntKind.i64.wrap ((j : Int) - a) = (j : Int) - a := by rw [IntKind.wrap_i64]; omega
          have d4 : decide (n ≤ (j : Int) - a) = false := by simpa using t4
          have ok7 := Lib.hid (show j + ([] : List Int).length ≤ (List.replicate j (0 : Int)).length by rw [rep_len]; simp)
          have no8 := Lib.hid (show okM (List.replicate j (0 : Int)).length (j : Int) (([1] : List Int).length : Int) = false from okM_no (by rw [rep_len]; simp; omega))
          have wf1 : (Lit.int .i8 1).wf = true := by decide
          go_wp2_with (first | (go_at_call 13; with_reducible refine (write_at _ _ _ _ H5.out _ _ _ (nums_none _) j rfl ok7.out).mono ?_; rintro e w7 ⟨rfl, h7, g7⟩; rw [putM_nil] at h7; have H7 := Lib.hid h7; have G7 := Lib.hid g7; clear h7 g7) | (go_at_call 13; with_reducible refine (write_no _ _ _ _ (H7.out.grow ((Past.refl _).alloc _)) _ _ _ (nums_1 _ 1 wf1) no8.out).mono ?_; rintro e w8 ⟨rfl, h8, g8⟩; have H8 := Lib.hid h8; have G8 := Lib.hid g8; clear h8 g8) | (go_at_call 11; with_reducible refine (size_any _ _ _ _ H8.out).mono ?_; rintro e w9 ⟨rfl, rfl⟩; rw [rep_len]))
          go_ret
          exact ⟨rfl, G8.out.past ((G7.out.past GG.out HRW.out).alloc _) HRW.out⟩
end Go.Proofs.Ytlpcppdpodedmaa
