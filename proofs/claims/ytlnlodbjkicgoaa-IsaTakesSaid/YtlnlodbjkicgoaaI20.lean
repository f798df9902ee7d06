/- The reference's at, wide. -/
import Derived.Test.YtlnlodbjkicgoaaI17
namespace Go.Proofs.Ytlnlodbjkicgoaa
open Go.ChangeShapes Go.WideShapes Go.ChangeAt Go.RowKit
set_option maxRecDepth 20000
set_option linter.unusedVariables false
set_option linter.unusedSimpArgs false

/-- How many bytes a command of a kind has; 0: there is none. -/
def wideD (k : Int) : Nat := if kindP k then 1 + restW k else 0

set_option maxHeartbeats 1000000 in
theorem rwide_any (k : Int) (h0 : 0 ≤ k) (h1 : k < 256) (W : World) : Calls Try.prog 31 #[.int .u8 k] W fun e w' => e = .returned (.int .i64 (wideD k : Nat)) ∧ W = w' := by
  have hw : IntKind.i64.wrap k = k := IntWalk.i64_in _ (by omega)
  by_cases h : kindP k
  · have e : wideD k = 1 + restW k := if_pos h
    rw [e]
    clear e
    have h' := h
    unfold kindP at h'
    rcases (show k = 1 ∨ k = 2 ∨ k = 3 ∨ k = 4 ∨ k = 5 ∨ k = 6 ∨ k = 7 by omega) with rfl | rfl | rfl | rfl | rfl | rfl | rfl
    · rw [show (1 + restW 1) = 9 from rfl]
      go_enter Try.func31, Try.ntmps31
      go_wp2_with fail
      go_ret
      exact ⟨rfl, rfl⟩
    · rw [show (1 + restW 2) = 9 from rfl]
      go_enter Try.func31, Try.ntmps31
      go_wp2_with fail
      go_ret
      exact ⟨rfl, rfl⟩
    · rw [show (1 + restW 3) = 14 from rfl]
      go_enter Try.func31, Try.ntmps31
      go_wp2_with fail
      go_ret
      exact ⟨rfl, rfl⟩
    · rw [show (1 + restW 4) = 3 from rfl]
      go_enter Try.func31, Try.ntmps31
      go_wp2_with fail
      go_ret
      exact ⟨rfl, rfl⟩
    · rw [show (1 + restW 5) = 2 from rfl]
      go_enter Try.func31, Try.ntmps31
      go_wp2_with fail
      go_ret
      exact ⟨rfl, rfl⟩
    · rw [show (1 + restW 6) = 2 from rfl]
      go_enter Try.func31, Try.ntmps31
      go_wp2_with fail
      go_ret
      exact ⟨rfl, rfl⟩
    · rw [show (1 + restW 7) = 1 from rfl]
      go_enter Try.func31, Try.ntmps31
      go_wp2_with fail
      go_ret
      exact ⟨rfl, rfl⟩
  · have e : wideD k = 0 := if_neg h
    rw [e]
    have n1 : (k == 1) = false := by unfold kindP at h; simp; omega
    have n2 : (k == 2) = false := by unfold kindP at h; simp; omega
    have n3 : (k == 3) = false := by unfold kindP at h; simp; omega
    have n4 : (k == 4) = false := by unfold kindP at h; simp; omega
    have n5 : (k == 5) = false := by unfold kindP at h; simp; omega
    have n6 : (k == 6) = false := by unfold kindP at h; simp; omega
    have n7 : (k == 7) = false := by unfold kindP at h; simp; omega
    clear e h
    go_enter Try.func31, Try.ntmps31
    go_wp2_with fail
    go_ret
    exact ⟨rfl, rfl⟩

theorem getD_take_drop {b : List Int} {k w i : Nat} (hi : i < w) (h : k + w ≤ b.length) : ((b.drop k).take w).getD i 0 = b.getD (k + i) 0 := by
  simp only [List.getD, List.getElem?_take, List.getElem?_drop]
  rw [if_pos hi]
set_option maxHeartbeats 1000000 in
theorem rat_any (bb bo cap k wd : Nat) (b : List Int) (W : World) (hb : IsNums .u8 W (.slice (some ⟨bb, bo, none⟩) b.length cap) b) (hk : k + wd ≤ b.length) (hw : wd ≤ 3) (hlen : b.length ≤ 100000) :
    Calls Try.prog 30 #[.slice (some ⟨bb, bo, none⟩) b.length cap, .int .i64 (k : Int), .int .i64 (wd : Int)] W fun e w' => e = .returned (.int .i64 (foldB ((b.drop k).take wd))) ∧ W = w' := by
  have HB := Lib.hid hb
  have hlw : ((b.drop k).take wd).length = wd := by rw [List.length_take, List.length_drop]; omega
  have HLW := Lib.hid hlw
  have GD := Lib.hid (fun i (hi : i < wd) => getD_take_drop (b := b) (k := k) hi hk)
  have BT := Lib.hid (fun c (hc : c ∈ (b.drop k).take wd) => by
    obtain ⟨_, _, e, hB⟩ := nums_bytes HB.out
    exact hB.bytesP c (List.mem_of_mem_drop (List.mem_of_mem_take hc)))
  obtain ⟨t, ht⟩ : ∃ t, (b.drop k).take wd = t := ⟨_, rfl⟩
  rw [ht] at HLW GD BT
  rw [ht]
  obtain ⟨A', cap', e, h2, h3, h4, h5, h6⟩ := hb
  simp only [Value.slice.injEq, true_and] at e
  obtain ⟨rfl, rfl⟩ := e
  clear ht hlw h4
  by_cases hp : 0 < b.length
  · obtain ⟨b1, o1, e1, hbl, hc⟩ := h6 hp
    simp only [Option.some.injEq, Addr.mk.injEq, and_true] at e1
    obtain ⟨rfl, rfl⟩ := e1
    have HC := Lib.hid hc
    have H5 := Lib.hid h5
    obtain ⟨m, hm⟩ : ∃ m, b.length = m := ⟨_, rfl⟩
    rw [hm] at hk h2 hlen
    have HM := Lib.hid hm
    rw [hm]
    clear hc h5 h6 hp hm hbl
    go_enter Try.func30, Try.ntmps30
    go_wp2_with fail
    go_loopw [7, 8] (fun x i wr => ∃ n : Nat, n ≤ wd ∧ i = .int .i64 n ∧ x = .int .i64 (foldB (t.take n)) ∧ Hid (0 ≤ foldB (t.take n) ∧ foldB (t.take n) < 256 ^ n) ∧ wr = W) (fun _ i _ => wd - (intOf i).toNat)
    case atStart => exact ⟨0, by omega, rfl, rfl, Lib.hid (by simp [foldB]), rfl⟩
    case round =>
      obtain ⟨n, hn, rfl, rfl, hb, rfl⟩ := hrel
      by_cases h : n < wd
      · have c0 := HC.out (k + n) (by rw [HM.out]; omega)
        rw [← GD.out n h] at c0
        have wc := BT.out (t.getD n 0) (by simp [List.getD, show n < t.length by rw [HLW.out]; exact h])
        have hnext := foldB_take t n (by rw [HLW.out]; exact h)
        obtain ⟨c, hc'⟩ : ∃ c, t.getD n 0 = c := ⟨_, rfl⟩
        rw [hc'] at c0 wc hnext
        obtain ⟨x, hx⟩ : ∃ x, foldB (t.take n) = x := ⟨_, rfl⟩
        rw [hx] at hb hnext
        rw [hx]
        have x1 : x < 16777216 := by
          have h2 := hb.out.2
          rcases (show n = 0 ∨ n = 1 ∨ n = 2 by omega) with rfl | rfl | rfl <;> simp at h2 <;> omega
        have x0 := hb.out.1
        have hnb : 0 ≤ foldB (t.take (n + 1)) ∧ foldB (t.take (n + 1)) < 256 ^ (n + 1) := by
          rw [hnext, Int.pow_succ]
          have := hb.out
          omega
        have HNB := Lib.hid hnb
        have HNX := Lib.hid hnext
        have wc0 := wc.1
        have wc1 := wc.2
        clear hnb hnext hx hc' wc hb
        go_wp2_with fail
        go_roundw
        case rel => exact ⟨n + 1, by omega, by go_num, by rw [HNX.out], HNB, trivial⟩
        case measure => simp [intOf]; omega
      · have e : n = wd := by omega
        subst e
        have et : t.take n = t := List.take_of_length_le (by rw [HLW.out]; exact Nat.le_refl _)
        rw [et]
        clear hb
        go_wp2_with fail
        go_ret
        exact ⟨rfl, rfl⟩
  · obtain rfl : wd = 0 := by omega
    have e0 : t = [] := List.eq_nil_of_length_eq_zero HLW.out
    subst e0
    clear h6 h5 hp
    go_enter Try.func30, Try.ntmps30
    go_wp2_with fail
    go_loopw [7, 8] (fun x i wr => i = .int .i64 0 ∧ x = .int .i64 0 ∧ wr = W) (fun _ i _ => 0)
    case atStart => exact ⟨rfl, rfl, rfl⟩
    case round =>
      obtain ⟨rfl, rfl, rfl⟩ := hrel
      go_wp2_with fail
      go_ret
      exact ⟨rfl, rfl⟩
end Go.Proofs.Ytlnlodbjkicgoaa
