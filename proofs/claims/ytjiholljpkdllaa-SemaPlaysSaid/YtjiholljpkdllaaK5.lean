/- Semaphores: Clone. -/
import Derived.Test.YtjiholljpkdllaaK4
namespace Go.Proofs.Ytjiholljpkdllaa
open Go.ChangeShapes Go.WideShapes Go.ChangeAt Go.RowKit
set_option maxRecDepth 20000
set_option linter.unusedVariables false
/-- The first k counts, and noughts. -/
def partL (l : List Nat) (k : Nat) : List Nat := (List.range 8).map (fun j => if j < k then l.getD j 0 else 0)
theorem partL_len (l : List Nat) (k : Nat) : (partL l k).length = 8 := by simp [partL]
theorem partL_at (l : List Nat) (k j : Nat) (hj : j < 8) : (partL l k).getD j 0 = if j < k then l.getD j 0 else 0 := by
  simp [partL, List.getD, hj]
theorem nat_ext {xs ys : List Nat} (h : xs.length = ys.length) (k : ∀ j, j < xs.length → xs.getD j 0 = ys.getD j 0) : xs = ys := by
  refine List.ext_getElem h (fun i h1 h2 => ?_)
  have := k i h1
  simpa [List.getD, h1, h2] using this
theorem partL_zero (l : List Nat) : partL l 0 = List.replicate 8 0 := by
  refine nat_ext (by simp [partL]) (fun j hj => ?_)
  rw [partL_len] at hj
  rw [partL_at l 0 j hj, rep0]
  simp
theorem partL_all {l : List Nat} (h : l.length = 8) : partL l 8 = l := by
  refine nat_ext (by simp [partL, h]) (fun j hj => ?_)
  rw [partL_len] at hj
  rw [partL_at l 8 j hj, if_pos hj]
theorem partL_set0 (l : List Nat) (k : Nat) (hk : k < 8) : (partL l k).set k 0 = partL l k := by
  refine nat_ext (by simp) (fun j hj => ?_)
  rw [List.length_set, partL_len] at hj
  rw [getD_set (by rw [partL_len]; exact hk), partL_at l k j hj]
  by_cases c : j = k
  · subst c; simp
  · simp [c]
theorem partL_next (l : List Nat) (k : Nat) (hk : k < 8) : (partL l k).set k (l.getD k 0) = partL l (k + 1) := by
  refine nat_ext (by simp [partL_len]) (fun j hj => ?_)
  rw [List.length_set, partL_len] at hj
  rw [getD_set (by rw [partL_len]; exact hk), partL_at l k j hj, partL_at l (k + 1) j hj]
  by_cases c : j = k
  · subst c; simp
  · simp only [c, if_false, show (j < k + 1) = (j < k) from propext ⟨fun h => by omega, fun h => by omega⟩]
theorem sigL_in {l : List Nat} {k : Nat} (hk : k < 8) (h : l.getD k 0 < 15) : sigL l k = l.set k (l.getD k 0 + 1) := by
  have := okS_iff.2 ⟨k, hk, rfl⟩
  simp only [sigL, this, if_true, Int.toNat_natCast, h]
theorem part_step {l : List Nat} {k m : Nat} (hk : k < 8) (h : m < 15) : sigL ((partL l k).set k m) k = (partL l k).set k (m + 1) := by
  have e : ((partL l k).set k m).getD k 0 = m := by rw [getD_set (by rw [partL_len]; exact hk), if_pos rfl]
  rw [sigL_in hk (by rw [e]; exact h), e, List.set_set]
theorem nums_cell {w : World} {p n c : Nat} {k : IntKind} {xs : List Int} (h : IsNums k w (.slice (some ⟨p, 0, none⟩) n c) xs) : xs.length = n ∧ ∀ i, i < n → w.cell? ⟨p, i, none⟩ = some (.int k (xs.getD i 0)) ∧ p < w.heap.size := by
  obtain ⟨A, cap, h1, h2, h3, h4, h5, h6⟩ := h
  simp only [Value.slice.injEq] at h1
  obtain ⟨rfl, rfl, rfl⟩ := h1
  refine ⟨rfl, fun i hi => ?_⟩
  obtain ⟨b, off, e, hb, hc⟩ := h6 (by omega)
  simp only [Option.some.injEq, Addr.mk.injEq, and_true] at e
  obtain ⟨rfl, rfl⟩ := e
  exact ⟨by simpa using hc i hi, hb⟩
set_option maxHeartbeats 2000000 in
theorem clone_any (w : World) (b : Nat) (l : List Nat) (h : SemAt w b l) : Calls Try.prog 10 #[.pointer (some ⟨b, 0, none⟩)] w fun e w' => e = .returned (.pointer (some ⟨w.heap.size, 0, none⟩)) ∧ SemAt w' w.heap.size l ∧ Past w w' := by
  go_enter Try.func10, Try.ntmps10
  go_upto_region 2 with (go_at_call 9; refine (new_any _).mono ?_; rintro e w1 ⟨rfl, h1, g1⟩)
  have h2 := h.grow g1
  go_wp2_with (go_at_call 18; refine (all_any _ _ _ h2).mono ?_; rintro e w2 ⟨rfl, h3, g2⟩)
  have hs1 := h1.size
  have h4 := h1.grow g2
  have g3 := g1.trans g2
  obtain ⟨hl, hc⟩ := nums_cell h3
  clear h3 h1
  go_loopw [10, 4, 5, 16] (fun i x y z wr => ∃ k : Nat, k ≤ 8 ∧ i = .int .i64 k ∧ SemAt wr w.heap.size (partL l k) ∧ But (w.heap.size + 1) (w.heap.size + 9) w2 wr) (fun i _ _ _ _ => 8 - (intOf i).toNat)
  case atStart =>
    refine ⟨0, by omega, rfl, ?_, But.refl _ _ _⟩
    rw [partL_zero]; exact h4
  case round =>
    obtain ⟨k, hk, rfl, hS, hN⟩ := hrel
    have i1 : (0 : Int) ≤ (k : Int) := by omega
    by_cases c : k < 8
    · have i2 : (k : Int) < 8 := by omega
      have d1 : decide ((k : Int) < 8) = true := by simpa using i2
      have x1 := (hN.cell (p := ⟨w1.heap.size, k, none⟩) (hc k c).2 (Or.inr (by simpa using hs1))).trans (hc k c).1
      rw [natsI_at] at x1
      have hm := h.most k c
      obtain ⟨n, hn⟩ : ∃ n, l.getD k 0 = n := ⟨_, rfl⟩
      rw [hn] at x1 hm
      have hn' := Lib.hid hn
      clear hn
      go_wp2_with fail
      obtain ⟨w9, hw9⟩ : ∃ w9, w9 = wr := ⟨_, rfl⟩
      subst hw9
      go_loopw [16] (fun i wr => ∃ m : Nat, m ≤ n ∧ i = .int .i64 m ∧ SemAt wr w.heap.size ((partL l k).set k m) ∧ But (w.heap.size + 1) (w.heap.size + 9) w2 wr) (fun i _ => n - (intOf i).toNat)
      case atStart =>
        refine ⟨0, by omega, rfl, ?_, hN⟩
        rw [partL_set0 l k c]; exact hS
      case round =>
        obtain ⟨m, hm2, rfl, hS, hN⟩ := hrel
        have i3 : (0 : Int) ≤ (m : Int) := by omega
        by_cases d : m < n
        · have d3 : decide ((m : Int) < (n : Int)) = true := by simpa using d
          have e1 := part_step (l := l) c (show m < 15 by omega)
          go_wp2_with (go_at_call 11; refine (sig_any _ _ _ _ hS).mono ?_; rintro e w3 ⟨rfl, h5, g5⟩; rw [e1] at h5)
          go_roundw
          case rel => exact ⟨m + 1, by omega, by go_num, h5, hN.trans g5⟩
          case measure => simp [intOf]; omega
        · obtain rfl : m = n := by omega
          rw [← hn'.out, partL_next l k c] at hS
          go_wp2_with fail
          go_roundw
          case rel => exact ⟨k + 1, by omega, by go_num, hS, hN⟩
          case measure => simp [intOf]; omega
    · obtain rfl : k = 8 := by omega
      rw [partL_all h.len] at hS
      go_wp2_with fail
      go_ret
      exact ⟨rfl, hS, hN.past g3 (Nat.le_succ _)⟩
end Go.Proofs.Ytjiholljpkdllaa
