/- The reference of layer 10: All; both sides together. -/
import Derived.Test.YtjiholljpkdllaaR1
namespace Go.Proofs.Ytjiholljpkdllaa
open Go.ChangeShapes Go.WideShapes Go.ChangeAt Go.RowKit
set_option maxRecDepth 20000
set_option linter.unusedVariables false
/-- What All of the reference tells. -/
def allR (xs : List Int) : Nat → List Int
  | 0 => []
  | n + 1 => allR xs n ++ [rcnt xs n]
theorem allR_len (xs : List Int) (n : Nat) : (allR xs n).length = n := by
  induction n with
  | zero => rfl
  | succ n ih => simp [allR, ih]
theorem rcnt_wf (xs : List Int) (h : xs.length ≤ 1000) (i : Int) : (Lit.int .i64 (rcnt xs i)).wf = true := by
  have := cntR_bd (IntKind.i64.wrap (i + 1)) (IntKind.i64.wrap (IntKind.i64.wrap (-i) - 1)) xs
  unfold rcnt
  simp [Lit.wf, IntKind.min, IntKind.max, IntKind.bits, IntKind.signed]
  omega
theorem allR_wf (xs : List Int) (h : xs.length ≤ 1000) (n : Nat) : ∀ x ∈ allR xs n, (Lit.int .i64 x).wf = true := by
  induction n with
  | zero => intro x hx; simp [allR] at hx
  | succ n ih =>
    intro x hx
    simp only [allR, List.mem_append, List.mem_singleton] at hx
    rcases hx with hx | rfl
    · exact ih x hx
    · exact rcnt_wf xs h _
set_option maxHeartbeats 4000000 in
theorem rall_any (w : World) (Y S : Nat) (xs : List Int) (h : RefAt w Y S xs) : Calls Try.prog 19 #[.pointer (some ⟨Y, 0, none⟩)] w fun e w' => ∃ v, e = .returned v ∧ IsNums .i64 w' v (allR xs 8) ∧ Past w w' := by
  have H := Lib.hid h
  have hl := h.len
  have O0 := ownL_lit w
  clear h
  go_enter Try.func19, Try.ntmps19
  go_wp2_with fail
  go_loopw [3, 4] (fun v i wr => ∃ k : Nat, k ≤ 8 ∧ i = .int .i64 k ∧ Hid (OwnL wr w.heap.size v (allR xs k)) ∧ Past w wr) (fun _ i _ => 8 - (intOf i).toNat)
  case atStart => exact ⟨0, by omega, rfl, Lib.hid O0, (Past.refl w).alloc _⟩
  case round =>
    obtain ⟨k, hk, rfl, hO, gP⟩ := hrel
    rename_i v _
    have i1 : (0 : Int) ≤ (k : Int) := by omega
    by_cases c : k < 8
    · have d1 : decide ((k : Int) < 8) = true := by simp; omega
      have hR := H.out.grow gP
      obtain ⟨n, hn⟩ : ∃ n, rcnt xs k = n := ⟨_, rfl⟩
      have wn := rcnt_wf xs hl k
      rw [hn] at wn
      have hn' := Lib.hid hn
      have ek := allR_len xs k
      have es := gP.2.2.1
      go_wp2_with (first | (go_at_call 16; refine (rcount_any _ _ _ _ _ hR).mono ?_; rintro e w0 ⟨rfl, rfl⟩; rw [hn'.out]) | (at_builtin; refine wpList_append_i rfl (.tmp 10) (.tmp 14) rfl w.heap.size _ (allR xs k) rfl (hO.out.alloc _) [n] (some ⟨wr.heap.size, 0, none⟩) 1 1 rfl (nums_one wr n wn) (by simp only [List.length_cons, List.length_nil]; omega) (by simp; omega) ?_; intro v2 w2 O2 G2; have P2 : Past w w2 := (gP.alloc _).grownBy G2 (fun q hq => by exact hO.out.lt hq); have O2' := Lib.hid O2; clear O2 G2))
      go_roundw
      case rel => exact ⟨k + 1, by omega, by go_num, Lib.hid (by rw [allR, hn'.out]; exact O2'.out), P2⟩
      case measure => simp [intOf]; omega
    · obtain rfl : k = 8 := by omega
      go_wp2_with fail
      go_ret
      exact ⟨_, rfl, nums_of_own hO.out (allR_wf xs hl 8), gP⟩
end Go.Proofs.Ytjiholljpkdllaa
