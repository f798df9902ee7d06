/- The reference of layer 10: there, Count. -/
import Derived.Test.YtjiholljpkdllaaJa
import Derived.Laws.AppendOwn
import Derived.OwnWalk
namespace Go.Proofs.Ytjiholljpkdllaa
open Go.ChangeShapes Go.WideShapes Go.ChangeAt Go.RowKit
set_option maxRecDepth 20000
set_option linter.unusedVariables false
theorem rthere_any (w : World) (i : Int) : Calls Try.prog 21 #[.int .i64 i] w fun e w' => e = .returned (.bool (okS i)) ∧ w = w' := by
  by_cases h1 : 0 ≤ i
  · by_cases h2 : i < 8
    · have e : okS i = true := by simp [okS, h1, h2]
      have d1 : decide (0 ≤ i) = true := by simpa using h1
      have d2 : decide (i < 8) = true := by simpa using h2
      rw [e]
      go_enter Try.func21, Try.ntmps21
      go_wp2_with fail
      go_ret
      exact ⟨rfl, rfl⟩
    · have e : okS i = false := by simp [okS, h2]
      have d1 : decide (0 ≤ i) = true := by simpa using h1
      have d2 : decide (i < 8) = false := by simpa using h2
      rw [e]
      go_enter Try.func21, Try.ntmps21
      go_wp2_with fail
      go_ret
      exact ⟨rfl, rfl⟩
  · have e : okS i = false := by simp [okS, h1]
    have d1 : decide (0 ≤ i) = false := by simpa using h1
    rw [e]
    go_enter Try.func21, Try.ntmps21
    go_wp2_with fail
    go_ret
    exact ⟨rfl, rfl⟩
/-- A row of numbers that lies apart from the blocks from S up to S + 9. -/
def LogRow (w : World) (S : Nat) (A : Option Addr) (n cap : Nat) (xs : List Int) : Prop :=
  IsNums .i64 w (.slice A n cap) xs ∧ ∀ a, A = some a → (a.block < S ∨ S + 9 ≤ a.block) ∧ a.block < w.heap.size
theorem LogRow.keep {w w' : World} {S : Nat} {A : Option Addr} {n cap : Nat} {xs : List Int} (h : LogRow w S A n cap xs) (g : But (S + 1) (S + 9) w w') : LogRow w' S A n cap xs := by
  obtain ⟨⟨A', cap', h1, h2, h3, h4, h5, h6⟩, hA⟩ := h
  refine ⟨⟨A', cap', h1, h2, h3, h4, h5, fun hp => ?_⟩, fun a ha => ⟨(hA a ha).1, Nat.lt_of_lt_of_le (hA a ha).2 g.2.2.1⟩⟩
  obtain ⟨b, off, e, hb, hc⟩ := h6 hp
  have eA : A = A' := by simp only [Value.slice.injEq] at h1; exact h1.1
  have := (hA ⟨b, off, none⟩ (eA.trans e)).1
  exact ⟨b, off, e, Nat.lt_of_lt_of_le hb g.2.2.1, fun i hi => (g.cell (p := ⟨b, off + i, none⟩) hb (show b < S + 1 ∨ S + 9 ≤ b by simp only at this; omega)).trans (hc i hi)⟩
/-- The log of what was done, in a box at Y. -/
structure RefAt (w : World) (Y S : Nat) (xs : List Int) : Prop where
  len : xs.length ≤ 1000
  apart : Y < S ∨ S + 9 ≤ Y
  box : Y < w.heap.size
  free : ∀ o : Nat, w.frozen? ⟨Y, o, none⟩ = false
  row : ∃ A cap, w.cell? ⟨Y, 0, none⟩ = some (.slice A xs.length cap) ∧ LogRow w S A xs.length cap xs
theorem RefAt.keep {w w' : World} {Y S : Nat} {xs : List Int} (h : RefAt w Y S xs) (g : But (S + 1) (S + 9) w w') : RefAt w' Y S xs := by
  have ha := h.apart
  have hb := h.box
  have cY : w'.cell? ⟨Y, 0, none⟩ = w.cell? ⟨Y, 0, none⟩ := g.cell (p := ⟨Y, 0, none⟩) hb (show Y < S + 1 ∨ S + 9 ≤ Y by omega)
  obtain ⟨A, cap, h2, h3⟩ := h.row
  exact ⟨h.len, ha, Nat.lt_of_lt_of_le hb g.2.2.1, fun o => (g.free (p := ⟨Y, o, none⟩) hb (show Y < S + 1 ∨ S + 9 ≤ Y by omega)).trans (h.free o), A, cap, cY.trans h2, h3.keep g⟩
theorem RefAt.grow {w w' : World} {Y S : Nat} {xs : List Int} (h : RefAt w Y S xs) (g : Past w w') : RefAt w' Y S xs := h.keep (g.but _ _)
/-- The same log beside other semaphores that were made behind it. -/
theorem RefAt.turn {w : World} {Y S S' : Nat} {xs : List Int} (h : RefAt w Y S xs) (hS : w.heap.size ≤ S') : RefAt w Y S' xs := by
  have hb := h.box
  obtain ⟨A, cap, h2, h3, h4⟩ := h.row
  exact ⟨h.len, Or.inl (by omega), hb, h.free, A, cap, h2, h3, fun a ha => ⟨Or.inl (by have := (h4 a ha).2; omega), (h4 a ha).2⟩⟩
/-- How often a is there, less how often b is. -/
def cntR (a b : Int) : List Int → Int
  | [] => 0
  | x :: t => (if x = a then 1 else 0) - (if x = b then 1 else 0) + cntR a b t
theorem cntR_append (a b : Int) (xs ys : List Int) : cntR a b (xs ++ ys) = cntR a b xs + cntR a b ys := by
  induction xs with
  | nil => simp [cntR]
  | cons x t ih => simp only [List.cons_append, cntR, ih]; omega
theorem cntR_next (a b : Int) (xs : List Int) (k : Nat) (hk : k < xs.length) : cntR a b (xs.take (k + 1)) = cntR a b (xs.take k) + (if xs.getD k 0 = a then 1 else 0) - (if xs.getD k 0 = b then 1 else 0) := by
  rw [List.take_add_one, List.getElem?_eq_getElem hk, cntR_append]
  simp only [Option.toList, cntR, List.getD, List.getElem?_eq_getElem hk, Option.getD_some]
  omega
theorem cntR_bd (a b : Int) (xs : List Int) : -(xs.length : Int) ≤ cntR a b xs ∧ cntR a b xs ≤ (xs.length : Int) := by
  induction xs with
  | nil => simp [cntR]
  | cons x t ih =>
    simp only [cntR, List.length_cons]
    by_cases c1 : x = a <;> by_cases c2 : x = b <;> simp only [c1, c2, if_true, if_false] <;> omega
/-- What the reference counts. -/
def rcnt (xs : List Int) (i : Int) : Int := cntR (IntKind.i64.wrap (i + 1)) (IntKind.i64.wrap (IntKind.i64.wrap (-i) - 1)) xs
set_option maxHeartbeats 2000000 in
theorem rcount_any (w : World) (Y S : Nat) (xs : List Int) (i : Int) (h : RefAt w Y S xs) : Calls Try.prog 16 #[.pointer (some ⟨Y, 0, none⟩), .int .i64 i] w fun e w' => e = .returned (.int .i64 (rcnt xs i)) ∧ w = w' := by
  have hl := h.len
  obtain ⟨a, ha⟩ : ∃ a, IntKind.i64.wrap (i + 1) = a := ⟨_, rfl⟩
  obtain ⟨c, hc⟩ : ∃ c, IntKind.i64.wrap (-i) = c := ⟨_, rfl⟩
  obtain ⟨b, hb⟩ : ∃ b, IntKind.i64.wrap (c - 1) = b := ⟨_, rfl⟩
  have e : rcnt xs i = cntR a b xs := by rw [rcnt, hc, ha, hb]
  rw [e]
  clear e
  obtain ⟨A, cap, h2, ⟨A', cap', e', h3, h3', h4, h5, h6⟩, h7⟩ := h.row
  simp only [Value.slice.injEq] at e'
  obtain ⟨rfl, _, rfl⟩ := e'
  clear h7 h3' h4 h5
  by_cases h1 : 0 < xs.length
  rotate_left
  · have e0 : xs = [] := List.eq_nil_of_length_eq_zero (by omega)
    subst e0
    clear h6
    simp only [List.length_nil] at h2
    go_enter Try.func16, Try.ntmps16
    go_wp2_with fail
    go_loopw [5, 6] (fun n k wr => n = .int .i64 0 ∧ k = .int .i64 0 ∧ w = wr) (fun _ k _ => 1)
    case atStart => exact ⟨rfl, rfl, rfl⟩
    case round =>
      obtain ⟨rfl, rfl, rfl⟩ := hrel
      go_wp2_with fail
      go_ret
      exact ⟨rfl, rfl⟩
  · obtain ⟨q, off, rfl, h5, h6⟩ := h6 h1
    have H6 := Lib.hid h6
    clear h6
    go_enter Try.func16, Try.ntmps16
    go_wp2_with fail
    go_loopw [5, 6] (fun n k wr => ∃ k' : Nat, k' ≤ xs.length ∧ k = .int .i64 k' ∧ ∃ n' : Int, n = .int .i64 n' ∧ Hid (n' = cntR a b (xs.take k')) ∧ w = wr) (fun _ k _ => xs.length - (intOf k).toNat)
    case atStart => exact ⟨0, by omega, rfl, 0, rfl, Lib.hid rfl, rfl⟩
    case round =>
      obtain ⟨k, hk, rfl, n, rfl, hn, rfl⟩ := hrel
      have i1 : (0 : Int) ≤ (k : Int) := by omega
      by_cases cl : k < xs.length
      · have d1 : decide ((k : Int) < (xs.length : Int)) = true := by simpa using cl
        have x1 := H6.out k cl
        have hnx := cntR_next a b xs k cl
        have hbd := cntR_bd a b (xs.take k)
        rw [List.length_take] at hbd
        rw [← hn.out] at hnx hbd
        have nb : -1000 ≤ n ∧ n ≤ 1000 := by omega
        clear hbd
        obtain ⟨x, hx⟩ : ∃ x, xs.getD k 0 = x := ⟨_, rfl⟩
        rw [hx] at x1 hnx
        clear hx
        obtain ⟨nb1, nb2⟩ := nb
        have hnx' := Lib.hid hnx
        clear hnx
        by_cases ca : x = a
        · have b1 : (x == a) = true := by simpa using ca
          by_cases cb : x = b
          · have b2 : (x == b) = true := by simpa using cb
            rw [if_pos ca, if_pos cb] at hnx'
            go_wp2_with fail
            go_roundw
            case rel => exact ⟨k + 1, by omega, by go_num, _, rfl, Lib.hid (by rw [hnx'.out]; omega), by trivial⟩
            case measure => simp [intOf]; omega
          · have b2 : (x == b) = false := by simpa using cb
            rw [if_pos ca, if_neg cb] at hnx'
            go_wp2_with fail
            go_roundw
            case rel => exact ⟨k + 1, by omega, by go_num, _, rfl, Lib.hid (by rw [hnx'.out]; omega), by trivial⟩
            case measure => simp [intOf]; omega
        · have b1 : (x == a) = false := by simpa using ca
          by_cases cb : x = b
          · have b2 : (x == b) = true := by simpa using cb
            rw [if_neg ca, if_pos cb] at hnx'
            go_wp2_with fail
            go_roundw
            case rel => exact ⟨k + 1, by omega, by go_num, _, rfl, Lib.hid (by rw [hnx'.out]; omega), by trivial⟩
            case measure => simp [intOf]; omega
          · have b2 : (x == b) = false := by simpa using cb
            rw [if_neg ca, if_neg cb] at hnx'
            go_wp2_with fail
            go_roundw
            case rel => exact ⟨k + 1, by omega, by go_num, _, rfl, Lib.hid (by rw [hnx'.out]; omega), by trivial⟩
            case measure => simp [intOf]; omega
      · obtain rfl : k = xs.length := by omega
        have := hn.out
        rw [List.take_length] at this
        subst this
        go_wp2_with fail
        go_ret
        exact ⟨rfl, rfl⟩
end Go.Proofs.Ytjiholljpkdllaa
