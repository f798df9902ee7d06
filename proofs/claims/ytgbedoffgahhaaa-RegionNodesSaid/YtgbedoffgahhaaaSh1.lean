/- shape: between, its closure, Out. -/
import Derived.Test.YtgbedoffgahhaaaShMath
namespace Go.Proofs.Ytgbedoffgahhaaa
open Go.ChangeShapes Go.WideShapes Go.ChangeAt Go.RowKit

theorem inb_any (n : Nat) (f : Nat → Int) (lo hi : Int) (t : Bool) (b : Nat) (w : World) (p q : Addr) (hn : n ≤ 100) (ht : Hid (t = true ↔ ∀ i, i < n → lo ≤ f i ∧ f i ≤ hi)) (hp : w.cell? p = some (.int .i64 lo)) (hq : w.cell? q = some (.int .i64 hi)) (hr : Hid (∀ i, i < n → w.cell? ⟨b, i, none⟩ = some (.int .i64 (f i)))) :
    Calls Try.prog 89 #[.slice (some ⟨b, 0, none⟩) n n, .pointer (some p), .pointer (some q)] w fun e w' => e = .returned (.bool t) ∧ w' = w := by
  go_enter Try.func89, Try.ntmps89
  go_wp2
  go_loop [9] (fun i => ∃ k : Nat, k ≤ n ∧ i = .int .i64 k ∧ Hid (∀ i, i < k → lo ≤ f i ∧ f i ≤ hi)) (fun i => n - (intOf i).toNat)
  case atStart => exact ⟨0, by omega, rfl, Lib.hid (by omega)⟩
  case round =>
    obtain ⟨k, hk, rfl, hx⟩ := hrel
    by_cases hlt : k < n
    · have hc := hr.out k hlt
      by_cases c1 : lo ≤ f k
      · by_cases c2 : f k ≤ hi
        · go_wp2_with fail
          go_round
          case rel => exact ⟨k + 1, by omega, by go_num, Lib.hid (fun i h => by
            by_cases e : i = k
            · subst e; exact ⟨c1, c2⟩
            · exact hx.out i (by omega))⟩
          case measure => simp [intOf]; omega
        · have : t = false := by
            cases t with
            | false => rfl
            | true => exact absurd (ht.out.mp rfl k hlt).2 c2
          subst this
          go_wp2_with fail
          go_ret
          exact ⟨rfl, rfl⟩
      · have : t = false := by
          cases t with
          | false => rfl
          | true => exact absurd (ht.out.mp rfl k hlt).1 c1
        subst this
        go_wp2_with fail
        go_ret
        exact ⟨rfl, rfl⟩
    · have : t = true := ht.out.mpr (fun i h => hx.out i (by omega))
      subst this
      go_wp2_with fail
      go_ret
      exact ⟨rfl, rfl⟩

theorem inb1 (lo hi x : Int) (t : Bool) (b : Nat) (w : World) (p q : Addr) (ht : Hid (t = true ↔ lo ≤ x ∧ x ≤ hi)) (hp : w.cell? p = some (.int .i64 lo)) (hq : w.cell? q = some (.int .i64 hi)) (hr : w.cell? ⟨b, 0, none⟩ = some (.int .i64 x)) :
    Calls Try.prog 89 #[.slice (some ⟨b, 0, none⟩) 1 1, .pointer (some p), .pointer (some q)] w fun e w' => e = .returned (.bool t) ∧ w' = w :=
  inb_any 1 (fun _ => x) lo hi t b w p q (by omega) (Lib.hid (by rw [ht.out]; exact ⟨fun h _ _ => h, fun h => h 0 (by omega)⟩)) hp hq (Lib.hid (fun i h => by
    obtain rfl : i = 0 := by omega
    exact hr))

theorem inb2 (lo hi x y : Int) (t : Bool) (b : Nat) (w : World) (p q : Addr) (ht : Hid (t = true ↔ (lo ≤ x ∧ x ≤ hi) ∧ (lo ≤ y ∧ y ≤ hi))) (hp : w.cell? p = some (.int .i64 lo)) (hq : w.cell? q = some (.int .i64 hi)) (hr : w.cell? ⟨b, 0, none⟩ = some (.int .i64 x)) (hs : w.cell? ⟨b, 1, none⟩ = some (.int .i64 y)) :
    Calls Try.prog 89 #[.slice (some ⟨b, 0, none⟩) 2 2, .pointer (some p), .pointer (some q)] w fun e w' => e = .returned (.bool t) ∧ w' = w :=
  inb_any 2 (fun i => if i = 0 then x else y) lo hi t b w p q (by omega) (Lib.hid (by
    rw [ht.out]
    constructor
    · intro h i hi
      by_cases e : i = 0 <;> simp [e, h]
    · intro h
      exact ⟨by simpa using h 0 (by omega), by simpa using h 1 (by omega)⟩)) hp hq (Lib.hid (fun i h => by
    by_cases e : i = 0
    · subst e; simpa using hr
    · obtain rfl : i = 1 := by omega
      simpa using hs))

theorem between_any (lo hi : Int) (w : World) :
    Calls Try.prog 83 #[.int .i64 lo, .int .i64 hi] w fun e w' => e = .returned (.func (.func 89) #[] #[.pointer (some ⟨w.heap.size, 0, none⟩), .pointer (some ⟨w.heap.size + 1, 0, none⟩)]) ∧ w' = (w.alloc (.cells #[.int .i64 lo] 3)).alloc (.cells #[.int .i64 hi] 3) := by
  go_enter Try.func83, Try.ntmps83
  go_wp2
  go_ret
  exact ⟨rfl, rfl⟩

theorem out_no1 (size k stride pad : Int) (w : World) (h : ¬ (1 ≤ size ∧ size ≤ 64)) :
    Calls Try.prog 86 #[.int .i64 size, .int .i64 k, .int .i64 stride, .int .i64 pad] w fun e w' => e = .returned (.int .i64 0) ∧ Grown w w' := by
  go_enter Try.func86, Try.ntmps86
  go_wp2_with (first | (go_at_call 83; refine (between_any _ _ _).mono ?_; rintro e w' ⟨rfl, rfl⟩))
  refine (inb1 1 64 size false _ _ _ _ (Lib.hid (by simp; omega)) (by go_cell) (by go_cell) (by go_cell)).mono ?_; rintro e w' ⟨rfl, rfl⟩
  go_wp2_with (first | (go_at_call 83; refine (between_any _ _ _).mono ?_; rintro e w' ⟨rfl, rfl⟩))
  go_ret
  exact ⟨rfl, by go_grown⟩

theorem out_no2 (size k stride pad : Int) (w : World) (u1 : 1 ≤ size) (u2 : size ≤ 64) (h : ¬ (1 ≤ k ∧ k ≤ 16)) :
    Calls Try.prog 86 #[.int .i64 size, .int .i64 k, .int .i64 stride, .int .i64 pad] w fun e w' => e = .returned (.int .i64 0) ∧ Grown w w' := by
  go_enter Try.func86, Try.ntmps86
  go_wp2_with (first | (go_at_call 83; refine (between_any _ _ _).mono ?_; rintro e w' ⟨rfl, rfl⟩))
  refine (inb1 1 64 size true _ _ _ _ (Lib.hid (by simp; omega)) (by go_cell) (by go_cell) (by go_cell)).mono ?_; rintro e w' ⟨rfl, rfl⟩
  go_wp2_with (first | (go_at_call 83; refine (between_any _ _ _).mono ?_; rintro e w' ⟨rfl, rfl⟩))
  refine (inb1 1 16 k false _ _ _ _ (Lib.hid (by simp; omega)) (by go_cell) (by go_cell) (by go_cell)).mono ?_; rintro e w' ⟨rfl, rfl⟩
  go_wp2_with (first | (go_at_call 83; refine (between_any _ _ _).mono ?_; rintro e w' ⟨rfl, rfl⟩))
  go_ret
  exact ⟨rfl, by go_grown⟩

theorem out_no3 (size k stride pad : Int) (w : World) (u1 : 1 ≤ size) (u2 : size ≤ 64) (v1 : 1 ≤ k) (v2 : k ≤ 16) (h : ¬ (1 ≤ stride ∧ stride ≤ 16)) :
    Calls Try.prog 86 #[.int .i64 size, .int .i64 k, .int .i64 stride, .int .i64 pad] w fun e w' => e = .returned (.int .i64 0) ∧ Grown w w' := by
  go_enter Try.func86, Try.ntmps86
  go_wp2_with (first | (go_at_call 83; refine (between_any _ _ _).mono ?_; rintro e w' ⟨rfl, rfl⟩))
  refine (inb1 1 64 size true _ _ _ _ (Lib.hid (by simp; omega)) (by go_cell) (by go_cell) (by go_cell)).mono ?_; rintro e w' ⟨rfl, rfl⟩
  go_wp2_with (first | (go_at_call 83; refine (between_any _ _ _).mono ?_; rintro e w' ⟨rfl, rfl⟩))
  refine (inb1 1 16 k true _ _ _ _ (Lib.hid (by simp; omega)) (by go_cell) (by go_cell) (by go_cell)).mono ?_; rintro e w' ⟨rfl, rfl⟩
  go_wp2_with (first | (go_at_call 83; refine (between_any _ _ _).mono ?_; rintro e w' ⟨rfl, rfl⟩))
  refine (inb1 1 16 stride false _ _ _ _ (Lib.hid (by simp; omega)) (by go_cell) (by go_cell) (by go_cell)).mono ?_; rintro e w' ⟨rfl, rfl⟩
  go_wp2_with (first | (go_at_call 83; refine (between_any _ _ _).mono ?_; rintro e w' ⟨rfl, rfl⟩))
  go_ret
  exact ⟨rfl, by go_grown⟩

theorem out_no4 (size k stride pad : Int) (w : World) (u1 : 1 ≤ size) (u2 : size ≤ 64) (v1 : 1 ≤ k) (v2 : k ≤ 16) (x1 : 1 ≤ stride) (x2 : stride ≤ 16) (h : ¬ (0 ≤ pad ∧ pad ≤ 16)) :
    Calls Try.prog 86 #[.int .i64 size, .int .i64 k, .int .i64 stride, .int .i64 pad] w fun e w' => e = .returned (.int .i64 0) ∧ Grown w w' := by
  go_enter Try.func86, Try.ntmps86
  go_wp2_with (first | (go_at_call 83; refine (between_any _ _ _).mono ?_; rintro e w' ⟨rfl, rfl⟩))
  refine (inb1 1 64 size true _ _ _ _ (Lib.hid (by simp; omega)) (by go_cell) (by go_cell) (by go_cell)).mono ?_; rintro e w' ⟨rfl, rfl⟩
  go_wp2_with (first | (go_at_call 83; refine (between_any _ _ _).mono ?_; rintro e w' ⟨rfl, rfl⟩))
  refine (inb1 1 16 k true _ _ _ _ (Lib.hid (by simp; omega)) (by go_cell) (by go_cell) (by go_cell)).mono ?_; rintro e w' ⟨rfl, rfl⟩
  go_wp2_with (first | (go_at_call 83; refine (between_any _ _ _).mono ?_; rintro e w' ⟨rfl, rfl⟩))
  refine (inb1 1 16 stride true _ _ _ _ (Lib.hid (by simp; omega)) (by go_cell) (by go_cell) (by go_cell)).mono ?_; rintro e w' ⟨rfl, rfl⟩
  go_wp2_with (first | (go_at_call 83; refine (between_any _ _ _).mono ?_; rintro e w' ⟨rfl, rfl⟩))
  refine (inb1 0 16 pad false _ _ _ _ (Lib.hid (by simp; omega)) (by go_cell) (by go_cell) (by go_cell)).mono ?_; rintro e w' ⟨rfl, rfl⟩
  go_wp2_with (first | (go_at_call 83; refine (between_any _ _ _).mono ?_; rintro e w' ⟨rfl, rfl⟩))
  go_ret
  exact ⟨rfl, by go_grown⟩

theorem out_no5 (size k stride pad : Int) (w : World) (u1 : 1 ≤ size) (u2 : size ≤ 64) (v1 : 1 ≤ k) (v2 : k ≤ 16) (x1 : 1 ≤ stride) (x2 : stride ≤ 16) (y1 : 0 ≤ pad) (y2 : pad ≤ 16) (h : size + 2 * pad < k) :
    Calls Try.prog 86 #[.int .i64 size, .int .i64 k, .int .i64 stride, .int .i64 pad] w fun e w' => e = .returned (.int .i64 0) ∧ Grown w w' := by
  go_enter Try.func86, Try.ntmps86
  go_wp2_with (first | (go_at_call 83; refine (between_any _ _ _).mono ?_; rintro e w' ⟨rfl, rfl⟩))
  refine (inb1 1 64 size true _ _ _ _ (Lib.hid (by simp; omega)) (by go_cell) (by go_cell) (by go_cell)).mono ?_; rintro e w' ⟨rfl, rfl⟩
  go_wp2_with (first | (go_at_call 83; refine (between_any _ _ _).mono ?_; rintro e w' ⟨rfl, rfl⟩))
  refine (inb1 1 16 k true _ _ _ _ (Lib.hid (by simp; omega)) (by go_cell) (by go_cell) (by go_cell)).mono ?_; rintro e w' ⟨rfl, rfl⟩
  go_wp2_with (first | (go_at_call 83; refine (between_any _ _ _).mono ?_; rintro e w' ⟨rfl, rfl⟩))
  refine (inb1 1 16 stride true _ _ _ _ (Lib.hid (by simp; omega)) (by go_cell) (by go_cell) (by go_cell)).mono ?_; rintro e w' ⟨rfl, rfl⟩
  go_wp2_with (first | (go_at_call 83; refine (between_any _ _ _).mono ?_; rintro e w' ⟨rfl, rfl⟩))
  refine (inb1 0 16 pad true _ _ _ _ (Lib.hid (by simp; omega)) (by go_cell) (by go_cell) (by go_cell)).mono ?_; rintro e w' ⟨rfl, rfl⟩
  go_wp2_with (first | (go_at_call 83; refine (between_any _ _ _).mono ?_; rintro e w' ⟨rfl, rfl⟩))
  go_ret
  exact ⟨rfl, by go_grown⟩

theorem out_no6 (size k stride pad : Int) (w : World) (u1 : 1 ≤ size) (u2 : size ≤ 64) (v1 : 1 ≤ k) (v2 : k ≤ 16) (x1 : 1 ≤ stride) (x2 : stride ≤ 16) (y1 : 0 ≤ pad) (y2 : pad ≤ 16) (h : k ≤ size + 2 * pad) :
    Calls Try.prog 86 #[.int .i64 size, .int .i64 k, .int .i64 stride, .int .i64 pad] w fun e w' => e = .returned (.int .i64 (1 + (size + 2 * pad - k) / stride)) ∧ Grown w w' := by
  have d1 : (size + 2 * pad - k) / stride ≤ 96 := Int.le_trans (Int.ediv_le_self _ (by omega)) (by omega)
  have d2 : 0 ≤ (size + 2 * pad - k) / stride := Int.ediv_nonneg (by omega) (by omega)
  go_enter Try.func86, Try.ntmps86
  go_wp2_with (first | (go_at_call 83; refine (between_any _ _ _).mono ?_; rintro e w' ⟨rfl, rfl⟩))
  refine (inb1 1 64 size true _ _ _ _ (Lib.hid (by simp; omega)) (by go_cell) (by go_cell) (by go_cell)).mono ?_; rintro e w' ⟨rfl, rfl⟩
  go_wp2_with (first | (go_at_call 83; refine (between_any _ _ _).mono ?_; rintro e w' ⟨rfl, rfl⟩))
  refine (inb1 1 16 k true _ _ _ _ (Lib.hid (by simp; omega)) (by go_cell) (by go_cell) (by go_cell)).mono ?_; rintro e w' ⟨rfl, rfl⟩
  go_wp2_with (first | (go_at_call 83; refine (between_any _ _ _).mono ?_; rintro e w' ⟨rfl, rfl⟩))
  refine (inb1 1 16 stride true _ _ _ _ (Lib.hid (by simp; omega)) (by go_cell) (by go_cell) (by go_cell)).mono ?_; rintro e w' ⟨rfl, rfl⟩
  go_wp2_with (first | (go_at_call 83; refine (between_any _ _ _).mono ?_; rintro e w' ⟨rfl, rfl⟩))
  refine (inb1 0 16 pad true _ _ _ _ (Lib.hid (by simp; omega)) (by go_cell) (by go_cell) (by go_cell)).mono ?_; rintro e w' ⟨rfl, rfl⟩
  go_wp2_with (first | (go_at_call 83; refine (between_any _ _ _).mono ?_; rintro e w' ⟨rfl, rfl⟩))
  go_ret
  exact ⟨rfl, by go_grown⟩

theorem inb1y (lo hi x : Int) (b : Nat) (w : World) (p q : Addr) (h1 : lo ≤ x) (h2 : x ≤ hi) (hp : w.cell? p = some (.int .i64 lo)) (hq : w.cell? q = some (.int .i64 hi)) (hr : w.cell? ⟨b, 0, none⟩ = some (.int .i64 x)) :
    Calls Try.prog 89 #[.slice (some ⟨b, 0, none⟩) 1 1, .pointer (some p), .pointer (some q)] w fun e w' => e = .returned (.bool true) ∧ w' = w :=
  inb1 lo hi x true b w p q (Lib.hid (by simp; omega)) hp hq hr

theorem inb1n (lo hi x : Int) (b : Nat) (w : World) (p q : Addr) (h : ¬ (lo ≤ x ∧ x ≤ hi)) (hp : w.cell? p = some (.int .i64 lo)) (hq : w.cell? q = some (.int .i64 hi)) (hr : w.cell? ⟨b, 0, none⟩ = some (.int .i64 x)) :
    Calls Try.prog 89 #[.slice (some ⟨b, 0, none⟩) 1 1, .pointer (some p), .pointer (some q)] w fun e w' => e = .returned (.bool false) ∧ w' = w :=
  inb1 lo hi x false b w p q (Lib.hid (by simp; omega)) hp hq hr

theorem inb2y (lo hi x y : Int) (b : Nat) (w : World) (p q : Addr) (h1 : lo ≤ x) (h2 : x ≤ hi) (h3 : lo ≤ y) (h4 : y ≤ hi) (hp : w.cell? p = some (.int .i64 lo)) (hq : w.cell? q = some (.int .i64 hi)) (hr : w.cell? ⟨b, 0, none⟩ = some (.int .i64 x)) (hs : w.cell? ⟨b, 1, none⟩ = some (.int .i64 y)) :
    Calls Try.prog 89 #[.slice (some ⟨b, 0, none⟩) 2 2, .pointer (some p), .pointer (some q)] w fun e w' => e = .returned (.bool true) ∧ w' = w :=
  inb2 lo hi x y true b w p q (Lib.hid (by simp; omega)) hp hq hr hs

theorem inb2n (lo hi x y : Int) (b : Nat) (w : World) (p q : Addr) (h : ¬ ((lo ≤ x ∧ x ≤ hi) ∧ (lo ≤ y ∧ y ≤ hi))) (hp : w.cell? p = some (.int .i64 lo)) (hq : w.cell? q = some (.int .i64 hi)) (hr : w.cell? ⟨b, 0, none⟩ = some (.int .i64 x)) (hs : w.cell? ⟨b, 1, none⟩ = some (.int .i64 y)) :
    Calls Try.prog 89 #[.slice (some ⟨b, 0, none⟩) 2 2, .pointer (some p), .pointer (some q)] w fun e w' => e = .returned (.bool false) ∧ w' = w :=
  inb2 lo hi x y false b w p q (Lib.hid (by simp; omega)) hp hq hr hs

theorem out_any (size k stride pad q : Int) (w : World) (hq : Hid (q = outI size k stride pad)) :
    Calls Try.prog 86 #[.int .i64 size, .int .i64 k, .int .i64 stride, .int .i64 pad] w fun e w' => e = .returned (.int .i64 q) ∧ Grown w w' := by
  rw [hq.out]
  by_cases c1 : 1 ≤ size ∧ size ≤ 64
  · by_cases c2 : 1 ≤ k ∧ k ≤ 16
    · by_cases c3 : 1 ≤ stride ∧ stride ≤ 16
      · by_cases c4 : 0 ≤ pad ∧ pad ≤ 16
        · by_cases c5 : k ≤ size + 2 * pad
          · rw [outI_yes ⟨c1.1, c1.2, c2.1, c2.2, c3.1, c3.2, c4.1, c4.2, c5⟩]
            exact out_no6 size k stride pad w c1.1 c1.2 c2.1 c2.2 c3.1 c3.2 c4.1 c4.2 c5
          · rw [outI_no (fun h => c5 h.2.2.2.2.2.2.2.2)]
            exact out_no5 size k stride pad w c1.1 c1.2 c2.1 c2.2 c3.1 c3.2 c4.1 c4.2 (by omega)
        · rw [outI_no (fun h => c4 ⟨h.2.2.2.2.2.2.1, h.2.2.2.2.2.2.2.1⟩)]
          exact out_no4 size k stride pad w c1.1 c1.2 c2.1 c2.2 c3.1 c3.2 c4
      · rw [outI_no (fun h => c3 ⟨h.2.2.2.2.1, h.2.2.2.2.2.1⟩)]
        exact out_no3 size k stride pad w c1.1 c1.2 c2.1 c2.2 c3
    · rw [outI_no (fun h => c2 ⟨h.2.2.1, h.2.2.2.1⟩)]
      exact out_no2 size k stride pad w c1.1 c1.2 c2
  · rw [outI_no (fun h => c1 ⟨h.1, h.2.1⟩)]
    exact out_no1 size k stride pad w c1

end Go.Proofs.Ytgbedoffgahhaaa
