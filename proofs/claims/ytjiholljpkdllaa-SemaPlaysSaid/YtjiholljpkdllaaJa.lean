/- SemaApart: its walk. -/
import Derived.Test.YtjiholljpkdllaaJp
namespace Go.Proofs.Ytjiholljpkdllaa
open Go.ChangeShapes Go.WideShapes Go.ChangeAt Go.RowKit
set_option maxRecDepth 20000
set_option linter.unusedVariables false
/-- What one semaphore counts behind the first n of all waits and signals. -/
def turnC (s : Bool) (x : Nat) : Nat := if s = true then (if x < 15 then x + 1 else x) else x - 1
def cntK (xs : List (Int × Bool)) (j : Nat) : Nat → Nat
  | 0 => 0
  | n + 1 => if semK (xs.getD n (0, false)).1 = j then turnC (xs.getD n (0, false)).2 (cntK xs j n) else cntK xs j n
theorem sigL_at {l : List Nat} {k : Nat} (hl : l.length = 8) (hk : k < 8) (j : Nat) : (sigL l k).getD j 0 = if k = j then turnC true (l.getD j 0) else l.getD j 0 := by
  by_cases h : l.getD k 0 < 15
  · rw [(sig_yes hk h).2, getD_set (by omega)]
    by_cases c : k = j
    · subst c; simp only [turnC, if_true, h]
    · rw [if_neg (fun e => c e.symm), if_neg c]
  · rw [(sig_no hk h).2]
    by_cases c : k = j
    · subst c; simp only [turnC, if_true, h, if_false]
    · rw [if_neg c]
theorem waitL_at {l : List Nat} {k : Nat} (hl : l.length = 8) (hk : k < 8) (j : Nat) : (waitL l k).getD j 0 = if k = j then turnC false (l.getD j 0) else l.getD j 0 := by
  by_cases h : 0 < l.getD k 0
  · rw [(wait_yes hk h).2, getD_set (by omega)]
    by_cases c : k = j
    · subst c; simp [turnC]
    · rw [if_neg (fun e => c e.symm), if_neg c]
  · rw [(wait_no hk h).2]
    by_cases c : k = j
    · subst c
      have : l.getD k 0 = 0 := by omega
      rw [this]; simp [turnC]
    · rw [if_neg c]
theorem apart_count {l : List Nat} {k : Nat} (hk : k < 8) : countS l k = ((l.getD k 0 : Nat) : Int) := by
  have := okS_iff.2 ⟨k, hk, rfl⟩
  simp only [countS, this, if_true, Int.toNat_natCast]
set_option maxHeartbeats 8000000 in
theorem apart_walk (W : World) (v : Value) (xs : List (Int × Bool)) (hv : IsOps W v xs) : Calls Try.prog 7 #[v] W fun e w' => e = .returned (.bool true) ∧ Past W w' := by
  obtain ⟨A, cap, rfl, a1, a2, a3, a4, a5⟩ := hv
  have hm : maxLen ≤ 9223372036854775807 := by decide
  have hl1 : xs.length ≤ 9223372036854775807 := by omega
  clear hm a2 a3 a4
  obtain ⟨N, hN⟩ : ∃ N, N = min xs.length 200 := ⟨_, rfl⟩
  have hN' := Lib.hid hN
  clear hN
  have A5 := Lib.hid a5
  clear a5
  go_enter Try.func7, Try.ntmps7
  go_upto_region 2 with (go_at_call 8; refine (shown_any _).mono ?_; rintro e wa ⟨rfl, ga⟩)
  go_wp2_with (go_at_call 9; refine (new_at _).mono ?_; rintro e wb ⟨B, hBe, rfl, hS, gb⟩)
  have g0 := ga.trans gb
  have hB : W.heap.size ≤ B := by rw [← hBe.out]; exact ga.2.2.1
  clear hBe ga gb
  go_loopw [5] (fun i wr => ∃ i' : Nat, i' ≤ N ∧ i = .int .i64 i' ∧ ∃ l, SemAt wr B l ∧ Hid (∀ j, j < 8 → l.getD j 0 = cntK xs j i') ∧ Past W wr) (fun i _ => N - (intOf i).toNat)
  case atStart => exact ⟨0, by omega, rfl, _, hS, Lib.hid (fun j _ => rep0 j), g0⟩
  case round =>
    obtain ⟨i, hi, rfl, l, hS2, hc, gP⟩ := hrel
    have i1 : (0 : Int) ≤ (i : Int) := by omega
    by_cases c : i < N
    · have cl : i < xs.length := by have := hN'.out; omega
      have d1 : decide ((i : Int) < (xs.length : Int)) = true := by simpa using cl
      have d2 : decide ((i : Int) < 200) = true := by have := hN'.out; simp; omega
      obtain ⟨b, off, rfl, hb, hx⟩ := A5.out (by omega)
      obtain ⟨c3, c4⟩ := hx i cl
      have x1 := cell_past gP c3 hb
      have x2 := cell_past gP c4 hb
      clear c3 c4 hx
      have hn : ∀ j, cntK xs j (i + 1) = if semK (xs.getD i (0, false)).1 = j then turnC (xs.getD i (0, false)).2 (cntK xs j i) else cntK xs j i := fun j => rfl
      obtain ⟨⟨at1, sg⟩, hat⟩ : ∃ p, xs.getD i (0, false) = p := ⟨_, rfl⟩
      rw [hat] at x1 x2
      simp only [hat] at hn
      simp only at x1 x2
      clear hat
      have ek := semK_is at1
      have hk := semK_lt at1
      generalize semK at1 = k at *
      have hn' := Lib.hid hn
      clear hn
      cases sg
      · go_wp2_with (go_at_call 12; refine (wait_any _ _ _ _ hS2).mono ?_; rintro e w3 ⟨rfl, h3, g3⟩)
        go_roundw
        case rel => exact ⟨i + 1, by omega, by go_num, _, h3, Lib.hid (fun j hj => by rw [waitL_at hS2.len hk, hc.out j hj, hn'.out j]), g3.past gP (by omega)⟩
        case measure => simp [intOf]; omega
      · go_wp2_with (go_at_call 11; refine (sig_any _ _ _ _ hS2).mono ?_; rintro e w3 ⟨rfl, h3, g3⟩)
        go_roundw
        case rel => exact ⟨i + 1, by omega, by go_num, _, h3, Lib.hid (fun j hj => by rw [sigL_at hS2.len hk, hc.out j hj, hn'.out j]), g3.past gP (by omega)⟩
        case measure => simp [intOf]; omega
    · obtain rfl : i = N := by omega
      have hd : (¬ i < xs.length ∧ decide ((i : Int) < (xs.length : Int)) = false) ∨ (i < xs.length ∧ decide ((i : Int) < (xs.length : Int)) = true ∧ decide ((i : Int) < 200) = false) := by
        have := hN'.out
        by_cases q : i < xs.length
        · right; exact ⟨q, by simpa using q, by simp; omega⟩
        · left; exact ⟨q, by simpa using q⟩
      have i2 : (i : Int) ≤ 200 := by have := hN'.out; omega
      clear hS
      -- the loop over the semaphores, once for either way out
      have T : Hid True := Lib.hid True.intro
      rcases hd with ⟨f1, d1⟩ | ⟨f1, d1, d2⟩
      all_goals
        go_wp2_with fail
        go_loopw [6, 7, 8] (fun k x y wr => ∃ k' : Nat, k' ≤ 8 ∧ k = .int .i64 k' ∧ SemAt wr B l ∧ Past W wr) (fun k _ _ _ => 8 - (intOf k).toNat)
        case atStart => exact ⟨0, by omega, rfl, hS2, gP⟩
        case round =>
          obtain ⟨k, hk, rfl, hS3, gQ⟩ := hrel
          have k1 : (0 : Int) ≤ (k : Int) := by omega
          by_cases ck : k < 8
          · have dk : decide ((k : Int) < 8) = true := by simp; omega
            have ec := apart_count (l := l) ck
            rw [hc.out k ck] at ec
            go_upto_region 17 with (go_at_call 9; refine (new_at _).mono ?_; rintro e wn ⟨D, hD, rfl, hO, gn⟩)
            have hBD : B + 9 ≤ D := by rw [← hD.out]; exact hS3.size
            have hS4 := hS3.grow gn
            have gR := gQ.trans gn
            clear hD hS3
            go_wp2_with fail
            go_loopw [8] (fun x8 wr => ∃ i' : Nat, i' ≤ i ∧ x8 = .int .i64 i' ∧ SemAt wr B l ∧ (∃ o, SemAt wr D o ∧ Hid (o.getD 0 0 = cntK xs k i')) ∧ Past W wr) (fun q _ => i - (intOf q).toNat)
            case atStart => exact ⟨0, by omega, rfl, hS4, ⟨_, hO, Lib.hid (rep0 0)⟩, gR⟩
            case round =>
              obtain ⟨q, hq, rfl, hS5, ⟨o, hO5, ho⟩, gS⟩ := hrel
              have q1 : (0 : Int) ≤ (q : Int) := by omega
              by_cases cq : q < i
              · have cl : q < xs.length := by have := hN'.out; omega
                have e1 : decide ((q : Int) < (xs.length : Int)) = true := by simpa using cl
                have e2 : decide ((q : Int) < 200) = true := by simp; omega
                obtain ⟨b, off, rfl, hb, hx⟩ := A5.out (by omega)
                obtain ⟨c3, c4⟩ := hx q cl
                have x1 := cell_past gS c3 hb
                have x2 := cell_past gS c4 hb
                clear hx
                have hn : cntK xs k (q + 1) = if semK (xs.getD q (0, false)).1 = k then turnC (xs.getD q (0, false)).2 (cntK xs k q) else cntK xs k q := rfl
                obtain ⟨⟨at1, sg⟩, hat⟩ : ∃ p, xs.getD q (0, false) = p := ⟨_, rfl⟩
                rw [hat] at x1 x2 c3 c4
                simp only [hat] at hn
                simp only at x1 x2 c3 c4
                clear hat
                have ek := semK_is at1
                have hK := semK_lt at1
                generalize semK at1 = K at *
                have hn' := Lib.hid hn
                clear hn
                by_cases cK : K = k
                · subst cK
                  have bK : ((K : Int) == (K : Int)) = true := by simp
                  rw [if_pos rfl] at hn'
                  have hO8 := hO5.len
                  cases sg
                  · go_wp2_with (go_at_call 12; refine (wait_any _ _ _ _ hO5).mono ?_; rintro e w3 ⟨rfl, h3, g3⟩)
                    go_roundw
                    case rel => exact ⟨q + 1, by omega, by go_num, hS5.keep g3 (Or.inl (by omega)), ⟨_, h3, Lib.hid (by rw [show (0 : Int) = ((0 : Nat) : Int) from rfl, waitL_at hO8 (by omega), if_pos rfl, ho.out, hn'.out])⟩, g3.past gS (by omega)⟩
                    case measure => simp [intOf]; omega
                  · have xz : ∀ w3, But (D + 1) (D + 9) wr w3 → w3.cell? ⟨b, off + q * 2, none⟩ = some (.int .i64 at1) ∧ w3.cell? ⟨b, off + q * 2 + 1, none⟩ = some (.bool true) := fun w3 g3 => ⟨cell_past (g3.past gS (by omega)) c3 hb, cell_past (g3.past gS (by omega)) c4 hb⟩
                    have xz' := Lib.hid xz
                    clear xz
                    go_wp2_with (go_at_call 11; refine (sig_any _ _ _ _ hO5).mono ?_; rintro e w3 ⟨rfl, h3, g3⟩; obtain ⟨z1, z2⟩ := xz'.out w3 g3)
                    go_roundw
                    case rel => exact ⟨q + 1, by omega, by go_num, hS5.keep g3 (Or.inl (by omega)), ⟨_, h3, Lib.hid (by rw [show (0 : Int) = ((0 : Nat) : Int) from rfl, sigL_at hO8 (by omega), if_pos rfl, ho.out, hn'.out])⟩, g3.past gS (by omega)⟩
                    case measure => simp [intOf]; omega
                · have bK : ((K : Int) == (k : Int)) = false := by simp; omega
                  rw [if_neg cK] at hn'
                  go_wp2_with fail
                  go_roundw
                  case rel => exact ⟨q + 1, by omega, by go_num, hS5, ⟨o, hO5, Lib.hid (by rw [ho.out, hn'.out])⟩, gS⟩
                  case measure => simp [intOf]; omega
              · obtain rfl : q = i := by omega
                have eo := apart_count (l := o) (k := 0) (by omega)
                rw [ho.out] at eo
                have eo' : countS o 0 = ((cntK xs k q : Nat) : Int) := eo
                have hnn : (((cntK xs k q : Nat) : Int) == ((cntK xs k q : Nat) : Int)) = true := by simp
                generalize cntK xs k q = M at *
                go_wp2_with (first | (go_at_call 15; (with_reducible refine (count_any _ _ _ _ hO5).mono ?_); rintro e w7 ⟨rfl, rfl⟩; rw [eo']) | (go_at_call 15; (with_reducible refine (count_any _ _ _ _ hS5).mono ?_); rintro e w7 ⟨rfl, rfl⟩; rw [ec]))
                go_roundw
                case rel => exact ⟨k + 1, by omega, by go_num, hS5, gS⟩
                case measure => simp [intOf]; omega
          · obtain rfl : k = 8 := by omega
            go_wp2_with fail
            go_ret
            exact ⟨rfl, gQ⟩
end Go.Proofs.Ytjiholljpkdllaa
