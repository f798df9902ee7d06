/- SemaPlays: its walk. -/
import Derived.Test.YtjiholljpkdllaaR2
import Derived.Deep.QuietTactic
import Derived.BigQuiet
namespace Go.Proofs.Ytjiholljpkdllaa
open Go.ChangeShapes Go.WideShapes Go.ChangeAt Go.RowKit
set_option maxRecDepth 20000
set_option linter.unusedVariables false
/-- The counts are those of the log. -/
def Rel (l : List Nat) (xs : List Int) : Prop := ∀ j : Nat, j < 8 → rcnt xs j = ((l.getD j 0 : Nat) : Int)
theorem rcnt_nil (i : Int) : rcnt [] i = 0 := rfl
theorem rcnt_push (xs : List Int) (x : Int) (j : Nat) (hj : j < 8) : rcnt (xs ++ [x]) j = rcnt xs j + (if x = (j : Int) + 1 then 1 else 0) - (if x = -(j : Int) - 1 then 1 else 0) := by
  have e1 : IntKind.i64.wrap ((j : Int) + 1) = (j : Int) + 1 := by rw [IntKind.wrap_i64]; omega
  have e2 : IntKind.i64.wrap (-(j : Int)) = -(j : Int) := by rw [IntKind.wrap_i64]; omega
  have e3 : IntKind.i64.wrap (-(j : Int) - 1) = -(j : Int) - 1 := by rw [IntKind.wrap_i64]; omega
  simp only [rcnt, e1, e2, e3, cntR_append, cntR]
  omega
theorem rel_sig {l : List Nat} {xs : List Int} (hl : l.length = 8) (hm : ∀ k, k < 8 → l.getD k 0 ≤ 15) (h : Rel l xs) (i : Int) : rsigE xs i = sigE l i ∧ Rel (sigL l i) (rsigL xs i) ∧ (rsigL xs i).length ≤ xs.length + 1 := by
  by_cases c : okS i = true
  · obtain ⟨k, hk, rfl⟩ := okS_iff.1 c
    have hh := h k hk
    by_cases d : l.getD k 0 < 15
    · obtain ⟨y1, y2⟩ := sig_yes hk d
      have d' : rcnt xs k < 15 := by omega
      rw [y1, y2, rsigE, rsigL, if_pos c, if_pos c, if_pos d', if_pos d']
      refine ⟨rfl, fun j hj => ?_, by simp⟩
      rw [rcnt_push xs _ j hj, h j hj, getD_set (by omega)]
      by_cases e : j = k
      · subst e
        rw [if_pos rfl, if_pos rfl, if_neg (by omega)]
        omega
      · rw [if_neg (by omega), if_neg (by omega), if_neg e]
        omega
    · obtain ⟨y1, y2⟩ := sig_no hk d
      have d' : ¬ rcnt xs k < 15 := by omega
      rw [y1, y2, rsigE, rsigL, if_pos c, if_pos c, if_neg d', if_neg d']
      exact ⟨rfl, h, by omega⟩
  · have e1 : sigE l i = 1 := by rw [sigE, if_neg c]
    have e2 : sigL l i = l := by rw [sigL, if_neg c]
    rw [e1, e2, rsigE, rsigL, if_neg c, if_neg c]
    exact ⟨rfl, h, by omega⟩
theorem rel_wait {l : List Nat} {xs : List Int} (hl : l.length = 8) (hm : ∀ k, k < 8 → l.getD k 0 ≤ 15) (h : Rel l xs) (i : Int) : rwaitE xs i = waitE l i ∧ Rel (waitL l i) (rwaitL xs i) ∧ (rwaitL xs i).length ≤ xs.length + 1 := by
  by_cases c : okS i = true
  · obtain ⟨k, hk, rfl⟩ := okS_iff.1 c
    have hh := h k hk
    by_cases d : 0 < l.getD k 0
    · obtain ⟨y1, y2⟩ := wait_yes hk d
      have d' : rcnt xs k ≠ 0 := by omega
      rw [y1, y2, rwaitE, rwaitL, if_pos c, if_pos c, if_neg d', if_neg d']
      refine ⟨rfl, fun j hj => ?_, by simp⟩
      rw [rcnt_push xs _ j hj, h j hj, getD_set (by omega)]
      by_cases e : j = k
      · subst e
        rw [if_neg (by omega), if_pos rfl, if_pos rfl]
        omega
      · rw [if_neg (by omega), if_neg (by omega), if_neg e]
        omega
    · obtain ⟨y1, y2⟩ := wait_no hk d
      have d' : rcnt xs k = 0 := by omega
      rw [y1, y2, rwaitE, rwaitL, if_pos c, if_pos c, if_pos d', if_pos d']
      exact ⟨rfl, h, by omega⟩
  · have e1 : waitE l i = 1 := by rw [waitE, if_neg c]
    have e2 : waitL l i = l := by rw [waitL, if_neg c]
    rw [e1, e2, rwaitE, rwaitL, if_neg c, if_neg c]
    exact ⟨rfl, h, by omega⟩
theorem rel_all {l : List Nat} {xs : List Int} (hl : l.length = 8) (h : Rel l xs) : natsI l = allR xs 8 := by
  have key : ∀ n, n ≤ 8 → allR xs n = natsI (l.take n) := by
    intro n
    induction n with
    | zero => intro _; rfl
    | succ n ih =>
      intro hn
      rw [allR, ih (by omega), h n (by omega), List.take_add_one]
      have e : l[n]? = some (l.getD n 0) := by rw [List.getD, List.getElem?_eq_getElem (by omega)]; rfl
      rw [e]
      simp [natsI]
  rw [key 8 (Nat.le_refl _), List.take_of_length_le (by omega)]
/-- The same as plain facts (which a draw leaves alone). -/
def SemF (w : World) (b : Nat) (l : List Nat) : Prop := l.length = 8 ∧ (∀ k, k < 8 → l.getD k 0 ≤ 15) ∧ b + 9 ≤ w.heap.size ∧ (∀ k : Nat, k < 8 → w.cell? ⟨b, k, none⟩ = some (.chan (some (b + 1 + k)))) ∧ ∀ k : Nat, k < 8 → ∃ (buf : Array Value) (s r : Nat), w.heap[b + 1 + k]? = some (.chan 15 buf false s r false) ∧ buf.size = l.getD k 0
theorem SemAt.f {w : World} {b : Nat} {l : List Nat} (h : SemAt w b l) : SemF w b l := ⟨h.len, h.most, h.size, h.cell, h.chan⟩
theorem SemF.at {w : World} {b : Nat} {l : List Nat} (h : SemF w b l) : SemAt w b l := ⟨h.1, h.2.1, h.2.2.1, h.2.2.2.1, h.2.2.2.2⟩
def RefF (w : World) (Y S : Nat) (xs : List Int) : Prop := xs.length ≤ 1000 ∧ (Y < S ∨ S + 9 ≤ Y) ∧ Y < w.heap.size ∧ (∀ o : Nat, w.frozen? ⟨Y, o, none⟩ = false) ∧ ∃ A cap, w.cell? ⟨Y, 0, none⟩ = some (.slice A xs.length cap) ∧ LogRow w S A xs.length cap xs
theorem RefAt.f {w : World} {Y S : Nat} {xs : List Int} (h : RefAt w Y S xs) : RefF w Y S xs := ⟨h.len, h.apart, h.box, h.free, h.row⟩
theorem RefF.at {w : World} {Y S : Nat} {xs : List Int} (h : RefF w Y S xs) : RefAt w Y S xs := ⟨h.1, h.2.1, h.2.2.1, h.2.2.2.1, h.2.2.2.2⟩
theorem RefAt.other {w w' : World} {Y S S' : Nat} {xs : List Int} (h' : RefAt w Y S' xs) (h : RefAt w Y S xs) (g : But (S + 1) (S + 9) w w') : RefAt w' Y S' xs := by
  have k := h.keep g
  obtain ⟨A, cap, c1, r1⟩ := h.row
  obtain ⟨A', cap', c1', r1'⟩ := h'.row
  rw [c1'] at c1
  simp only [Option.some.injEq, Value.slice.injEq] at c1
  obtain ⟨rfl, _, rfl⟩ := c1
  have hb := h.box
  have ha := h.apart
  exact ⟨h.len, h'.apart, k.box, k.free, A', cap', (g.cell (p := ⟨Y, 0, none⟩) hb (show Y < S + 1 ∨ S + 9 ≤ Y by omega)).trans c1', (r1.keep g).1, fun a e => ⟨(r1'.2 a e).1, Nat.lt_of_lt_of_le (r1'.2 a e).2 g.2.2.1⟩⟩
theorem count_quiet {w : World} {b : Nat} {l : List Nat} {i v : Int} (h : SemAt w b l) (e : countS l i = v) (n : Nat) : Calls Try.prog 15 #[.pointer (some ⟨b, 0, none⟩), .int .i64 i] (w.drewN n) fun e w' => e = .returned (.int .i64 v) ∧ w' = w.drewN n :=
  (count_any (w.drewN n) b l i (h.grow ((Past.refl w).drewN (k := n)))).mono fun _ _ ⟨h1, h2⟩ => ⟨by rw [h1, e], h2.symm⟩
theorem rcount_quiet {w : World} {Y S : Nat} {xs : List Int} {i v : Int} (h : RefAt w Y S xs) (e : rcnt xs i = v) (n : Nat) : Calls Try.prog 16 #[.pointer (some ⟨Y, 0, none⟩), .int .i64 i] (w.drewN n) fun e w' => e = .returned (.int .i64 v) ∧ w' = w.drewN n :=
  (rcount_any (w.drewN n) Y S xs i (h.grow ((Past.refl w).drewN (k := n)))).mono fun _ _ ⟨h1, h2⟩ => ⟨by rw [h1, e], h2.symm⟩
/-- Both sides. -/
def Both (W w : World) (B Y m : Nat) : Prop := ∃ l xs, SemAt w B l ∧ RefAt w Y B xs ∧ Rel l xs ∧ xs.length ≤ m ∧ Past W w ∧ W.heap.size ≤ B ∧ W.heap.size ≤ Y
theorem Both.drewN {W w : World} {B Y m : Nat} (h : Both W w B Y m) (n : Nat) : Both W (w.drewN n) B Y m := by
  obtain ⟨l, xs, h1, h2, h3, h4, h5, h6, h7⟩ := h
  exact ⟨l, xs, h1.grow ((Past.refl w).drewN (k := n)), h2.grow ((Past.refl w).drewN (k := n)), h3, h4, h5.drewN, h6, h7⟩
theorem but_of_past {a b : World} {lo hi : Nat} (h : Past a b) : But lo hi a b := h.but lo hi
theorem SemAt.aside {w w' : World} {B Y : Nat} {l : List Nat} {xs : List Int} (h : SemAt w B l) (r : RefAt w Y B xs) (g : But Y (Y + 1) w w') : SemAt w' B l := h.keep g (by have := r.apart; omega)
set_option maxHeartbeats 8000000 in
theorem plays_walk (W : World) (v : Value) (ops : List (Int × Bool)) (hv : IsOps W v ops) : Calls Try.prog 3 #[v] W fun e w' => e = .returned (.bool true) ∧ Past W w' := by
  obtain ⟨A, cap, rfl, a1, a2, a3, a4, a5⟩ := hv
  have hm : maxLen ≤ 9223372036854775807 := by decide
  have hl1 : ops.length ≤ 9223372036854775807 := by omega
  clear hm a2 a3 a4
  have A5 := Lib.hid a5
  clear a5
  go_enter Try.func3, Try.ntmps3
  go_upto_region 2 with (go_at_call 8; refine (shown_any _).mono ?_; rintro e wa ⟨rfl, ga⟩)
  go_upto_region 3 with (go_at_call 9; refine (new_at _).mono ?_; rintro e wb ⟨B, hBe, rfl, hS, gb⟩)
  have g0 := ga.trans gb
  have hB : W.heap.size ≤ B := by rw [← hBe.out]; exact ga.2.2.1
  have hs := hS.size
  have g1 := g0.alloc (.cells #[.slice none 0 0] 29)
  have hS1 := hS.grow ((Past.refl wb).alloc (.cells #[.slice none 0 0] 29))
  have hR1 : RefAt (wb.alloc (.cells #[.slice none 0 0] 29)) wb.heap.size B [] :=
    ⟨by simp, Or.inr hs, by simp, free_alloc (free_new (Nat.le_refl _)), none, 0, box_new rfl 0, ⟨none, 0, rfl, Nat.le_refl _, Nat.zero_le _, fun _ => rfl, by simp, by simp⟩, fun a h => by cases h⟩
  have hY : W.heap.size ≤ wb.heap.size := by omega
  have hB0 : Both W (wb.alloc (.cells #[.slice none 0 0] 29)) B wb.heap.size 0 := ⟨_, _, hS1, hR1, fun j _ => by rw [rep0]; rfl, Nat.le_refl _, g1, hB, hY⟩
  have HB0 := Lib.hid hB0
  clear hB0 hS1 hR1 g1 hS g0 ga gb hBe hs
  go_wp2_with fail
  generalize wb.heap.size = Y at *
  go_loopw [6, 4, 7, 8, 9] (fun i x4 x7 x8 x9 wr => ∃ i' : Nat, i' ≤ ops.length ∧ i' ≤ 200 ∧ i = .int .i64 i' ∧ ∃ B : Nat, x4 = .pointer (some ⟨B, 0, none⟩) ∧ Hid (Both W wr B Y (2 * i'))) (fun i _ _ _ _ _ => ops.length - (intOf i).toNat)
  case atStart => exact ⟨0, by omega, by omega, rfl, B, rfl, HB0⟩
  case round =>
    obtain ⟨i, hi, hi2, rfl, B, rfl, hBo⟩ := hrel
    clear HB0 hB
    have i1 : (0 : Int) ≤ (i : Int) := by omega
    by_cases c : i < ops.length
    · have d1 : decide ((i : Int) < (ops.length : Int)) = true := by simpa using c
      by_cases c2 : i < 200
      · have d2 : decide ((i : Int) < 200) = true := by simp; omega
        go_upto_if 32 with fail
        go_cut [4, 7] (fun c4 c7 w' => ∃ B' : Nat, c4 = .pointer (some ⟨B', 0, none⟩) ∧ Hid (Both W w' B' Y (2 * i)))
        case first =>
          by_cases cm : i % 11 = 10
          · have dm : ((i : Int) % 11 == 10) = true := by simp; omega
            obtain ⟨l, xs, hS, hR, hRel, hlen, gP, b1, b2⟩ := hBo.out
            go_upto_region 12 with (go_at_call 10; refine (clone_at _ _ _ hS).mono ?_; rintro e w2 ⟨D, hD, rfl, hC, g2⟩)
            have hS2 := hS.grow g2
            have gP2 := gP.trans g2
            have hs := hS.size
            have hsz : wr.heap.size ≤ D := Nat.le_of_eq hD.out
            have hR2 : RefAt w2 Y D xs := (hR.turn hsz).grow g2
            have hR3 : RefAt w2 Y B xs := hR.grow g2
            go_wp2_with (go_at_call 11; refine (sig_any _ _ _ _ hS2).mono ?_; rintro e w3 ⟨rfl, h3, g3⟩)
            go_meet
            exact ⟨D, rfl, Lib.hid ⟨_, _, hC.keep g3 (Or.inr (by have := hS.size; omega)), hR2.other hR3 g3, hRel, hlen, g3.past gP2 (by omega), by have := hS.size; have := gP.2.2.1; omega, b2⟩⟩
          · have dm : ((i : Int) % 11 == 10) = false := by simp; omega
            go_wp2_with fail
            go_meet
            exact ⟨B, rfl, hBo⟩
        case rest =>
          obtain ⟨B', rfl, hBo'⟩ := hcut
          obtain ⟨b, off, rfl, hb, hx⟩ := A5.out (by omega)
          obtain ⟨C3, C4⟩ := hx i c
          clear hx
          obtain ⟨⟨at1, sg⟩, hat⟩ : ∃ p, ops.getD i (0, false) = p := ⟨_, rfl⟩
          rw [hat] at C3 C4
          simp only at C3 C4
          clear hat
          obtain ⟨l, xs, hS, hR, hRel, hlen, gP, b1, b2⟩ := hBo'.out
          clear hBo hBo'
          have x1 := cell_past gP C3 hb
          have eqs := rel_wait hS.len hS.most hRel at1
          obtain ⟨E, hE⟩ : ∃ E, waitE l at1 = E := ⟨_, rfl⟩
          rw [hE] at eqs
          have HE := Lib.hid hE
          clear hE
          obtain ⟨q1, q2, q3⟩ := eqs
          have Q1 := Lib.hid q1
          clear q1
          go_upto_region 16 with (go_at_call 12; refine (wait_any _ _ _ _ hS).mono ?_; rintro e w3 ⟨rfl, h3, g3⟩; rw [HE.out])
          have R3 := hR.keep g3
          have p3 := g3.past gP (by omega)
          have x3 := cell_past p3 C3 hb
          have z3 := h3.size
          clear hS hR g3 gP x1
          go_upto_region 17 with (go_at_call 13; refine (rwait_any _ _ _ _ _ R3 (by omega) z3).mono ?_; rintro e w4 ⟨rfl, R4, g4⟩; rw [Q1.out])
          have S4 := h3.aside R3 g4
          have p4 := g4.past p3 b2
          have x4 := cell_past p4 C4 hb
          have x5 := cell_past p4 C3 hb
          clear h3 R3 g4 p3 x3 z3
          go_upto_if 58 with fail
          go_cut [8, 9] (fun c8 c9 w' => ∃ E : Int, c8 = .int .i64 E ∧ c9 = .int .i64 E ∧ Hid (Both W w' B' Y (2 * (i + 1))))
          case first =>
            cases sg
            · go_wp2_with fail
              go_meet
              exact ⟨E, rfl, rfl, Lib.hid ⟨_, _, S4, R4, q2, by omega, p4, b1, b2⟩⟩
            · have eqs := rel_sig S4.len S4.most q2 at1
              obtain ⟨E2, hE⟩ : ∃ E, sigE (waitL l at1) at1 = E := ⟨_, rfl⟩
              rw [hE] at eqs
              have HE2 := Lib.hid hE
              clear hE
              obtain ⟨q4, q5, q6⟩ := eqs
              have Q4 := Lib.hid q4
              clear q4
              go_upto_region 19 with (go_at_call 11; refine (sig_any _ _ _ _ S4).mono ?_; rintro e w5 ⟨rfl, h5, g5⟩; rw [HE2.out])
              have R5 := R4.keep g5
              have p5 := g5.past p4 (by omega)
              have x6 := cell_past p5 C3 hb
              have z5 := h5.size
              clear S4 R4 g5 p4 x4 x5
              go_wp2_with (go_at_call 14; refine (rsig_any _ _ _ _ _ R5 (by omega) z5).mono ?_; rintro e w6 ⟨rfl, R6, g6⟩; rw [Q4.out])
              go_meet
              exact ⟨E2, rfl, rfl, Lib.hid ⟨_, _, h5.aside R5 g6, R6, q5, by omega, g6.past p5 b2, b1, b2⟩⟩
          case rest =>
            clear x4 x5 p4 R4 S4 q2 q3 Q1 HE
            obtain ⟨E, rfl, rfl, hB2⟩ := hcut
            obtain ⟨l2, xs2, hS, hR, hRel, hlen2, gP, _, _⟩ := hB2.out
            clear hlen
            have x1 := cell_past gP C3 hb
            have bE : (E == E) = true := by simp
            have hRel' := Lib.hid hRel
            clear hRel
            by_cases ok : okS at1 = true
            · obtain ⟨k, hk, rfl⟩ := okS_iff.1 ok
              obtain ⟨M, hM⟩ : ∃ M : Int, rcnt xs2 k = M := ⟨_, rfl⟩
              have eS : countS l2 k = M := by rw [apart_count hk, ← hRel'.out k hk, hM]
              have eR : rcnt xs2 k = M := hM
              have eS' := Lib.hid eS
              have eR' := Lib.hid eR
              clear eS eR hM
              have bM : (M == M) = true := by simp
              go_upto_region 20 with fail
              go_quiet (first | (go_at_call 15; exact Calls.quiet_of_same (count_quiet hS eS'.out _)) | (go_at_call 16; exact Calls.quiet_of_same (rcount_quiet hR eR'.out _)))
              go_wp2_with fail
              go_roundw
              case rel => exact ⟨i + 1, by omega, by omega, by go_num, B', rfl, Lib.hid (hB2.out.drewN _)⟩
              case measure => simp [intOf]; omega
            · obtain ⟨M, hM⟩ : ∃ M : Int, countS l2 at1 = M := ⟨_, rfl⟩
              obtain ⟨N, hN⟩ : ∃ N : Int, rcnt xs2 at1 = N := ⟨_, rfl⟩
              have eS' := Lib.hid hM
              have eR' := Lib.hid hN
              clear hM hN
              have no : ¬ (0 ≤ at1 ∧ at1 < 8) := fun ⟨h1, h2⟩ => ok (by simp [okS, h1, h2])
              by_cases e : M = N
              · subst e
                have bM : (M == M) = true := by simp
                go_upto_region 20 with fail
                go_quiet (first | (go_at_call 15; exact Calls.quiet_of_same (count_quiet hS eS'.out _)) | (go_at_call 16; exact Calls.quiet_of_same (rcount_quiet hR eR'.out _)))
                go_wp2_with fail
                go_roundw
                case rel => exact ⟨i + 1, by omega, by omega, by go_num, B', rfl, Lib.hid (hB2.out.drewN _)⟩
                case measure => simp [intOf]; omega
              · have bM : (M == N) = false := by simpa using e
                have bN : (M != N) = true := by simpa using e
                clear e
                by_cases n0 : 0 ≤ at1
                · have e1 : decide (0 ≤ at1) = true := by simpa using n0
                  have e2 : decide (at1 < 8) = false := by simp; omega
                  go_upto_region 20 with fail
                  go_quiet (first | (go_at_call 15; exact Calls.quiet_of_same (count_quiet hS eS'.out _)) | (go_at_call 16; exact Calls.quiet_of_same (rcount_quiet hR eR'.out _)))
                  go_wp2_with fail
                  go_roundw
                  case rel => exact ⟨i + 1, by omega, by omega, by go_num, B', rfl, Lib.hid (hB2.out.drewN _)⟩
                  case measure => simp [intOf]; omega
                · have e1 : decide (0 ≤ at1) = false := by simpa using n0
                  go_upto_region 20 with fail
                  go_quiet (first | (go_at_call 15; exact Calls.quiet_of_same (count_quiet hS eS'.out _)) | (go_at_call 16; exact Calls.quiet_of_same (rcount_quiet hR eR'.out _)))
                  go_wp2_with fail
                  go_roundw
                  case rel => exact ⟨i + 1, by omega, by omega, by go_num, B', rfl, Lib.hid (hB2.out.drewN _)⟩
                  case measure => simp [intOf]; omega
      · have d2 : decide ((i : Int) < 200) = false := by simp; omega
        obtain ⟨l, xs, hS, hR, hRel, hlen, gP, b1, b2⟩ := hBo.out
        have eA := rel_all hS.len hRel
        have e8 : countS l 8 = 0 := rfl
        have em : countS l (-1) = 0 := rfl
        have eA' := Lib.hid eA
        have e8' := Lib.hid e8
        have em' := Lib.hid em
        clear eA e8 em
        go_wp2_with (first | (go_at_call 18; refine (all_at _ _ _ hS).mono ?_; rintro e w5 ⟨p5, q5, rfl, h5, g5⟩; have hS5 := hS.grow g5; have hR5 := hR.grow g5) | (go_at_call 19; refine (rall_any _ _ _ _ hR5).mono ?_; rintro e w6 ⟨v6, rfl, h6, g6⟩; have hS6 := hS5.grow g6) | (go_at_call 17; refine (Ints_any _ _ _ _ _ true (h5.grow g6) h6 (Lib.hid ⟨fun _ => eA'.out, fun _ => rfl⟩)).mono ?_; rintro e w7 ⟨rfl, g7⟩; have hS7 := hS6.grow g7) | (go_at_call 15; with_reducible refine (count_any _ _ _ _ hS7).mono ?_; rintro e w8 ⟨rfl, rfl⟩; first | rw [em'.out] | rw [e8'.out]))
        go_ret
        exact ⟨rfl, gP.trans (g5.trans (g6.trans g7))⟩
    · have d1 : decide ((i : Int) < (ops.length : Int)) = false := by simp; omega
      obtain ⟨l, xs, hS, hR, hRel, hlen, gP, b1, b2⟩ := hBo.out
      have eA := rel_all hS.len hRel
      have e8 : countS l 8 = 0 := rfl
      have em : countS l (-1) = 0 := rfl
      have eA' := Lib.hid eA
      have e8' := Lib.hid e8
      have em' := Lib.hid em
      clear eA e8 em
      go_wp2_with (first | (go_at_call 18; refine (all_at _ _ _ hS).mono ?_; rintro e w5 ⟨p5, q5, rfl, h5, g5⟩; have hS5 := hS.grow g5; have hR5 := hR.grow g5) | (go_at_call 19; refine (rall_any _ _ _ _ hR5).mono ?_; rintro e w6 ⟨v6, rfl, h6, g6⟩; have hS6 := hS5.grow g6) | (go_at_call 17; refine (Ints_any _ _ _ _ _ true (h5.grow g6) h6 (Lib.hid ⟨fun _ => eA'.out, fun _ => rfl⟩)).mono ?_; rintro e w7 ⟨rfl, g7⟩; have hS7 := hS6.grow g7) | (go_at_call 15; with_reducible refine (count_any _ _ _ _ hS7).mono ?_; rintro e w8 ⟨rfl, rfl⟩; first | rw [em'.out] | rw [e8'.out]))
      go_ret
      exact ⟨rfl, gP.trans (g5.trans (g6.trans g7))⟩
end Go.Proofs.Ytjiholljpkdllaa
