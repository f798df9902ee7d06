/- SemaPairs: its walk. -/
import Derived.Test.YtjiholljpkdllaaJc
namespace Go.Proofs.Ytjiholljpkdllaa
open Go.ChangeShapes Go.WideShapes Go.ChangeAt Go.RowKit
set_option maxRecDepth 20000
set_option linter.unusedVariables false
theorem set_back {l : List Nat} {k x : Nat} (hk : k < l.length) : (l.set k x).set k (l.getD k 0) = l := by
  rw [List.set_set]
  refine nat_ext (by simp) (fun j hj => ?_)
  rw [getD_set hk]
  by_cases c : j = k
  · subst c; simp
  · simp [c]
theorem back_sig {l : List Nat} {k : Nat} (hk : k < 8) (hl : l.length = 8) (hm : ∀ j, j < 8 → l.getD j 0 ≤ 15) (h : l.getD k 0 < 15) : waitE (l.set k (l.getD k 0 + 1)) k = 0 ∧ waitL (l.set k (l.getD k 0 + 1)) k = l := by
  have e : (l.set k (l.getD k 0 + 1)).getD k 0 = l.getD k 0 + 1 := by rw [getD_set (by omega), if_pos rfl]
  obtain ⟨h1, h2⟩ := wait_yes (l := l.set k (l.getD k 0 + 1)) hk (by rw [e]; omega)
  refine ⟨h1, h2.trans ?_⟩
  rw [e, Nat.add_sub_cancel, set_back (by omega)]
theorem back_wait {l : List Nat} {k : Nat} (hk : k < 8) (hl : l.length = 8) (hm : ∀ j, j < 8 → l.getD j 0 ≤ 15) (h : 0 < l.getD k 0) : sigE (l.set k (l.getD k 0 - 1)) k = 0 ∧ sigL (l.set k (l.getD k 0 - 1)) k = l := by
  have e : (l.set k (l.getD k 0 - 1)).getD k 0 = l.getD k 0 - 1 := by rw [getD_set (by omega), if_pos rfl]
  have := hm k hk
  obtain ⟨h1, h2⟩ := sig_yes (l := l.set k (l.getD k 0 - 1)) hk (by rw [e]; omega)
  refine ⟨h1, h2.trans ?_⟩
  rw [e, show l.getD k 0 - 1 + 1 = l.getD k 0 by omega, set_back (by omega)]
theorem nums_keep {k : IntKind} {w w' : World} {lo hi p n c : Nat} {xs : List Int} (h : IsNums k w (.slice (some ⟨p, 0, none⟩) n c) xs) (g : But lo hi w w') (hp : p < w.heap.size) (r : p < lo ∨ hi ≤ p) : IsNums k w' (.slice (some ⟨p, 0, none⟩) n c) xs := by
  obtain ⟨A, cap, h1, h2, h3, h4, h5, h6⟩ := h
  refine ⟨A, cap, h1, h2, h3, h4, h5, fun q => ?_⟩
  obtain ⟨b, off, e, hb, hc⟩ := h6 q
  have e' : A = some ⟨p, 0, none⟩ := by
    simp only [Value.slice.injEq] at h1
    exact h1.1.symm
  have : b = p := by rw [e'] at e; simp at e; exact e.1.symm
  subst this
  exact ⟨b, off, e, Nat.lt_of_lt_of_le hb g.2.2.1, fun i hi => (g.cell (p := ⟨b, off + i, none⟩) hb r).trans (hc i hi)⟩
set_option maxHeartbeats 4000000 in
theorem pairs_walk (W : World) (v : Value) (xs : List (Int × Bool)) (hv : IsOps W v xs) : Calls Try.prog 5 #[v] W fun e w' => e = .returned (.bool true) ∧ Past W w' := by
  obtain ⟨A, cap, rfl, a1, a2, a3, a4, a5⟩ := hv
  have hm : maxLen ≤ 9223372036854775807 := by decide
  have hl1 : xs.length ≤ 9223372036854775807 := by omega
  clear hm a2 a3 a4
  go_enter Try.func5, Try.ntmps5
  go_upto_region 2 with (go_at_call 8; refine (shown_any _).mono ?_; rintro e wa ⟨rfl, ga⟩)
  go_wp2_with (go_at_call 9; refine (new_at _).mono ?_; rintro e wb ⟨B, hBe, rfl, hS, gb⟩)
  have g0 := ga.trans gb
  have hB : W.heap.size ≤ B := by rw [← hBe.out]; exact ga.2.2.1
  clear hBe ga gb
  go_loopw [5, 6, 7, 8, 9, 10] (fun i x6 x7 x8 x9 x10 wr => ∃ i' : Nat, i' ≤ xs.length ∧ i = .int .i64 i' ∧ ∃ l, SemAt wr B l ∧ Past W wr) (fun i _ _ _ _ _ _ => xs.length - (intOf i).toNat)
  case atStart => exact ⟨0, by omega, rfl, _, hS, g0⟩
  case round =>
    obtain ⟨i, hi, rfl, l, hS, gP⟩ := hrel
    clear g0
    have i1 : (0 : Int) ≤ (i : Int) := by omega
    by_cases c : i < xs.length
    · have d1 : decide ((i : Int) < (xs.length : Int)) = true := by simpa using c
      by_cases c2 : i < 200
      · have d2 : decide ((i : Int) < 200) = true := by simp; omega
        obtain ⟨b, off, rfl, hb, hx⟩ := a5 (by omega)
        obtain ⟨c3, c4⟩ := hx i c
        clear hx a5
        have x1 := cell_past gP c3 hb
        obtain ⟨⟨at1, sg⟩, hat⟩ : ∃ p, xs.getD i (0, false) = p := ⟨_, rfl⟩
        rw [hat] at x1 c4
        simp only at x1 c4
        clear hat c3
        have ek := semK_is at1
        have hk := semK_lt at1
        generalize semK at1 = k at *
        have k1 : (0 : Int) ≤ (k : Int) := by omega
        have k2 : (k : Int) < 8 := by omega
        go_upto_region 10 with (go_at_call 18; refine (all_at _ _ _ hS).mono ?_; rintro e w1 ⟨P, hP, rfl, v1, g1⟩)
        have s1 := hS.grow g1
        have p1 := gP.trans g1
        have hs := hS.size
        have hPB : B + 9 ≤ P := by rw [← hP.out]; exact hs
        have hp1 : P < w1.heap.size := ((nums_cell v1).2 0 (by omega)).2
        go_upto_region 11 with (go_at_call 10; refine (clone_at _ _ _ s1).mono ?_; rintro e w2 ⟨D, hD, rfl, c2, g2⟩)
        have s2 := s1.grow g2
        have p2 := p1.trans g2
        have v2 := v1.grow g2
        have hPD : P < D := by rw [← hD.out]; exact hp1
        have hpc : P < w2.heap.size := Nat.lt_of_lt_of_le hp1 g2.2.2.1
        have xa : w2.cell? ⟨b, off + i * 2 + 1, none⟩ = _ := cell_past p2 c4 hb
        clear x1 v1 s1 g1 g2 p1 hP hD hp1
        cases sg
        · by_cases d : 0 < l.getD k 0
          · obtain ⟨y1, y2⟩ := wait_yes hk d
            have Y := back_wait hk hS.len hS.most d
            rw [← y2] at Y
            obtain ⟨y3, y4⟩ := Y
            have y4' := Lib.hid y4; have y3' := Lib.hid y3; clear y4 y3
            have y1' := Lib.hid y1; have y2' := Lib.hid y2; clear y1 y2
            go_upto_region 18 with (first | (go_at_call 12; refine (wait_any _ _ _ _ c2).mono ?_; rintro e w3 ⟨rfl, h3, g3⟩; rw [y1'.out]) | (go_at_call 11; refine (sig_any _ _ _ _ h3).mono ?_; rintro e w4 ⟨rfl, h4, g4⟩; rw [y4'.out] at h4; rw [y3'.out]))
            have g34 := g3.trans g4; clear h3 g3 g4
            have s4 := s2.keep g34 (Or.inl (by omega))
            have v4 := nums_keep v2 g34 hpc (Or.inl (by omega))
            have p4 := g34.past p2 (by omega)
            clear v2 g34 p2 c2 s2
            go_upto_region 19 with (first | (go_at_call 18; refine (all_at _ _ _ h4).mono ?_; rintro e w5 ⟨p5, q5, rfl, h5, g5⟩) | (go_at_call 17; refine (Ints_any _ _ _ _ _ true h5 (v4.grow g5) (Lib.hid ⟨fun _ => rfl, fun _ => rfl⟩)).mono ?_; rintro e w6 ⟨rfl, g6⟩))
            have g56 := g5.trans g6; have s6 := s4.grow g56; have v6 := v4.grow g56; have p6 := p4.trans g56; clear s4 v4 p4 g5 g6 h5 g56
            go_upto_region 20 with (first | (go_at_call 18; refine (all_at _ _ _ s6).mono ?_; rintro e w7 ⟨p7, q7, rfl, h7, g7⟩) | (go_at_call 17; refine (Ints_any _ _ _ _ _ true h7 (v6.grow g7) (Lib.hid ⟨fun _ => rfl, fun _ => rfl⟩)).mono ?_; rintro e w8 ⟨rfl, g8⟩))
            have g78 := g7.trans g8; have s8 := s6.grow g78; have p8 := p6.trans g78; clear s6 v6 p6 g7 g8 h7 g78
            have xb : w8.cell? ⟨b, off + i * 2 + 1, none⟩ = _ := cell_past p8 c4 hb
            go_wp2_with (go_at_call 12; refine (wait_any _ _ _ _ s8).mono ?_; rintro e w9 ⟨rfl, h9, g9⟩)
            go_roundw
            case rel => exact ⟨i + 1, by omega, by go_num, _, h9, g9.past p8 (by omega)⟩
            case measure => simp [intOf]; omega
          · obtain ⟨y1, y2⟩ := wait_no hk d
            have y1' := Lib.hid y1; have y2' := Lib.hid y2; clear y1 y2
            go_upto_region 18 with (first | (go_at_call 12; refine (wait_any _ _ _ _ c2).mono ?_; rintro e w3 ⟨rfl, h3, g3⟩; rw [y1'.out]))
            rw [y2'.out] at h3
            have h4 := h3; have g34 := g3; clear h3 g3
            have s4 := s2.keep g34 (Or.inl (by omega))
            have v4 := nums_keep v2 g34 hpc (Or.inl (by omega))
            have p4 := g34.past p2 (by omega)
            clear v2 g34 p2 c2 s2
            go_upto_region 19 with (first | (go_at_call 18; refine (all_at _ _ _ h4).mono ?_; rintro e w5 ⟨p5, q5, rfl, h5, g5⟩) | (go_at_call 17; refine (Ints_any _ _ _ _ _ true h5 (v4.grow g5) (Lib.hid ⟨fun _ => rfl, fun _ => rfl⟩)).mono ?_; rintro e w6 ⟨rfl, g6⟩))
            have g56 := g5.trans g6; have s6 := s4.grow g56; have v6 := v4.grow g56; have p6 := p4.trans g56; clear s4 v4 p4 g5 g6 h5 g56
            go_upto_region 20 with (first | (go_at_call 18; refine (all_at _ _ _ s6).mono ?_; rintro e w7 ⟨p7, q7, rfl, h7, g7⟩) | (go_at_call 17; refine (Ints_any _ _ _ _ _ true h7 (v6.grow g7) (Lib.hid ⟨fun _ => rfl, fun _ => rfl⟩)).mono ?_; rintro e w8 ⟨rfl, g8⟩))
            have g78 := g7.trans g8; have s8 := s6.grow g78; have p8 := p6.trans g78; clear s6 v6 p6 g7 g8 h7 g78
            have xb : w8.cell? ⟨b, off + i * 2 + 1, none⟩ = _ := cell_past p8 c4 hb
            go_wp2_with (go_at_call 12; refine (wait_any _ _ _ _ s8).mono ?_; rintro e w9 ⟨rfl, h9, g9⟩)
            go_roundw
            case rel => exact ⟨i + 1, by omega, by go_num, _, h9, g9.past p8 (by omega)⟩
            case measure => simp [intOf]; omega
        · by_cases d : l.getD k 0 < 15
          · obtain ⟨y1, y2⟩ := sig_yes hk d
            have Y := back_sig hk hS.len hS.most d
            rw [← y2] at Y
            obtain ⟨y3, y4⟩ := Y
            have y4' := Lib.hid y4; have y3' := Lib.hid y3; clear y4 y3
            have y1' := Lib.hid y1; have y2' := Lib.hid y2; clear y1 y2
            go_upto_region 18 with (first | (go_at_call 11; refine (sig_any _ _ _ _ c2).mono ?_; rintro e w3 ⟨rfl, h3, g3⟩; rw [y1'.out]) | (go_at_call 12; refine (wait_any _ _ _ _ h3).mono ?_; rintro e w4 ⟨rfl, h4, g4⟩; rw [y4'.out] at h4; rw [y3'.out]))
            have g34 := g3.trans g4; clear h3 g3 g4
            have s4 := s2.keep g34 (Or.inl (by omega))
            have v4 := nums_keep v2 g34 hpc (Or.inl (by omega))
            have p4 := g34.past p2 (by omega)
            clear v2 g34 p2 c2 s2
            go_upto_region 19 with (first | (go_at_call 18; refine (all_at _ _ _ h4).mono ?_; rintro e w5 ⟨p5, q5, rfl, h5, g5⟩) | (go_at_call 17; refine (Ints_any _ _ _ _ _ true h5 (v4.grow g5) (Lib.hid ⟨fun _ => rfl, fun _ => rfl⟩)).mono ?_; rintro e w6 ⟨rfl, g6⟩))
            have g56 := g5.trans g6; have s6 := s4.grow g56; have v6 := v4.grow g56; have p6 := p4.trans g56; clear s4 v4 p4 g5 g6 h5 g56
            go_upto_region 20 with (first | (go_at_call 18; refine (all_at _ _ _ s6).mono ?_; rintro e w7 ⟨p7, q7, rfl, h7, g7⟩) | (go_at_call 17; refine (Ints_any _ _ _ _ _ true h7 (v6.grow g7) (Lib.hid ⟨fun _ => rfl, fun _ => rfl⟩)).mono ?_; rintro e w8 ⟨rfl, g8⟩))
            have g78 := g7.trans g8; have s8 := s6.grow g78; have p8 := p6.trans g78; clear s6 v6 p6 g7 g8 h7 g78
            have xb : w8.cell? ⟨b, off + i * 2 + 1, none⟩ = _ := cell_past p8 c4 hb
            go_wp2_with (go_at_call 11; refine (sig_any _ _ _ _ s8).mono ?_; rintro e w9 ⟨rfl, h9, g9⟩)
            go_roundw
            case rel => exact ⟨i + 1, by omega, by go_num, _, h9, g9.past p8 (by omega)⟩
            case measure => simp [intOf]; omega
          · obtain ⟨y1, y2⟩ := sig_no hk d
            have y1' := Lib.hid y1; have y2' := Lib.hid y2; clear y1 y2
            go_upto_region 18 with (first | (go_at_call 11; refine (sig_any _ _ _ _ c2).mono ?_; rintro e w3 ⟨rfl, h3, g3⟩; rw [y1'.out]))
            rw [y2'.out] at h3
            have h4 := h3; have g34 := g3; clear h3 g3
            have s4 := s2.keep g34 (Or.inl (by omega))
            have v4 := nums_keep v2 g34 hpc (Or.inl (by omega))
            have p4 := g34.past p2 (by omega)
            clear v2 g34 p2 c2 s2
            go_upto_region 19 with (first | (go_at_call 18; refine (all_at _ _ _ h4).mono ?_; rintro e w5 ⟨p5, q5, rfl, h5, g5⟩) | (go_at_call 17; refine (Ints_any _ _ _ _ _ true h5 (v4.grow g5) (Lib.hid ⟨fun _ => rfl, fun _ => rfl⟩)).mono ?_; rintro e w6 ⟨rfl, g6⟩))
            have g56 := g5.trans g6; have s6 := s4.grow g56; have v6 := v4.grow g56; have p6 := p4.trans g56; clear s4 v4 p4 g5 g6 h5 g56
            go_upto_region 20 with (first | (go_at_call 18; refine (all_at _ _ _ s6).mono ?_; rintro e w7 ⟨p7, q7, rfl, h7, g7⟩) | (go_at_call 17; refine (Ints_any _ _ _ _ _ true h7 (v6.grow g7) (Lib.hid ⟨fun _ => rfl, fun _ => rfl⟩)).mono ?_; rintro e w8 ⟨rfl, g8⟩))
            have g78 := g7.trans g8; have s8 := s6.grow g78; have p8 := p6.trans g78; clear s6 v6 p6 g7 g8 h7 g78
            have xb : w8.cell? ⟨b, off + i * 2 + 1, none⟩ = _ := cell_past p8 c4 hb
            go_wp2_with (go_at_call 11; refine (sig_any _ _ _ _ s8).mono ?_; rintro e w9 ⟨rfl, h9, g9⟩)
            go_roundw
            case rel => exact ⟨i + 1, by omega, by go_num, _, h9, g9.past p8 (by omega)⟩
            case measure => simp [intOf]; omega
      · have d2 : decide ((i : Int) < 200) = false := by simp; omega
        go_wp2_with fail
        go_ret
        exact ⟨rfl, gP⟩
    · have d1 : decide ((i : Int) < (xs.length : Int)) = false := by simp; omega
      go_wp2_with fail
      go_ret
      exact ⟨rfl, gP⟩
end Go.Proofs.Ytjiholljpkdllaa
