/- MemKeeps: its walk. -/
import Derived.Test.YtlpcppdpodedmaaJa
import Derived.Test.YtlpcppdpodedmaaKP
namespace Go.Proofs.Ytlpcppdpodedmaa
open Go.ChangeShapes Go.WideShapes Go.ChangeAt Go.RowKit
set_option maxRecDepth 20000
set_option linter.unusedVariables false
theorem Own8.form {w : World} {base : Nat} {v : Value} {l : List Int} (h : Own8 w base v l) : ∃ A cap, v = .slice A l.length cap ∧ (0 < l.length → ∃ g, A = some ⟨g, 0, none⟩ ∧ base ≤ g ∧ g < w.heap.size ∧ (∀ o, w.frozen? ⟨g, o, none⟩ = false) ∧ ∀ j, j < l.length → w.cell? ⟨g, j, none⟩ = some (.int .i8 (l.getD j 0))) := by
  obtain ⟨hl, h⟩ := h
  rcases h with ⟨rfl, h0⟩ | ⟨b, cap, cur, rfl, hb, hg, hn, hm, hs, ht⟩
  · exact ⟨none, 0, by rw [h0], fun h => by omega⟩
  · refine ⟨some ⟨b, 0, none⟩, cap, rfl, fun _ => ⟨b, rfl, hb, (Array.getElem?_eq_some_iff.1 hg).1, fun o => frozen_of_row w b o _ _ hg, fun j hj => ?_⟩⟩
    have key : w.cell? ⟨b, j, none⟩ = (l.map (Value.int .i8))[j]? := by
      rw [← ht, List.getElem?_take_of_lt (by omega)]
      simp [World.cell?, hg]
    rw [key]
    simp [List.getD, hj]
theorem Own8.stored {w : World} {base g n cap : Nat} {l : List Int} (h : Own8 w base (.slice (some ⟨g, 0, none⟩) n cap) l) (hn : l.length = n) (j : Nat) (x : Int) : Own8 (w.setCell ⟨g, j, none⟩ (.int .i8 x)) base (.slice (some ⟨g, 0, none⟩) n cap) (l.set j x) := by
  subst hn
  have := (World.ownsRow.stored h j (.int .i8 x)).1
  unfold Own8
  rw [List.length_set]
  simpa [List.map_set] using this
theorem Own8.keep {w w' : World} {base lo hi : Nat} {v : Value} {l : List Int} (h : Own8 w base v l) (g : But lo hi w w') (r : hi ≤ base) : Own8 w' base v l := by
  obtain ⟨hl, h⟩ := h
  refine ⟨hl, ?_⟩
  rcases h with ⟨rfl, h0⟩ | ⟨b, cap, cur, rfl, hb, hg, hn, hm, hs, ht⟩
  · exact .inl ⟨rfl, h0⟩
  · exact .inr ⟨b, cap, cur, rfl, hb, (g.2.2.2 b (Array.getElem?_eq_some_iff.1 hg).1 (Or.inr (by omega))).trans hg, hn, hm, hs, ht⟩
theorem putM_step {l xs : List Int} {a k : Nat} (h : a + xs.length ≤ l.length) (hk : k < xs.length) : (putM l (xs.take k) a).set (a + k) (xs.getD k 0) = putM l (xs.take (k + 1)) a := by
  have e1 : (xs.take k).length = k := by rw [List.length_take]; omega
  have e2 : (xs.take (k + 1)).length = k + 1 := by rw [List.length_take]; omega
  have f1 : a + (xs.take k).length ≤ l.length := by omega
  have f2 : a + (xs.take (k + 1)).length ≤ l.length := by omega
  refine getD_ext' (by rw [List.length_set, putM_len f1, putM_len f2]) (fun j => ?_)
  have es : ((putM l (xs.take k) a).set (a + k) (xs.getD k 0)).getD j 0 = if j = a + k then xs.getD k 0 else (putM l (xs.take k) a).getD j 0 := by
    by_cases c : j = a + k
    · subst c
      rw [if_pos rfl, List.getD, List.getElem?_set_self (by rw [putM_len f1]; omega)]; rfl
    · rw [if_neg c, List.getD, List.getElem?_set_ne (fun e => c e.symm)]; rfl
  have ti : ∀ m i, i < m → (xs.take m).getD i 0 = xs.getD i 0 := fun m i hi => by simp only [List.getD]; rw [List.getElem?_take_of_lt hi]
  rw [es, putM_at f1, putM_at f2, e1, e2]
  by_cases c : j = a + k
  · subst c
    rw [if_pos rfl, if_pos (by omega), Nat.add_sub_cancel_left, ti _ _ (by omega)]
  · rw [if_neg c]
    by_cases c2 : a ≤ j ∧ j < a + k
    · rw [if_pos c2, if_pos (by omega), ti _ _ (by omega), ti _ _ (by omega)]
    · rw [if_neg c2, if_neg (by omega)]
theorem putM_take0 (l xs : List Int) (a : Nat) : putM l (xs.take 0) a = l := putM_nil l a
set_option maxHeartbeats 8000000 in
theorem keeps_walk (W : World) (vf : Value) (xf : List Int) (hvf : IsNums .i8 W vf xf) (v : Value) (ops : List OpD) (hv : IsOps W v ops) : Calls Try.prog 4 #[vf, v] W fun e w' => e = .returned (.bool true) ∧ Past W w' := by
  have HA := Lib.hid hvf
  obtain ⟨A, ca, rfl, a2, a3, _⟩ := nums_form hvf
  obtain ⟨B, cb, rfl, b2, b3, b4⟩ := hv
  have ha1 : xf.length ≤ 9223372036854775807 := by unfold maxLen at a3; omega
  have hl1 : ops.length ≤ 9223372036854775807 := by unfold maxLen at b3; omega
  have B4 := Lib.hid b4
  clear hvf b2 b3 b4
  go_enter Try.func4, Try.ntmps4
  go_upto_region 2 with (go_at_call 8; refine (shown_any _).mono ?_; rintro e w1 ⟨rfl, g1⟩)
  go_upto_if 18 with fail
  go_cut [0] (fun c0 w' => ∃ (n : Nat) (ys : List Int), c0 = .slice A n ca ∧ ys.length = n ∧ n ≤ 200 ∧ Hid (IsNums .i8 W (.slice A n ca) ys) ∧ w' = w1)
  case first =>
    by_cases c : 200 < xf.length
    · have d1 : decide ((200 : Int) < (xf.length : Int)) = true := by simp; omega
      have i1 : (200 : Int) ≤ (ca : Int) := by omega
      go_wp2_with fail
      go_meet
      exact ⟨200, xf.take 200, rfl, by simp; omega, by omega, Lib.hid (nums_cut 200 (by omega) HA.out), rfl⟩
    · have d1 : decide ((200 : Int) < (xf.length : Int)) = false := by simp; omega
      go_wp2_with fail
      go_meet
      exact ⟨xf.length, xf, rfl, rfl, by omega, HA, rfl⟩
  case rest =>
  obtain ⟨n, ya, rfl, hn, ln, YA, rfl⟩ := hcut
  clear HA a2 ha1
  have en : memN (n : Int) = n := memN_nat (by omega)
  have zn := rep_len n
  go_upto_region 5 with (go_at_call 9; refine (new_any _ _).mono ?_; rintro e w2 ⟨B1, R1, q2, rfl, h2, g2⟩; rw [en] at h2)
  have GG := Lib.hid (g1.trans g2)
  have H2 := Lib.hid h2
  have AP := Lib.hid (show W.heap.size ≤ R1 ∧ W.heap.size ≤ B1 from ⟨Nat.le_trans g1.2.2.1 q2.out.1, Nat.le_trans g1.2.2.1 (Nat.le_trans q2.out.1 (Nat.le_of_lt q2.out.2))⟩)
  have HL := Lib.hid (show ya.length = n ∧ n ≤ 200 from ⟨hn, ln⟩)
  have hl3 : n ≤ 1000 := by omega
  clear h2 g1 g2 q2 en zn hn ln
  have NA2 := Lib.hid (YA.out.grow GG.out)
  have f4 := Lib.hid (show 0 + ya.length ≤ (List.replicate n (0 : Int)).length by have := HL.out; rw [rep_len]; omega)
  go_upto_region 7 with (go_at_call 13; with_reducible refine (write_at _ _ _ _ H2.out _ _ _ NA2.out 0 zcast f4.out).mono ?_; rintro e w3 ⟨rfl, h3, g3⟩; rw [putM_full (by rw [rep_len]; exact HL.out.1)] at h3; have H3 := Lib.hid h3; have P3 := Lib.hid (g3.past GG.out AP.out.1); clear h3 g3 H2)
  go_upto_region 8 with (at_builtin; refine wpList_append_8 rfl (.tmp 36) (.tmp 37) rfl w3.heap.size (.slice (some ⟨w3.heap.size, 0, none⟩) 0 0) [] rfl (own8_lit w3) ya A n ca rfl ((YA.out.grow P3.out).grow ((Past.refl w3).alloc _)) (by have := HL.out; rw [List.length_nil]; omega) (by simp) ?_; intro v1 w4 O1 G1; rw [List.nil_append] at O1; have P4 := Lib.hid (show Past w3 w4 from ((Past.refl w3).alloc _).grownBy G1 (fun q hq => by simp only [Value.ownBlock, Option.some.injEq] at hq; omega)); have O1' := Lib.hid O1; clear O1 G1)
  have H4 := Lib.hid (H3.out.grow P4.out)
  have Q4 := Lib.hid (P3.out.trans P4.out)
  have BS := Lib.hid (show R1 < w3.heap.size ∧ B1 < w3.heap.size ∧ W.heap.size ≤ w3.heap.size from ⟨H3.out.row.lt, H3.out.lt, P3.out.2.2.1⟩)
  obtain ⟨base, hbase⟩ : ∃ b, w3.heap.size = b := ⟨_, rfl⟩
  rw [hbase] at O1' BS
  obtain ⟨A1, c1, hv1, hv2⟩ := O1'.out.form
  rw [HL.out.1] at hv1
  subst hv1
  clear hv2 H3 P3 P4 NA2 f4 GG hbase
  go_wp2_with fail
  go_loopw [8, 9, 10, 11, 12, 13, 14] (fun i x9 x10 x11 x12 x13 x14 wr => ∃ (k : Nat) (now : List Int), k ≤ ops.length ∧ k ≤ 40 ∧ i = .int .i64 k ∧ now.length = n ∧ Hid (MemAt wr B1 R1 now) ∧ Hid (Own8 wr base (.slice A1 n c1) now) ∧ Hid (Past W wr)) (fun i _ _ _ _ _ _ _ => ops.length - (intOf i).toNat)
  case atStart => exact ⟨0, ya, by omega, by omega, rfl, HL.out.1, H4, O1', Q4⟩
  case round =>
    clear H4 O1' Q4
    obtain ⟨k, now, hk, hk2, rfl, hnow, HM, HO, HP⟩ := hrel
    obtain ⟨wo, hwo⟩ : ∃ wo, wo = wr := ⟨_, rfl⟩
    subst hwo
    have i1 : (0 : Int) ≤ (k : Int) := by omega
    by_cases c : k < ops.length
    · have d1 : decide ((k : Int) < (ops.length : Int)) = true := by simpa using c
      by_cases c2 : k < 40
      · have d2 : decide ((k : Int) < 40) = true := by simp; omega
        obtain ⟨b, off, rfl, hb, hx⟩ := B4.out (by omega)
        obtain ⟨o1, o2, o3, o4, o5, o6, o7, o8⟩ := hx k c
        clear hx
        obtain ⟨x, hxx⟩ : ∃ x, ops.getD k default = x := ⟨_, rfl⟩
        rw [hxx] at o1 o2 o3 o4 o5 o6 o7 o8
        clear hxx
        obtain ⟨xa, xn, xk, xv, xl⟩ := x
        simp only at o1 o2 o3 o4 o5 o6 o7 o8
        have X8 := Lib.hid o8
        obtain ⟨C, cc, rfl, x2, x3, _⟩ := nums_form o8
        have y1 := cell_past HP.out o1 hb
        have y2 := cell_past HP.out o2 hb
        have y3 := cell_past HP.out o3 hb
        have y4 := cell_past HP.out o4 hb
        clear o1 o2 o3 o4 o6 o7 o8
        have N3 := Lib.hid ((Past.refl wo).alloc (.cells #[.int .i64 xa, .int .i64 xn, .int .i64 xk, .slice C xl.length cc] 34))
        have S0 := Lib.hid (show R1 < wo.heap.size ∧ B1 < wo.heap.size ∧ W.heap.size ≤ wo.heap.size from ⟨HM.out.row.lt, HM.out.lt, HP.out.2.2.1⟩)
        have z0 : ∀ o : Nat, (wo.alloc (.cells #[.int .i64 xa, .int .i64 xn, .int .i64 xk, .slice C xl.length cc] 34)).cell? ⟨wo.heap.size, o, none⟩ = #[.int .i64 xa, .int .i64 xn, .int .i64 xk, .slice C xl.length cc][o]? := box_new rfl
        have z4 : ∀ o : Nat, (wo.alloc (.cells #[.int .i64 xa, .int .i64 xn, .int .i64 xk, .slice C xl.length cc] 34)).frozen? ⟨wo.heap.size, o, none⟩ = false := free_alloc (free_new (Nat.le_refl _))
        have z5 := (World.size_alloc wo (.cells #[.int .i64 xa, .int .i64 xn, .int .i64 xk, .slice C xl.length cc] 34))
        go_upto_region 12 with fail
        generalize wo.alloc (.cells #[.int .i64 xa, .int .i64 xn, .int .i64 xk, .slice C xl.length cc] 34) = w5 at N3 z0 z4 z5 ⊢
        obtain ⟨Y, hY⟩ : ∃ Y, wo.heap.size = Y := ⟨_, rfl⟩
        rw [hY] at S0 z0 z4 z5 ⊢
        have HYY := Lib.hid hY
        have GY := Lib.hid (show 0 < n → ∃ g, A1 = some ⟨g, 0, none⟩ ∧ g < Y ∧ base ≤ g from fun hp => by
          obtain ⟨A', c', e, hf⟩ := HO.out.form
          simp only [Value.slice.injEq] at e
          obtain ⟨rfl, e2, rfl⟩ := e
          obtain ⟨g, rfl, h1, h2, _⟩ := hf (by omega)
          exact ⟨g, rfl, by omega, h1⟩)
        clear hY
        have z6 : Y < w5.heap.size := by omega
        have z3 := z0 3
        have z1 := z0 0
        simp only [List.getElem?_toArray, List.getElem?_cons_succ, List.getElem?_cons_zero] at z3 z1
        clear z0 z5 y1 y2 y3 y4
        go_upto_if 56 with fail
        go_cut [] (fun w' => ∃ (m : Nat) (ys : List Int), ys.length = m ∧ m ≤ 100 ∧ w'.cell? ⟨Y, 0, none⟩ = some (.int .i64 xa) ∧ w'.cell? ⟨Y, 3, none⟩ = some (.slice C m cc) ∧ Y < w'.heap.size ∧ Hid (IsNums .i8 W (.slice C m cc) ys) ∧ Hid (Past wo w'))
        case first =>
          by_cases c : 100 < xl.length
          · have d1 : decide ((100 : Int) < (xl.length : Int)) = true := by simp; omega
            have i1 : (100 : Int) ≤ (cc : Int) := by omega
            have E1 := Lib.hid (World.cell?_setCell_other w5 ⟨Y, 3, none⟩ ⟨Y, 0, none⟩ (.slice C 100 cc) (by simp))
            have E3 := Lib.hid (World.cell?_setCell_same w5 ⟨Y, 3, none⟩ (.slice C 100 cc) z3)
            have Z1 := Lib.hid z1
            go_wp2_with fail
            go_meet
            exact ⟨100, xl.take 100, by rw [List.length_take]; omega, Nat.le_refl _, E1.out.trans Z1.out, E3.out, size_set z6, Lib.hid (nums_cut 100 (by omega) X8.out), Lib.hid (N3.out.setCell (Nat.le_of_eq HYY.out) _)⟩
          · have d1 : decide ((100 : Int) < (xl.length : Int)) = false := by simp; omega
            go_wp2_with fail
            go_meet
            exact ⟨xl.length, xl, rfl, by omega, z1, z3, z6, X8, N3⟩
        case rest =>
        obtain ⟨m, ys, hm, lm, z1', z3', z6', Y8, N5⟩ := hcut
        clear z1 z3 z4 z6 X8 N3
        have wm : wrap64 ((n : Int) - (m : Int)) = (n : Int) - (m : Int) := by have := HL.out; simp only [wrap64]; omega
        have M5 := Lib.hid (HM.out.grow N5.out)
        have O5 := Lib.hid (HO.out.past N5.out)
        have P5 := Lib.hid (HP.out.trans N5.out)
        have V5 := Lib.hid (Y8.out.grow P5.out)
        have HL5 := Lib.hid (show now.length = n ∧ ys.length = m ∧ m ≤ 100 ∧ Y = wo.heap.size from ⟨hnow, hm, lm, HYY.out.symm⟩)
        by_cases ok : 0 ≤ xa ∧ xa ≤ (n : Int) - (m : Int)
        · obtain ⟨p, rfl⟩ : ∃ p : Nat, xa = p := ⟨xa.toNat, by omega⟩
          have e1 : decide ((p : Int) ≤ (n : Int) - (m : Int)) = true := by simpa using ok.2
          have f5 := Lib.hid (show p + ys.length ≤ now.length by omega)
          clear hm lm hnow
          go_upto_region 17 with (go_at_call 13; with_reducible refine (write_at _ _ _ _ M5.out _ _ _ V5.out p rfl f5.out).mono ?_; rintro e w6 ⟨rfl, h6, g6⟩; have M6 := Lib.hid h6; have G6 := Lib.hid g6; clear h6 g6)
          have y0q := (G6.out.cell (p := ⟨Y, 0, none⟩) z6' (show Y < R1 ∨ R1 + 1 ≤ Y by have := S0.out; omega)).trans z1'
          have y3q := (G6.out.cell (p := ⟨Y, 3, none⟩) z6' (show Y < R1 ∨ R1 + 1 ≤ Y by have := S0.out; omega)).trans z3'
          have O6 := Lib.hid (O5.out.keep G6.out (by have := BS.out; omega))
          have P6 := Lib.hid (G6.out.past P5.out AP.out.1)
          have z6q : Y < w6.heap.size := Nat.lt_of_lt_of_le z6' G6.out.2.2.1
          have KK := Lib.hid (And.intro c c2)
          clear z1' z3' z6' M5 O5 V5 HM HO HP wm ok e1 d1 d2 c c2
          have hmm : m ≤ 1000 := by have := HL5.out; omega
          have hpp : p ≤ 1000 := by have := f5.out; have := HL5.out; have := HL.out; omega
          go_wp2_with fail
          go_loopw [11] (fun x wr => ∃ j : Nat, j ≤ m ∧ x = .int .i64 j ∧ wr.cell? ⟨Y, 0, none⟩ = some (.int .i64 p) ∧ wr.cell? ⟨Y, 3, none⟩ = some (.slice C m cc) ∧ Hid (Y < wr.heap.size ∧ MemAt wr B1 R1 (putM now ys p) ∧ Own8 wr base (.slice A1 n c1) (putM now (ys.take j) p) ∧ Past W wr)) (fun x _ => m - (intOf x).toNat)
          case atStart => exact ⟨0, by omega, rfl, y0q, y3q, Lib.hid ⟨z6q, M6.out, by rw [putM_take0]; exact O6.out, P6.out⟩⟩
          case round =>
            clear y0q y3q O6 P6 M6 z6q
            obtain ⟨j, hj, rfl, y0, y3, HQ⟩ := hrel
            have j1 : (0 : Int) ≤ (j : Int) := by omega
            by_cases cj : j < m
            · have dj : decide ((j : Int) < (m : Int)) = true := by simpa using cj
              have j2 : (j : Int) < (m : Int) := by omega
              obtain ⟨C', cc', e, s2, s3, s4, s5, s6⟩ := Y8.out
              simp only [Value.slice.injEq] at e
              obtain ⟨rfl, e2, rfl⟩ := e
              obtain ⟨sb, so, rfl, hsb, hsc⟩ := s6 (by have := HL5.out; omega)
              have y1 := cell_past HQ.out.2.2.2 (hsc j (by have := HL5.out; omega)) hsb
              obtain ⟨A1', c1', e', ef⟩ := HQ.out.2.2.1.form
              have fq : p + (ys.take j).length ≤ now.length := by have := HL5.out; have := f5.out; rw [List.length_take]; omega
              have ln := putM_len fq
              simp only [Value.slice.injEq] at e'
              obtain ⟨rfl, e3, rfl⟩ := e'
              obtain ⟨g, rfl, hg1, hg2, hg3, hg4⟩ := ef (by have := HL5.out; have := f5.out; omega)
              obtain ⟨q, hq⟩ : ∃ q, p + j = q := ⟨_, rfl⟩
              have CX := hg4 (p + j) (by have := HL5.out; have := f5.out; omega)
              rw [hq] at CX
              have WQ := Lib.hid (show IntKind.i64.wrap ((p : Int) + (j : Int)) = (q : Int) by rw [IntKind.wrap_i64]; omega)
              have neS : Hid (g ≠ sb) := Lib.hid (by have h1 := BS.out; have h2 : base ≤ g := hg1; omega)
              have CX' : wr.drew.cell? ⟨g, q, none⟩ = some (.int .i8 ((putM now (ys.take j) p).getD q 0)) := CX
              have FX' : wr.drew.frozen? ⟨g, q, none⟩ = false := hg3 q
              obtain ⟨x, hx⟩ : ∃ x, ys.getD j 0 = x := ⟨_, rfl⟩
              rw [hx] at y1
              have OS := Lib.hid (HQ.out.2.2.1.stored (by have := HL5.out; omega) q x)
              have ST : Hid ((putM now (ys.take j) p).set q x = putM now (ys.take (j + 1)) p) := Lib.hid (by rw [← hx, ← hq]; exact putM_step f5.out (by have := HL5.out; omega))
              obtain ⟨L0, hL0⟩ : ∃ L0, putM now (ys.take j) p = L0 := ⟨_, rfl⟩
              rw [hL0] at OS ST CX'
              have i3 : (0 : Int) ≤ (q : Int) := by omega
              have i4 : (q : Int) < (n : Int) := by have := HL5.out; have := f5.out; omega
              have q1 := Lib.hid (show Y < wr.heap.size ∧ MemAt wr B1 R1 (putM now ys p) ∧ Past W wr from ⟨HQ.out.1, HQ.out.2.1, HQ.out.2.2.2⟩)
              have gY : Hid (g < Y ∧ base ≤ g) := Lib.hid (by
                obtain ⟨g', e, h1, h2⟩ := GY.out (by omega)
                simp only [Option.some.injEq, Addr.mk.injEq, and_true] at e
                omega)
              have neY : Hid (g ≠ Y) := Lib.hid (Nat.ne_of_lt gY.out.1)
              clear hq
              clear HQ hg1 hg2 hg3 hg4 hL0 hx CX ln fq e2 e3 s2 s3 s4 s5 hsc ef
              have wq98 := WQ.out
              go_upto_region 20 with fail
              refine wp_region_mixd [11] (fun w' => w'.cell? ⟨Y, 0, none⟩ = some (.int .i64 p) ∧ w'.cell? ⟨Y, 3, none⟩ = some (.slice (some ⟨sb, so, none⟩) m cc) ∧ w'.cell? ⟨sb, so + j, none⟩ = some (.int .i8 x)) [(94, ?va94), (95, ?va95), (96, ?va96), (97, ?va97), (98, ?va98), (99, ?va99), (100, ?va100), (101, ?va101), (102, ?va102), (103, ?va103), (104, ?va104)] [94, 95, 96, 97, 98, 99, 100, 101, 102, 103, 104] (by kernel_rfl) (by kernel_rfl) rfl (by kernel_rfl) ⟨y0, y3, y1⟩ (fun w h => h) ?alla ?fina
              case alla =>
                simp only [fillA, Act.put, List.setIfInBounds_toArray, List.set_cons_zero, List.set_cons_succ]
                iterate 12 (first | refine forced rfl ?_ | (refine reads (fun w hw K hK => ?_) ?_; focus ((have hS := Lib.hid hw); go_split_ands; go_simp; (try simp only [Act.put, List.setIfInBounds_toArray, List.set_cons_zero, List.set_cons_succ]); exact hK)))
                exact True.intro
              case fina =>
                simp only [fillA, Act.put, List.setIfInBounds_toArray, List.set_cons_zero, List.set_cons_succ]
                refine mix_store rfl rfl (fun K hK => ?_)
                go_simp
                refine hK _ ⟨cell_set y0 neY.out, cell_set y3 neY.out, cell_set y1 neS.out⟩ ?_
                clear hK wq98
                (try simp only [Act.put, List.setIfInBounds_toArray, List.set_cons_zero, List.set_cons_succ])
                refine mix_nil ?_
                have R8 := Lib.hid (show Y < (wr.setCell ⟨g, q, none⟩ (.int .i8 x)).heap.size ∧ MemAt (wr.setCell ⟨g, q, none⟩ (.int .i8 x)) B1 R1 (putM now ys p) ∧ Own8 (wr.setCell ⟨g, q, none⟩ (.int .i8 x)) base (.slice (some ⟨g, 0, none⟩) n c1) (putM now (ys.take (j + 1)) p) ∧ Past W (wr.setCell ⟨g, q, none⟩ (.int .i8 x)) from
                  ⟨size_set q1.out.1, q1.out.2.1.keep (But.setCell wr (lo := base) (hi := g + 1) (a := ⟨g, q, none⟩) gY.out.2 (Nat.lt_succ_self _) _) (Or.inl BS.out.2.1) (Or.inl BS.out.1), ST.out ▸ OS.out, q1.out.2.2.setCell (Nat.le_trans BS.out.2.2 gY.out.2) _⟩)
                have Z0 := Lib.hid (cell_set (x := .int .i8 x) (p := ⟨g, q, none⟩) y0 neY.out)
                have Z3 := Lib.hid (cell_set (x := .int .i8 x) (p := ⟨g, q, none⟩) y3 neY.out)
                clear OS ST q1 CX' FX'
                go_wp2_with fail
                go_roundw
                case rel => exact ⟨j + 1, by omega, by go_num, Z0.out, Z3.out, Lib.hid ⟨R8.out.1, R8.out.2.1.grow ((Past.refl _).drew), R8.out.2.2.1.past ((Past.refl _).drew), R8.out.2.2.2.drew⟩⟩
                case measure => simp [intOf]; omega
            · obtain rfl : j = m := by omega
              have dj : decide ((j : Int) < (j : Int)) = false := by simp
              have tk : ys.take j = ys := List.take_of_length_le (by have := HL5.out; omega)
              obtain ⟨NOW, hNOW⟩ : ∃ NOW, putM now ys p = NOW := ⟨_, rfl⟩
              have LN := Lib.hid (show NOW.length = n by rw [← hNOW, putM_len f5.out]; exact HL5.out.1)
              rw [tk, hNOW] at HQ
              have MM := Lib.hid HQ.out.2.1
              have OO := Lib.hid HQ.out.2.2.1
              have PP := Lib.hid HQ.out.2.2.2
              have c9 : k < ops.length ∧ k < 40 := KK.out
              obtain ⟨c91, c92⟩ := c9
              clear HQ tk hNOW
              have NW := Lib.hid (MM.out.wf)
              have rC := Lib.hid (show (NOW.drop 0).take n = NOW from List.take_of_length_le (by have := LN.out; rw [List.drop_zero]; omega))
              have fC := Lib.hid (show 0 + n ≤ NOW.length by have := LN.out; omega)
              go_wp2_with (first
                | (go_at_call 15; with_reducible refine (read_at _ _ _ _ MM.out _ _ 0 n zcast rfl fC.out _ rC.out).mono ?_; rintro e w9 ⟨PC, qC, rfl, rwC, gC⟩; have GC := Lib.hid gC; have MC := Lib.hid (MM.out.grow gC); have OC := Lib.hid (OO.out.past gC); have NC := Lib.hid (row_nums rwC LN.out NW.out (by have := HL.out; unfold maxLen; omega)); clear rwC gC qC)
                | (go_at_call 17; with_reducible refine (same_any _ _ _ NOW NOW true NC.out (OC.out.nums NW.out) (Lib.hid ⟨fun _ => rfl, fun _ => rfl⟩)).mono ?_; rintro e wa ⟨rfl, ga⟩; have GA := Lib.hid (Grown.past ga); clear ga NC))
              have MD := Lib.hid (MC.out.grow GA.out)
              have OD := Lib.hid (OC.out.past GA.out)
              have PD := Lib.hid (PP.out.trans (GC.out.trans GA.out))
              clear MM OO PP MC OC GC GA
              go_roundw
              case rel => exact ⟨k + 1, NOW, by omega, by omega, by go_num, LN.out, MD, OD, PD⟩
              case measure => simp [intOf]; omega
        · rcases (show xa < 0 ∨ (0 ≤ xa ∧ ¬ xa ≤ (n : Int) - (m : Int)) by omega) with t1 | ⟨t1, t2⟩
          · have e1 : decide (0 ≤ xa) = false := by simpa using t1
            have f5 := Lib.hid (show okM now.length xa (ys.length : Int) = false from okM_no (by rw [hnow, hm]; omega))
            have KK := Lib.hid (And.intro c c2)
            clear hm lm hnow ok
            go_upto_region 17 with (go_at_call 13; with_reducible refine (write_no _ _ _ _ M5.out _ _ _ V5.out f5.out).mono ?_; rintro e w6 ⟨rfl, h6, g6⟩; have M6 := Lib.hid h6; have G6 := Lib.hid g6; clear h6 g6)
            have y3q := (G6.out.cell (p := ⟨Y, 3, none⟩) z6' (show Y < R1 ∨ R1 + 1 ≤ Y by have := S0.out; omega)).trans z3'
            have O6 := Lib.hid (O5.out.keep G6.out (by have := BS.out; omega))
            have P6 := Lib.hid (G6.out.past P5.out AP.out.1)
            have hmm : m ≤ 1000 := by have := HL5.out; omega
            clear z1' z3' z6' M5 O5 V5 HM HO HP wm d1 d2 c c2
            go_wp2_with fail
            go_loopw [11] (fun x wq => x = .int .i64 0 ∧ wq = w6) (fun _ _ => 0)
            case atStart => exact ⟨rfl, rfl⟩
            case round =>
              obtain ⟨rfl, rfl⟩ := hrel
              have LN := Lib.hid HL5.out.1
              have MM := Lib.hid M6.out
              have OO := Lib.hid O6.out
              have PP := Lib.hid P6.out
              obtain ⟨c91, c92⟩ := KK.out
              clear M6 O6 P6 G6
              by_cases m0 : 0 < m
              · have dj : decide ((0 : Int) < (m : Int)) = true := by simp; omega
                have NW := Lib.hid (MM.out.wf)
                have rC := Lib.hid (show (now.drop 0).take n = now from List.take_of_length_le (by have := LN.out; rw [List.drop_zero]; omega))
                have fC := Lib.hid (show 0 + n ≤ now.length by have := LN.out; omega)
                go_wp2_with (first
                  | (go_at_call 15; with_reducible refine (read_at _ _ _ _ MM.out _ _ 0 n zcast rfl fC.out _ rC.out).mono ?_; rintro e w9 ⟨PC, qC, rfl, rwC, gC⟩; have GC := Lib.hid gC; have MC := Lib.hid (MM.out.grow gC); have OC := Lib.hid (OO.out.past gC); have NC := Lib.hid (row_nums rwC LN.out NW.out (by have := HL.out; unfold maxLen; omega)); clear rwC gC qC)
                  | (go_at_call 17; with_reducible refine (same_any _ _ _ now now true NC.out (OC.out.nums NW.out) (Lib.hid ⟨fun _ => rfl, fun _ => rfl⟩)).mono ?_; rintro e wa ⟨rfl, ga⟩; have GA := Lib.hid (Grown.past ga); clear ga NC))
                have MD := Lib.hid (MC.out.grow GA.out)
                have OD := Lib.hid (OC.out.past GA.out)
                have PD := Lib.hid (PP.out.trans (GC.out.trans GA.out))
                clear MM OO PP MC OC GC GA
                go_roundw
                case rel => exact ⟨k + 1, now, by omega, by omega, by go_num, LN.out, MD, OD, PD⟩
                case measure => simp [intOf]; omega
              · obtain rfl : m = 0 := by omega
                have NW := Lib.hid (MM.out.wf)
                have rC := Lib.hid (show (now.drop 0).take n = now from List.take_of_length_le (by have := LN.out; rw [List.drop_zero]; omega))
                have fC := Lib.hid (show 0 + n ≤ now.length by have := LN.out; omega)
                go_wp2_with (first
                  | (go_at_call 15; with_reducible refine (read_at _ _ _ _ MM.out _ _ 0 n zcast rfl fC.out _ rC.out).mono ?_; rintro e w9 ⟨PC, qC, rfl, rwC, gC⟩; have GC := Lib.hid gC; have MC := Lib.hid (MM.out.grow gC); have OC := Lib.hid (OO.out.past gC); have NC := Lib.hid (row_nums rwC LN.out NW.out (by have := HL.out; unfold maxLen; omega)); clear rwC gC qC)
                  | (go_at_call 17; with_reducible refine (same_any _ _ _ now now true NC.out (OC.out.nums NW.out) (Lib.hid ⟨fun _ => rfl, fun _ => rfl⟩)).mono ?_; rintro e wa ⟨rfl, ga⟩; have GA := Lib.hid (Grown.past ga); clear ga NC))
                have MD := Lib.hid (MC.out.grow GA.out)
                have OD := Lib.hid (OC.out.past GA.out)
                have PD := Lib.hid (PP.out.trans (GC.out.trans GA.out))
                clear MM OO PP MC OC GC GA
                go_roundw
                case rel => exact ⟨k + 1, now, by omega, by omega, by go_num, LN.out, MD, OD, PD⟩
                case measure => simp [intOf]; omega
          · have e1 : decide (0 ≤ xa) = true := by simpa using t1
            have e2 : decide (xa ≤ (n : Int) - (m : Int)) = false := by simpa using t2
            have f5 := Lib.hid (show okM now.length xa (ys.length : Int) = false from okM_no (by rw [hnow, hm]; omega))
            have KK := Lib.hid (And.intro c c2)
            clear hm lm hnow ok
            go_upto_region 17 with (go_at_call 13; with_reducible refine (write_no _ _ _ _ M5.out _ _ _ V5.out f5.out).mono ?_; rintro e w6 ⟨rfl, h6, g6⟩; have M6 := Lib.hid h6; have G6 := Lib.hid g6; clear h6 g6)
            have y3q := (G6.out.cell (p := ⟨Y, 3, none⟩) z6' (show Y < R1 ∨ R1 + 1 ≤ Y by have := S0.out; omega)).trans z3'
            have O6 := Lib.hid (O5.out.keep G6.out (by have := BS.out; omega))
            have P6 := Lib.hid (G6.out.past P5.out AP.out.1)
            have hmm : m ≤ 1000 := by have := HL5.out; omega
            clear z1' z3' z6' M5 O5 V5 HM HO HP wm d1 d2 c c2
            go_wp2_with fail
            go_loopw [11] (fun x wq => x = .int .i64 0 ∧ wq = w6) (fun _ _ => 0)
            case atStart => exact ⟨rfl, rfl⟩
            case round =>
              obtain ⟨rfl, rfl⟩ := hrel
              have LN := Lib.hid HL5.out.1
              have MM := Lib.hid M6.out
              have OO := Lib.hid O6.out
              have PP := Lib.hid P6.out
              obtain ⟨c91, c92⟩ := KK.out
              clear M6 O6 P6 G6
              by_cases m0 : 0 < m
              · have dj : decide ((0 : Int) < (m : Int)) = true := by simp; omega
                have NW := Lib.hid (MM.out.wf)
                have rC := Lib.hid (show (now.drop 0).take n = now from List.take_of_length_le (by have := LN.out; rw [List.drop_zero]; omega))
                have fC := Lib.hid (show 0 + n ≤ now.length by have := LN.out; omega)
                go_wp2_with (first
                  | (go_at_call 15; with_reducible refine (read_at _ _ _ _ MM.out _ _ 0 n zcast rfl fC.out _ rC.out).mono ?_; rintro e w9 ⟨PC, qC, rfl, rwC, gC⟩; have GC := Lib.hid gC; have MC := Lib.hid (MM.out.grow gC); have OC := Lib.hid (OO.out.past gC); have NC := Lib.hid (row_nums rwC LN.out NW.out (by have := HL.out; unfold maxLen; omega)); clear rwC gC qC)
                  | (go_at_call 17; with_reducible refine (same_any _ _ _ now now true NC.out (OC.out.nums NW.out) (Lib.hid ⟨fun _ => rfl, fun _ => rfl⟩)).mono ?_; rintro e wa ⟨rfl, ga⟩; have GA := Lib.hid (Grown.past ga); clear ga NC))
                have MD := Lib.hid (MC.out.grow GA.out)
                have OD := Lib.hid (OC.out.past GA.out)
                have PD := Lib.hid (PP.out.trans (GC.out.trans GA.out))
                clear MM OO PP MC OC GC GA
                go_roundw
                case rel => exact ⟨k + 1, now, by omega, by omega, by go_num, LN.out, MD, OD, PD⟩
                case measure => simp [intOf]; omega
              · obtain rfl : m = 0 := by omega
                have NW := Lib.hid (MM.out.wf)
                have rC := Lib.hid (show (now.drop 0).take n = now from List.take_of_length_le (by have := LN.out; rw [List.drop_zero]; omega))
                have fC := Lib.hid (show 0 + n ≤ now.length by have := LN.out; omega)
                go_wp2_with (first
                  | (go_at_call 15; with_reducible refine (read_at _ _ _ _ MM.out _ _ 0 n zcast rfl fC.out _ rC.out).mono ?_; rintro e w9 ⟨PC, qC, rfl, rwC, gC⟩; have GC := Lib.hid gC; have MC := Lib.hid (MM.out.grow gC); have OC := Lib.hid (OO.out.past gC); have NC := Lib.hid (row_nums rwC LN.out NW.out (by have := HL.out; unfold maxLen; omega)); clear rwC gC qC)
                  | (go_at_call 17; with_reducible refine (same_any _ _ _ now now true NC.out (OC.out.nums NW.out) (Lib.hid ⟨fun _ => rfl, fun _ => rfl⟩)).mono ?_; rintro e wa ⟨rfl, ga⟩; have GA := Lib.hid (Grown.past ga); clear ga NC))
                have MD := Lib.hid (MC.out.grow GA.out)
                have OD := Lib.hid (OC.out.past GA.out)
                have PD := Lib.hid (PP.out.trans (GC.out.trans GA.out))
                clear MM OO PP MC OC GC GA
                go_roundw
                case rel => exact ⟨k + 1, now, by omega, by omega, by go_num, LN.out, MD, OD, PD⟩
                case measure => simp [intOf]; omega
      · have d2 : decide ((k : Int) < 40) = false := by simp; omega
        have PZ := Lib.hid HP.out
        go_wp2_with (go_at_call 11; with_reducible refine (size_any _ _ _ _ HM.out).mono ?_; rintro e w9 ⟨rfl, rfl⟩; rw [hnow])
        go_ret
        exact ⟨rfl, PZ.out⟩
    · have d1 : decide ((k : Int) < (ops.length : Int)) = false := by simpa using c
      have PZ := Lib.hid HP.out
      go_wp2_with (go_at_call 11; with_reducible refine (size_any _ _ _ _ HM.out).mono ?_; rintro e w9 ⟨rfl, rfl⟩; rw [hnow])
      go_ret
      exact ⟨rfl, PZ.out⟩
end Go.Proofs.Ytlpcppdpodedmaa
