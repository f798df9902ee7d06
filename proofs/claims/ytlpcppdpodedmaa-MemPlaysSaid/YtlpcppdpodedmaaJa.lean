/- MemApart: its walk. -/
import Derived.Test.YtlpcppdpodedmaaJp
namespace Go.Proofs.Ytlpcppdpodedmaa
open Go.ChangeShapes Go.WideShapes Go.ChangeAt Go.RowKit
set_option maxRecDepth 20000
set_option linter.unusedVariables false
theorem putM_at {l xs : List Int} {i j : Nat} (h : i + xs.length ≤ l.length) : (putM l xs i).getD j 0 = if i ≤ j ∧ j < i + xs.length then xs.getD (j - i) 0 else l.getD j 0 := by
  have e1 : (l.take i).length = i := by rw [List.length_take]; omega
  unfold putM
  simp only [List.getD]
  by_cases c1 : j < i
  · rw [if_neg (by omega), List.append_assoc, List.getElem?_append_left (by omega), List.getElem?_take_of_lt c1]
  · by_cases c2 : j < i + xs.length
    · rw [if_pos (by omega), List.getElem?_append_left (by rw [List.length_append]; omega), List.getElem?_append_right (by omega), e1]
    · rw [if_neg (by omega), List.getElem?_append_right (by rw [List.length_append]; omega), List.length_append, e1, List.getElem?_drop]
      congr 2
      omega
theorem putM_read {l xs : List Int} {i : Nat} (h : i + xs.length ≤ l.length) : ((putM l xs i).drop i).take xs.length = xs := by
  have e1 : (l.take i).length = i := by rw [List.length_take]; omega
  unfold putM
  rw [List.append_assoc]
  have e2 : (l.take i ++ (xs ++ l.drop (i + xs.length))).drop i = xs ++ l.drop (i + xs.length) := by
    exact List.drop_left' e1
  rw [e2]
  exact List.take_left
theorem getD_ext' {xs ys : List Int} (h : xs.length = ys.length) (k : ∀ j, xs.getD j 0 = ys.getD j 0) : xs = ys := (getD_ext h).2 (fun j _ => k j)
theorem apart_same {z a b : List Int} {p q : Nat} (hp : p + a.length ≤ z.length) (hq : q + b.length ≤ z.length) (h : p + a.length ≤ q ∨ q + b.length ≤ p) : putM (putM z a p) b q = putM (putM z b q) a p := by
  have l1 := putM_len hp
  have l2 := putM_len hq
  refine getD_ext' (by rw [putM_len (l := putM z a p) (by omega), l1, putM_len (l := putM z b q) (by omega), l2]) (fun j => ?_)
  rw [putM_at (by omega), putM_at (by omega), putM_at (by omega), putM_at (by omega)]
  by_cases c1 : q ≤ j ∧ j < q + b.length
  · rw [if_pos c1, if_pos c1, if_neg (by omega)]
  · rw [if_neg c1, if_neg c1]
theorem c128 : (128 : Int) = ((128 : Nat) : Int) := rfl
set_option maxHeartbeats 4000000 in
theorem apart_walk (W : World) (va : Value) (xa : List Int) (hva : IsNums .i8 W va xa) (vb : Value) (xb : List Int) (hvb : IsNums .i8 W vb xb) (y0 y1 : Int) (hy0 : (Lit.int .u8 y0).wf = true) (hy1 : (Lit.int .u8 y1).wf = true) : Calls Try.prog 5 #[va, vb, .agg #[.int .u8 y0, .int .u8 y1]] W fun e w' => e = .returned (.bool true) ∧ Past W w' := by
  have HA := Lib.hid hva
  have HB := Lib.hid hvb
  obtain ⟨A, ca, rfl, a2, a3, _⟩ := nums_form hva
  obtain ⟨B, cb, rfl, b2, b3, _⟩ := nums_form hvb
  have ha1 : xa.length ≤ 9223372036854775807 := by unfold maxLen at a3; omega
  have hb1 : xb.length ≤ 9223372036854775807 := by unfold maxLen at b3; omega
  obtain ⟨p1, p2⟩ := mask_u8 y0 63 (by omega) (by omega)
  obtain ⟨q1, q2⟩ := mask_u8 y1 63 (by omega) (by omega)
  obtain ⟨P, hP⟩ : ∃ P, bits .and .u8 y0 63 = P := ⟨_, rfl⟩
  obtain ⟨Q, hQ⟩ : ∃ Q, bits .and .u8 y1 63 = Q := ⟨_, rfl⟩
  rw [hP] at p1 p2
  rw [hQ] at q1 q2
  obtain ⟨p, rfl⟩ : ∃ k : Nat, P = k := ⟨P.toNat, by omega⟩
  obtain ⟨q, rfl⟩ : ∃ k : Nat, Q = k := ⟨Q.toNat, by omega⟩
  clear hva hvb hy0 hy1
  go_enter Try.func5, Try.ntmps5
  go_upto_region 2 with (go_at_call 8; refine (shown_any _).mono ?_; rintro e w1 ⟨rfl, g1⟩)
  clear p1 q1
  go_upto_if 27 with fail
  go_cut [0] (fun c0 w' => ∃ (n : Nat) (ys : List Int), c0 = .slice A n ca ∧ ys.length = n ∧ n ≤ 50 ∧ Hid (IsNums .i8 W (.slice A n ca) ys) ∧ w' = w1)
  case first =>
    by_cases c : 50 < xa.length
    · have d1 : decide ((50 : Int) < (xa.length : Int)) = true := by simp; omega
      have i1 : (50 : Int) ≤ (ca : Int) := by omega
      go_wp2_with fail
      go_meet
      exact ⟨50, xa.take 50, rfl, by simp; omega, by omega, Lib.hid (nums_cut 50 (by omega) HA.out), rfl⟩
    · have d1 : decide ((50 : Int) < (xa.length : Int)) = false := by simp; omega
      go_wp2_with fail
      go_meet
      exact ⟨xa.length, xa, rfl, rfl, by omega, HA, rfl⟩
  case rest =>
  obtain ⟨n, ya, rfl, hn, ln, YA, rfl⟩ := hcut
  obtain ⟨wn, en⟩ : ∃ wn, wn = wc := ⟨_, rfl⟩
  subst en
  clear HA a2 ha1
  go_upto_if 32 with fail
  go_cut [1] (fun c0 w' => ∃ (n : Nat) (ys : List Int), c0 = .slice B n cb ∧ ys.length = n ∧ n ≤ 50 ∧ Hid (IsNums .i8 W (.slice B n cb) ys) ∧ w' = wn)
  case first =>
    by_cases c : 50 < xb.length
    · have d1 : decide ((50 : Int) < (xb.length : Int)) = true := by simp; omega
      have i1 : (50 : Int) ≤ (cb : Int) := by omega
      go_wp2_with fail
      go_meet
      exact ⟨50, xb.take 50, rfl, by simp; omega, by omega, Lib.hid (nums_cut 50 (by omega) HB.out), rfl⟩
    · have d1 : decide ((50 : Int) < (xb.length : Int)) = false := by simp; omega
      go_wp2_with fail
      go_meet
      exact ⟨xb.length, xb, rfl, rfl, by omega, HB, rfl⟩
  case rest =>
  obtain ⟨m, yb, rfl, hm, lm, YB, rfl⟩ := hcut
  obtain ⟨wm, em⟩ : ∃ wm, wm = wc := ⟨_, rfl⟩
  subst em
  clear HB b2 hb1
  have e128 : memN 128 = 128 := by decide
  go_upto_region 7 with (go_at_call 9; refine (new_any _ _).mono ?_; rintro e w2 ⟨B1, R1, q2, rfl, h2, g2⟩; rw [e128] at h2)
  go_upto_region 8 with (go_at_call 9; refine (new_any _ _).mono ?_; rintro e w3 ⟨B2, R2, q3, rfl, h3, g3⟩; rw [e128] at h3)
  have g0 := (Past.refl W).alloc (.cells #[.int .u8 y0, .int .u8 y1] 44)
  have x0 : (W.alloc (.cells #[.int .u8 y0, .int .u8 y1] 44)).cell? ⟨W.heap.size, 0, none⟩ = some (.int .u8 y0) := by rw [box_new rfl]; rfl
  have x1 : (W.alloc (.cells #[.int .u8 y0, .int .u8 y1] 44)).cell? ⟨W.heap.size, 1, none⟩ = some (.int .u8 y1) := by rw [box_new rfl]; rfl
  have gg := g1.trans (g2.trans g3)
  have y0' := cell_past gg x0 (by simp)
  have y1' := cell_past gg x1 (by simp)
  have GG := Lib.hid (g0.trans gg)
  have H2 := Lib.hid (h2.grow g3)
  have H3 := Lib.hid h3
  have AP := Lib.hid (show W.heap.size ≤ R1 ∧ W.heap.size ≤ R2 ∧ R1 < R2 ∧ R1 < B2 ∧ B1 < R2 ∧ R2 < B2 from ⟨Nat.le_trans (g0.trans g1).2.2.1 q2.out.1, Nat.le_trans (g0.trans (g1.trans g2)).2.2.1 q3.out.1, Nat.lt_of_lt_of_le h2.row.lt q3.out.1, Nat.lt_trans (Nat.lt_of_lt_of_le h2.row.lt q3.out.1) q3.out.2, Nat.lt_of_lt_of_le h2.lt q3.out.1, q3.out.2⟩)
  have HL := Lib.hid (show ya.length = n ∧ n ≤ 50 ∧ yb.length = m ∧ m ≤ 50 ∧ p ≤ 63 ∧ q ≤ 63 from ⟨hn, ln, hm, lm, by omega, by omega⟩)
  have z0 := rep_len 128
  have hl1 : n ≤ 1000 := by omega
  have hl2 : m ≤ 1000 := by omega
  have hl3 : p ≤ 1000 := by omega
  have hl4 : q ≤ 1000 := by omega
  clear h2 h3 g0 g1 g2 g3 gg q2 q3 hn ln hm lm x0 x1 e128 z0
  have Z := Lib.hid (rep_len 128)
  have fa := Lib.hid (show p + ya.length ≤ (List.replicate 128 (0 : Int)).length by have := HL.out; rw [rep_len]; omega)
  have fb := Lib.hid (show q + yb.length ≤ (List.replicate 128 (0 : Int)).length by have := HL.out; rw [rep_len]; omega)
  have fab := Lib.hid (show q + yb.length ≤ (putM (List.replicate 128 (0 : Int)) ya p).length by rw [putM_len fa.out]; exact fb.out)
  have fba := Lib.hid (show p + ya.length ≤ (putM (List.replicate 128 (0 : Int)) yb q).length by rw [putM_len fb.out]; exact fa.out)
  have SAME := Lib.hid (apart_same (z := List.replicate 128 0) fa.out fb.out)
  have RDB := Lib.hid (putM_read fab.out)
  have RDA := Lib.hid (putM_read fba.out)
  have LX := Lib.hid ((putM_len fab.out).trans ((putM_len fa.out).trans Z.out))
  have LY := Lib.hid ((putM_len fba.out).trans ((putM_len fb.out).trans Z.out))
  obtain ⟨X, hX⟩ : ∃ X, putM (putM (List.replicate 128 0) ya p) yb q = X := ⟨_, rfl⟩
  obtain ⟨Y, hY⟩ : ∃ Y, putM (putM (List.replicate 128 0) yb q) ya p = Y := ⟨_, rfl⟩
  rw [hX] at SAME RDB LX
  rw [hY] at SAME RDA LY
  have HX := Lib.hid hX
  have HY := Lib.hid hY
  clear hX hY
  have NA3 := Lib.hid (YA.out.grow GG.out)
  go_upto_region 14 with (first
    | (go_at_call 13; with_reducible refine (write_at _ _ _ _ H2.out _ _ _ NA3.out p rfl fa.out).mono ?_; rintro e w4 ⟨rfl, h4, g4⟩; have K1 := Lib.hid h4; have P4 := Lib.hid (g4.past GG.out AP.out.1); have K2 := Lib.hid (H3.out.keep g4 (by have := AP.out; right; omega) (by have := AP.out; right; omega)); have NB4 := Lib.hid (YB.out.grow P4.out); clear h4 g4 H2 H3)
    | (go_at_call 13; with_reducible refine (write_at _ _ _ _ K1.out _ _ _ NB4.out q rfl fab.out).mono ?_; rintro e w5 ⟨rfl, h5, g5⟩; rw [HX.out] at h5; have L1 := Lib.hid h5; have P5 := Lib.hid (g5.past P4.out AP.out.1); have L2 := Lib.hid (K2.out.keep g5 (by have := AP.out; right; omega) (by have := AP.out; right; omega)); have NB5 := Lib.hid (YB.out.grow P5.out); clear h5 g5 K1 K2)
    | (go_at_call 13; with_reducible refine (write_at _ _ _ _ L2.out _ _ _ NB5.out q rfl fb.out).mono ?_; rintro e w6 ⟨rfl, h6, g6⟩; have M2 := Lib.hid h6; have P6 := Lib.hid (g6.past P5.out AP.out.2.1); have M1 := Lib.hid (L1.out.keep g6 (by have := AP.out; left; omega) (by have := AP.out; left; omega)); have NA6 := Lib.hid (YA.out.grow P6.out); clear h6 g6 L1 L2)
    | (go_at_call 13; with_reducible refine (write_at _ _ _ _ M2.out _ _ _ NA6.out p rfl fba.out).mono ?_; rintro e w7 ⟨rfl, h7, g7⟩; rw [HY.out] at h7; have S2 := Lib.hid h7; have P7 := Lib.hid (g7.past P6.out AP.out.2.1); have S1 := Lib.hid (M1.out.keep g7 (by have := AP.out; left; omega) (by have := AP.out; left; omega)); clear h7 g7 M1 M2))
  have rX := Lib.hid (show (X.drop 0).take 128 = X from List.take_of_length_le (by rw [List.drop_zero, LX.out]; exact Nat.le_refl _))
  have rY := Lib.hid (show (Y.drop 0).take 128 = Y from List.take_of_length_le (by rw [List.drop_zero, LY.out]; exact Nat.le_refl _))
  have rL := Lib.hid (show (X.drop q).take m = yb by rw [← HL.out.2.2.1]; exact RDB.out)
  have rF := Lib.hid (show (Y.drop p).take n = ya by rw [← HL.out.1]; exact RDA.out)
  have fX := Lib.hid (show 0 + 128 ≤ X.length by rw [LX.out]; omega)
  have fY := Lib.hid (show 0 + 128 ≤ Y.length by rw [LY.out]; omega)
  have fL := Lib.hid (show q + m ≤ X.length by have := HL.out; rw [LX.out]; omega)
  have fF := Lib.hid (show p + n ≤ Y.length by have := HL.out; rw [LY.out]; omega)
  have WX := Lib.hid S1.out.wf
  have WY := Lib.hid S2.out.wf
  obtain ⟨t, ht⟩ : ∃ t : Bool, t = true ↔ X = Y := ⟨decide (X = Y), by simp⟩
  have HT := Lib.hid ht
  clear ht
  go_upto_region 21 with (first
    | (go_at_call 15; with_reducible refine (read_at _ _ _ _ S1.out _ _ 0 128 zcast c128 fX.out _ rX.out).mono ?_; rintro e w8 ⟨PX, qX, rfl, rwX, gX⟩; have RX := Lib.hid rwX; have GX := Lib.hid gX; have T1 := Lib.hid (S1.out.grow gX); have T2 := Lib.hid (S2.out.grow gX); clear rwX gX qX S1 S2)
    | (go_at_call 15; with_reducible refine (read_at _ _ _ _ T2.out _ _ 0 128 zcast c128 fY.out _ rY.out).mono ?_; rintro e w9 ⟨PY, qY, rfl, rwY, gY⟩; have RY := Lib.hid rwY; have GY := Lib.hid gY; have U1 := Lib.hid (T1.out.grow gY); have U2 := Lib.hid (T2.out.grow gY); have NX := Lib.hid (row_nums (RX.out.past gY) LX.out WX.out (by unfold maxLen; omega)); have NY := Lib.hid (row_nums rwY LY.out WY.out (by unfold maxLen; omega)); clear rwY gY qY T1 T2)
    | (go_at_call 17; with_reducible refine (same_any _ _ _ X Y t NX.out NY.out HT).mono ?_; rintro e wa ⟨rfl, ga⟩; have GA := Lib.hid (Grown.past ga); have V1 := Lib.hid (U1.out.grow GA.out); have V2 := Lib.hid (U2.out.grow GA.out); clear ga U1 U2 NX NY)
    | (go_at_call 15; with_reducible refine (read_at _ _ _ _ V1.out _ _ q m rfl rfl fL.out _ rL.out).mono ?_; rintro e wb ⟨PL, qL, rfl, rwL, gL⟩; have RL := Lib.hid rwL; have GL := Lib.hid gL; have X2 := Lib.hid (V2.out.grow gL); clear rwL gL qL V1 V2)
    | (go_at_call 15; with_reducible refine (read_at _ _ _ _ X2.out _ _ p n rfl rfl fF.out _ rF.out).mono ?_; rintro e wd ⟨PF, qF, rfl, rwF, gF⟩; have GF := Lib.hid gF; have PD := Lib.hid (P7.out.trans (GX.out.trans (GY.out.trans (GA.out.trans (GL.out.trans gF))))); have NL := Lib.hid (row_nums (RL.out.past gF) HL.out.2.2.1 (nums_wf YB.out) (by have := HL.out; unfold maxLen; omega)); have NF := Lib.hid (row_nums rwF HL.out.1 (nums_wf YA.out) (by have := HL.out; unfold maxLen; omega)); have NB := Lib.hid (YB.out.grow PD.out); clear rwF gF qF X2)
    | (go_at_call 17; with_reducible refine (same_any _ _ _ yb yb true NL.out NB.out (Lib.hid ⟨fun _ => rfl, fun _ => rfl⟩)).mono ?_; rintro e we ⟨rfl, ge⟩; have GE := Lib.hid (Grown.past ge); have NF' := Lib.hid (NF.out.grow GE.out); have NA := Lib.hid (YA.out.grow (PD.out.trans GE.out)); clear ge NL NB)
    | (go_at_call 17; with_reducible refine (same_any _ _ _ ya ya true NF'.out NA.out (Lib.hid ⟨fun _ => rfl, fun _ => rfl⟩)).mono ?_; rintro e wf ⟨rfl, gf⟩; have PZ := Lib.hid (PD.out.trans (GE.out.trans (Grown.past gf))); clear gf NF' NA))
  by_cases c1 : p + n ≤ q
  · have d1 : decide ((p : Int) + (n : Int) ≤ (q : Int)) = true := by simp; omega
    obtain rfl : t = true := HT.out.2 (SAME.out (Or.inl (by rw [HL.out.1]; exact c1)))
    go_wp2_with fail
    go_ret
    exact ⟨rfl, PZ.out⟩
  · have d1 : decide ((p : Int) + (n : Int) ≤ (q : Int)) = false := by simp; omega
    by_cases c2 : q + m ≤ p
    · have d2 : decide ((q : Int) + (m : Int) ≤ (p : Int)) = true := by simp; omega
      obtain rfl : t = true := HT.out.2 (SAME.out (Or.inr (by rw [HL.out.2.2.1]; exact c2)))
      go_wp2_with fail
      go_ret
      exact ⟨rfl, PZ.out⟩
    · have d2 : decide ((q : Int) + (m : Int) ≤ (p : Int)) = false := by simp; omega
      go_wp2_with fail
      go_ret
      exact ⟨rfl, PZ.out⟩
end Go.Proofs.Ytlpcppdpodedmaa
