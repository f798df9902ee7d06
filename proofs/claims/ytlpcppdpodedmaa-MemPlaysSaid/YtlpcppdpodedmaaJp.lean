/- MemParts: its walk. -/
import Derived.Test.YtlpcppdpodedmaaJe
import Derived.Test.YtlpcppdpodedmaaKA
namespace Go.Proofs.Ytlpcppdpodedmaa
open Go.ChangeShapes Go.WideShapes Go.ChangeAt Go.RowKit
set_option maxRecDepth 20000
set_option linter.unusedVariables false
theorem zcast : (0 : Int) = ((0 : Nat) : Int) := rfl
theorem read_at (w : World) (B R : Nat) (l : List Int) (h : MemAt w B R l) (a k : Int) (i j : Nat) (ha : a = i) (hk : k = j) (hij : i + j ≤ l.length) (r : List Int) (hr : (l.drop i).take j = r) :
    Calls Try.prog 15 #[.pointer (some ⟨B, 0, none⟩), .int .i64 a, .int .i64 k] w fun e w' => ∃ P : Nat, Hid (w.heap.size ≤ P) ∧ e = .returned (.tuple #[.slice (some ⟨P, 0, none⟩) j j, .int .i64 0]) ∧ Row8 w' P r ∧ Past w w' := by
  subst ha hk hr
  exact read_ok w B R l h i j hij
theorem nums_tail {w : World} {A : Option Addr} {n cap k : Nat} {ys : List Int} (h : IsNums .i8 w (.slice A n cap) ys) (hn : ys.length = n) (hk : k ≤ n) : IsNums .i8 w (.slice (A.map (fun x => x.add k)) (n - k) (cap - k)) (ys.drop k) := by
  obtain ⟨A', cap', e, h2, h3, h4, h5, h6⟩ := h
  simp only [Value.slice.injEq] at e
  obtain ⟨rfl, e2, rfl⟩ := e
  have el : (ys.drop k).length = n - k := by rw [List.length_drop, hn]
  refine ⟨_, cap - k, by rw [el], by omega, by omega, (fun q => by rw [Option.map_eq_none_iff] at q; rw [h4 q, Nat.zero_sub]), fun x hx => h5 x (List.mem_of_mem_drop hx), fun hp => ?_⟩
  obtain ⟨b, off, rfl, hb, hc⟩ := h6 (by omega)
  refine ⟨b, off + k, by simp [add_plain], hb, fun i hi => ?_⟩
  rw [Nat.add_assoc, hc (k + i) (by omega)]
  simp [List.getD]
theorem nums_tail0 {w : World} {A : Option Addr} {n k : Nat} {ys : List Int} (h : IsNums .i8 w (.slice A n k) ys) (hn : ys.length = n) (hk : k ≤ n) : IsNums .i8 w (.slice A 0 0) (ys.drop k) := by
  obtain ⟨A', cap', e, h2, h3, h4, h5, h6⟩ := h
  simp only [Value.slice.injEq] at e
  obtain ⟨rfl, e2, rfl⟩ := e
  have e0 : ys.drop k = [] := List.drop_eq_nil_of_le (by omega)
  rw [e0]
  exact ⟨_, 0, rfl, Nat.le_refl _, Nat.zero_le _, fun _ => rfl, by simp, by simp⟩
theorem row_nums {w : World} {P n : Nat} {l : List Int} (h : Row8 w P l) (hl : l.length = n) (hw : Wf8 l) (hm : n ≤ maxLen) : IsNums .i8 w (.slice (some ⟨P, 0, none⟩) n n) l := by
  subst hl
  exact h.nums hw hm
theorem two_parts {ys zs : List Int} {k : Nat} (hz : zs.length = ys.length) (hk : k ≤ ys.length) : putM (putM zs (ys.drop k) k) (ys.take k) 0 = ys := by
  have e1 : (ys.take k).length = k := by rw [List.length_take]; omega
  have e2 : (zs.take k).length = k := by rw [List.length_take]; omega
  have e3 : zs.drop (k + (ys.drop k).length) = [] := List.drop_eq_nil_of_le (by rw [List.length_drop]; omega)
  unfold putM
  rw [e3, List.append_nil, e1, Nat.zero_add, List.take_zero, List.nil_append]
  have e4 : (zs.take k ++ ys.drop k).drop k = ys.drop k := by
    conv => lhs; arg 1; rw [← e2]
    exact List.drop_left
  rw [e4, List.take_append_drop]
set_option maxHeartbeats 4000000 in
theorem parts_walk (W : World) (v : Value) (xs : List Int) (hv : IsNums .i8 W v xs) (z : Int) (hz : (Lit.int .u8 z).wf = true) : Calls Try.prog 7 #[v, .int .u8 z] W fun e w' => e = .returned (.bool true) ∧ Past W w' := by
  obtain ⟨z1, z2⟩ := wf_u8 hz
  have HV := Lib.hid hv
  obtain ⟨A, cap, rfl, x2, x3, x4⟩ := nums_form hv
  have hl1 : xs.length ≤ 9223372036854775807 := by unfold maxLen at x3; omega
  clear hv hz
  go_enter Try.func7, Try.ntmps7
  go_upto_region 2 with (go_at_call 8; refine (shown_any _).mono ?_; rintro e w1 ⟨rfl, g1⟩)
  go_upto_if 20 with fail
  go_cut [0] (fun c0 w' => ∃ (n : Nat) (ys : List Int), c0 = .slice A n cap ∧ ys.length = n ∧ n ≤ 200 ∧ n ≤ cap ∧ Hid (IsNums .i8 W (.slice A n cap) ys) ∧ w' = w1)
  case first =>
    by_cases c : 200 < xs.length
    · have d1 : decide ((200 : Int) < (xs.length : Int)) = true := by simp; omega
      have i1 : (200 : Int) ≤ (cap : Int) := by omega
      go_wp2_with fail
      go_meet
      exact ⟨200, xs.take 200, rfl, by simp; omega, by omega, by omega, Lib.hid (nums_cut 200 (by omega) HV.out), rfl⟩
    · have d1 : decide ((200 : Int) < (xs.length : Int)) = false := by simp; omega
      go_wp2_with fail
      go_meet
      exact ⟨xs.length, xs, rfl, rfl, by omega, x2, HV, rfl⟩
  case rest =>
    obtain ⟨n, ys, rfl, hn, n200, ncap, HY, rfl⟩ := hcut
    clear HV
    go_upto_region 4 with fail
    go_cut [6] (fun c6 w' => ∃ k : Nat, c6 = .int .i64 k ∧ k ≤ n ∧ w' = wc)
    case first =>
      by_cases c : z ≤ (n : Int)
      · go_wp2_with fail
        go_meet
        exact ⟨z.toNat, congrArg _ (by omega), by omega, rfl⟩
      · go_wp2_with fail
        go_meet
        exact ⟨n, rfl, Nat.le_refl _, rfl⟩
    case rest =>
      obtain ⟨k, rfl, hk, rfl⟩ := hcut
      have en : memN (n : Int) = n := memN_nat (by omega)
      go_upto_region 6 with (go_at_call 9; refine (new_any _ _).mono ?_; rintro e w2 ⟨B1, R1, q2, rfl, h2, g2⟩; rw [en] at h2)
      go_upto_region 7 with (go_at_call 9; refine (new_any _ _).mono ?_; rintro e w3 ⟨B2, R2, q3, rfl, h3, g3⟩; rw [en] at h3)
      have H2 := Lib.hid (h2.grow g3)
      have H3 := Lib.hid h3
      have GG := Lib.hid (g1.trans (g2.trans g3))
      have AP := Lib.hid (show W.heap.size ≤ R1 ∧ W.heap.size ≤ R2 ∧ R1 < R2 ∧ R1 < B2 ∧ B1 < R2 ∧ R2 < B2 from ⟨Nat.le_trans g1.2.2.1 q2.out.1, Nat.le_trans (g1.trans g2).2.2.1 q3.out.1, Nat.lt_of_lt_of_le h2.row.lt q3.out.1, Nat.lt_trans (Nat.lt_of_lt_of_le h2.row.lt q3.out.1) q3.out.2, Nat.lt_of_lt_of_le h2.lt q3.out.1, q3.out.2⟩)
      have HL := Lib.hid (And.intro hn (And.intro n200 hk))
      have i0 : (0 : Int) ≤ (k : Int) := by omega
      have i1 : (k : Int) ≤ (n : Int) := by omega
      have i2 : (k : Int) ≤ (cap : Int) := by omega
      clear h2 h3 g1 g2 g3 q2 q3 hn n200 en hl1 x2 x3 x4
      have fit4 := Lib.hid (show 0 + ys.length ≤ (List.replicate n (0 : Int)).length by have := HL.out; rw [rep_len]; omega)
      have fit5 := Lib.hid (show k + (ys.drop k).length ≤ (List.replicate n (0 : Int)).length by have := HL.out; rw [rep_len, List.length_drop]; omega)
      have fit6 := Lib.hid (show 0 + (ys.take k).length ≤ (putM (List.replicate n (0 : Int)) (ys.drop k) k).length by have := HL.out; rw [putM_len fit5.out, rep_len, List.length_take]; omega)
      have TWO := Lib.hid (two_parts (ys := ys) (zs := List.replicate n 0) (k := k) (by rw [rep_len]; exact HL.out.1.symm) (by have := HL.out; omega))
      have N4 := Lib.hid (HY.out.grow GG.out)
      by_cases hc : cap = k
      · subst hc
        go_upto_region 9 with (first
          | (go_at_call 13; with_reducible refine (write_at _ _ _ _ H2.out _ _ ys N4.out 0 zcast fit4.out).mono ?_; rintro e w4 ⟨rfl, h4, g4⟩; rw [putM_full (by rw [rep_len]; exact HL.out.1)] at h4; have H4 := Lib.hid h4; have G4 := Lib.hid g4; have P4 := Lib.hid (g4.past GG.out AP.out.1); have H3' := Lib.hid (H3.out.keep g4 (by have := AP.out; have := H3.out.ne; have := H3.out.row; right; omega) (by have := AP.out; right; omega)); clear h4 g4)
          | (go_at_call 13; with_reducible (first | refine (write_at _ _ _ _ H3'.out _ _ _ (nums_tail (HY.out.grow P4.out) HL.out.1 HL.out.2.2) cap rfl fit5.out).mono ?_ | refine (write_at _ _ _ _ H3'.out _ _ _ (nums_tail0 (HY.out.grow P4.out) HL.out.1 HL.out.2.2) cap rfl fit5.out).mono ?_); rintro e w5 ⟨rfl, h5, g5⟩; have H5 := Lib.hid h5; have P5 := Lib.hid (g5.past P4.out AP.out.2.1); have H4' := Lib.hid (H4.out.keep g5 (by have := AP.out; left; omega) (by have := AP.out; left; omega)); clear h5 g5)
          | (go_at_call 13; with_reducible refine (write_at _ _ _ _ H5.out _ _ _ (nums_cut cap (by have := HL.out; omega) (HY.out.grow P5.out)) 0 zcast fit6.out).mono ?_; rintro e w6 ⟨rfl, h6, g6⟩; rw [TWO.out] at h6; have M2 := Lib.hid h6; have P6 := Lib.hid (g6.past P5.out AP.out.2.1); have M1 := Lib.hid (H4'.out.keep g6 (by have := AP.out; left; omega) (by have := AP.out; left; omega)); clear h6 g6))
        obtain ⟨m, hm⟩ : ∃ m, m = n - cap := ⟨_, rfl⟩
        have rA := Lib.hid (show (ys.drop 0).take cap = ys.take cap from rfl)
        have rB := Lib.hid (show (ys.drop cap).take m = ys.drop cap by have := HL.out; rw [hm]; exact List.take_of_length_le (by rw [List.length_drop]; omega))
        have rC := Lib.hid (show (ys.drop 0).take n = ys by have := HL.out; exact List.take_of_length_le (by rw [List.drop_zero]; omega))
        have fA := Lib.hid (show 0 + cap ≤ ys.length by have := HL.out; omega)
        have fB := Lib.hid (show cap + m ≤ ys.length by have := HL.out; omega)
        have fC := Lib.hid (show 0 + n ≤ ys.length by have := HL.out; omega)
        have eB := Lib.hid (show (n : Int) - (cap : Int) = (m : Int) by omega)
        have wr1 : wrap64 ((n : Int) - (cap : Int)) = (n : Int) - (cap : Int) := by have := HL.out; simp only [wrap64]; omega
        have lA := Lib.hid (show (ys.take cap).length = cap by have := HL.out; rw [List.length_take]; omega)
        have lB := Lib.hid (show (ys.drop cap).length = m by have := HL.out; rw [List.length_drop]; omega)
        have WY := Lib.hid (nums_wf HY.out)
        have WA := Lib.hid (show Wf8 (ys.take cap) from fun x hx => WY.out x (List.mem_of_mem_take hx))
        have WB := Lib.hid (show Wf8 (ys.drop cap) from fun x hx => WY.out x (List.mem_of_mem_drop hx))
        have HM := Lib.hid hm
        clear hm
        go_upto_region 12 with (first
          | (go_at_call 15; with_reducible refine (read_at _ _ _ _ M1.out _ _ 0 cap zcast rfl fA.out _ rA.out).mono ?_; rintro e w7 ⟨PA, qA, rfl, rwA, gA⟩; have RA := Lib.hid rwA; have GA := Lib.hid gA; have M1' := Lib.hid (M1.out.grow gA); have M2' := Lib.hid (M2.out.grow gA); clear rwA gA qA M1 M2)
          | (go_at_call 15; with_reducible refine (read_at _ _ _ _ M1'.out _ _ cap m rfl eB.out fB.out _ rB.out).mono ?_; rintro e w8 ⟨PB, qB, rfl, rwB, gB⟩; have RB := Lib.hid rwB; have GB := Lib.hid gB; have M2'' := Lib.hid (M2'.out.grow gB); clear rwB gB qB M1')
          | (go_at_call 15; with_reducible refine (read_at _ _ _ _ M2''.out _ _ 0 n zcast rfl fC.out _ rC.out).mono ?_; rintro e w9 ⟨PC, qC, rfl, rwC, gC⟩; have RC := Lib.hid rwC; have GC := Lib.hid gC; clear rwC gC qC M2''))
        have P9 := Lib.hid (P6.out.trans (GA.out.trans (GB.out.trans GC.out)))
        have NA := Lib.hid (row_nums ((RA.out.past GB.out).past GC.out) lA.out WA.out (by have := HL.out; unfold maxLen; omega))
        have NB := Lib.hid (row_nums (RB.out.past GC.out) lB.out WB.out (by have := HL.out; have := HM.out; unfold maxLen; omega))
        have NC := Lib.hid (row_nums RC.out HL.out.1 WY.out (by have := HL.out; unfold maxLen; omega))
        go_wp2_with (first
          | (at_builtin; refine wpList_append_8 rfl (.tmp 90) (.tmp 91) rfl w9.heap.size (.slice (some ⟨w9.heap.size, 0, none⟩) 0 0) [] rfl (own8_lit w9) (ys.take cap) (some ⟨PA, 0, none⟩) cap cap rfl (NA.out.grow ((Past.refl w9).alloc _)) (by have := HL.out; rw [lA.out, List.length_nil]; omega) (by simp) ?_; intro v1 wA O1 G1; rw [List.nil_append] at O1; have OA := Lib.hid O1; have PA1 := Lib.hid (show Past w9 wA from ((Past.refl w9).alloc _).grownBy G1 (fun q hq => by simp only [Value.ownBlock, Option.some.injEq] at hq; omega)); clear O1 G1)
          | (at_builtin; refine wpList_append_8 rfl (.tmp 92) (.tmp 93) rfl w9.heap.size v1 (ys.take cap) rfl OA.out (ys.drop cap) (some ⟨PB, 0, none⟩) m m rfl (NB.out.grow PA1.out) (by have := HL.out; have := HM.out; rw [lA.out, lB.out]; omega) PA1.out.2.2.1 ?_; intro v2 wB O2 G2; rw [List.take_append_drop] at O2; have OB := Lib.hid O2; have PB1 := Lib.hid (show Past w9 wB from PA1.out.grownBy G2 (fun q hq => OA.out.lt hq)); clear O2 G2)
          | (go_at_call 17; with_reducible refine (same_any _ _ _ ys ys true (OB.out.nums WY.out) (HY.out.grow (P9.out.trans PB1.out)) (Lib.hid ⟨fun _ => rfl, fun _ => rfl⟩)).mono ?_; rintro e wC ⟨rfl, gD⟩; have GD := Lib.hid (Grown.past gD); clear gD)
          | (go_at_call 17; with_reducible refine (same_any _ _ _ ys ys true (NC.out.grow (PB1.out.trans GD.out)) (HY.out.grow (P9.out.trans (PB1.out.trans GD.out))) (Lib.hid ⟨fun _ => rfl, fun _ => rfl⟩)).mono ?_; rintro e wD ⟨rfl, gE⟩; have GE := Lib.hid (Grown.past gE); clear gE))
        go_ret
        exact ⟨rfl, P9.out.trans (PB1.out.trans (GD.out.trans GE.out))⟩
      · have hc' : ¬ (cap : Int) = (k : Int) := by omega
        go_upto_region 9 with (first
          | (go_at_call 13; with_reducible refine (write_at _ _ _ _ H2.out _ _ ys N4.out 0 zcast fit4.out).mono ?_; rintro e w4 ⟨rfl, h4, g4⟩; rw [putM_full (by rw [rep_len]; exact HL.out.1)] at h4; have H4 := Lib.hid h4; have G4 := Lib.hid g4; have P4 := Lib.hid (g4.past GG.out AP.out.1); have H3' := Lib.hid (H3.out.keep g4 (by have := AP.out; have := H3.out.ne; have := H3.out.row; right; omega) (by have := AP.out; right; omega)); clear h4 g4)
          | (go_at_call 13; with_reducible (first | refine (write_at _ _ _ _ H3'.out _ _ _ (nums_tail (HY.out.grow P4.out) HL.out.1 HL.out.2.2) k rfl fit5.out).mono ?_ | refine (write_at _ _ _ _ H3'.out _ _ _ (nums_tail0 (HY.out.grow P4.out) HL.out.1 HL.out.2.2) k rfl fit5.out).mono ?_); rintro e w5 ⟨rfl, h5, g5⟩; have H5 := Lib.hid h5; have P5 := Lib.hid (g5.past P4.out AP.out.2.1); have H4' := Lib.hid (H4.out.keep g5 (by have := AP.out; left; omega) (by have := AP.out; left; omega)); clear h5 g5)
          | (go_at_call 13; with_reducible refine (write_at _ _ _ _ H5.out _ _ _ (nums_cut k (by have := HL.out; omega) (HY.out.grow P5.out)) 0 zcast fit6.out).mono ?_; rintro e w6 ⟨rfl, h6, g6⟩; rw [TWO.out] at h6; have M2 := Lib.hid h6; have P6 := Lib.hid (g6.past P5.out AP.out.2.1); have M1 := Lib.hid (H4'.out.keep g6 (by have := AP.out; left; omega) (by have := AP.out; left; omega)); clear h6 g6))
        obtain ⟨m, hm⟩ : ∃ m, m = n - k := ⟨_, rfl⟩
        have rA := Lib.hid (show (ys.drop 0).take k = ys.take k from rfl)
        have rB := Lib.hid (show (ys.drop k).take m = ys.drop k by have := HL.out; rw [hm]; exact List.take_of_length_le (by rw [List.length_drop]; omega))
        have rC := Lib.hid (show (ys.drop 0).take n = ys by have := HL.out; exact List.take_of_length_le (by rw [List.drop_zero]; omega))
        have fA := Lib.hid (show 0 + k ≤ ys.length by have := HL.out; omega)
        have fB := Lib.hid (show k + m ≤ ys.length by have := HL.out; omega)
        have fC := Lib.hid (show 0 + n ≤ ys.length by have := HL.out; omega)
        have eB := Lib.hid (show (n : Int) - (k : Int) = (m : Int) by omega)
        have wr1 : wrap64 ((n : Int) - (k : Int)) = (n : Int) - (k : Int) := by have := HL.out; simp only [wrap64]; omega
        have lA := Lib.hid (show (ys.take k).length = k by have := HL.out; rw [List.length_take]; omega)
        have lB := Lib.hid (show (ys.drop k).length = m by have := HL.out; rw [List.length_drop]; omega)
        have WY := Lib.hid (nums_wf HY.out)
        have WA := Lib.hid (show Wf8 (ys.take k) from fun x hx => WY.out x (List.mem_of_mem_take hx))
        have WB := Lib.hid (show Wf8 (ys.drop k) from fun x hx => WY.out x (List.mem_of_mem_drop hx))
        have HM := Lib.hid hm
        clear hm
        go_upto_region 12 with (first
          | (go_at_call 15; with_reducible refine (read_at _ _ _ _ M1.out _ _ 0 k zcast rfl fA.out _ rA.out).mono ?_; rintro e w7 ⟨PA, qA, rfl, rwA, gA⟩; have RA := Lib.hid rwA; have GA := Lib.hid gA; have M1' := Lib.hid (M1.out.grow gA); have M2' := Lib.hid (M2.out.grow gA); clear rwA gA qA M1 M2)
          | (go_at_call 15; with_reducible refine (read_at _ _ _ _ M1'.out _ _ k m rfl eB.out fB.out _ rB.out).mono ?_; rintro e w8 ⟨PB, qB, rfl, rwB, gB⟩; have RB := Lib.hid rwB; have GB := Lib.hid gB; have M2'' := Lib.hid (M2'.out.grow gB); clear rwB gB qB M1')
          | (go_at_call 15; with_reducible refine (read_at _ _ _ _ M2''.out _ _ 0 n zcast rfl fC.out _ rC.out).mono ?_; rintro e w9 ⟨PC, qC, rfl, rwC, gC⟩; have RC := Lib.hid rwC; have GC := Lib.hid gC; clear rwC gC qC M2''))
        have P9 := Lib.hid (P6.out.trans (GA.out.trans (GB.out.trans GC.out)))
        have NA := Lib.hid (row_nums ((RA.out.past GB.out).past GC.out) lA.out WA.out (by have := HL.out; unfold maxLen; omega))
        have NB := Lib.hid (row_nums (RB.out.past GC.out) lB.out WB.out (by have := HL.out; have := HM.out; unfold maxLen; omega))
        have NC := Lib.hid (row_nums RC.out HL.out.1 WY.out (by have := HL.out; unfold maxLen; omega))
        go_wp2_with (first
          | (at_builtin; refine wpList_append_8 rfl (.tmp 90) (.tmp 91) rfl w9.heap.size (.slice (some ⟨w9.heap.size, 0, none⟩) 0 0) [] rfl (own8_lit w9) (ys.take k) (some ⟨PA, 0, none⟩) k k rfl (NA.out.grow ((Past.refl w9).alloc _)) (by have := HL.out; rw [lA.out, List.length_nil]; omega) (by simp) ?_; intro v1 wA O1 G1; rw [List.nil_append] at O1; have OA := Lib.hid O1; have PA1 := Lib.hid (show Past w9 wA from ((Past.refl w9).alloc _).grownBy G1 (fun q hq => by simp only [Value.ownBlock, Option.some.injEq] at hq; omega)); clear O1 G1)
          | (at_builtin; refine wpList_append_8 rfl (.tmp 92) (.tmp 93) rfl w9.heap.size v1 (ys.take k) rfl OA.out (ys.drop k) (some ⟨PB, 0, none⟩) m m rfl (NB.out.grow PA1.out) (by have := HL.out; have := HM.out; rw [lA.out, lB.out]; omega) PA1.out.2.2.1 ?_; intro v2 wB O2 G2; rw [List.take_append_drop] at O2; have OB := Lib.hid O2; have PB1 := Lib.hid (show Past w9 wB from PA1.out.grownBy G2 (fun q hq => OA.out.lt hq)); clear O2 G2)
          | (go_at_call 17; with_reducible refine (same_any _ _ _ ys ys true (OB.out.nums WY.out) (HY.out.grow (P9.out.trans PB1.out)) (Lib.hid ⟨fun _ => rfl, fun _ => rfl⟩)).mono ?_; rintro e wC ⟨rfl, gD⟩; have GD := Lib.hid (Grown.past gD); clear gD)
          | (go_at_call 17; with_reducible refine (same_any _ _ _ ys ys true (NC.out.grow (PB1.out.trans GD.out)) (HY.out.grow (P9.out.trans (PB1.out.trans GD.out))) (Lib.hid ⟨fun _ => rfl, fun _ => rfl⟩)).mono ?_; rintro e wD ⟨rfl, gE⟩; have GE := Lib.hid (Grown.past gE); clear gE))
        go_ret
        exact ⟨rfl, P9.out.trans (PB1.out.trans (GD.out.trans GE.out))⟩
end Go.Proofs.Ytlpcppdpodedmaa
