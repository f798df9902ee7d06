/- IsaPuts: the walk. -/
import Derived.Test.YtlnlodbjkicgoaaI19
namespace Go.Proofs.Ytlnlodbjkicgoaa
open Go.ChangeShapes Go.WideShapes Go.ChangeAt Go.RowKit
set_option maxRecDepth 20000
set_option linter.unusedVariables false
set_option linter.unusedSimpArgs false

theorem few_any (lv : Value) (l : List (List Int)) (W : World) (h : IsCmds W lv l) : Calls Try.prog 10 #[lv] W fun e w' => ∃ v, e = .returned v ∧ IsCmds W v (l.take 4100) ∧ W = w' := by
  have HC := Lib.hid h
  obtain ⟨A, cap, rfl, h2, h3, h4⟩ := h.form
  have H4 := Lib.hid h4
  clear h h4
  by_cases c : 4100 < l.length
  · have hc := Lib.hid (HC.out.cut 4100 (by omega))
    obtain ⟨b, off, rfl, _⟩ := HC.out.at 0 (by omega)
    go_enter Try.func10, Try.ntmps10
    go_wp2_with fail
    go_ret
    exact ⟨_, rfl, hc.out, rfl⟩
  · have e : l.take 4100 = l := List.take_of_length_le (by omega)
    rw [e]
    go_enter Try.func10, Try.ntmps10
    go_wp2_with fail
    go_ret
    exact ⟨_, rfl, HC.out, rfl⟩
def JP (m s : Int) (i : Nat) (x : Value) (w : World) : Prop := match i with
  | 4 => x = .int .i64 m
  | 9 => x = .int .i64 m
  | 16 => x = .int .i64 s
  | 21 => x = .int .i64 s
  | _ => True
theorem JP_past {m s : Int} {i : Nat} {x : Value} {w w' : World} (p : Past w w') (h : JP m s i x w) : JP m s i x w' := by
  unfold JP at *
  split at h <;> exact h

set_option maxHeartbeats 600000 in
theorem puts_walk (W : World) (lv : Value) (l0 : List (List Int)) (h0 : IsCmds W lv l0) : Calls Try.prog 3 #[lv] W fun e w' => e = .returned (.bool true) ∧ Past W w' := by
  have HU0 := Lib.hid h0
  clear h0
  go_enter Try.func3, Try.ntmps3
  go_wp2_with fail
  refine (shown_any W).mono ?_
  rintro e w1 ⟨rfl, p1⟩
  have P1 := Lib.hid p1
  have FE := Lib.hid (few_any lv l0 w1 (HU0.out.grow p1))
  clear p1 HU0
  go_wp2_with fail
  refine FE.out.mono ?_
  rintro e wx ⟨v2, rfl, hu, rfl⟩
  obtain ⟨l, hl⟩ : ∃ l, l0.take 4100 = l := ⟨_, rfl⟩
  have hl2 : l.length ≤ 4100 := by rw [← hl, List.length_take]; omega
  rw [hl] at hu
  clear hl FE
  obtain ⟨A, ca, rfl, a2, a3, _⟩ := hu.form
  have WL := Lib.hid hu.wf
  have HU := Lib.hid hu
  have hm : l.length ≤ 9223372036854775807 := by omega
  clear hu
  have PU := Lib.hid (put_any _ l w1 HU.out)
  unfold PutPost at PU
  go_wp2_with fail
  refine PU.out.mono ?_
  rintro e w2 ⟨xv, rfl, ox, p2⟩
  have bl : bytesP (putL l) := by unfold putL; split; exact putB_bytes l; intro c hc; simp at hc
  have P2 := Lib.hid (P1.out.trans p2)
  have HU2 := Lib.hid (HU.out.grow p2)
  have X2 := Lib.hid (ownB_nums ox bl)
  have RU := Lib.hid (rPut_any _ l w2 HU2.out)
  unfold RPutPost2 at RU
  clear ox p2 P1 HU PU
  go_wp2_with fail
  refine RU.out.mono ?_
  rintro e w3 ⟨yv, rfl, oy, p3⟩
  have P3 := Lib.hid (P2.out.trans p3)
  have HU3 := Lib.hid (HU2.out.grow p3)
  have X3 := Lib.hid (X2.out.grow p3)
  have Y3 := Lib.hid oy
  clear oy p3 P2 HU2 X2 RU
  obtain ⟨XA, xc, rfl, x2, x3, x4⟩ := nums_form X3.out
  obtain ⟨YA, yc, rfl, y2, y3, y4⟩ := nums_form Y3.out
  have X4 := Lib.hid x4
  have Y4 := Lib.hid y4
  obtain ⟨Z, hZ⟩ : ∃ Z, putL l = Z := ⟨_, rfl⟩
  obtain ⟨E, hE⟩ : ∃ E, putE l = E := ⟨_, rfl⟩
  rw [hZ] at X3 Y3 x2 y2 bl
  rw [hZ, hE]
  clear x4 y4 hZ hE
  go_wp2_with fail
  go_loopw [2, 8] (fun s i wr => ∃ n : Nat, n ≤ l.length ∧ n ≤ 50 ∧ i = .int .i64 n ∧ s = .bool false ∧ Hid (Past w3 wr)) (fun _ i _ => 50 - (intOf i).toNat)
  case atStart => exact ⟨0, by omega, by omega, rfl, rfl, Lib.hid (Past.refl _)⟩
  case round =>
    obtain ⟨n, hnl, hn2, rfl, rfl, R⟩ := hrel
    have EXIT : True := trivial
    by_cases h : n < l.length
    · by_cases h2 : n < 50
      · obtain ⟨b, off, rfl, hbl, hr⟩ := (HU3.out.grow R.out).at n h
        have wc := wfC_at WL.out h
        obtain ⟨c, hc⟩ : ∃ c, l.getD n [] = c := ⟨_, rfl⟩
        rw [hc] at hr wc
        have WC := Lib.hid wc
        have RA := Lib.hid (fun w (g : Past wr w) => (fun j v hv => (g.cell hbl).trans (hr j v hv) : w.rangeAt b (off + n * 14) (cellC c)))
        have M1 := Lib.hid (fun w => may_any c WC.out.1 w)
        have M2 := Lib.hid (fun w => rmay_any c WC.out.1 w)
        have S1 := Lib.hid (fun w => steps_any c WC.out.1 w)
        have S2 := Lib.hid (fun w => rsteps_any c WC.out.1 w)
        obtain ⟨m, hm'⟩ : ∃ m, mayE c = m := ⟨_, rfl⟩
        obtain ⟨s, hs'⟩ : ∃ s, stepsD c = s := ⟨_, rfl⟩
        rw [hm'] at M1 M2
        rw [hs'] at S1 S2
        clear hr wc hc hm' hs'
        have d50 : decide ((n : Int) < 50) = true := decide_eq_true (by omega)
        go_upto_region 8 with fail
        refine wp_region_past wr [(32, ?va32), (33, ?va33), (34, ?va34), (35, ?va35), (37, ?va37), (38, ?va38), (39, ?va39), (40, ?va40), (42, ?va42), (43, ?va43), (44, ?va44), (45, ?va45), (46, ?va46), (47, ?va47), (49, ?va49), (50, ?va50), (51, ?va51), (52, ?va52), (54, ?va54), (55, ?va55)] [(4, 36), (9, 41), (16, 48), (21, 53)] (JP m s) [(10, [4, 9]), (22, [16, 21])] [] (fun i x w w' p h => JP_past p h) (by kernel_rfl) (by kernel_rfl) (by kernel_rfl) ?da (Past.refl wr) ?ea ?la ?na
        case da =>
          intro q hq
          simp only [List.mem_cons, List.not_mem_nil, or_false] at hq
          rcases hq with rfl | rfl | rfl | rfl <;> simp
        case ea =>
          simp only [latesV, List.map_cons, List.map_nil, List.cons_append, List.nil_append, List.append_nil, fillA, Act.put, List.setIfInBounds_toArray, List.set_cons_zero, List.set_cons_succ]
          iterate 3 (refine early_cons (fun v w hw hd K hK => ?_) ?_; focus (go_simp; (try simp only [Act.put, List.setIfInBounds_toArray, List.set_cons_zero, List.set_cons_succ]); exact hK))
          refine early_cons (fun v w hw hd K hK => ?_) ?_
          focus
            rw [if_pos (by rfl)]
            refine wp_load_mid 32 (.tmp 34) rfl b (off + n * 14) rfl (cellC c) _ (RA.out w hw) Try.underlying32 rfl (by rw [C14, cellC_len, WC.out.1]) ?_
            (try simp only [Act.put, List.setIfInBounds_toArray, List.set_cons_zero, List.set_cons_succ])
            exact hK
          refine early_skip rfl ?_
          iterate 3 (refine early_cons (fun v w hw hd K hK => ?_) ?_; focus (go_simp; (try simp only [Act.put, List.setIfInBounds_toArray, List.set_cons_zero, List.set_cons_succ]); exact hK))
          refine early_cons (fun v w hw hd K hK => ?_) ?_
          focus
            rw [if_pos (by rfl)]
            refine wp_load_mid 32 (.tmp 39) rfl b (off + n * 14) rfl (cellC c) _ (RA.out w hw) Try.underlying32 rfl (by rw [C14, cellC_len, WC.out.1]) ?_
            (try simp only [Act.put, List.setIfInBounds_toArray, List.set_cons_zero, List.set_cons_succ])
            exact hK
          refine early_skip rfl ?_
          refine early_cons (fun v w hw hd K hK => ?_) ?_
          focus
            have e4 : v 4 = .int .i64 m := hd 4 rfl
            have e9 : v 9 = .int .i64 m := hd 9 rfl
            rw [e4, e9] at hK ⊢
            go_simp
            (try simp only [Act.put, List.setIfInBounds_toArray, List.set_cons_zero, List.set_cons_succ])
            exact hK
          iterate 4 (refine early_cons (fun v w hw hd K hK => ?_) ?_; focus (go_simp; (try simp only [Act.put, List.setIfInBounds_toArray, List.set_cons_zero, List.set_cons_succ]); exact hK))
          refine early_cons (fun v w hw hd K hK => ?_) ?_
          focus
            rw [if_pos (by rfl)]
            refine wp_load_mid 32 (.tmp 46) rfl b (off + n * 14) rfl (cellC c) _ (RA.out w hw) Try.underlying32 rfl (by rw [C14, cellC_len, WC.out.1]) ?_
            (try simp only [Act.put, List.setIfInBounds_toArray, List.set_cons_zero, List.set_cons_succ])
            exact hK
          refine early_skip rfl ?_
          iterate 3 (refine early_cons (fun v w hw hd K hK => ?_) ?_; focus (go_simp; (try simp only [Act.put, List.setIfInBounds_toArray, List.set_cons_zero, List.set_cons_succ]); exact hK))
          refine early_cons (fun v w hw hd K hK => ?_) ?_
          focus
            rw [if_pos (by rfl)]
            refine wp_load_mid 32 (.tmp 51) rfl b (off + n * 14) rfl (cellC c) _ (RA.out w hw) Try.underlying32 rfl (by rw [C14, cellC_len, WC.out.1]) ?_
            (try simp only [Act.put, List.setIfInBounds_toArray, List.set_cons_zero, List.set_cons_succ])
            exact hK
          refine early_skip rfl ?_
          refine early_cons (fun v w hw hd K hK => ?_) ?_
          focus
            have e4 : v 16 = .int .i64 s := hd 16 rfl
            have e9 : v 21 = .int .i64 s := hd 21 rfl
            rw [e4, e9] at hK ⊢
            go_simp
            (try simp only [Act.put, List.setIfInBounds_toArray, List.set_cons_zero, List.set_cons_succ])
            exact hK
          (refine early_cons (fun v w hw hd K hK => ?_) ?_; focus (go_simp; (try simp only [Act.put, List.setIfInBounds_toArray, List.set_cons_zero, List.set_cons_succ]); exact hK))
          exact True.intro
        case la =>
          simp only [latesV, List.map_cons, List.map_nil, List.cons_append, List.nil_append, List.append_nil, fillA, Act.put, List.setIfInBounds_toArray, List.set_cons_zero, List.set_cons_succ]
          refine lateP_skip rfl ?_
          refine lateP_skip rfl ?_
          refine lateP_skip rfl ?_
          refine lateP_skip rfl ?_
          refine lateP_cons (fun v w hw hd => ⟨rfl, fun K hK => ?_⟩) ?_
          focus
            (try simp only [Act.put, List.setIfInBounds_toArray, List.set_cons_zero, List.set_cons_succ])
            go_simp
            refine (M1.out w).mono ?_
            rintro e w5 ⟨rfl, g⟩
            exact hK _ _ g (show JP m s 4 _ w5 from rfl)
          refine lateP_skip rfl ?_
          refine lateP_skip rfl ?_
          refine lateP_skip rfl ?_
          refine lateP_skip rfl ?_
          refine lateP_cons (fun v w hw hd => ⟨rfl, fun K hK => ?_⟩) ?_
          focus
            (try simp only [Act.put, List.setIfInBounds_toArray, List.set_cons_zero, List.set_cons_succ])
            go_simp
            refine (M2.out w).mono ?_
            rintro e w5 ⟨rfl, g⟩
            exact hK _ _ g (show JP m s 9 _ w5 from rfl)
          refine lateP_skip rfl ?_
          refine lateP_skip rfl ?_
          refine lateP_skip rfl ?_
          refine lateP_skip rfl ?_
          refine lateP_skip rfl ?_
          refine lateP_skip rfl ?_
          refine lateP_cons (fun v w hw hd => ⟨rfl, fun K hK => ?_⟩) ?_
          focus
            (try simp only [Act.put, List.setIfInBounds_toArray, List.set_cons_zero, List.set_cons_succ])
            go_simp
            refine (S1.out w).mono ?_
            rintro e w5 ⟨rfl, g⟩
            exact hK _ _ g (show JP m s 16 _ w5 from rfl)
          refine lateP_skip rfl ?_
          refine lateP_skip rfl ?_
          refine lateP_skip rfl ?_
          refine lateP_skip rfl ?_
          refine lateP_cons (fun v w hw hd => ⟨rfl, fun K hK => ?_⟩) ?_
          focus
            (try simp only [Act.put, List.setIfInBounds_toArray, List.set_cons_zero, List.set_cons_succ])
            go_simp
            refine (S2.out w).mono ?_
            rintro e w5 ⟨rfl, g⟩
            exact hK _ _ g (show JP m s 21 _ w5 from rfl)
          refine lateP_skip rfl ?_
          refine lateP_skip rfl ?_
          exact True.intro
        case na =>
          intro v w8 hw hd
          simp only [latesV, List.map_cons, List.map_nil, List.cons_append, List.nil_append, List.append_nil, fillA, Act.put, List.setIfInBounds_toArray, List.set_cons_zero, List.set_cons_succ]
          go_wp2_with fail
          go_roundw
          case rel => exact ⟨n + 1, by omega, by omega, by go_num, rfl, Lib.hid (R.out.trans hw)⟩
          case measure => simp [intOf]; omega
      · obtain rfl : n = 50 := by omega
        have s1 := str_of_nums (X3.out.grow R.out)
        have s2 := str_of_nums (Y3.out.grow R.out)
        obtain ⟨SZ, hSZ⟩ : ∃ q, strOfNums Z = q := ⟨_, rfl⟩
        rw [hSZ] at s1 s2
        clear hSZ
        go_wp2_with fail
        go_ret
        exact ⟨rfl, P3.out.trans R.out⟩
    · have s1 := str_of_nums (X3.out.grow R.out)
      have s2 := str_of_nums (Y3.out.grow R.out)
      obtain ⟨SZ, hSZ⟩ : ∃ q, strOfNums Z = q := ⟨_, rfl⟩
      rw [hSZ] at s1 s2
      clear hSZ
      go_wp2_with fail
      go_ret
      exact ⟨rfl, P3.out.trans R.out⟩
end Go.Proofs.Ytlnlodbjkicgoaa
