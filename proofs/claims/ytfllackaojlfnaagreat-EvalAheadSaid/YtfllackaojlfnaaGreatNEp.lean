/- EvalAhead: the walk. -/
import Derived.Test.YtfllackaojlfnaaGreatNEf
namespace Go.Proofs.YtfllackaojlfnaaGreat
open Go.ChangeShapes Go.WideShapes Go.ChangeAt Go.RowKit
set_option maxRecDepth 20000
set_option linter.unusedVariables false
set_option linter.unusedSimpArgs false

set_option maxHeartbeats 8000000 in
theorem ahead_walk (W : World) (gv : Value) (g0 : GraphD) (hg0 : IsGraph W gv g0) (lv : Value) (ls : List Int) (hl0 : IsNums .i8 W lv ls) : Calls Tryz.prog 3 #[gv, lv] W fun e w' => e = .returned (.bool true) ∧ Past W w' := by
  have HG0 := Lib.hid hg0
  have HLS := Lib.hid hl0
  obtain ⟨Lb, lc, rfl, _⟩ := hl0
  obtain ⟨iv0, nv0, ov0, rfl, hi0, hn0, ho0⟩ := hg0
  obtain ⟨B1, d1, rfl, _, _, _, _, _⟩ := hi0
  obtain ⟨B2, d2, rfl, _, _, _, _, _⟩ := hn0
  obtain ⟨B3, d3, rfl, _, _, _, _, _⟩ := ho0
  have LS := Lib.hid (fun w (p : Past W w) => less_any g0 _ w (HG0.out.grow p))
  have L6 : (lessD g0).ins.length ≤ 6 := by simp [lessD]; omega
  have L14 : (lessD g0).nodes.length ≤ 14 := by simp [lessD]; omega
  have LO6 : (lessD g0).outs.length ≤ 6 := by simp [lessD]; omega
  obtain ⟨g, hg⟩ : ∃ g, lessD g0 = g := ⟨_, rfl⟩
  have CU : Hid (Cut g) := Lib.hid (hg ▸ cut_lessD g0)
  rw [hg] at LS L6 L14 LO6
  clear hg
  go_enter Tryz.func3, Tryz.ntmps3
  go_upto_region 1 with fail
  refine opq (fun w' => (∀ o : Nat, w'.cell? ⟨W.heap.size, o, none⟩ = (#[.slice B1 g0.ins.length d1, .slice B2 g0.nodes.length d2, .slice B3 g0.outs.length d3] : Array Value)[o]?) ∧ (∀ o : Nat, w'.frozen? ⟨W.heap.size, o, none⟩ = false) ∧ Past W w' ∧ W.heap.size + 1 ≤ w'.heap.size) kKeep ?_
  rintro w1 ⟨b1, f1, p1, s1⟩
  go_wp2_with fail
  refine (shown6 _).mono ?_
  rintro e w2 ⟨rfl, gq⟩
  obtain ⟨b2, f2, p2, s2⟩ : (∀ o : Nat, w2.cell? ⟨W.heap.size, o, none⟩ = (#[.slice B1 g0.ins.length d1, .slice B2 g0.nodes.length d2, .slice B3 g0.outs.length d3] : Array Value)[o]?) ∧ (∀ o : Nat, w2.frozen? ⟨W.heap.size, o, none⟩ = false) ∧ Past W w2 ∧ W.heap.size + 1 ≤ w2.heap.size := by (exact kKeep)
  clear b1 f1 p1 s1 gq
  go_wp2_with fail
  refine (LS.out _ p2).mono ?_
  rintro e w3 ⟨gw, rfl, HG, q3⟩
  obtain ⟨iv, nv, ov, rfl, hi, hn, ho⟩ := HG
  have HI := Lib.hid hi
  have HN := Lib.hid hn
  have HO := Lib.hid ho
  obtain ⟨A1, c1, rfl, i1, i2, _, _, i5⟩ := hi
  obtain ⟨A2, c2, rfl, n1, n2, _, _, n5⟩ := hn
  obtain ⟨A3, c3, rfl, o1, o2, _, _, o5⟩ := ho
  obtain ⟨b3, f3, s3⟩ : (∀ o : Nat, w3.cell? ⟨W.heap.size, o, none⟩ = (#[.slice B1 g0.ins.length d1, .slice B2 g0.nodes.length d2, .slice B3 g0.outs.length d3] : Array Value)[o]?) ∧ (∀ o : Nat, w3.frozen? ⟨W.heap.size, o, none⟩ = false) ∧ W.heap.size + 1 ≤ w3.heap.size := by (exact kKeep)
  have q4 : Past W w3 := p2.trans q3
  clear b2 f2 p2 s2 q3 i1 i2 n1 n2 o1 o2 i5 n5 o5
  go_upto_region 3 with fail
  refine opq (fun w' => ((∀ o : Nat, w'.cell? ⟨W.heap.size, o, none⟩ = (#[.slice A1 g.ins.length c1, .slice A2 g.nodes.length c2, .slice A3 g.outs.length c3] : Array Value)[o]?) ∧ (∀ o : Nat, w'.frozen? ⟨W.heap.size, o, none⟩ = false) ∧ Past W w' ∧ W.heap.size + 1 ≤ w'.heap.size) ∧ IsVals w' (.slice A1 g.ins.length c1) g.ins ∧ IsNodes w' (.slice A2 g.nodes.length c2) g.nodes ∧ IsNums .i64 w' (.slice A3 g.outs.length c3) g.outs) ⟨⟨box_set3 b3, by (exact kKeep), by (exact kKeep), by (exact kKeep)⟩, vals_save HI.out (noInt_box b3) ((((Save.refl _ _).set _ _).set _ _).set _ _), nodes_save HN.out (noInt_box b3) ((((Save.refl _ _).set _ _).set _ _).set _ _), nums_save HO.out (noInt_box b3) ((((Save.refl _ _).set _ _).set _ _).set _ _)⟩ ?_
  rintro w4 ⟨⟨b4, f4, p4, s4⟩, hi, hn, ho⟩
  have HG : Hid (IsGraph w4 (.agg #[.slice A1 g.ins.length c1, .slice A2 g.nodes.length c2, .slice A3 g.outs.length c3]) g) := Lib.hid ⟨_, _, _, rfl, hi, hn, ho⟩
  have HL4 := Lib.hid (HLS.out.grow p4)
  clear b3 f3 s3 q4 HI HN HO hi hn ho HG0 LS
  have RV := Lib.hid (fun (w : World) (p : Past w4 w) => rvalues_any g _ w (HG.out.grow p) CU.out)
  go_wp2_with fail
  refine (RV.out _ (Past.refl _)).mono ?_
  rintro e w5 ⟨v5, q, rfl, hq, hv5, q5⟩
  have b5 := box_past q5 b4 (by omega)
  have p5 : Past W w5 := p4.trans q5
  have s5 : W.heap.size + 1 ≤ w5.heap.size := by have := q5.2.2.1; omega
  by_cases hE : valuesE g = 0
  rotate_left
  · have e1 : (q != 0) = true := by
      have : q ≠ 0 := fun f => hE (hq.1 f)
      simpa using this
    clear hq hv5 hE
    go_wp2_with fail
    go_ret
    exact ⟨rfl, p5⟩
  have e1 : (q != 0) = false := by simp [hq.2 hE]
  have HV5 := Lib.hid (hv5 hE)
  have E0 := Lib.hid hE
  obtain ⟨AV, cV, rfl, _⟩ := hv5 hE
  have ML := Lib.hid (makes_facts hE)
  have BG := Lib.hid (begins_ok (values_ok hE).1)
  have f5 := free_past q5 f4 (by omega)
  clear hq hv5 hE b4 f4 p4 s4 RV
  have FI := Lib.hid (fun (w : World) (p : Past w4 w) => filled_rows g _ _ ls w (HG.out.grow p) (HL4.out.grow p) (by omega))
  go_wp2_with fail
  refine (FI.out _ q5).mono ?_
  rintro e w6 ⟨v6, rfl, ⟨us6, oc6, oa6⟩, q6⟩
  obtain ⟨ins, hins⟩ : ∃ ins, filledL ls g.ins g.ins.length = ins := ⟨_, rfl⟩
  have IB : Hid (AllBytes ins) := Lib.hid (by rw [← hins]; exact filled_bytes (nums_bytes HLS.out) _ _)
  have FP : Hid (fitsP g.ins ins) := Lib.hid (by rw [← hins]; exact filled_fits _ _)
  have INS := Lib.hid hins
  rw [hins] at oa6
  have IH := Lib.hid oc6.has
  have IN := Lib.hid (oa6.nums IB.out)
  have LI : Hid (us6.length = g.ins.length) := Lib.hid (oa6.1.trans FP.out.1)
  obtain ⟨AI, cI, rfl, _⟩ := own_slice' oc6
  have b6 := box_past q6 b5 (by omega)
  have r6 : Past w4 w6 := Past.trans q5 q6
  have s6 : W.heap.size + 1 ≤ w6.heap.size := by have := q6.2.2.1; omega
  clear oc6 oa6 hins
  have f6 := free_past q6 f5 (by omega)
  have p6 : Past W w6 := p5.trans q6
  have HV6 := Lib.hid (HV5.out.grow q6)
  clear q5 b5 p5 s5 f5 HV5 q6 FI
  have EA := Lib.hid (fun (w : World) (p : Past w6 w) => eall_ok g _ _ us6 ins w (HG.out.grow (r6.trans p)) CU.out (IH.out.grow p) (IN.out.grow p) E0.out FP.out)
  have FT := Lib.hid (eval_fits E0.out (graph_bytes HG.out) FP.out IB.out)
  have DL := Lib.hid (evalL_len g FP.out.1)
  have DI := Lib.hid (fun (j : Nat) (hj : j < ins.length) => eval_ins (g := g) hj)
  have DC := Lib.hid (fun (hn : 0 < g.nodes.length) => cut_eval E0.out hn FP.out.1)
  obtain ⟨D, hD⟩ : ∃ D, evalL g ins = D := ⟨_, rfl⟩
  rw [hD] at EA FT DL DI DC
  obtain ⟨V, hV⟩ : ∃ V, valuesL g = V := ⟨_, rfl⟩
  rw [hV] at HV6 ML FT
  rw [hV]
  obtain ⟨M, hM⟩ : ∃ M, V.length = M := ⟨_, rfl⟩
  have HVM := Lib.hid hM
  have LM : Hid (M = g.ins.length + g.nodes.length) := Lib.hid (by rw [← hM]; exact ML.out.1)
  have M1 : 1 ≤ M := by have := LM.out; have := BG.out.1.1; omega
  have M2 : M ≤ 16 := by have := LM.out; have := BG.out.1; omega
  rw [hM] at HV6
  rw [hM]
  clear hD hV hM
  go_wp2_with fail
  refine (EA.out _ (Past.refl _)).mono ?_
  rintro e w7 ⟨v7, rfl, ⟨us7, oc7, oa7⟩, q7⟩
  have U7 : us7.length = M := by rw [oa7.1, DL.out, LM.out]
  have HU7 := Lib.hid U7
  obtain ⟨ab, ao, ac, rfl, ha1, ha2, hab, hac⟩ := oc7.has.form (by omega)
  have HAC := Lib.hid hac
  have HAN := Lib.hid (oa7.nums FT.out.bytes)
  have HAR := Lib.hid (show IsRows w7 (.slice (some ⟨ab, ao, none⟩) us7.length ac) D from ⟨us7, oc7.has, HAN.out⟩)
  rw [U7] at ha1 HAR
  rw [U7]
  have HA1 := Lib.hid ha1
  have HA2 := Lib.hid ha2
  have b7 := box_past q7 b6 (by omega)
  have f7 := free_past q7 f6 (by omega)
  have p7 : Past W w7 := p6.trans q7
  have HV7 := Lib.hid (HV6.out.grow q7)
  have IH7 := Lib.hid (IH.out.grow q7)
  have IN7 := Lib.hid (IN.out.grow q7)
  have r7 : Past w4 w7 := r6.trans q7
  have s7 : W.heap.size + 1 ≤ w7.heap.size := by have := q7.2.2.1; omega
  have d0 : ((M : Int) != (M : Int)) = false := by simp
  have e0 : ((0 : Int) != 0) = false := by decide
  obtain ⟨_, _, eV, _, _, _, _, hv5⟩ := HV7.out
  rw [HVM.out] at eV hv5
  obtain ⟨vb, vo, e2, hvb, hvc⟩ := hv5 (by omega)
  subst e2
  simp only [Value.slice.injEq, true_and] at eV
  obtain ⟨rfl, rfl⟩ := eV
  have HVC := Lib.hid hvc
  obtain ⟨ib, io, ic, eI, hi1, hi2, hib, hic⟩ := IH7.out.form (by rw [LI.out]; exact BG.out.1.1)
  simp only [Value.slice.injEq, true_and] at eI
  obtain ⟨rfl, rfl⟩ := eI
  have HIC := Lib.hid hic
  obtain ⟨GI, hGI⟩ : ∃ GI, us6.length = GI := ⟨_, rfl⟩
  have HGI := Lib.hid (hGI.symm.trans LI.out)
  have HUG := Lib.hid hGI
  rw [hGI]
  have GIM : GI ≤ M := by have := HGI.out; have := LM.out; omega
  clear U7 ha1 ha2 hac oc7 oa7 b6 f6 p6 s6 HV6 IH IN q7 EA hv5 hvc hic hi1 hi2 hGI r6
  go_wp2_with fail
  go_loopw [11] (fun i wr => ∃ k : Nat, k ≤ M ∧ i = .int .i64 k ∧ Past w7 wr) (fun i _ => M - (intOf i).toNat)
  case atStart => exact ⟨0, by omega, rfl, Past.refl _⟩
  case round =>
    obtain ⟨k, hk, rfl, pr⟩ := hrel
    have br := box_past pr b7 (by omega)
    by_cases h : k < M
    · have kD : k < D.length := by rw [DL.out, ← LM.out]; exact h
      have c0 := (pr.cell (p := ⟨ab, ao + k, none⟩) hab).trans (HAC.out k (by rw [HU7.out]; exact h))
      have NU := (HAN.out.2 k kD).grow pr
      obtain ⟨y0, y1, y2, y3⟩ := (HVC.out k h).grow hvb pr
      have FX := FT.out.2 k (by rw [← LM.out]; exact h)
      have DIK := fun (hj : k < ins.length) => DI.out k hj
      obtain ⟨u, hu⟩ : ∃ u, us7.getD k nilS = u := ⟨_, rfl⟩
      obtain ⟨x, hx⟩ : ∃ x, D.getD k [] = x := ⟨_, rfl⟩
      obtain ⟨y, hy⟩ : ∃ y, V.getD k default = y := ⟨_, rfl⟩
      rw [hu] at c0 NU
      rw [hx] at NU FX DIK
      rw [hy] at y0 y1 y2 y3 FX
      obtain ⟨Au, cu, rfl, u1, u2, _⟩ := id NU
      have ux : x.length ≤ 9223372036854775807 := by unfold maxLen at u2; omega
      have RS := Lib.hid (fun w => rsize_any y.h y.w y.c (x.length : Int) w (Lib.hid FX.1))
      have HNU := Lib.hid NU
      have HDI := Lib.hid DIK
      have i1 : (0 : Int) ≤ (k : Int) := by omega
      have i2 : (k : Int) < (M : Int) := by omega
      have d1 : decide ((k : Int) < (M : Int)) = true := decide_eq_true i2
      have d2 : ((x.length : Int) != (x.length : Int)) = false := by simp
      have hab2 : ab < wr.heap.size := by have := pr.2.2.1; omega
      have hvb2 : vb < wr.heap.size := by have := pr.2.2.1; omega
      have g0 := Past.refl wr
      clear hu hx hy NU FX DIK kD u1 u2
      go_upto_region 13 with fail
      refine wp_region_fill (fun w' => w'.cell? ⟨ab, ao + k, none⟩ = some (.slice Au x.length cu) ∧ w'.cell? ⟨vb, vo + k * 4, none⟩ = some (.int .i64 y.h) ∧ w'.cell? ⟨vb, vo + k * 4 + 1, none⟩ = some (.int .i64 y.w) ∧ w'.cell? ⟨vb, vo + k * 4 + 2, none⟩ = some (.int .i64 y.c) ∧ Past wr w' ∧ ab + 1 ≤ w'.heap.size ∧ vb + 1 ≤ w'.heap.size) [(51, ?va51), (52, ?va52), (53, ?va53), (54, ?va54), (55, ?va55), (56, ?va56), (57, ?va57), (58, ?va58), (59, ?va59), (60, ?va60), (61, ?va61), (62, ?va62)] [51, 52, 53, 54, 55, 56, 57, 58, 59, 60, 61, 62] (by kernel_rfl) (by kernel_rfl) rfl (by kernel_rfl) ⟨c0, y0, y1, y2, g0, hab2, hvb2⟩ (fun w h => h) ?alla ?fina
      case alla =>
        simp only [fillA, Act.put, List.setIfInBounds_toArray, List.set_cons_zero, List.set_cons_succ]
        iterate 12 (refine owes_cons (fun w hw K hK => ?_) ?_; focus ((have hS := Lib.hid hw); go_split_ands; go_simp; (try simp only [Act.put, List.setIfInBounds_toArray, List.set_cons_zero, List.set_cons_succ]); first | exact hK _ hS.out | (((go_at_call 14; with_reducible refine (RS.out _).mono ?_; rintro e w1 ⟨rfl, g1⟩; replace g1 := Grown.past g1)); refine hK _ ?_; (exact kKeep))))
        exact True.intro
      case fina =>
        rintro w9 ⟨c9, _, _, _, g9, hab9, _⟩
        simp only [fillA, Act.put, List.setIfInBounds_toArray, List.set_cons_zero, List.set_cons_succ]
        clear c0 y0 y1 y2 y3 g0 br
        have p9 := pr.trans g9
        by_cases hki : k < GI
        · have d3 : decide ((k : Int) < (GI : Int)) = true := decide_eq_true (by omega)
          have kI : k < ins.length := by have := HGI.out; have := FP.out.1; omega
          have c1 := (p9.cell (p := ⟨ib, io + k, none⟩) hib).trans (HIC.out k (by rw [HUG.out]; exact hki))
          have NI := (IN7.out.2 k kI).grow p9
          rw [← HDI.out kI] at NI
          obtain ⟨z, hz⟩ : ∃ z, us6.getD k nilS = z := ⟨_, rfl⟩
          rw [hz] at c1 NI
          have SE := Lib.hid (fun (w : World) (q : Past w9 w) => same_eq (.slice Au x.length cu) z x w (HNU.out.grow (g9.trans q)) (NI.grow q))
          obtain ⟨Az, cz, rfl, _⟩ := id NI
          have i3 : (k : Int) < (GI : Int) := by omega
          have hib9 : ib < w9.heap.size := by have := p9.2.2.1; omega
          have g0 := Past.refl w9
          clear hz NI kI
          go_upto_region 16 with fail
          refine wp_region_fill (fun w' => w'.cell? ⟨ab, ao + k, none⟩ = some (.slice Au x.length cu) ∧ w'.cell? ⟨ib, io + k, none⟩ = some (.slice Az x.length cz) ∧ Past w9 w' ∧ ab + 1 ≤ w'.heap.size ∧ ib + 1 ≤ w'.heap.size) [(67, ?vb67), (68, ?vb68), (69, ?vb69), (70, ?vb70), (71, ?vb71), (72, ?vb72), (73, ?vb73), (74, ?vb74), (75, ?vb75), (12, ?vb12)] [67, 68, 69, 70, 71, 72, 73, 74, 75, 12] (by kernel_rfl) (by kernel_rfl) rfl (by kernel_rfl) ⟨c9, c1, g0, hab9, hib9⟩ (fun w h => h) ?allb ?finb
          case allb =>
            simp only [fillA, Act.put, List.setIfInBounds_toArray, List.set_cons_zero, List.set_cons_succ]
            iterate 10 (refine owes_cons (fun w hw K hK => ?_) ?_; focus ((have hS := Lib.hid hw); go_split_ands; go_simp; (try simp only [Act.put, List.setIfInBounds_toArray, List.set_cons_zero, List.set_cons_succ]); first | exact hK _ hS.out | (((go_at_call 15; with_reducible refine (SE.out _ (by assumption)).mono ?_; rintro e w1 ⟨rfl, g1⟩; replace g1 := Grown.past g1)); refine hK _ ?_; (exact kKeep))))
            exact True.intro
          case finb =>
            rintro w10 ⟨_, _, g10, _, _⟩
            simp only [fillA, Act.put, List.setIfInBounds_toArray, List.set_cons_zero, List.set_cons_succ]
            have p10 := p9.trans g10
            clear c9 c1 g0 hab9 hib9 g9 p9 pr g10
            go_wp2_with fail
            go_roundw
            case rel => exact ⟨k + 1, by omega, by go_num, p10⟩
            case measure => simp [intOf]; omega
        · have d3 : decide ((k : Int) < (GI : Int)) = false := decide_eq_false (by omega)
          clear c9 hab9 g9 pr
          go_wp2_with fail
          go_roundw
          case rel => exact ⟨k + 1, by omega, by go_num, p9⟩
          case measure => simp [intOf]; omega
    · obtain rfl : k = M := by omega
      have d1 : decide ((k : Int) < (k : Int)) = false := by simp
      have pW := p7.trans pr
      by_cases hn : g.nodes.length = 0
      · have d4 : ((g.nodes.length : Int) == 0) = true := beq_iff_eq.2 (by omega)
        go_wp2_with fail
        go_ret
        exact ⟨rfl, pW⟩
      have d4 : ((g.nodes.length : Int) == 0) = false := beq_eq_false_iff_ne.2 (by omega)
      have hn1 : 0 < g.nodes.length := by omega
      obtain ⟨iv, nv, ov, eg, hgi, hgn, hgo⟩ := HG.out
      simp only [Value.agg.injEq, Array.mk.injEq, List.cons.injEq, and_true] at eg
      obtain ⟨rfl, rfl, rfl⟩ := eg
      have HGI2 := Lib.hid hgi
      have HGN := Lib.hid hgn
      obtain ⟨_, _, eN, n1, n2, _, _, n5⟩ := hgn
      obtain ⟨nb, no, e2, _, _⟩ := n5 hn1
      subst e2
      simp only [Value.slice.injEq, true_and] at eN
      obtain ⟨rfl, rfl⟩ := eN
      have CE := DC.out hn1
      have CO := Lib.hid (cut_ok E0.out hn1).1
      obtain ⟨Q, hQ⟩ : ∃ Q, wr.heap.size = Q := ⟨_, rfl⟩
      have HQ := Lib.hid hQ
      have nQ : W.heap.size + 1 ≤ Q := by have := pr.2.2.1; omega
      have w9 : IntKind.i64.wrap ((g.nodes.length : Int) - 1) = ((g.nodes.length - 1 : Nat) : Int) := by rw [IntWalk.i64_in _ (by omega)]; omega
      have w8 : IntKind.i64.wrap ((k : Int) - 1) = ((k - 1 : Nat) : Int) := by rw [IntWalk.i64_in _ (by omega)]; omega
      have j1 : (0 : Int) ≤ ((g.nodes.length - 1 : Nat) : Int) := by omega
      have j2 : ((g.nodes.length - 1 : Nat) : Int) ≤ (c2 : Int) := by omega
      have j3 : (c2 : Int) ≤ 9223372036854775807 := by unfold maxLen at n2; omega
      obtain ⟨N1, hN1⟩ : ∃ N1, g.nodes.length - 1 = N1 := ⟨_, rfl⟩
      have HN1 := Lib.hid hN1
      rw [hN1] at w9 j1 j2
      have NC := Lib.hid (nodes_cut N1 HGN.out (by omega))
      clear hgi hgo n5 hN1
      go_upto_region 22 with fail
      refine opq (fun w' => (∀ o : Nat, w'.cell? ⟨W.heap.size, o, none⟩ = (#[.slice A1 g.ins.length c1, .slice (some ⟨nb, no, none⟩) g.nodes.length c2, .slice A3 g.outs.length c3] : Array Value)[o]?) ∧ (∀ o : Nat, w'.cell? ⟨Q, o, none⟩ = (#[.slice A1 g.ins.length c1, .slice (some ⟨nb, no, none⟩) g.nodes.length c2, .slice A3 g.outs.length c3] : Array Value)[o]?) ∧ (∀ o : Nat, w'.frozen? ⟨Q, o, none⟩ = false) ∧ Past wr w' ∧ Q + 1 ≤ w'.heap.size) (by subst hQ; have g0 := Past.refl wr; (exact kKeep)) ?_
      rintro wa ⟨ba, qa, fa, pa, sa⟩
      clear br hQ
      go_upto_region 23 with fail
      refine opq (fun w' => (∀ o : Nat, w'.cell? ⟨Q, o, none⟩ = (#[.slice A1 g.ins.length c1, .slice (some ⟨nb, no, none⟩) N1 c2, .slice A3 g.outs.length c3] : Array Value)[o]?) ∧ (∀ o : Nat, w'.frozen? ⟨Q, o, none⟩ = false) ∧ Past wr w' ∧ Q + 1 ≤ w'.heap.size) ⟨box_at qa 1 (by simp) _, by (exact kKeep), pa.setCell (by have := HQ.out; simp only; omega) _, by (exact kKeep)⟩ ?_
      rintro wb ⟨qb, fb, pb, sb⟩
      clear ba qa fa pa sa
      have fb2 := free_alloc (cs := #[.int .i64 0]) (t := 3) fb
      have qb2 := box_old (x := .cells #[.int .i64 0] 3) qb (by omega)
      go_upto_region 24 with fail
      refine opq (fun w' => (∀ o : Nat, w'.cell? ⟨Q, o, none⟩ = (#[.slice A1 g.ins.length c1, .slice (some ⟨nb, no, none⟩) N1 c2, .slice (some ⟨wb.heap.size, 0, none⟩) 1 1] : Array Value)[o]?) ∧ (∀ o : Nat, w'.cell? ⟨wb.heap.size, o, none⟩ = (#[.int .i64 0] : Array Value)[o]?) ∧ Past wr w' ∧ wb.heap.size + 1 ≤ w'.heap.size) ?_ ?_
      · have hQs := HQ.out
        refine ⟨?_, ?_, ?_, ?_⟩
        · exact box_at qb2 2 (by simp) _
        · (exact kKeep)
        · exact (pb.alloc _).setCell (by simp only; omega) _
        · (exact kKeep)
      rintro wc ⟨qc, zc, pc, sc⟩
      obtain ⟨P, hP⟩ : ∃ P, wb.heap.size = P := ⟨_, rfl⟩
      rw [hP] at qc zc sc ⊢
      clear qb fb pb sb hP fb2 qb2
      have r9 : Past w4 wr := r7.trans pr
      have CG : Hid (∀ w, Past wc w → IsGraph w (.agg #[.slice A1 g.ins.length c1, .slice (some ⟨nb, no, none⟩) N1 c2, .slice (some ⟨P, 0, none⟩) 1 1]) (cutD g)) := Lib.hid (fun w p => by
        have r := r9.trans (pc.trans p)
        refine ⟨_, _, _, rfl, HGI2.out.grow r, ?_, nums_lit [0] (by decide) (by decide) (by decide) (fun i => (box_past p zc (by omega) i).trans (by simp))⟩
        have := NC.out.grow r
        unfold cutD
        rw [HN1.out]
        exact this)
      have CC : Hid (Cut (cutD g)) := Lib.hid ⟨by simp [cutD], fun n hn => CU.out.2 n (List.mem_of_mem_take hn)⟩
      have I9 : Hid (HasCells wr (.slice (some ⟨ib, io, none⟩) GI cI) us6) := Lib.hid (by have := IH7.out.grow pr; rw [HUG.out] at this; exact this)
      have N9 := Lib.hid (IN7.out.grow pr)
      have EB := Lib.hid (fun (w : World) (p : Past wc w) => eall_ok (cutD g) _ _ us6 ins w (CG.out w p) CC.out (I9.out.grow (pc.trans p)) (N9.out.grow (pc.trans p)) CO.out FP.out)
      rw [CE] at EB
      have HCE := Lib.hid CE
      have k1 : k - 1 ≤ D.length := by rw [DL.out, ← LM.out]; omega
      have HAK := Lib.hid (fun (w : World) (p : Past w7 w) => rows_cut (k - 1) (HAR.out.grow p) k1)
      have LK : Hid (g.ins.length + g.nodes.length - 1 = k - 1) := Lib.hid (by rw [← LM.out])
      rw [LK.out] at EB
      clear CE k1
      go_wp2_with fail
      refine (EB.out _ (Past.refl _)).mono ?_
      rintro e wd ⟨vd, rfl, od, pd⟩
      have BT : AllBytes (D.take (k - 1)) := fun i hi x hx => by
        have hi2 : i < k - 1 := by rw [List.length_take] at hi; omega
        have e : (D.take (k - 1)).getD i [] = D.getD i [] := by simp [List.getD, hi2]
        rw [e] at hx
        exact FT.out.bytes i (by rw [DL.out, ← LM.out]; omega) x hx
      have SV := Lib.hid (od.is BT)
      have pF : Past W wd := pW.trans (pc.trans pd)
      have SA := Lib.hid (HAK.out wd (pr.trans (pc.trans pd)))
      obtain ⟨ud, hud, _⟩ := od
      obtain ⟨Ad, cd, rfl, _⟩ := own_slice' hud
      have a1 := HA1.out
      have a2 := HA2.out
      have j4 : (0 : Int) ≤ ((k - 1 : Nat) : Int) := by omega
      have j5 : ((k - 1 : Nat) : Int) ≤ (ac : Int) := by omega
      have j6 : (ac : Int) ≤ 9223372036854775807 := by unfold maxLen at a2; omega
      obtain ⟨K1, hK1⟩ : ∃ K1, k - 1 = K1 := ⟨_, rfl⟩
      rw [hK1] at SV SA w8 j4 j5
      have SM := Lib.hid (fun (w : World) (p : Past wd w) => same6_eq _ _ _ w (SV.out.grow p) (SA.out.grow p))
      clear BT hud pd qc zc pc hK1 a1 a2
      go_wp2_with fail
      refine (SM.out _ (Past.refl _)).mono ?_
      rintro e we ⟨rfl, pe⟩
      have pG := pF.trans pe
      clear pF pe SM
      go_wp2_with fail
      go_ret
      exact ⟨rfl, pG⟩
end Go.Proofs.YtfllackaojlfnaaGreat
