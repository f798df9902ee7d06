/- EvalChains: the walk. -/
import Derived.Test.YtliijchcpooplaaGreatSEd
import Derived.Test.YtliijchcpooplaaGreatSQ7
namespace Go.Proofs.YtliijchcpooplaaGreat
open Go.ChangeShapes Go.WideShapes Go.ChangeAt Go.RowKit
set_option maxRecDepth 20000
set_option linter.unusedVariables false
set_option linter.unusedSimpArgs false

set_option maxHeartbeats 8000000 in
theorem chains_walk (W : World) (gv : Value) (g0 : GraphD) (hg0 : IsGraph W gv g0) (lv : Value) (ls : List Int) (hl0 : IsNums .i8 W lv ls) : Calls Tryz.prog 4 #[gv, lv] W fun e w' => e = .returned (.bool true) ∧ Past W w' := by
  have HG0 := Lib.hid hg0
  have HLS := Lib.hid hl0
  obtain ⟨Lb, lc, rfl, _⟩ := hl0
  obtain ⟨iv0, nv0, ov0, rfl, hi0, hn0, ho0⟩ := hg0
  obtain ⟨B1, d1, rfl, _, _, _, _, _⟩ := hi0
  obtain ⟨B2, d2, rfl, _, _, _, _, _⟩ := hn0
  obtain ⟨B3, d3, rfl, _, _, _, _, _⟩ := ho0
  have LS := Lib.hid (fun w (p : Past W w) => less_any g0 _ w (HG0.out.grow p))
  have L6 : (lessD g0).ins.length ≤ 6 := by simp [lessD]; omega
  have L14 : (lessD g0).nodes.length ≤ 14 := by simp [lessD]; omega
  have LO6 : (lessD g0).outs.length ≤ 6 := by simp [lessD]; omega
  obtain ⟨g, hg⟩ : ∃ g, lessD g0 = g := ⟨_, rfl⟩
  have CU : Hid (Cut g) := Lib.hid (hg ▸ cut_lessD g0)
  rw [hg] at LS L6 L14 LO6
  clear hg
  go_enter Tryz.func4, Tryz.ntmps4
  go_upto_region 1 with fail
  refine opq (fun w' => (Bx w' (W.heap.size) #[.slice B1 g0.ins.length d1, .slice B2 g0.nodes.length d2, .slice B3 g0.outs.length d3]) ∧ (Fr w' (W.heap.size)) ∧ Past W w' ∧ W.heap.size + 1 ≤ w'.heap.size) kKeep ?_
  rintro w1 ⟨b1, f1, p1, s1⟩
  go_wp2_with fail
  refine (shown6 _).mono ?_
  rintro e w2 ⟨rfl, gq⟩
  obtain ⟨b2, f2, p2, s2⟩ : (Bx w2 (W.heap.size) #[.slice B1 g0.ins.length d1, .slice B2 g0.nodes.length d2, .slice B3 g0.outs.length d3]) ∧ (Fr w2 (W.heap.size)) ∧ Past W w2 ∧ W.heap.size + 1 ≤ w2.heap.size := by (exact kKeep)
  clear b1 f1 p1 s1 gq
  go_wp2_with fail
  refine (LS.out _ p2).mono ?_
  rintro e w3 ⟨gw, rfl, HG, q3⟩
  obtain ⟨iv, nv, ov, rfl, hi, hn, ho⟩ := HG
  have HI := Lib.hid hi
  have HN := Lib.hid hn
  have HO := Lib.hid ho
  obtain ⟨A1, c1, rfl, i1, i2, _, _, i5⟩ := hi
  obtain ⟨A2, c2, rfl, n1, n2, _, _, n5⟩ := hn
  obtain ⟨A3, c3, rfl, o1, o2, _, _, o5⟩ := ho
  obtain ⟨b3, f3, s3⟩ : (Bx w3 (W.heap.size) #[.slice B1 g0.ins.length d1, .slice B2 g0.nodes.length d2, .slice B3 g0.outs.length d3]) ∧ (Fr w3 (W.heap.size)) ∧ W.heap.size + 1 ≤ w3.heap.size := by (exact kKeep)
  have q4 : Past W w3 := p2.trans q3
  clear b2 f2 p2 s2 q3 i1 i2 n1 n2 o1 o2 i5 n5 o5
  go_upto_region 3 with fail
  refine opq (fun w' => ((Bx w' (W.heap.size) #[.slice A1 g.ins.length c1, .slice A2 g.nodes.length c2, .slice A3 g.outs.length c3]) ∧ (Fr w' (W.heap.size)) ∧ Past W w' ∧ W.heap.size + 1 ≤ w'.heap.size) ∧ IsVals w' (.slice A1 g.ins.length c1) g.ins ∧ IsNodes w' (.slice A2 g.nodes.length c2) g.nodes ∧ IsNums .i64 w' (.slice A3 g.outs.length c3) g.outs) ⟨⟨box_set3 b3, by (exact kKeep), by (exact kKeep), by (exact kKeep)⟩, vals_save HI.out (noInt_box b3) ((((Save.refl _ _).set _ _).set _ _).set _ _), nodes_save HN.out (noInt_box b3) ((((Save.refl _ _).set _ _).set _ _).set _ _), nums_save HO.out (noInt_box b3) ((((Save.refl _ _).set _ _).set _ _).set _ _)⟩ ?_
  rintro w4 ⟨⟨b4, f4, p4, s4⟩, hi, hn, ho⟩
  have HG : Hid (IsGraph w4 (.agg #[.slice A1 g.ins.length c1, .slice A2 g.nodes.length c2, .slice A3 g.outs.length c3]) g) := Lib.hid ⟨_, _, _, rfl, hi, hn, ho⟩
  have HL4 := Lib.hid (HLS.out.grow p4)
  clear b3 f3 s3 q4 HI HN HO hi hn ho HG0 LS
  have RV := Lib.hid (fun (w : World) (p : Past w4 w) => rvalues_any g _ w (HG.out.grow p) CU.out)
  go_wp2_with fail
  refine (RV.out _ (Past.refl _)).mono ?_
  rintro e w5 ⟨v5, q, rfl, hq, hv5, q5⟩
  have b5 := box_past q5 b4 (by omega)
  have p5 : Past W w5 := p4.trans q5
  have s5 : W.heap.size + 1 ≤ w5.heap.size := by have := q5.2.2.1; omega
  by_cases hE : valuesE g = 0
  rotate_left
  · have e1 : (q != 0) = true := by
      have : q ≠ 0 := fun f => hE (hq.1 f)
      simpa using this
    clear hq hv5 hE
    go_wp2_with fail
    go_ret
    exact ⟨rfl, p5⟩
  have e1 : (q != 0) = false := by simp [hq.2 hE]
  have HV5 := Lib.hid (hv5 hE)
  have E0 := Lib.hid hE
  obtain ⟨AV, cV, rfl, _⟩ := hv5 hE
  have ML := Lib.hid (makes_facts hE)
  have BG := Lib.hid (begins_ok (values_ok hE).1)
  have f5 := free_past q5 f4 (by omega)
  clear hq hv5 hE b4 f4 p4 s4 RV
  have ml := ML.out.1
  have g1 := BG.out.1.1
  have g2 := BG.out.1.2.2.1
  obtain ⟨ins, hins⟩ : ∃ ins, filledL ls g.ins g.ins.length = ins := ⟨_, rfl⟩
  have IB : Hid (AllBytes ins) := Lib.hid (by rw [← hins]; exact filled_bytes (nums_bytes HLS.out) _ _)
  have FP : Hid (fitsP g.ins ins) := Lib.hid (by rw [← hins]; exact filled_fits _ _)
  have FT := Lib.hid (eval_fits E0.out (graph_bytes HG.out) FP.out IB.out)
  have FTB := Lib.hid FT.out.bytes
  have dl := evalL_len g FP.out.1
  obtain ⟨V, hV⟩ : ∃ V, valuesL g = V := ⟨_, rfl⟩
  have HV0 := Lib.hid hV
  rw [hV] at HV5 ML ml FT
  rw [hV]
  obtain ⟨M, hM⟩ : ∃ M, V.length = M := ⟨_, rfl⟩
  have HVM := Lib.hid hM
  have LM : Hid (M = g.ins.length + g.nodes.length) := Lib.hid (by rw [← hM]; exact ml)
  have M1 : 1 ≤ M := by have := LM.out; omega
  have M2 : M ≤ 20 := by have := LM.out; omega
  have DL : Hid ((evalL g ins).length = M) := Lib.hid (by rw [dl, LM.out])
  have FI := Lib.hid (fun (w : World) (p : Past w5 w) => by
    have := filled_rows g _ _ ls w (HG.out.grow (q5.trans p)) (HL4.out.grow (q5.trans p)) (by omega)
    rw [hins] at this
    exact this)
  have EO := Lib.hid (fun (us : List Value) (iv : Value) (w : World) (p : Past w5 w) (h1 : HasCells w iv us) (h2 : AreNums w us ins) => eall_ok g _ iv us ins w (HG.out.grow (q5.trans p)) CU.out h1 h2 E0.out FP.out)
  obtain ⟨D, hD⟩ : ∃ D, evalL g ins = D := ⟨_, rfl⟩
  have HD := Lib.hid hD
  rw [hD] at EO DL FT FTB
  obtain ⟨_, _, eV, _, _, _, vwf, hv5⟩ := HV5.out
  have VWF := Lib.hid vwf
  clear vwf
  rw [hM] at HV5 eV hv5
  rw [hM]
  obtain ⟨vb, vo, e2, hvb, hvc⟩ := hv5 (by omega)
  subst e2
  simp only [Value.slice.injEq, true_and] at eV
  obtain ⟨rfl, rfl⟩ := eV
  have HVC := Lib.hid hvc
  obtain ⟨i0, hi0, hz0, hz1, hz2⟩ := info_parts info32
  have I1 := Lib.hid hi0
  have I2 := Lib.hid hz0
  have I3 := Lib.hid hz1
  have I4 := Lib.hid hz2
  clear hi0 hz0 hz1 hz2 hvc hv5 hins hV hM hD dl ml f5
  go_upto_region 6 with fail
  refine wp_region_goes [3, 4, 5, 6, 7, 8, 9] (fun w' => (Bx w' (W.heap.size) #[.slice A1 g.ins.length c1, .slice A2 g.nodes.length c2, .slice A3 g.outs.length c3]) ∧ Past w5 w') [(30, ?vg30), (31, ?vg31), (32, ?vg32)] [30, 31, 32] (by kernel_rfl) rfl (by kernel_rfl) ⟨b5, Past.refl _⟩ (fun w h => h) ?ngs
  case ngs =>
    refine goes_step (α := Option Addr × Nat) [] [4, 5, 6, 7, 8, 9] 3 33 [3, 4, 5, 6, 7, 8, 9] (fun p => .slice p.1 g.ins.length p.2) (fun w' => (Bx w' (W.heap.size) #[.slice A1 g.ins.length c1, .slice A2 g.nodes.length c2, .slice A3 g.outs.length c3]) ∧ Past w5 w') (fun p w' => (Bx w' (W.heap.size) #[.slice A1 g.ins.length c1, .slice A2 g.nodes.length c2, .slice A3 g.outs.length c3]) ∧ Past w5 w' ∧ Hid (∃ us, HasCells w' (.slice p.1 g.ins.length p.2) us ∧ AreNums w' us ins)) (fun p => []) [] (by kernel_rfl) (by kernel_rfl) (fun _ => rfl) ?hg0 ?eg0 ?cg0 (fun p => ?_)
    case hg0 =>
      first | (simp; done) | (rw [fill_size]; simp; done) | (rw [fill_size, fill_size]; simp; done) | (simp [fillA, Act.put]; done)
    case eg0 =>
      simp only [fillA, Act.put, List.setIfInBounds_toArray, List.set_cons_zero, List.set_cons_succ]
      (iterate 10 (first | refine owesb_skip rfl ?_ | (refine owesb_cons (fun w hw K hK => ?_) ?_; focus ((have hS := Lib.hid hw); go_split_ands; go_simp; (try simp only [fillA, Act.put, List.setIfInBounds_toArray, List.set_cons_zero, List.set_cons_succ]); exact hK _ hS.out))))
      exact True.intro
    case cg0 =>
      simp only [fillA, Act.put, List.setIfInBounds_toArray, List.set_cons_zero, List.set_cons_succ]
      refine ⟨_, rfl, fun w hw K hK => ?_⟩
      obtain ⟨bw, pw⟩ := hw
      go_simp
      refine (FI.out w pw).mono ?_
      rintro e wz ⟨vz, rfl, ⟨us, oz, az⟩, pz⟩
      have lz : us.length = g.ins.length := az.1.trans FP.out.1
      have HCz := oz.has
      obtain ⟨Az, cz, rfl, _⟩ := own_slice' oz
      rw [lz] at HCz ⊢
      exact hK (Az, cz) _ ⟨box_past pz bw (by have := pw.2.2.1; omega), pw.trans pz, Lib.hid ⟨us, HCz, az.nums IB.out⟩⟩
    refine goes_step (α := Option Addr × Nat) [3] [] 4 34 [4, 5, 6, 7, 8, 9] (fun s => .tuple #[.slice s.1 M s.2, .int .i64 0]) (fun w' => (Bx w' (W.heap.size) #[.slice A1 g.ins.length c1, .slice A2 g.nodes.length c2, .slice A3 g.outs.length c3]) ∧ Past w5 w' ∧ Hid (∃ us, HasCells w' (.slice p.1 g.ins.length p.2) us ∧ AreNums w' us ins)) (fun s w' => (Bx w' (W.heap.size) #[.slice A1 g.ins.length c1, .slice A2 g.nodes.length c2, .slice A3 g.outs.length c3]) ∧ Past w5 w' ∧ Hid (IsRows w' (.slice s.1 M s.2) D)) (fun s => [(29, .tuple #[.slice s.1 M s.2, .int .i64 0]), (35, .slice s.1 M s.2), (36, .int .i64 0), (8, .slice s.1 M s.2), (9, .int .i64 0)]) [29, 35, 36, 8, 9] (by kernel_rfl) (by kernel_rfl) (fun _ => rfl) ?hg1 ?eg1 ?cg1 (fun s => ?_)
    case hg1 =>
      first | (simp; done) | (rw [fill_size]; simp; done) | (rw [fill_size, fill_size]; simp; done) | (simp [fillA, Act.put]; done)
    case eg1 =>
      simp only [fillA, Act.put, List.setIfInBounds_toArray, List.set_cons_zero, List.set_cons_succ]
      (iterate 10 (first | refine owesb_skip rfl ?_ | (refine owesb_cons (fun w hw K hK => ?_) ?_; focus ((have hS := Lib.hid hw); go_split_ands; go_simp; (try simp only [fillA, Act.put, List.setIfInBounds_toArray, List.set_cons_zero, List.set_cons_succ]); exact hK _ hS.out))))
      exact True.intro
    case cg1 =>
      simp only [fillA, Act.put, List.setIfInBounds_toArray, List.set_cons_zero, List.set_cons_succ]
      refine ⟨_, rfl, fun w hw K hK => ?_⟩
      obtain ⟨bw, pw, hcw⟩ := hw
      obtain ⟨us, hc1, hc2⟩ := hcw.out
      go_simp
      refine (EO.out us _ w pw hc1 hc2).mono ?_
      rintro e wz ⟨vz, rfl, ho, pz⟩
      have HR := Lib.hid (ho.is FTB.out)
      obtain ⟨us', oz, az⟩ := ho
      have lz : us'.length = M := by rw [az.1, DL.out]
      obtain ⟨Az, cz, rfl, _⟩ := own_slice' oz
      rw [lz] at HR ⊢
      exact hK (Az, cz) _ ⟨box_past pz bw (by have := pw.2.2.1; omega), pw.trans pz, HR⟩
    refine goes_end [4, 3] (by kernel_rfl) ?egz ?_
    case egz =>
      simp only [fillA, Act.put, List.setIfInBounds_toArray, List.set_cons_zero, List.set_cons_succ]
      (iterate 10 (first | refine owesb_skip rfl ?_ | (refine owesb_cons (fun w hw K hK => ?_) ?_; focus ((have hS := Lib.hid hw); go_split_ands; go_simp; (try simp only [fillA, Act.put, List.setIfInBounds_toArray, List.set_cons_zero, List.set_cons_succ]); exact hK _ hS.out))))
      exact True.intro
    rintro wb ⟨bb, pb, HR⟩
    simp only [fillA, Act.put, List.setIfInBounds_toArray, List.set_cons_zero, List.set_cons_succ]
    obtain ⟨us, hcs, hl3, hn3⟩ := HR.out
    have l3 : us.length = M := by rw [hl3, DL.out]
    obtain ⟨ob, oo, oc, eo, _, _, hob, hoc⟩ := hcs.form (by omega)
    obtain ⟨As, cs⟩ := s
    rw [l3] at eo
    simp only [Value.slice.injEq, true_and] at eo
    obtain ⟨rfl, rfl⟩ := eo
    have HUS := Lib.hid l3
    have HOC := Lib.hid hoc
    have HN3 := Lib.hid hn3
    have d0 : ((M : Int) != (M : Int)) = false := by simp
    have d7 : ((0 : Int) != 0) = false := by decide
    have pF := p5.trans pb
    obtain ⟨iv, nv, ov, eg, hgi, hgn, hgo⟩ := HG.out
    simp only [Value.agg.injEq, Array.mk.injEq, List.cons.injEq, and_true] at eg
    obtain ⟨rfl, rfl, rfl⟩ := eg
    obtain ⟨_, _, eN, n1, n2, _, nwf, n5⟩ := hgn
    simp only [Value.slice.injEq, true_and] at eN
    obtain ⟨rfl, rfl⟩ := eN
    have HN5 := Lib.hid n5
    have n9 : g.nodes.length ≤ 9223372036854775807 := by omega
    have FIN := Lib.hid (show Past w4 wb from q5.trans pb)
    clear hcs hoc hn3 hl3 l3 hgi hgo nwf n5 n2 EO FI
    dsimp only
    go_wp2_with fail
    go_loopw [10] (fun iv wr => ∃ i : Nat, i ≤ g.nodes.length ∧ iv = .int .i64 i ∧ Past wb wr) (fun iv _ => g.nodes.length - (intOf iv).toNat)
    case atStart => exact ⟨0, by omega, rfl, Past.refl _⟩
    case round =>
      obtain ⟨i, hi, rfl, pr⟩ := hrel
      have br := box_past pr bb (by have := pb.2.2.1; omega)
      by_cases h : i < g.nodes.length
      · have d1 : decide ((i : Int) < (g.nodes.length : Int)) = true := decide_eq_true (by omega)
        obtain ⟨nb, no, e9, hnb, hnc⟩ := HN5.out (by omega)
        subst e9
        obtain ⟨vi, vw, vb', hin, hcell⟩ := hnc i h
        have NO := node_ok E0.out h
        have KE := eval_at E0.out h FP.out.1
        have NN := NO.named
        have NVV := NO.value
        rw [HV0.out] at NN NVV
        rw [HV0.out, HD.out] at KE
        obtain ⟨n, hnk⟩ : ∃ n, g.nodes.getD i default = n := ⟨_, rfl⟩
        rw [hnk] at hin hcell NN NVV KE
        have KE := Lib.hid KE
        have NV := Lib.hid NVV
        have IN := Lib.hid hin
        have nlen : (namedL V n.ins).length = n.ins.length := by simp [namedL]
        have NLEN := Lib.hid nlen
        have nl : n.ins.length = 1 ∨ n.ins.length = 2 := by
          rcases vals_len NVV with ⟨_, e⟩ | ⟨_, e⟩ <;> omega
        have NM : ∀ j, j < n.ins.length → 0 ≤ n.ins.getD j 0 ∧ n.ins.getD j 0 < (M : Int) := fun j hj => by
          have := NN j hj
          have l : (V.take (g.ins.length + i)).length ≤ V.length := by rw [List.length_take]; exact Nat.min_le_right _ _
          have e := HVM.out
          exact ⟨this.1, by omega⟩
        obtain ⟨m0, hm0'⟩ : ∃ m : Nat, n.ins.getD 0 0 = m := ⟨(n.ins.getD 0 0).toNat, by have := NM 0 (by omega); omega⟩
        have hm0 : m0 < M := by have := NM 0 (by omega); omega
        have HM0 := Lib.hid (fun (_ : 0 < n.ins.length) => hm0')
        obtain ⟨m1, hm1, hm1'⟩ : ∃ m : Nat, m < M ∧ (1 < n.ins.length → n.ins.getD 1 0 = m) := by
          by_cases c : 1 < n.ins.length
          · have := NM 1 c
            exact ⟨(n.ins.getD 1 0).toNat, by omega, fun _ => by omega⟩
          · exact ⟨0, by omega, fun f => absurd f c⟩
        have HM1 := Lib.hid hm1'
        have ng : ∀ j, j < n.ins.length → (namedL V n.ins).getD j default = V.getD (n.ins.getD j 0).toNat default := fun j hj => named_get hj
        have nr : ∀ j, j < n.ins.length → (namedR D n.ins).getD j [] = D.getD (n.ins.getD j 0).toNat [] := fun j hj => namedR_get hj
        have R0 : Hid ((namedR D n.ins).getD 0 [] = D.getD m0 []) := Lib.hid (by rw [nr 0 (by omega), hm0']; rfl)
        have R1 := Lib.hid (fun (c : 1 < n.ins.length) => show (namedR D n.ins).getD 1 [] = D.getD m1 [] by rw [nr 1 c, hm1' c]; rfl)
        have HF := Lib.hid (fun (j : Nat) (hj : j < (namedL V n.ins).length) => show Fits ((namedL V n.ins).getD j default) ((namedR D n.ins).getD j []) by
          rw [nlen] at hj
          rw [ng j hj, nr j hj]
          have := NM j hj
          exact FT.out.2 _ (by have := LM.out; omega))
        have HZ := Lib.hid (fun (j : Nat) (hj : j < (namedL V n.ins).length) => show -128 ≤ ((namedL V n.ins).getD j default).z ∧ ((namedL V n.ins).getD j default).z ≤ 127 by
          rw [nlen] at hj
          rw [ng j hj]
          have := NM j hj
          have z := zeros_ok E0.out (j := (n.ins.getD j 0).toNat) (by rw [HV0.out, HVM.out]; omega)
          rw [HV0.out] at z
          exact z)
        have WFL := Lib.hid (fun (x : ValD) (hx : x ∈ namedL V n.ins) => show ValWf x by
          simp only [namedL, List.mem_map] at hx
          obtain ⟨t, ht, rfl⟩ := hx
          obtain ⟨j, hj, rfl⟩ := List.getElem_of_mem ht
          have := NM j hj
          have e : n.ins.getD j 0 = n.ins[j] := by simp [List.getD, hj]
          rw [e] at this
          have hlt : (n.ins[j]).toNat < V.length := by rw [HVM.out]; omega
          have e2 : V.getD (n.ins[j]).toNat default = V[(n.ins[j]).toNat] := by simp [List.getD, hlt]
          rw [e2]
          exact VWF.out _ (List.getElem_mem _))
        obtain ⟨R, hR⟩ : ∃ R, g.ins.length + i = R := ⟨_, rfl⟩
        have RM : R < M := by have := LM.out; omega
        rw [hR] at KE
        have NU0 := Lib.hid (HN3.out m0 (by rw [DL.out]; exact hm0))
        have NU1 := Lib.hid (HN3.out m1 (by rw [DL.out]; exact hm1))
        have NUR := Lib.hid (HN3.out R (by rw [DL.out]; exact RM))
        obtain ⟨U0, q0, eU0, -⟩ := NU0.out
        obtain ⟨U1, q1, eU1, -⟩ := NU1.out
        obtain ⟨UR, qR, eUR, -⟩ := NUR.out
        have HU0 := Lib.hid (HOC.out m0 (by rw [HUS.out]; exact hm0))
        have HU1 := Lib.hid (HOC.out m1 (by rw [HUS.out]; exact hm1))
        have HUR := Lib.hid (HOC.out R (by rw [HUS.out]; exact RM))
        rw [eU0] at NU0 HU0
        rw [eU1] at NU1 HU1
        rw [eUR] at NUR HUR
        obtain ⟨n0l, hn0l⟩ : ∃ x, (D.getD m0 []).length = x := ⟨_, rfl⟩
        rw [hn0l] at NU0 HU0
        obtain ⟨n1l, hn1l⟩ : ∃ x, (D.getD m1 []).length = x := ⟨_, rfl⟩
        rw [hn1l] at NU1 HU1
        obtain ⟨nRl, hnRl⟩ : ∃ x, (D.getD R []).length = x := ⟨_, rfl⟩
        rw [hnRl] at NUR HUR
        have wR : IntKind.i64.wrap ((g.ins.length : Int) + (i : Int)) = (R : Int) := by rw [IntWalk.i64_in _ (by omega)]; omega
        have jR0 : (0 : Int) ≤ (R : Int) := by omega
        have jR1 : (R : Int) < (M : Int) := by omega
        obtain ⟨Ai, ci, rfl, f1, f2, -, -, f5⟩ := hin.1
        obtain ⟨Aw, cw, rfl, -⟩ := hin.2.1
        obtain ⟨Ab, cb, rfl, -⟩ := hin.2.2
        obtain ⟨eb, eo, e8, heb, hec⟩ := f5 (by omega)
        subst e8
        have HEC := Lib.hid hec
        have li9 : n.ins.length ≤ 9223372036854775807 := by omega
        have r0 := FIN.out.trans pr
        have i1 : (0 : Int) ≤ (i : Int) := by omega
        have i2 : (i : Int) < (g.nodes.length : Int) := by omega
        have x0 := (r0.cell (p := ⟨nb, no + i * 14 + 0, none⟩) hnb).trans (hcell 0 (by omega))
        have x1 := (r0.cell (p := ⟨nb, no + i * 14 + 1, none⟩) hnb).trans (hcell 1 (by omega))
        have x2 := (r0.cell (p := ⟨nb, no + i * 14 + 2, none⟩) hnb).trans (hcell 2 (by omega))
        have x3 := (r0.cell (p := ⟨nb, no + i * 14 + 3, none⟩) hnb).trans (hcell 3 (by omega))
        have x4 := (r0.cell (p := ⟨nb, no + i * 14 + 4, none⟩) hnb).trans (hcell 4 (by omega))
        have x5 := (r0.cell (p := ⟨nb, no + i * 14 + 5, none⟩) hnb).trans (hcell 5 (by omega))
        have x6 := (r0.cell (p := ⟨nb, no + i * 14 + 6, none⟩) hnb).trans (hcell 6 (by omega))
        have x7 := (r0.cell (p := ⟨nb, no + i * 14 + 7, none⟩) hnb).trans (hcell 7 (by omega))
        have x8 := (r0.cell (p := ⟨nb, no + i * 14 + 8, none⟩) hnb).trans (hcell 8 (by omega))
        have x9 := (r0.cell (p := ⟨nb, no + i * 14 + 9, none⟩) hnb).trans (hcell 9 (by omega))
        have x10 := (r0.cell (p := ⟨nb, no + i * 14 + 10, none⟩) hnb).trans (hcell 10 (by omega))
        have x11 := (r0.cell (p := ⟨nb, no + i * 14 + 11, none⟩) hnb).trans (hcell 11 (by omega))
        have x12 := (r0.cell (p := ⟨nb, no + i * 14 + 12, none⟩) hnb).trans (hcell 12 (by omega))
        have x13 := (r0.cell (p := ⟨nb, no + i * 14 + 13, none⟩) hnb).trans (hcell 13 (by omega))
        simp only [nodeCells, List.getElem?_cons_zero, List.getElem?_cons_succ, Nat.add_zero] at x0 x1 x2 x3 x4 x5 x6 x7 x8 x9 x10 x11 x12 x13
        clear hin hcell hnk NN NVV NM nlen ng nr hm0' hm1' hR eU0 eU1 eUR hn0l hn1l hnRl f5 hec f2 r0
        go_upto_region 13 with fail
        refine opq (fun w' => (Bx w' (wr.heap.size) (nC n (.slice (some ⟨eb, eo, none⟩) n.ins.length ci) (.slice Aw n.ws.length cw) (.slice Ab n.bs.length cb))) ∧ Past wr w' ∧ wr.heap.size + 1 = w'.heap.size) ?_ ?_
        · have g0 := Past.refl wr
          exact ⟨by (exact kKeep), by (exact kKeep), by simp⟩
        rintro w11 ⟨bN, p11, z11⟩
        obtain ⟨wo, hwo⟩ : ∃ wo, wo = wr := ⟨_, rfl⟩
        subst hwo
        clear x0 x1 x2 x3 x4 x5 x6 x7 x8 x9 x10 x11 x12 x13
        obtain ⟨P11, hP11⟩ : ∃ P, wo.heap.size = P := ⟨_, rfl⟩
        have HWO := Lib.hid hP11
        rw [hP11] at bN z11
        rw [hP11]
        clear hP11
        go_upto_region 14 with fail
        refine opq (fun w' => (Bx w' P11 (nC n (.slice (some ⟨eb, eo, none⟩) n.ins.length ci) (.slice Aw n.ws.length cw) (.slice Ab n.bs.length cb))) ∧ Past wo w' ∧ Hid (OwnVals w' w11.heap.size (.slice (some ⟨w11.heap.size, 0, none⟩) 0 0) []) ∧ w11.heap.size + 1 = w'.heap.size) ⟨box_old bN (by omega), p11.alloc _, Lib.hid (ownVals_new (Nat.le_refl _)), by simp⟩ ?_
        rintro w12 ⟨bN2, p12, ow2, z12⟩
        obtain ⟨PB, hPB⟩ : ∃ P, w11.heap.size = P := ⟨_, rfl⟩
        have PBP : P11 + 1 = PB := by omega
        rw [hPB] at ow2 z12
        rw [hPB]
        clear bN p11 z11 hPB
        go_upto_region 15 with fail
        refine opq (fun w' => (Bx w' P11 (nC n (.slice (some ⟨eb, eo, none⟩) n.ins.length ci) (.slice Aw n.ws.length cw) (.slice Ab n.bs.length cb))) ∧ (Bx w' (w12.heap.size) #[.slice none 0 0, .slice none 0 0]) ∧ (Fr w' (w12.heap.size)) ∧ Past wo w' ∧ Hid (OwnVals w' PB (.slice (some ⟨PB, 0, none⟩) 0 0) []) ∧ w12.heap.size + 1 ≤ w'.heap.size) ?_ ?_
        · refine ⟨?_, ?_, ?_, ?_, ?_, ?_⟩
          · exact box_old bN2 (by omega)
          · (exact kKeep)
          · (exact kKeep)
          · exact p12.alloc _
          · exact Lib.hid (World.ownsRow.alloc ow2.out _)
          · simp
        rintro w13 ⟨bN3, bD3, fD3, p13, ow3, z13⟩
        obtain ⟨PD, hPD⟩ : ∃ P, w12.heap.size = P := ⟨_, rfl⟩
        have PDP : PB + 1 = PD := by omega
        rw [hPD] at bD3 fD3 z13
        rw [hPD]
        clear bN2 p12 ow2 z12 hPD br
        go_wp2_with fail
        go_loopw [12, 14] (fun v iv wr => (iv = .int .i64 0 ∧ Hid (OwnVals wr PB v (namedL V (n.ins.take 0))) ∧ Hid (∀ j, v.ownBlock = some j → j ≠ PD) ∧ (Bx wr PD #[.slice none 0 0, .slice none 0 0]) ∧ (Fr wr PD) ∧ (Bx wr P11 (nC n (.slice (some ⟨eb, eo, none⟩) n.ins.length ci) (.slice Aw n.ws.length cw) (.slice Ab n.bs.length cb))) ∧ Past wo wr ∧ PD + 1 ≤ wr.heap.size) ∨ (iv = .int .i64 1 ∧ Hid (OwnVals wr PB v (namedL V (n.ins.take 1))) ∧ Hid (∀ j, v.ownBlock = some j → j ≠ PD) ∧ (Bx wr PD #[.slice U0 n0l q0, .slice none 0 0]) ∧ (Fr wr PD) ∧ (Bx wr P11 (nC n (.slice (some ⟨eb, eo, none⟩) n.ins.length ci) (.slice Aw n.ws.length cw) (.slice Ab n.bs.length cb))) ∧ Past wo wr ∧ PD + 1 ≤ wr.heap.size) ∨ (iv = .int .i64 2 ∧ n.ins.length = 2 ∧ Hid (OwnVals wr PB v (namedL V (n.ins.take 2))) ∧ Hid (∀ j, v.ownBlock = some j → j ≠ PD) ∧ (Bx wr PD #[.slice U0 n0l q0, .slice U1 n1l q1]) ∧ (Fr wr PD) ∧ (Bx wr P11 (nC n (.slice (some ⟨eb, eo, none⟩) n.ins.length ci) (.slice Aw n.ws.length cw) (.slice Ab n.bs.length cb))) ∧ Past wo wr ∧ PD + 1 ≤ wr.heap.size)) (fun _ iv _ => 2 - (intOf iv).toNat)
        case atStart => exact Or.inl ⟨by first | rfl | go_num, ow3, Lib.hid (fun j hj => by simp [Value.ownBlock] at hj; omega), bD3, fD3, bN3, p13, z13⟩
        case round =>
          clear ow3 bD3 fD3 bN3 p13 z13
          rcases hrel with ⟨rfl, own, hne, bD, fD, bN, pq, sq⟩ | ⟨rfl, own, hne, bD, fD, bN, pq, sq⟩ | ⟨rfl, n2', own, hne, bD, fD, bN, pq, sq⟩
          · have d2 : decide ((0 : Int) < (n.ins.length : Int)) = true := decide_eq_true (by omega)
            have L0 : 0 < n.ins.length := by omega
            have pwb := pr.trans pq
            have pw4 := FIN.out.trans pwb
            have pw5 := pb.trans pwb
            have c0 := (pw4.cell (p := ⟨eb, eo + 0, none⟩) heb).trans (HEC.out 0 L0)
            obtain ⟨y0, y1, y2, y3⟩ := (HVC.out m0 hm0).grow hvb pw5
            obtain ⟨y, hy⟩ : ∃ y, V.getD m0 default = y := ⟨_, rfl⟩
            rw [hy] at y0 y1 y2 y3
            have HY := Lib.hid hy
            have hx : n.ins.getD 0 0 = (m0 : Int) := HM0.out L0
            have HX := Lib.hid hx
            rw [hx] at c0
            rw [Nat.add_zero] at c0
            have lk : (namedL V (n.ins.take 0)).length = 0 := by first | (simp [namedL]; done) | (simp [namedL]; omega)
            have LK := Lib.hid lk
            have HLT := Lib.hid (World.ownsRow.lt own.out)
            have k1 : (0 : Int) ≤ (m0 : Int) := by omega
            have k2 : (m0 : Int) < (M : Int) := by have := hm0; omega
            have k3 : (0 : Int) < (n.ins.length : Int) := by omega
            clear hy lk hx pw4 pw5 pwb
            go_wp2_with (at_builtin; go_loud (refine wpList_append_apart _ rfl (.tmp 67) (.tmp 76) 22 rfl PB 47 i0 _ 4 32 Tryz.underlying22 I1.out I2.out I3.out I4.out rfl (by decide) _ _ _ rfl (World.ownsRow.alloc own.out _) ⟨wr.heap.size, 0, none⟩ 1 1 (valCells y) rfl rfl (fun j u hu => cells_new' wr _ 47 j u hu) (val_one y) ?c4 ?c5 ?c6 (by decide) ?_))
            case c4 => rw [LK.out]; unfold maxLen; omega
            case c5 => rw [LK.out]; omega
            case c6 => simp; omega
            intro v4 w4' hown4 hgrow hpl
            have p4' : Past wo w4' := (pq.alloc _).grownBy hgrow (fun j hj => by have := (HLT.out j hj).1; have := HWO.out; omega)
            have OWN4 : OwnVals w4' PB v4 (namedL V (n.ins.take 1)) := by
              unfold OwnVals
              rw [namedL_take V n.ins 0 L0, valsCells_snoc, HX.out]
              simp only [Int.toNat_natCast, HY.out, List.length_append, List.length_cons, List.length_nil]
              simpa [namedL, valsCells] using hown4
            have bD4 := box_grownBy hgrow (box_old (x := .cells (valCells y).toArray 47) bD (by omega)) (by simp; omega) (fun e => hne.out _ e.symm rfl)
            have fD4 := free_grownBy' hgrow (free_alloc (cs := (valCells y).toArray) (t := 47) fD) (by simp; omega) (fun e => hne.out _ e.symm rfl)
            have bN4 := box_grownBy hgrow (box_old (x := .cells (valCells y).toArray 47) bN (by omega)) (by simp; omega) (fun e => by have := (HLT.out _ e.symm).1; omega)
            have hne4 : ∀ j, v4.ownBlock = some j → j ≠ PD := fun j hj => by
              rcases hpl with e | e
              · rw [e] at hj; exact hne.out j hj
              · rw [e] at hj
                simp at hj
                omega
            have s4' : PD + 1 ≤ w4'.heap.size := by have := hgrow.size; simp at this; omega
            have HNE4 := Lib.hid hne4
            have HOW4 := Lib.hid OWN4
            have pwb := pr.trans p4'
            have c0b := ((FIN.out.trans pwb).cell (p := ⟨eb, eo + 0, none⟩) heb).trans (HEC.out 0 L0)
            rw [HX.out] at c0b
            rw [Nat.add_zero] at c0b
            have cu := (pwb.cell (p := ⟨ob, oo + m0, none⟩) hob).trans HU0.out
            clear hown4 hgrow hpl own hne bD fD bN c0 y0 y1 y2 y3 hne4 OWN4 pwb
            go_wp2_with fail
            go_roundw
            case rel => exact Or.inr (Or.inl ⟨by first | rfl | go_num, Lib.hid (own_set_ne HOW4.out HNE4.out), HNE4, box_at bD4 0 (by simp) _, free_set fD4, box_setOther' (Q := PD) bN4 (by omega), p4'.setCell (by simp only; have := HWO.out; omega) _, by simpa [World.setCell] using s4'⟩)
            case measure => first | (simp [intOf]; done) | decide | (simp [intOf]; omega)
          · by_cases l2 : n.ins.length = 2
            · have l2a : n.ins.length ≤ 2 := by omega
              have l2b : 2 ≤ n.ins.length := by omega
              clear l2
              have d2 : decide ((1 : Int) < (n.ins.length : Int)) = true := decide_eq_true (by omega)
              have L1 : 1 < n.ins.length := by omega
              have pwb := pr.trans pq
              have pw4 := FIN.out.trans pwb
              have pw5 := pb.trans pwb
              have c0 := (pw4.cell (p := ⟨eb, eo + 1, none⟩) heb).trans (HEC.out 1 L1)
              obtain ⟨y0, y1, y2, y3⟩ := (HVC.out m1 hm1).grow hvb pw5
              obtain ⟨y, hy⟩ : ∃ y, V.getD m1 default = y := ⟨_, rfl⟩
              rw [hy] at y0 y1 y2 y3
              have HY := Lib.hid hy
              have hx : n.ins.getD 1 0 = (m1 : Int) := HM1.out L1
              have HX := Lib.hid hx
              rw [hx] at c0
              have lk : (namedL V (n.ins.take 1)).length = 1 := by first | (simp [namedL]; done) | (simp [namedL]; omega)
              have LK := Lib.hid lk
              have HLT := Lib.hid (World.ownsRow.lt own.out)
              have k1 : (0 : Int) ≤ (m1 : Int) := by omega
              have k2 : (m1 : Int) < (M : Int) := by have := hm1; omega
              have k3 : (1 : Int) < (n.ins.length : Int) := by omega
              clear hy lk hx pw4 pw5 pwb
              go_wp2_with (at_builtin; go_loud (refine wpList_append_apart _ rfl (.tmp 67) (.tmp 76) 22 rfl PB 47 i0 _ 4 32 Tryz.underlying22 I1.out I2.out I3.out I4.out rfl (by decide) _ _ _ rfl (World.ownsRow.alloc own.out _) ⟨wr.heap.size, 0, none⟩ 1 1 (valCells y) rfl rfl (fun j u hu => cells_new' wr _ 47 j u hu) (val_one y) ?c4 ?c5 ?c6 (by decide) ?_))
              case c4 => rw [LK.out]; unfold maxLen; omega
              case c5 => rw [LK.out]; omega
              case c6 => simp; omega
              intro v4 w4' hown4 hgrow hpl
              have p4' : Past wo w4' := (pq.alloc _).grownBy hgrow (fun j hj => by have := (HLT.out j hj).1; have := HWO.out; omega)
              have OWN4 : OwnVals w4' PB v4 (namedL V (n.ins.take 2)) := by
                unfold OwnVals
                rw [namedL_take V n.ins 1 L1, valsCells_snoc, HX.out]
                simp only [Int.toNat_natCast, HY.out, List.length_append, List.length_cons, List.length_nil]
                rw [LK.out]
                rw [LK.out] at hown4
                exact hown4
              have bD4 := box_grownBy hgrow (box_old (x := .cells (valCells y).toArray 47) bD (by omega)) (by simp; omega) (fun e => hne.out _ e.symm rfl)
              have fD4 := free_grownBy' hgrow (free_alloc (cs := (valCells y).toArray) (t := 47) fD) (by simp; omega) (fun e => hne.out _ e.symm rfl)
              have bN4 := box_grownBy hgrow (box_old (x := .cells (valCells y).toArray 47) bN (by omega)) (by simp; omega) (fun e => by have := (HLT.out _ e.symm).1; omega)
              have hne4 : ∀ j, v4.ownBlock = some j → j ≠ PD := fun j hj => by
                rcases hpl with e | e
                · rw [e] at hj; exact hne.out j hj
                · rw [e] at hj
                  simp at hj
                  omega
              have s4' : PD + 1 ≤ w4'.heap.size := by have := hgrow.size; simp at this; omega
              have HNE4 := Lib.hid hne4
              have HOW4 := Lib.hid OWN4
              have pwb := pr.trans p4'
              have c0b := ((FIN.out.trans pwb).cell (p := ⟨eb, eo + 1, none⟩) heb).trans (HEC.out 1 L1)
              rw [HX.out] at c0b
              have cu := (pwb.cell (p := ⟨ob, oo + m1, none⟩) hob).trans HU1.out
              clear hown4 hgrow hpl own hne bD fD bN c0 y0 y1 y2 y3 hne4 OWN4 pwb
              go_wp2_with fail
              go_roundw
              case rel => exact Or.inr (Or.inr ⟨by first | rfl | go_num, (by omega), Lib.hid (own_set_ne HOW4.out HNE4.out), HNE4, box_at bD4 1 (by simp) _, free_set fD4, box_setOther' (Q := PD) bN4 (by omega), p4'.setCell (by simp only; have := HWO.out; omega) _, by simpa [World.setCell] using s4'⟩)
              case measure => first | (simp [intOf]; done) | decide | (simp [intOf]; omega)
            · have n1a : n.ins.length ≤ 1 := by omega
              clear l2
              have d2 : decide ((1 : Int) < (n.ins.length : Int)) = false := decide_eq_false (by omega)
              have et : n.ins.take 1 = n.ins := List.take_of_length_le (by omega)
              rw [et] at own
              have pwb := pr.trans pq
              have LV := Lib.hid (vals_of_own own.out WFL.out)
              have RK := Lib.hid (rall_kern n _ _ _ u12 (.slice U0 n0l q0) (.slice none 0 0) (namedL V n.ins) (namedR D n.ins) wr NV.out HF.out HZ.out (IN.out.grow (FIN.out.trans pwb)) LV.out (by have := NU0.out.grow pwb; rw [R0.out]; exact this) (fun f => absurd f (by rw [NLEN.out]; omega)))
              have brq := box_past pwb bb (by have := pb.2.2.1; omega)
              clear et own hne fD
              go_wp2_with (refine wpList_load_box rfl 44 (.tmp 11) rfl P11 (nC n (.slice (some ⟨eb, eo, none⟩) n.ins.length ci) (.slice Aw n.ws.length cw) (.slice Ab n.bs.length cb)) rfl bN Tryz.underlying44 rfl N14 ?_)
              refine RK.out.mono ?_
              rintro e w9 ⟨vz, rfl, hk, p9⟩
              rw [← KE.out] at hk
              have HK := Lib.hid (hk.nums (FT.out.2 R (by have := LM.out; omega)).2)
              have pw9 := pwb.trans p9
              have br9 := box_past pw9 bb (by have := pb.2.2.1; omega)
              have cr := (pw9.cell (p := ⟨ob, oo + R, none⟩) hob).trans HUR.out
              have SE := Lib.hid (fun (w : World) (q : Past w9 w) => same_eq _ _ (D.getD R []) w (NUR.out.grow (pw9.trans q)) (HK.out.grow q))
              clear hk bD bN brq RK p9 LV pq
              go_wp2_with fail
              refine (SE.out _ (Past.refl _)).mono ?_
              rintro e wz ⟨rfl, gz⟩
              have pz := pw9.trans (Grown.past gz)
              clear pw9 br9 cr SE gz
              go_wp2_with fail
              go_roundw
              case rel => exact ⟨i + 1, by omega, by go_num, pz⟩
              case measure => simp [intOf]; omega
          · have n2a : n.ins.length ≤ 2 := by omega
            have n2b : 2 ≤ n.ins.length := by omega
            clear n2'
            have d2 : decide ((2 : Int) < (n.ins.length : Int)) = false := decide_eq_false (by omega)
            have et : n.ins.take 2 = n.ins := List.take_of_length_le (by omega)
            rw [et] at own
            have pwb := pr.trans pq
            have LV := Lib.hid (vals_of_own own.out WFL.out)
            have RK := Lib.hid (rall_kern n _ _ _ u12 (.slice U0 n0l q0) (.slice U1 n1l q1) (namedL V n.ins) (namedR D n.ins) wr NV.out HF.out HZ.out (IN.out.grow (FIN.out.trans pwb)) LV.out (by have := NU0.out.grow pwb; rw [R0.out]; exact this) (fun _ => by have := NU1.out.grow pwb; rw [R1.out (by omega)]; exact this))
            have brq := box_past pwb bb (by have := pb.2.2.1; omega)
            clear et own hne fD
            go_wp2_with (refine wpList_load_box rfl 44 (.tmp 11) rfl P11 (nC n (.slice (some ⟨eb, eo, none⟩) n.ins.length ci) (.slice Aw n.ws.length cw) (.slice Ab n.bs.length cb)) rfl bN Tryz.underlying44 rfl N14 ?_)
            refine RK.out.mono ?_
            rintro e w9 ⟨vz, rfl, hk, p9⟩
            rw [← KE.out] at hk
            have HK := Lib.hid (hk.nums (FT.out.2 R (by have := LM.out; omega)).2)
            have pw9 := pwb.trans p9
            have br9 := box_past pw9 bb (by have := pb.2.2.1; omega)
            have cr := (pw9.cell (p := ⟨ob, oo + R, none⟩) hob).trans HUR.out
            have SE := Lib.hid (fun (w : World) (q : Past w9 w) => same_eq _ _ (D.getD R []) w (NUR.out.grow (pw9.trans q)) (HK.out.grow q))
            clear hk bD bN brq RK p9 LV pq
            go_wp2_with fail
            refine (SE.out _ (Past.refl _)).mono ?_
            rintro e wz ⟨rfl, gz⟩
            have pz := pw9.trans (Grown.past gz)
            clear pw9 br9 cr SE gz
            go_wp2_with fail
            go_roundw
            case rel => exact ⟨i + 1, by omega, by go_num, pz⟩
            case measure => simp [intOf]; omega
      · obtain rfl : i = g.nodes.length := by omega
        have d1 : decide ((g.nodes.length : Int) < (g.nodes.length : Int)) = false := by simp
        have pH := pF.trans pr
        go_wp2_with fail
        go_ret
        exact ⟨rfl, pH⟩
end Go.Proofs.YtliijchcpooplaaGreat
