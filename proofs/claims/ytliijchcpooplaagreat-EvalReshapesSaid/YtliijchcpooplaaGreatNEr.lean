/- EvalReshapes: the walk. EvalReshapes's walk for any byte. -/
import Derived.Test.YtliijchcpooplaaGreatNMFixR
namespace Go.Proofs.YtliijchcpooplaaGreat
open Go.ChangeShapes Go.WideShapes Go.ChangeAt Go.RowKit
set_option maxRecDepth 20000
set_option linter.unusedVariables false
set_option linter.unusedSimpArgs false

set_option maxHeartbeats 8000000 in
theorem resh_walk (W : World) (gv : Value) (g0 : GraphD) (hg0 : IsGraph W gv g0) (lv : Value) (ls : List Int) (hl0 : IsNums .i8 W lv ls) (xb : Nat) (hxb : xb ≤ 255) : Calls Tryz.prog 5 #[gv, lv, .int .u8 xb] W fun e w' => e = .returned (.bool true) ∧ Past W w' := by
  have HG0 := Lib.hid hg0
  have HLS := Lib.hid hl0
  obtain ⟨Lb, lc, rfl, _⟩ := hl0
  obtain ⟨iv0, nv0, ov0, rfl, hi0, hn0, ho0⟩ := hg0
  obtain ⟨B1, d1, rfl, _, _, _, _, _⟩ := hi0
  obtain ⟨B2, d2, rfl, _, _, _, _, _⟩ := hn0
  obtain ⟨B3, d3, rfl, _, _, _, _, _⟩ := ho0
  have LS := Lib.hid (fun w (p : Past W w) => less_any g0 _ w (HG0.out.grow p))
  have L6 : (lessD g0).ins.length ≤ 6 := by simp [lessD]; omega
  have L14 : (lessD g0).nodes.length ≤ 14 := by simp [lessD]; omega
  have LO6 : (lessD g0).outs.length ≤ 6 := by simp [lessD]; omega
  obtain ⟨g, hg⟩ : ∃ g, lessD g0 = g := ⟨_, rfl⟩
  have CU : Hid (Cut g) := Lib.hid (hg ▸ cut_lessD g0)
  rw [hg] at LS L6 L14 LO6
  clear hg
  go_enter Tryz.func5, Tryz.ntmps5
  go_upto_region 1 with fail
  refine opq (fun w' => (∀ o : Nat, w'.cell? ⟨W.heap.size, o, none⟩ = (#[.slice B1 g0.ins.length d1, .slice B2 g0.nodes.length d2, .slice B3 g0.outs.length d3] : Array Value)[o]?) ∧ (∀ o : Nat, w'.frozen? ⟨W.heap.size, o, none⟩ = false) ∧ Past W w' ∧ W.heap.size + 1 ≤ w'.heap.size) kKeep ?_
  rintro w1 ⟨b1, f1, p1, s1⟩
  go_wp2_with fail
  refine (shown6 _).mono ?_
  rintro e w2 ⟨rfl, gq⟩
  obtain ⟨b2, f2, p2, s2⟩ : (∀ o : Nat, w2.cell? ⟨W.heap.size, o, none⟩ = (#[.slice B1 g0.ins.length d1, .slice B2 g0.nodes.length d2, .slice B3 g0.outs.length d3] : Array Value)[o]?) ∧ (∀ o : Nat, w2.frozen? ⟨W.heap.size, o, none⟩ = false) ∧ Past W w2 ∧ W.heap.size + 1 ≤ w2.heap.size := by (exact kKeep)
  clear b1 f1 p1 s1 gq
  go_wp2_with fail
  refine (LS.out _ p2).mono ?_
  rintro e w3 ⟨gw, rfl, HG, q3⟩
  obtain ⟨iv, nv, ov, rfl, hi, hn, ho⟩ := HG
  have HI := Lib.hid hi
  have HN := Lib.hid hn
  have HO := Lib.hid ho
  obtain ⟨A1, c1, rfl, i1, i2, _, _, i5⟩ := hi
  obtain ⟨A2, c2, rfl, n1, n2, _, _, n5⟩ := hn
  obtain ⟨A3, c3, rfl, o1, o2, _, _, o5⟩ := ho
  obtain ⟨b3, f3, s3⟩ : (∀ o : Nat, w3.cell? ⟨W.heap.size, o, none⟩ = (#[.slice B1 g0.ins.length d1, .slice B2 g0.nodes.length d2, .slice B3 g0.outs.length d3] : Array Value)[o]?) ∧ (∀ o : Nat, w3.frozen? ⟨W.heap.size, o, none⟩ = false) ∧ W.heap.size + 1 ≤ w3.heap.size := by (exact kKeep)
  have q4 : Past W w3 := p2.trans q3
  clear b2 f2 p2 s2 q3 i1 i2 n1 n2 o1 o2 i5 n5 o5
  go_upto_region 3 with fail
  refine opq (fun w' => ((∀ o : Nat, w'.cell? ⟨W.heap.size, o, none⟩ = (#[.slice A1 g.ins.length c1, .slice A2 g.nodes.length c2, .slice A3 g.outs.length c3] : Array Value)[o]?) ∧ (∀ o : Nat, w'.frozen? ⟨W.heap.size, o, none⟩ = false) ∧ Past W w' ∧ W.heap.size + 1 ≤ w'.heap.size) ∧ IsVals w' (.slice A1 g.ins.length c1) g.ins ∧ IsNodes w' (.slice A2 g.nodes.length c2) g.nodes ∧ IsNums .i64 w' (.slice A3 g.outs.length c3) g.outs) ⟨⟨box_set3 b3, by (exact kKeep), by (exact kKeep), by (exact kKeep)⟩, vals_save HI.out (noInt_box b3) ((((Save.refl _ _).set _ _).set _ _).set _ _), nodes_save HN.out (noInt_box b3) ((((Save.refl _ _).set _ _).set _ _).set _ _), nums_save HO.out (noInt_box b3) ((((Save.refl _ _).set _ _).set _ _).set _ _)⟩ ?_
  rintro w4 ⟨⟨b4, f4, p4, s4⟩, hi, hn, ho⟩
  have HG : Hid (IsGraph w4 (.agg #[.slice A1 g.ins.length c1, .slice A2 g.nodes.length c2, .slice A3 g.outs.length c3]) g) := Lib.hid ⟨_, _, _, rfl, hi, hn, ho⟩
  have HL4 := Lib.hid (HLS.out.grow p4)
  clear b3 f3 s3 q4 HI HN HO hi hn ho HG0 LS
  have RV := Lib.hid (fun (w : World) (p : Past w4 w) => rvalues_any g _ w (HG.out.grow p) CU.out)
  go_wp2_with fail
  refine (RV.out _ (Past.refl _)).mono ?_
  rintro e w5 ⟨v5, q, rfl, hq, hv5, q5⟩
  have b5 := box_past q5 b4 (by omega)
  have p5 : Past W w5 := p4.trans q5
  have s5 : W.heap.size + 1 ≤ w5.heap.size := by have := q5.2.2.1; omega
  by_cases hE : valuesE g = 0
  rotate_left
  · have e1 : (q != 0) = true := by
      have : q ≠ 0 := fun f => hE (hq.1 f)
      simpa using this
    clear hq hv5 hE
    go_wp2_with fail
    go_ret
    exact ⟨rfl, p5⟩
  have e1 : (q != 0) = false := by simp [hq.2 hE]
  have HV5 := Lib.hid (hv5 hE)
  have E0 := Lib.hid hE
  obtain ⟨AV, cV, rfl, _⟩ := hv5 hE
  have ML := Lib.hid (makes_facts hE)
  have BG := Lib.hid (begins_ok (values_ok hE).1)
  have f5 := free_past q5 f4 (by omega)
  clear hq hv5 hE b4 f4 p4 s4 RV
  by_cases h9 : 12 < g.nodes.length + 3
  · have d2 : decide ((12 : Int) < (g.nodes.length : Int) + 3) = true := decide_eq_true (by omega)
    clear f5
    go_wp2_with fail
    go_ret
    exact ⟨rfl, p5⟩
  have d2 : decide ((12 : Int) < (g.nodes.length : Int) + 3) = false := decide_eq_false (by omega)
  have ml := ML.out.1
  have g1 := BG.out.1.1
  obtain ⟨V, hV⟩ : ∃ V, valuesL g = V := ⟨_, rfl⟩
  rw [hV] at HV5 ML ml
  rw [hV]
  obtain ⟨M, hM⟩ : ∃ M, V.length = M := ⟨_, rfl⟩
  have HVM := Lib.hid hM
  have LM : Hid (M = g.ins.length + g.nodes.length) := Lib.hid (by rw [← hM]; exact ml)
  have M1 : 1 ≤ M := by have := LM.out; omega
  have M2 : M ≤ 20 := by have := LM.out; omega
  obtain ⟨_, _, eV, _, _, _, _, hv5⟩ := HV5.out
  rw [hM] at HV5 eV hv5
  rw [hM]
  obtain ⟨vb, vo, e2, hvb, hvc⟩ := hv5 (by omega)
  subst e2
  simp only [Value.slice.injEq, true_and] at eV
  obtain ⟨rfl, rfl⟩ := eV
  obtain ⟨k, hk⟩ : ∃ k, xb % M = k := ⟨_, rfl⟩
  have kM : k < M := by rw [← hk]; exact Nat.mod_lt _ (by omega)
  obtain ⟨y0, y1, y2, y3⟩ := hvc k kM
  have mv := ML.out.2.1 k (by rw [hM]; exact kM)
  have zv : -128 ≤ (V.getD k default).z ∧ (V.getD k default).z ≤ 127 := by rw [← hV]; exact zeros_ok E0.out (by rw [hV, hM]; exact kM)
  obtain ⟨y, hy⟩ : ∃ y, V.getD k default = y := ⟨_, rfl⟩
  rw [hy] at y0 y1 y2 y3 mv zv
  have MV := Lib.hid mv
  obtain ⟨T1, hT1⟩ : ∃ T1, M + 1 = T1 := ⟨_, rfl⟩
  obtain ⟨T2, hT2⟩ : ∃ T2, M + 2 = T2 := ⟨_, rfl⟩
  have HT1 := Lib.hid hT1
  have HT2 := Lib.hid hT2
  have RV := Lib.hid (resh_values (v := y) (k := k) (T := M) E0.out (by rw [hV, hM]) kM (by rw [hV]; exact hy) (by omega))
  have RR := Lib.hid (fun (ins : List (List Int)) (hf : fitsP g.ins ins) (hb : AllBytes ins) => resh_rows (v := y) (k := k) (T := M) E0.out (by rw [hV, hM]) kM (by rw [hV]; exact hy) (by omega) (graph_bytes HG.out) hf hb)
  have TD : Hid (reshD g y k M = ⟨g.ins, g.nodes ++ [shJ k y.z y.w y.h y.c, shJ M y.z y.h y.w y.c, reJ T1 y.z], [(k : Int), (T1 : Int), (T2 : Int), (M : Int)]⟩) := Lib.hid (by unfold reshD; rw [hT1, hT2])
  have by1 : 1 ≤ y.h ∧ y.h ≤ 16 ∧ 1 ≤ y.w ∧ y.w ≤ 16 ∧ 1 ≤ y.c ∧ y.c ≤ 8 := by obtain ⟨a1, b1, c1, d1, e1, f1⟩ := id mv; exact ⟨a1, b1, c1, d1, e1, f1⟩
  have WF1 : Hid (NodeWf (shJ k y.z y.w y.h y.c)) := Lib.hid (by refine ⟨?_, ?_, ?_, ?_, ?_, ?_, ?_, ?_, ?_, ?_, ?_⟩ <;> exact wf64 (by simp only [shJ]; omega))
  have WF2 : Hid (NodeWf (shJ M y.z y.h y.w y.c)) := Lib.hid (by refine ⟨?_, ?_, ?_, ?_, ?_, ?_, ?_, ?_, ?_, ?_, ?_⟩ <;> exact wf64 (by simp only [shJ]; omega))
  have WF3 : Hid (NodeWf (reJ T1 y.z)) := Lib.hid (by refine ⟨?_, ?_, ?_, ?_, ?_, ?_, ?_, ?_, ?_, ?_, ?_⟩ <;> exact wf64 (by simp only [reJ]; omega))
  have HG5 := Lib.hid (HG.out.grow q5)
  obtain ⟨iv, nv, ov, eg, hgi, hgn, hgo⟩ := HG5.out
  simp only [Value.agg.injEq, Array.mk.injEq, List.cons.injEq, and_true] at eg
  obtain ⟨rfl, rfl, rfl⟩ := eg
  have HGI2 := Lib.hid hgi
  obtain ⟨xs, lx, rx, ox, sx⟩ := nodes_src hgn
  have LX := Lib.hid lx
  have RX := Lib.hid rx
  have OX := Lib.hid ox
  have SX := Lib.hid sx
  have NWF : Hid (∀ n ∈ g.nodes, NodeWf n) := Lib.hid (by obtain ⟨_, _, _, _, _, _, wf, _⟩ := hgn; exact wf)
  obtain ⟨k0, hk0, hz0, hz1, hz2⟩ := info_parts infoNode'
  have K1 := Lib.hid hk0
  have K2 := Lib.hid hz0
  have K3 := Lib.hid hz1
  have K4 := Lib.hid hz2
  have hkx : (xb : Int) % (M : Int) = (k : Int) := by rw [← hk]; exact (Int.natCast_emod xb M).symm
  clear hgi hgn hgo lx rx ox sx hk0 hz0 hz1 hz2 hvc hv5 hV hM hk hy hT1 hT2 mv
  go_upto_region 7 with fail
  simp only [hkx]
  have k0' : (0 : Int) ≤ (k : Int) := by omega
  have k2' : (k : Int) < (M : Int) := by omega
  have k3' : k ≤ 20 := by omega
  obtain ⟨P, hP⟩ : ∃ P, w5.heap.size = P := ⟨_, rfl⟩
  have HP := Lib.hid hP
  have W1P : W.heap.size + 1 ≤ P := by omega
  clear hP hkx
  go_upto_region 8 with fail
  refine opq (fun w' => (∀ o : Nat, w'.cell? ⟨W.heap.size, o, none⟩ = (#[.slice A1 g.ins.length c1, .slice A2 g.nodes.length c2, .slice A3 g.outs.length c3] : Array Value)[o]?) ∧ (∀ o : Nat, w'.cell? ⟨w5.heap.size, o, none⟩ = (#[.int .i64 y.h, .int .i64 y.w, .int .i64 y.c, .int .i64 y.z] : Array Value)[o]?) ∧ Past w5 w' ∧ w5.heap.size + 1 = w'.heap.size) ?_ ?_
  · have g0 := Past.refl w5
    exact ⟨by (exact kKeep), by (exact kKeep), by (exact kKeep), by simp⟩
  rintro w7 ⟨b7, v7, p7, z7⟩
  rw [HP.out] at v7 z7
  rw [HP.out]
  clear y0 y1 y2 y3 b5
  obtain ⟨P3, hP3⟩ : ∃ P3, w7.heap.size = P3 := ⟨_, rfl⟩
  have HP3 := Lib.hid hP3
  have P3P : P + 1 = P3 := by omega
  clear hP3 z7
  go_upto_region 10 with fail
  refine opq (fun w' => (∀ o : Nat, w'.cell? ⟨W.heap.size, o, none⟩ = (#[.slice A1 g.ins.length c1, .slice A2 g.nodes.length c2, .slice A3 g.outs.length c3] : Array Value)[o]?) ∧ (∀ o : Nat, w'.cell? ⟨P, o, none⟩ = (#[.int .i64 y.h, .int .i64 y.w, .int .i64 y.c, .int .i64 y.z] : Array Value)[o]?) ∧ (∀ o : Nat, w'.cell? ⟨w7.heap.size, o, none⟩ = (#[.int .i64 y.w, .int .i64 y.h, .int .i64 y.c] : Array Value)[o]?) ∧ Past w5 w' ∧ w7.heap.size + 1 = w'.heap.size) ?_ ?_
  · have z0 : W.heap.size + 1 ≤ w7.heap.size := by have := HP3.out; omega
    have z1 : P + 1 ≤ w7.heap.size := by have := HP3.out; omega
    exact ⟨by (exact kKeep), by (exact kKeep), by (exact kKeep), by (exact kKeep), by simp⟩
  rintro w8 ⟨b8, v8, t8, p8, z8⟩
  rw [HP3.out] at t8 z8
  rw [HP3.out]
  clear b7 v7 p7
  obtain ⟨Q, hQ⟩ : ∃ Q, w8.heap.size = Q := ⟨_, rfl⟩
  have HQ := Lib.hid hQ
  have QP3 : P3 + 1 = Q := by omega
  clear hQ z8
  go_upto_region 11 with fail
  refine opq (fun w' => (∀ o : Nat, w'.cell? ⟨W.heap.size, o, none⟩ = (#[.slice A1 g.ins.length c1, .slice A2 g.nodes.length c2, .slice A3 g.outs.length c3] : Array Value)[o]?) ∧ (∀ o : Nat, w'.cell? ⟨P, o, none⟩ = (#[.int .i64 y.h, .int .i64 y.w, .int .i64 y.c, .int .i64 y.z] : Array Value)[o]?) ∧ (∀ o : Nat, w'.cell? ⟨P3, o, none⟩ = (#[.int .i64 y.w, .int .i64 y.h, .int .i64 y.c] : Array Value)[o]?) ∧ (∀ o : Nat, w'.frozen? ⟨w8.heap.size, o, none⟩ = false) ∧ (∀ o : Nat, w'.cell? ⟨w8.heap.size, o, none⟩ = (#[.slice A1 g.ins.length c1, .slice A2 g.nodes.length c2, .slice A3 g.outs.length c3] : Array Value)[o]?) ∧ Past w5 w' ∧ w8.heap.size + 1 ≤ w'.heap.size) ?_ ?_
  · have z0 : W.heap.size + 1 ≤ w8.heap.size := by have := HQ.out; omega
    have z1 : P + 1 ≤ w8.heap.size := by have := HQ.out; omega
    have z2 : P3 + 1 ≤ w8.heap.size := by have := HQ.out; omega
    exact ⟨by (exact kKeep), by (exact kKeep), by (exact kKeep), by (exact kKeep), by (exact kKeep), by (exact kKeep), by simp⟩
  rintro w6 ⟨b6, v6, t6, f6, q6, p6, z6⟩
  rw [HQ.out] at q6 f6 z6
  rw [HQ.out]
  clear b8 v8 t8 p8
  obtain ⟨BB, hBB⟩ : ∃ BB, w6.heap.size = BB := ⟨_, rfl⟩
  have zB : Q + 1 ≤ BB := by omega
  have z5B : w5.heap.size ≤ BB := by have := HP.out; omega
  have z5Q : w5.heap.size ≤ Q := by have := HP.out; omega
  have t1 : IntKind.i64.wrap ((M : Int) + 1) = (T1 : Int) := by have := HT1.out; rw [IntWalk.i64_in _ (by omega)]; omega
  have bT : T1 ≤ 30 := by have := HT1.out; omega
  have gn : g.nodes.length ≤ 12 := by omega
  clear W1P
  have W1P : W.heap.size + 1 ≤ P := by have := HP.out; omega
  refine wp_region_free (fun w' => (∀ o : Nat, w'.cell? ⟨W.heap.size, o, none⟩ = (#[.slice A1 g.ins.length c1, .slice A2 g.nodes.length c2, .slice A3 g.outs.length c3] : Array Value)[o]?) ∧ (∀ o : Nat, w'.cell? ⟨P, o, none⟩ = (#[.int .i64 y.h, .int .i64 y.w, .int .i64 y.c, .int .i64 y.z] : Array Value)[o]?) ∧ (∀ o : Nat, w'.cell? ⟨P3, o, none⟩ = (#[.int .i64 y.w, .int .i64 y.h, .int .i64 y.c] : Array Value)[o]?) ∧ (∀ o : Nat, w'.frozen? ⟨Q, o, none⟩ = false) ∧ (∃ y', (∀ o : Nat, w'.cell? ⟨Q, o, none⟩ = (#[.slice A1 g.ins.length c1, y', .slice A3 g.outs.length c3] : Array Value)[o]?)) ∧ Past w5 w' ∧ BB ≤ w'.heap.size) [(61, ?vf61), (62, ?vf62), (64, ?vf64), (66, ?vf66), (67, ?vf67), (68, ?vf68), (70, ?vf70), (72, ?vf72), (73, ?vf73), (74, ?vf74), (75, ?vf75), (77, ?vf77), (78, ?vf78), (80, ?vf80), (81, ?vf81), (85, ?vf85)] [(0, 60), (3, 63), (5, 65), (9, 69), (11, 71), (16, 76), (19, 79), (22, 82), (23, 83), (24, 84)] [26] (fun i v w' => match i with | 0 => RowF w' BB 0 (v 0) [] ∧ ∃ b, v 0 = .slice (some ⟨b, 0, none⟩) 0 0 | 3 => RowF w' BB g.nodes.length (v 3) xs | 5 => RowI w' BB (v 5) k | 9 => v 9 = .agg #[.int .i64 11, v 5, .int .i64 0, .int .i64 0, .int .i64 0, .int .i64 0, .int .i64 1, .int .i64 0, .int .i64 y.z, .int .i64 y.w, .int .i64 y.h, .int .i64 y.c, .slice none 0 0, .slice none 0 0] ∧ (v 5).oneCell' = true | 11 => RowI w' BB (v 11) M | 16 => v 16 = .agg #[.int .i64 11, v 11, .int .i64 0, .int .i64 0, .int .i64 0, .int .i64 0, .int .i64 1, .int .i64 0, .int .i64 y.z, .int .i64 y.h, .int .i64 y.w, .int .i64 y.c, .slice none 0 0, .slice none 0 0] ∧ (v 11).oneCell' = true | 19 => RowI w' BB (v 19) T1 | 22 => v 22 = .agg #[.int .i64 8, v 19, .int .i64 0, .int .i64 0, .int .i64 0, .int .i64 0, .int .i64 1, .int .i64 0, .int .i64 y.z, .int .i64 0, .int .i64 0, .int .i64 0, .slice none 0 0, .slice none 0 0] ∧ (v 19).oneCell' = true | 23 => BoxF w' BB (v 23) 3 (nodeCells (shJ k y.z y.w y.h y.c) (v 5) (.slice none 0 0) (.slice none 0 0) ++ (nodeCells (shJ M y.z y.h y.w y.c) (v 11) (.slice none 0 0) (.slice none 0 0) ++ nodeCells (reJ T1 y.z) (v 19) (.slice none 0 0) (.slice none 0 0))).toArray ∧ (v 5).oneCell' = true ∧ (v 11).oneCell' = true ∧ (v 19).oneCell' = true | 24 => RowF w' BB (g.nodes.length + 3) (v 24) (xs ++ (nodeCells (shJ k y.z y.w y.h y.c) (v 5) (.slice none 0 0) (.slice none 0 0) ++ (nodeCells (shJ M y.z y.h y.w y.c) (v 11) (.slice none 0 0) (.slice none 0 0) ++ nodeCells (reJ T1 y.z) (v 19) (.slice none 0 0) (.slice none 0 0)))) | 26 => ∃ A c, v 24 = .slice A (g.nodes.length + 3) c ∧ RowF w' BB (g.nodes.length + 3) (v 24) (xs ++ (nodeCells (shJ k y.z y.w y.h y.c) (v 5) (.slice none 0 0) (.slice none 0 0) ++ (nodeCells (shJ M y.z y.h y.w y.c) (v 11) (.slice none 0 0) (.slice none 0 0) ++ nodeCells (reJ T1 y.z) (v 19) (.slice none 0 0) (.slice none 0 0)))) ∧ (∀ o : Nat, w'.cell? ⟨Q, o, none⟩ = (#[.slice A1 g.ins.length c1, .slice A (g.nodes.length + 3) c, .slice A3 g.outs.length c3] : Array Value)[o]?) | _ => True) [(3, [0]), (9, [5]), (16, [11]), (22, [19]), (23, [9, 16, 22]), (24, [3, 23]), (26, [24])] [(3, [0]), (24, [0, 3, 23])] [(0, [3, 24, 26]), (3, [24, 26]), (5, [9, 23, 24, 26]), (9, [23, 24, 26]), (11, [16, 23, 24, 26]), (16, [23, 24, 26]), (19, [22, 23, 24, 26]), (22, [23, 24, 26]), (23, [24, 26]), (24, [26])] [26, 5, 11, 19] (by kernel_rfl) (by kernel_rfl) (by kernel_rfl) ?df ⟨b6, v6, t6, f6, ⟨_, q6⟩, p6, (by omega)⟩ (fun w h => h) ?ef ?lf ?nf
  case df =>
    intro q hq
    simp only [List.mem_cons, List.not_mem_nil, or_false] at hq
    rcases hq with rfl | rfl | rfl | rfl | rfl | rfl | rfl | rfl | rfl | rfl <;> simp
  case ef =>
    simp only [latesV, List.map_cons, List.map_nil, List.cons_append, List.nil_append, fillA, Act.put, List.setIfInBounds_toArray, List.set_cons_zero, List.set_cons_succ]
    (iterate 27 (first | refine early_skip rfl ?_ | (refine early_cons (fun v w hw K hK => ?_) ?_; focus ((have hS := Lib.hid hw); go_split_ands; go_simp; (try simp only [Act.put, List.setIfInBounds_toArray, List.set_cons_zero, List.set_cons_succ]); exact hK))))
    exact True.intro
  case lf =>
    simp only [latesV, List.map_cons, List.map_nil, List.cons_append, List.nil_append, fillA, Act.put, List.setIfInBounds_toArray, List.set_cons_zero, List.set_cons_succ]
    refine late_cons ?xf0 ?_
    case xf0 =>
      unfold LateOne
      (try simp only [Act.put, List.setIfInBounds_toArray, List.set_cons_zero, List.set_cons_succ])
      intro v w hw hd K hK
      obtain ⟨bg, bv, bt, fq, ⟨y', bq⟩, pw, zw⟩ := hw
      go_simp
      refine hK _ _ ⟨box_old bg (by omega), box_old bv (by omega), box_old bt (by omega), free_alloc fq, ⟨y', box_old bq (by omega)⟩, pw.alloc _, by simp; omega⟩ ⟨ownNodes_new zw, _, rfl⟩ (fun i hi hk hl h => by
        rcases i with _ | _ | _ | _ | _ | _ | _ | _ | _ | _ | _ | _ | _ | _ | _ | _ | _ | _ | _ | _ | _ | _ | _ | _ | _ | _ | _ | i
        · exact absurd rfl hi
        · exact True.intro
        · exact True.intro
        · exact absurd hl (by decide)
        · exact True.intro
        · exact RowI.alloc h _
        · exact True.intro
        · exact True.intro
        · exact True.intro
        · exact h
        · exact True.intro
        · exact RowI.alloc h _
        · exact True.intro
        · exact True.intro
        · exact True.intro
        · exact True.intro
        · exact h
        · exact True.intro
        · exact True.intro
        · exact RowI.alloc h _
        · exact True.intro
        · exact True.intro
        · exact h
        · exact ⟨BoxF.alloc h.1 _, h.2⟩
        · exact absurd hl (by decide)
        · exact True.intro
        · exact absurd hl (by decide)
        · exact True.intro)
    refine late_skip rfl ?_
    refine late_skip rfl ?_
    refine late_cons ?xf3 ?_
    case xf3 =>
      unfold LateOne
      (try simp only [Act.put, List.setIfInBounds_toArray, List.set_cons_zero, List.set_cons_succ])
      intro v w hw hd K hK
      obtain ⟨bg, bv, bt, fq, ⟨y', bq⟩, pw, zw⟩ := hw
      obtain ⟨h0, b0, e0⟩ : RowF w BB 0 (v 0) [] ∧ ∃ b, v 0 = .slice (some ⟨b, 0, none⟩) 0 0 := hd 0 rfl
      have lt0 := World.ownsRow.lt h0
      refine wp_append_src w (.tmp 60) (.tmp 62) 23 rfl BB 44 k0 _ 14 160 Tryz.underlying23 K1.out K2.out K3.out K4.out rfl (by decide) (v 0) 0 [] rfl h0 A2 g.nodes.length c2 xs rfl LX.out (SX.out w pw) OX.out (by unfold maxLen; omega) (by omega) zw (fun x w' hown hgrow => ?_)
      have fin := hK x w' ⟨box_grownBy hgrow bg (by omega) (fun e => by have := (lt0 _ e.symm).1; omega), box_grownBy hgrow bv (by omega) (fun e => by have := (lt0 _ e.symm).1; omega), box_grownBy hgrow bt (by omega) (fun e => by have := (lt0 _ e.symm).1; omega), free_grownBy hgrow fq (by omega) (fun e => by have := (lt0 _ e.symm).1; omega), ⟨y', box_grownBy hgrow bq (by omega) (fun e => by have := (lt0 _ e.symm).1; omega)⟩, pw.grownBy hgrow (fun j hj => by have := (lt0 j hj).1; omega), by have := hgrow.size; omega⟩ (by simpa [RowF, updV] using hown) (fun i hi hk hl h => by
        rcases i with _ | _ | _ | _ | _ | _ | _ | _ | _ | _ | _ | _ | _ | _ | _ | _ | _ | _ | _ | _ | _ | _ | _ | _ | _ | _ | _ | i
        · exact absurd hk (by decide)
        · exact True.intro
        · exact True.intro
        · exact absurd rfl hi
        · exact True.intro
        · exact RowI.grow h h0 hgrow
        · exact True.intro
        · exact True.intro
        · exact True.intro
        · exact h
        · exact True.intro
        · exact RowI.grow h h0 hgrow
        · exact True.intro
        · exact True.intro
        · exact True.intro
        · exact True.intro
        · exact h
        · exact True.intro
        · exact True.intro
        · exact RowI.grow h h0 hgrow
        · exact True.intro
        · exact True.intro
        · exact h
        · exact ⟨BoxF.grow h.1 hgrow (fun b e f => own_empty h0 e0 (BoxF.cells h.1 e 0) f.symm), h.2⟩
        · exact absurd hl (by decide)
        · exact True.intro
        · exact absurd hl (by decide)
        · exact True.intro)
      simp only [Act.put, List.setIfInBounds_toArray, List.set_cons_zero, List.set_cons_succ]
      exact fin
    refine late_skip rfl ?_
    refine late_cons ?xf5 ?_
    case xf5 =>
      unfold LateOne
      (try simp only [Act.put, List.setIfInBounds_toArray, List.set_cons_zero, List.set_cons_succ])
      intro v w hw hd K hK
      obtain ⟨bg, bv, bt, fq, ⟨y', bq⟩, pw, zw⟩ := hw
      go_simp
      refine hK _ _ ⟨box_old bg (by omega), box_old bv (by omega), box_old bt (by omega), free_alloc fq, ⟨y', box_old bq (by omega)⟩, pw.alloc _, by simp; omega⟩ (RowI.new zw _) (fun i hi hk hl h => by
        rcases i with _ | _ | _ | _ | _ | _ | _ | _ | _ | _ | _ | _ | _ | _ | _ | _ | _ | _ | _ | _ | _ | _ | _ | _ | _ | _ | _ | i
        · exact ⟨h.1.alloc _, h.2⟩
        · exact True.intro
        · exact True.intro
        · exact RowF.alloc h _
        · exact True.intro
        · exact absurd rfl hi
        · exact True.intro
        · exact True.intro
        · exact True.intro
        · exact absurd hl (by decide)
        · exact True.intro
        · exact RowI.alloc h _
        · exact True.intro
        · exact True.intro
        · exact True.intro
        · exact True.intro
        · exact h
        · exact True.intro
        · exact True.intro
        · exact RowI.alloc h _
        · exact True.intro
        · exact True.intro
        · exact h
        · exact absurd hl (by decide)
        · exact absurd hl (by decide)
        · exact True.intro
        · exact absurd hl (by decide)
        · exact True.intro)
    refine late_skip rfl ?_
    refine late_skip rfl ?_
    refine late_skip rfl ?_
    refine late_cons ?xf9 ?_
    case xf9 =>
      unfold LateOne
      (try simp only [Act.put, List.setIfInBounds_toArray, List.set_cons_zero, List.set_cons_succ])
      intro v w hw hd K hK
      have o1 : RowI w BB (v 5) _ := hd 5 rfl
      have on1 := o1.one
      obtain ⟨A5, c5, e5, _⟩ := own_slice' o1
      simp only [e5]
      go_simp
      have fin := hK (.agg #[.int .i64 11, v 5, .int .i64 0, .int .i64 0, .int .i64 0, .int .i64 0, .int .i64 1, .int .i64 0, .int .i64 y.z, .int .i64 y.w, .int .i64 y.h, .int .i64 y.c, .slice none 0 0, .slice none 0 0]) w hw ⟨rfl, on1⟩ (fun i hi hk hl h => by
        rcases i with _ | _ | _ | _ | _ | _ | _ | _ | _ | _ | _ | _ | _ | _ | _ | _ | _ | _ | _ | _ | _ | _ | _ | _ | _ | _ | _ | i
        · exact h
        · exact True.intro
        · exact True.intro
        · exact h
        · exact True.intro
        · exact h
        · exact True.intro
        · exact True.intro
        · exact True.intro
        · exact absurd rfl hi
        · exact True.intro
        · exact h
        · exact True.intro
        · exact True.intro
        · exact True.intro
        · exact True.intro
        · exact h
        · exact True.intro
        · exact True.intro
        · exact h
        · exact True.intro
        · exact True.intro
        · exact h
        · exact absurd hl (by decide)
        · exact absurd hl (by decide)
        · exact True.intro
        · exact absurd hl (by decide)
        · exact True.intro)
      simp only [e5] at fin
      exact fin
    refine late_skip rfl ?_
    refine late_cons ?xf11 ?_
    case xf11 =>
      unfold LateOne
      (try simp only [Act.put, List.setIfInBounds_toArray, List.set_cons_zero, List.set_cons_succ])
      intro v w hw hd K hK
      obtain ⟨bg, bv, bt, fq, ⟨y', bq⟩, pw, zw⟩ := hw
      go_simp
      refine hK _ _ ⟨box_old bg (by omega), box_old bv (by omega), box_old bt (by omega), free_alloc fq, ⟨y', box_old bq (by omega)⟩, pw.alloc _, by simp; omega⟩ (RowI.new zw _) (fun i hi hk hl h => by
        rcases i with _ | _ | _ | _ | _ | _ | _ | _ | _ | _ | _ | _ | _ | _ | _ | _ | _ | _ | _ | _ | _ | _ | _ | _ | _ | _ | _ | i
        · exact ⟨h.1.alloc _, h.2⟩
        · exact True.intro
        · exact True.intro
        · exact RowF.alloc h _
        · exact True.intro
        · exact RowI.alloc h _
        · exact True.intro
        · exact True.intro
        · exact True.intro
        · exact h
        · exact True.intro
        · exact absurd rfl hi
        · exact True.intro
        · exact True.intro
        · exact True.intro
        · exact True.intro
        · exact absurd hl (by decide)
        · exact True.intro
        · exact True.intro
        · exact RowI.alloc h _
        · exact True.intro
        · exact True.intro
        · exact h
        · exact absurd hl (by decide)
        · exact absurd hl (by decide)
        · exact True.intro
        · exact absurd hl (by decide)
        · exact True.intro)
    refine late_skip rfl ?_
    refine late_skip rfl ?_
    refine late_skip rfl ?_
    refine late_skip rfl ?_
    refine late_cons ?xf16 ?_
    case xf16 =>
      unfold LateOne
      (try simp only [Act.put, List.setIfInBounds_toArray, List.set_cons_zero, List.set_cons_succ])
      intro v w hw hd K hK
      have o1 : RowI w BB (v 11) _ := hd 11 rfl
      have on1 := o1.one
      obtain ⟨A5, c5, e5, _⟩ := own_slice' o1
      simp only [e5]
      go_simp
      have fin := hK (.agg #[.int .i64 11, v 11, .int .i64 0, .int .i64 0, .int .i64 0, .int .i64 0, .int .i64 1, .int .i64 0, .int .i64 y.z, .int .i64 y.h, .int .i64 y.w, .int .i64 y.c, .slice none 0 0, .slice none 0 0]) w hw ⟨rfl, on1⟩ (fun i hi hk hl h => by
        rcases i with _ | _ | _ | _ | _ | _ | _ | _ | _ | _ | _ | _ | _ | _ | _ | _ | _ | _ | _ | _ | _ | _ | _ | _ | _ | _ | _ | i
        · exact h
        · exact True.intro
        · exact True.intro
        · exact h
        · exact True.intro
        · exact h
        · exact True.intro
        · exact True.intro
        · exact True.intro
        · exact h
        · exact True.intro
        · exact h
        · exact True.intro
        · exact True.intro
        · exact True.intro
        · exact True.intro
        · exact absurd rfl hi
        · exact True.intro
        · exact True.intro
        · exact h
        · exact True.intro
        · exact True.intro
        · exact h
        · exact absurd hl (by decide)
        · exact absurd hl (by decide)
        · exact True.intro
        · exact absurd hl (by decide)
        · exact True.intro)
      simp only [e5] at fin
      exact fin
    refine late_skip rfl ?_
    refine late_skip rfl ?_
    refine late_cons ?xf19 ?_
    case xf19 =>
      unfold LateOne
      (try simp only [Act.put, List.setIfInBounds_toArray, List.set_cons_zero, List.set_cons_succ])
      intro v w hw hd K hK
      obtain ⟨bg, bv, bt, fq, ⟨y', bq⟩, pw, zw⟩ := hw
      go_simp
      refine hK _ _ ⟨box_old bg (by omega), box_old bv (by omega), box_old bt (by omega), free_alloc fq, ⟨y', box_old bq (by omega)⟩, pw.alloc _, by simp; omega⟩ (RowI.new zw _) (fun i hi hk hl h => by
        rcases i with _ | _ | _ | _ | _ | _ | _ | _ | _ | _ | _ | _ | _ | _ | _ | _ | _ | _ | _ | _ | _ | _ | _ | _ | _ | _ | _ | i
        · exact ⟨h.1.alloc _, h.2⟩
        · exact True.intro
        · exact True.intro
        · exact RowF.alloc h _
        · exact True.intro
        · exact RowI.alloc h _
        · exact True.intro
        · exact True.intro
        · exact True.intro
        · exact h
        · exact True.intro
        · exact RowI.alloc h _
        · exact True.intro
        · exact True.intro
        · exact True.intro
        · exact True.intro
        · exact h
        · exact True.intro
        · exact True.intro
        · exact absurd rfl hi
        · exact True.intro
        · exact True.intro
        · exact absurd hl (by decide)
        · exact absurd hl (by decide)
        · exact absurd hl (by decide)
        · exact True.intro
        · exact absurd hl (by decide)
        · exact True.intro)
    refine late_skip rfl ?_
    refine late_skip rfl ?_
    refine late_cons ?xf22 ?_
    case xf22 =>
      unfold LateOne
      (try simp only [Act.put, List.setIfInBounds_toArray, List.set_cons_zero, List.set_cons_succ])
      intro v w hw hd K hK
      have o1 : RowI w BB (v 19) _ := hd 19 rfl
      have on1 := o1.one
      obtain ⟨A5, c5, e5, _⟩ := own_slice' o1
      simp only [e5]
      go_simp
      have fin := hK (.agg #[.int .i64 8, v 19, .int .i64 0, .int .i64 0, .int .i64 0, .int .i64 0, .int .i64 1, .int .i64 0, .int .i64 y.z, .int .i64 0, .int .i64 0, .int .i64 0, .slice none 0 0, .slice none 0 0]) w hw ⟨rfl, on1⟩ (fun i hi hk hl h => by
        rcases i with _ | _ | _ | _ | _ | _ | _ | _ | _ | _ | _ | _ | _ | _ | _ | _ | _ | _ | _ | _ | _ | _ | _ | _ | _ | _ | _ | i
        · exact h
        · exact True.intro
        · exact True.intro
        · exact h
        · exact True.intro
        · exact h
        · exact True.intro
        · exact True.intro
        · exact True.intro
        · exact h
        · exact True.intro
        · exact h
        · exact True.intro
        · exact True.intro
        · exact True.intro
        · exact True.intro
        · exact h
        · exact True.intro
        · exact True.intro
        · exact h
        · exact True.intro
        · exact True.intro
        · exact absurd rfl hi
        · exact absurd hl (by decide)
        · exact absurd hl (by decide)
        · exact True.intro
        · exact absurd hl (by decide)
        · exact True.intro)
      simp only [e5] at fin
      exact fin
    refine late_cons ?xf23 ?_
    case xf23 =>
      unfold LateOne
      (try simp only [Act.put, List.setIfInBounds_toArray, List.set_cons_zero, List.set_cons_succ])
      intro v w hw hd K hK
      obtain ⟨bg, bv, bt, fq, ⟨y', bq⟩, pw, zw⟩ := hw
      obtain ⟨e9, q5⟩ : v 9 = .agg #[.int .i64 11, v 5, .int .i64 0, .int .i64 0, .int .i64 0, .int .i64 0, .int .i64 1, .int .i64 0, .int .i64 y.z, .int .i64 y.w, .int .i64 y.h, .int .i64 y.c, .slice none 0 0, .slice none 0 0] ∧ (v 5).oneCell' = true := hd 9 rfl
      obtain ⟨e16, q11⟩ : v 16 = .agg #[.int .i64 11, v 11, .int .i64 0, .int .i64 0, .int .i64 0, .int .i64 0, .int .i64 1, .int .i64 0, .int .i64 y.z, .int .i64 y.h, .int .i64 y.w, .int .i64 y.c, .slice none 0 0, .slice none 0 0] ∧ (v 11).oneCell' = true := hd 16 rfl
      obtain ⟨e22, q19⟩ : v 22 = .agg #[.int .i64 8, v 19, .int .i64 0, .int .i64 0, .int .i64 0, .int .i64 0, .int .i64 1, .int .i64 0, .int .i64 y.z, .int .i64 0, .int .i64 0, .int .i64 0, .slice none 0 0, .slice none 0 0] ∧ (v 19).oneCell' = true := hd 22 rfl
      have fin := hK (.slice (some ⟨w.heap.size, 0, none⟩) 3 3) (w.alloc (.cells (nodeCells (shJ k y.z y.w y.h y.c) (v 5) (.slice none 0 0) (.slice none 0 0) ++ (nodeCells (shJ M y.z y.h y.w y.c) (v 11) (.slice none 0 0) (.slice none 0 0) ++ nodeCells (reJ T1 y.z) (v 19) (.slice none 0 0) (.slice none 0 0))).toArray 44)) ⟨box_old bg (by omega), box_old bv (by omega), box_old bt (by omega), free_alloc fq, ⟨y', box_old bq (by omega)⟩, pw.alloc _, by simp; omega⟩ ⟨⟨_, rfl, zw, by simp, box_new rfl⟩, q5, q11, q19⟩ (fun i hi hk hl h => by
        rcases i with _ | _ | _ | _ | _ | _ | _ | _ | _ | _ | _ | _ | _ | _ | _ | _ | _ | _ | _ | _ | _ | _ | _ | _ | _ | _ | _ | i
        · exact ⟨h.1.alloc _, h.2⟩
        · exact True.intro
        · exact True.intro
        · exact RowF.alloc h _
        · exact True.intro
        · exact RowI.alloc h _
        · exact True.intro
        · exact True.intro
        · exact True.intro
        · exact h
        · exact True.intro
        · exact RowI.alloc h _
        · exact True.intro
        · exact True.intro
        · exact True.intro
        · exact True.intro
        · exact h
        · exact True.intro
        · exact True.intro
        · exact RowI.alloc h _
        · exact True.intro
        · exact True.intro
        · exact h
        · exact absurd rfl hi
        · exact absurd hl (by decide)
        · exact True.intro
        · exact absurd hl (by decide)
        · exact True.intro)
      simp only [e9, e16, e22] at fin ⊢
      go_simp
      exact fin
    refine late_cons ?xf24 ?_
    case xf24 =>
      unfold LateOne
      (try simp only [Act.put, List.setIfInBounds_toArray, List.set_cons_zero, List.set_cons_succ])
      intro v w hw hd K hK
      obtain ⟨bg, bv, bt, fq, ⟨y', bq⟩, pw, zw⟩ := hw
      have h3 : RowF w BB g.nodes.length (v 3) xs := hd 3 rfl
      obtain ⟨⟨b5, e5, _, hb5, c5⟩, q5, q11, q19⟩ : BoxF w BB (v 23) 3 (nodeCells (shJ k y.z y.w y.h y.c) (v 5) (.slice none 0 0) (.slice none 0 0) ++ (nodeCells (shJ M y.z y.h y.w y.c) (v 11) (.slice none 0 0) (.slice none 0 0) ++ nodeCells (reJ T1 y.z) (v 19) (.slice none 0 0) (.slice none 0 0))).toArray ∧ (v 5).oneCell' = true ∧ (v 11).oneCell' = true ∧ (v 19).oneCell' = true := hd 23 rfl
      have lt0 := World.ownsRow.lt h3
      refine wp_append_own w (.tmp 63) (.tmp 83) 23 rfl BB 44 k0 _ 14 160 Tryz.underlying23 K1.out K2.out K3.out K4.out rfl (by decide) (v 3) g.nodes.length xs rfl h3 ⟨b5, 0, none⟩ 3 3 (nodeCells (shJ k y.z y.w y.h y.c) (v 5) (.slice none 0 0) (.slice none 0 0) ++ (nodeCells (shJ M y.z y.h y.w y.c) (v 11) (.slice none 0 0) (.slice none 0 0) ++ nodeCells (reJ T1 y.z) (v 19) (.slice none 0 0) (.slice none 0 0))) e5 rfl (fun j u hu => by rw [add_plain, Nat.zero_add]; exact (c5 j).trans (by rw [List.getElem?_toArray]; exact hu)) (fun u hu => by
        rcases List.mem_append.1 hu with hu | hu
        · exact cel_one q5 rfl rfl u hu
        · rcases List.mem_append.1 hu with hu | hu
          · exact cel_one q11 rfl rfl u hu
          · exact cel_one q19 rfl rfl u hu) (by unfold maxLen; omega) (by omega) zw (fun x w' hown hgrow _ => ?_)
      have fin := hK x w' ⟨box_grownBy hgrow bg (by omega) (fun e => by have := (lt0 _ e.symm).1; omega), box_grownBy hgrow bv (by omega) (fun e => by have := (lt0 _ e.symm).1; omega), box_grownBy hgrow bt (by omega) (fun e => by have := (lt0 _ e.symm).1; omega), free_grownBy hgrow fq (by omega) (fun e => by have := (lt0 _ e.symm).1; omega), ⟨y', box_grownBy hgrow bq (by omega) (fun e => by have := (lt0 _ e.symm).1; omega)⟩, pw.grownBy hgrow (fun j hj => by have := (lt0 j hj).1; omega), by have := hgrow.size; omega⟩ (by simpa [RowF, updV] using hown) (fun i hi hk hl h => by
        rcases i with _ | _ | _ | _ | _ | _ | _ | _ | _ | _ | _ | _ | _ | _ | _ | _ | _ | _ | _ | _ | _ | _ | _ | _ | _ | _ | _ | i
        · exact absurd hk (by decide)
        · exact True.intro
        · exact True.intro
        · exact absurd hk (by decide)
        · exact True.intro
        · exact RowI.grow h h3 hgrow
        · exact True.intro
        · exact True.intro
        · exact True.intro
        · exact h
        · exact True.intro
        · exact RowI.grow h h3 hgrow
        · exact True.intro
        · exact True.intro
        · exact True.intro
        · exact True.intro
        · exact h
        · exact True.intro
        · exact True.intro
        · exact RowI.grow h h3 hgrow
        · exact True.intro
        · exact True.intro
        · exact h
        · exact absurd hk (by decide)
        · exact absurd rfl hi
        · exact True.intro
        · exact absurd hl (by decide)
        · exact True.intro)
      simp only [Act.put, List.setIfInBounds_toArray, List.set_cons_zero, List.set_cons_succ]
      exact fin
    refine late_skip rfl ?_
    refine late_cons ?xf26 ?_
    case xf26 =>
      unfold LateOne
      (try simp only [Act.put, List.setIfInBounds_toArray, List.set_cons_zero, List.set_cons_succ])
      intro v w hw hd K hK
      obtain ⟨bg, bv, bt, fq, ⟨y', bq⟩, pw, zw⟩ := hw
      have h6 : RowF w BB (g.nodes.length + 3) (v 24) (xs ++ (nodeCells (shJ k y.z y.w y.h y.c) (v 5) (.slice none 0 0) (.slice none 0 0) ++ (nodeCells (shJ M y.z y.h y.w y.c) (v 11) (.slice none 0 0) (.slice none 0 0) ++ nodeCells (reJ T1 y.z) (v 19) (.slice none 0 0) (.slice none 0 0)))) := hd 24 rfl
      obtain ⟨A6, c6, e6, _⟩ := own_slice' h6
      simp only [e6]
      go_simp
      have fin := hK undef (w.setCell ⟨Q, 1, none⟩ (.slice A6 (g.nodes.length + 3) c6)) ⟨box_setOther' (Q := Q) bg (by omega), box_setOther' (Q := Q) bv (by omega), box_setOther' (Q := Q) bt (by omega), free_set fq, ⟨_, box_at bq 1 (by simp) _⟩, pw.setCell (by simp only; omega) _, by simpa [World.setCell] using zw⟩ ⟨A6, c6, e6, RowF.set h6 (by omega), box_at bq 1 (by simp) _⟩ (fun i hi hk hl h => by
        rcases i with _ | _ | _ | _ | _ | _ | _ | _ | _ | _ | _ | _ | _ | _ | _ | _ | _ | _ | _ | _ | _ | _ | _ | _ | _ | _ | _ | i
        · exact ⟨h.1.set (by omega), h.2⟩
        · exact True.intro
        · exact True.intro
        · exact RowF.set h (by omega)
        · exact True.intro
        · exact RowI.set h (by omega)
        · exact True.intro
        · exact True.intro
        · exact True.intro
        · exact h
        · exact True.intro
        · exact RowI.set h (by omega)
        · exact True.intro
        · exact True.intro
        · exact True.intro
        · exact True.intro
        · exact h
        · exact True.intro
        · exact True.intro
        · exact RowI.set h (by omega)
        · exact True.intro
        · exact True.intro
        · exact h
        · exact ⟨BoxF.set h.1 (by omega), h.2⟩
        · exact RowF.set h (by omega)
        · exact True.intro
        · exact absurd rfl hi
        · exact True.intro)
      simp only [e6] at fin
      exact fin
    exact True.intro
  case nf =>
    intro v w8 hw hd
    simp only [latesV, List.map_cons, List.map_nil, List.cons_append, List.nil_append, fillA, Act.put, List.setIfInBounds_toArray, List.set_cons_zero, List.set_cons_succ]
    obtain ⟨bg, bv, bt, fq, _, pw, zw⟩ := hw
    obtain ⟨A6, c6, e6, r6, bq⟩ : ∃ A c, v 24 = .slice A (g.nodes.length + 3) c ∧ RowF w8 BB (g.nodes.length + 3) (v 24) (xs ++ (nodeCells (shJ k y.z y.w y.h y.c) (v 5) (.slice none 0 0) (.slice none 0 0) ++ (nodeCells (shJ M y.z y.h y.w y.c) (v 11) (.slice none 0 0) (.slice none 0 0) ++ nodeCells (reJ T1 y.z) (v 19) (.slice none 0 0) (.slice none 0 0)))) ∧ (∀ o : Nat, w8.cell? ⟨Q, o, none⟩ = (#[.slice A1 g.ins.length c1, .slice A (g.nodes.length + 3) c, .slice A3 g.outs.length c3] : Array Value)[o]?) := hd 26 rfl
    have g5 : RowI w8 BB (v 5) k := hd 5 rfl
    have g11 : RowI w8 BB (v 11) M := hd 11 rfl
    have g19 : RowI w8 BB (v 19) T1 := hd 19 rfl
    simp only [e6] at r6 ⊢
    have INO : Hid (IsNodes w8 (.slice A6 (g.nodes.length + 3) c6) (g.nodes ++ [shJ k y.z y.w y.h y.c, shJ M y.z y.h y.w y.c, reJ T1 y.z])) := Lib.hid (nodes_three rfl r6 RX.out LX.out pw ⟨g5.nums (wf64 (by omega)), nums_nil _ _, nums_nil _ _⟩ ⟨g11.nums (wf64 (by omega)), nums_nil _ _, nums_nil _ _⟩ ⟨g19.nums (wf64 (by omega)), nums_nil _ _, nums_nil _ _⟩ NWF.out WF1.out WF2.out WF3.out)
    have p8 := p5.trans pw
    have r8 : Past w4 w8 := q5.trans pw
    clear g5 g11 g19 e6 r6
    have t2 : IntKind.i64.wrap ((M : Int) + 2) = (T2 : Int) := by have := HT2.out; rw [IntWalk.i64_in _ (by omega)]; omega
    have fb2 := free_alloc (cs := #[.int .i64 k, .int .i64 T1, .int .i64 T2, .int .i64 M]) (t := 3) fq
    have qb2 := box_old (x := .cells #[.int .i64 k, .int .i64 T1, .int .i64 T2, .int .i64 M] 3) bq (by omega)
    clear q6 f6 v6 t6 b6
    go_upto_region 13 with fail
    refine opq (fun w' => (∀ o : Nat, w'.cell? ⟨P, o, none⟩ = (#[.int .i64 y.h, .int .i64 y.w, .int .i64 y.c, .int .i64 y.z] : Array Value)[o]?) ∧ (∀ o : Nat, w'.cell? ⟨Q, o, none⟩ = (#[.slice A1 g.ins.length c1, .slice A6 (g.nodes.length + 3) c6, .slice (some ⟨w8.heap.size, 0, none⟩) 4 4] : Array Value)[o]?) ∧ (∀ o : Nat, w'.cell? ⟨w8.heap.size, o, none⟩ = (#[.int .i64 k, .int .i64 T1, .int .i64 T2, .int .i64 M] : Array Value)[o]?) ∧ Past w5 w' ∧ w8.heap.size + 1 ≤ w'.heap.size ∧ Hid (IsNodes w' (.slice A6 (g.nodes.length + 3) c6) (g.nodes ++ [shJ k y.z y.w y.h y.c, shJ M y.z y.h y.w y.c, reJ T1 y.z]))) ?_ ?_
    · refine ⟨?_, ?_, ?_, ?_, ?_, ?_⟩
      · exact box_setOther' (Q := Q) (box_old bv (by omega)) (by omega)
      · exact box_at qb2 2 (by simp) _
      · (exact kKeep)
      · exact (pw.alloc _).setCell (by simp only; omega) _
      · (exact kKeep)
      · exact Lib.hid (nodes_save (INO.out.grow ((Past.refl _).alloc _)) (noInt_box qb2) ((Save.refl _ _).set _ _))
    rintro w9 ⟨v9, b9, o9, p9, z9, INO9⟩
    clear fb2 qb2 bg bq bv bt fq INO pw
    obtain ⟨P8, hP8⟩ : ∃ P8, w8.heap.size = P8 := ⟨_, rfl⟩
    rw [hP8] at b9 o9 z9 ⊢
    have zQP : Q + 1 ≤ P8 := by omega
    clear hP8
    have CG : Hid (∀ w, Past w9 w → IsGraph w (.agg #[.slice A1 g.ins.length c1, .slice A6 (g.nodes.length + 3) c6, .slice (some ⟨P8, 0, none⟩) 4 4]) (reshD g y k M)) := Lib.hid (fun w p => by
      rw [TD.out]
      refine ⟨_, _, _, rfl, HGI2.out.grow (p9.trans p), INO9.out.grow p, nums_lit [(k : Int), (T1 : Int), (T2 : Int), (M : Int)] (fun x hx => ?_) (by simp; decide) (by simp) (fun i => (box_past p o9 (by omega) i).trans (by simp))⟩
      simp only [List.mem_cons, List.not_mem_nil, or_false] at hx
      have h1 := HT1.out
      have h2 := HT2.out
      rcases hx with rfl | rfl | rfl | rfl <;> exact WalkArith.wf_i64 (by omega))
    have CC : Hid (Cut (reshD g y k M)) := Lib.hid (by
      rw [TD.out]
      refine ⟨by simp, fun m hm => ?_⟩
      rcases List.mem_append.1 hm with hm | hm
      · exact CU.out.2 m hm
      · simp only [List.mem_cons, List.not_mem_nil, or_false] at hm
        rcases hm with rfl | rfl | rfl <;> exact ⟨by simp [shJ, reJ], by simp [shJ, reJ]⟩)
    have r9 : Past w4 w9 := q5.trans p9
    have pA := p5.trans p9
    obtain ⟨ins, hins⟩ : ∃ ins, filledL ls g.ins g.ins.length = ins := ⟨_, rfl⟩
    have IB : Hid (AllBytes ins) := Lib.hid (by rw [← hins]; exact filled_bytes (nums_bytes HLS.out) _ _)
    have FP : Hid (fitsP g.ins ins) := Lib.hid (by rw [← hins]; exact filled_fits _ _)
    have TI : Hid ((reshD g y k M).ins = g.ins) := Lib.hid rfl
    have EA0 := Lib.hid RV.out.1
    have gi6 : g.ins.length ≤ 1000 := by have := LM.out; omega
    have FI := Lib.hid (fun (w : World) (p : Past w9 w) => by
      have := filled_rows (reshD g y k M) _ _ ls w (CG.out w p) (HL4.out.grow (r9.trans p)) (by rw [TI.out]; exact gi6)
      rw [TI.out, hins] at this
      exact this)
    have EO := Lib.hid (fun (us : List Value) (iv : Value) (w : World) (p : Past w9 w) (h1 : HasCells w iv us) (h2 : AreNums w us ins) => eouts_ok (reshD g y k M) _ iv us ins w (CG.out w p) CC.out h1 h2 EA0.out FP.out)
    obtain ⟨r, r2, hr, hb1, hb2, hl2, hm2⟩ := RR.out ins FP.out IB.out
    rw [hr] at EO
    have HL2 := Lib.hid hl2
    have HM2 := Lib.hid hm2
    have RB : Hid (AllBytes [r, r, r2, r]) := Lib.hid (fun i hi x hx => by
      have : i < 4 := hi
      rcases (show i = 0 ∨ i = 1 ∨ i = 2 ∨ i = 3 by omega) with rfl | rfl | rfl | rfl
      · exact hb1 x hx
      · exact hb1 x hx
      · exact hb2 x hx
      · exact hb1 x hx)
    clear hins hr hb1 hb2 hl2 hm2 t1 t2
    refine wp_region_goes [3, 4, 5, 6, 7, 8, 9] (fun w' => (∀ o : Nat, w'.cell? ⟨Q, o, none⟩ = (#[.slice A1 g.ins.length c1, .slice A6 (g.nodes.length + 3) c6, .slice (some ⟨P8, 0, none⟩) 4 4] : Array Value)[o]?) ∧ Past w9 w' ∧ Q + 1 ≤ w'.heap.size) [(95, ?vg95), (96, ?vg96), (97, ?vg97)] [95, 96, 97] (by kernel_rfl) rfl (by kernel_rfl) ⟨b9, Past.refl _, (by omega)⟩ (fun w h => h) ?ngs
    case ngs =>
      refine goes_step (α := Option Addr × Nat) [] [4, 5, 6, 7, 8, 9] 3 98 [3, 4, 5, 6, 7, 8, 9] (fun p => .slice p.1 g.ins.length p.2) (fun w' => (∀ o : Nat, w'.cell? ⟨Q, o, none⟩ = (#[.slice A1 g.ins.length c1, .slice A6 (g.nodes.length + 3) c6, .slice (some ⟨P8, 0, none⟩) 4 4] : Array Value)[o]?) ∧ Past w9 w' ∧ Q + 1 ≤ w'.heap.size) (fun p w' => (∀ o : Nat, w'.cell? ⟨Q, o, none⟩ = (#[.slice A1 g.ins.length c1, .slice A6 (g.nodes.length + 3) c6, .slice (some ⟨P8, 0, none⟩) 4 4] : Array Value)[o]?) ∧ Past w9 w' ∧ Q + 1 ≤ w'.heap.size ∧ Hid (∃ us, HasCells w' (.slice p.1 g.ins.length p.2) us ∧ AreNums w' us ins)) (fun p => []) [] (by kernel_rfl) (by kernel_rfl) (fun _ => rfl) ?hg0 ?eg0 ?cg0 (fun p => ?_)
      case hg0 =>
        first | (simp; done) | (rw [fill_size]; simp; done) | (rw [fill_size, fill_size]; simp; done) | (simp [fillA, Act.put]; done)
      case eg0 =>
        simp only [fillA, Act.put, List.setIfInBounds_toArray, List.set_cons_zero, List.set_cons_succ]
        (iterate 10 (first | refine owesb_skip rfl ?_ | (refine owesb_cons (fun w hw K hK => ?_) ?_; focus ((have hS := Lib.hid hw); go_split_ands; go_simp; (try simp only [fillA, Act.put, List.setIfInBounds_toArray, List.set_cons_zero, List.set_cons_succ]); exact hK _ hS.out))))
        exact True.intro
      case cg0 =>
        simp only [fillA, Act.put, List.setIfInBounds_toArray, List.set_cons_zero, List.set_cons_succ]
        refine ⟨_, rfl, fun w hw K hK => ?_⟩
        obtain ⟨bw, pw, zw⟩ := hw
        go_simp
        refine (FI.out w pw).mono ?_
        rintro e wz ⟨vz, rfl, ⟨us, oz, az⟩, pz⟩
        have lz : us.length = g.ins.length := az.1.trans FP.out.1
        have HCz := oz.has
        obtain ⟨Az, cz, rfl, _⟩ := own_slice' oz
        rw [lz] at HCz ⊢
        exact hK (Az, cz) _ ⟨box_past pz bw (by omega), pw.trans pz, size_past pz zw, Lib.hid ⟨us, HCz, az.nums IB.out⟩⟩
      refine goes_step (α := Option Addr × Nat) [3] [] 4 99 [4, 5, 6, 7, 8, 9] (fun s => .tuple #[.slice s.1 4 s.2, .int .i64 0]) (fun w' => (∀ o : Nat, w'.cell? ⟨Q, o, none⟩ = (#[.slice A1 g.ins.length c1, .slice A6 (g.nodes.length + 3) c6, .slice (some ⟨P8, 0, none⟩) 4 4] : Array Value)[o]?) ∧ Past w9 w' ∧ Q + 1 ≤ w'.heap.size ∧ Hid (∃ us, HasCells w' (.slice p.1 g.ins.length p.2) us ∧ AreNums w' us ins)) (fun s w' => (∀ o : Nat, w'.cell? ⟨Q, o, none⟩ = (#[.slice A1 g.ins.length c1, .slice A6 (g.nodes.length + 3) c6, .slice (some ⟨P8, 0, none⟩) 4 4] : Array Value)[o]?) ∧ Past w9 w' ∧ Q + 1 ≤ w'.heap.size ∧ Hid (IsRows w' (.slice s.1 4 s.2) [r, r, r2, r])) (fun s => [(94, .tuple #[.slice s.1 4 s.2, .int .i64 0]), (100, .slice s.1 4 s.2), (101, .int .i64 0), (15, .slice s.1 4 s.2), (16, .int .i64 0)]) [94, 100, 101, 15, 16] (by kernel_rfl) (by kernel_rfl) (fun _ => rfl) ?hg1 ?eg1 ?cg1 (fun s => ?_)
      case hg1 =>
        first | (simp; done) | (rw [fill_size]; simp; done) | (rw [fill_size, fill_size]; simp; done) | (simp [fillA, Act.put]; done)
      case eg1 =>
        simp only [fillA, Act.put, List.setIfInBounds_toArray, List.set_cons_zero, List.set_cons_succ]
        (iterate 10 (first | refine owesb_skip rfl ?_ | (refine owesb_cons (fun w hw K hK => ?_) ?_; focus ((have hS := Lib.hid hw); go_split_ands; go_simp; (try simp only [fillA, Act.put, List.setIfInBounds_toArray, List.set_cons_zero, List.set_cons_succ]); exact hK _ hS.out))))
        exact True.intro
      case cg1 =>
        simp only [fillA, Act.put, List.setIfInBounds_toArray, List.set_cons_zero, List.set_cons_succ]
        refine ⟨_, rfl, fun w hw K hK => ?_⟩
        obtain ⟨bw, pw, zw, hcw⟩ := hw
        obtain ⟨us, hc1, hc2⟩ := hcw.out
        go_simp
        refine (EO.out us _ w pw hc1 hc2).mono ?_
        rintro e wz ⟨vz, rfl, ho, pz⟩
        have HR := Lib.hid (ho.is RB.out)
        obtain ⟨us', oz, az⟩ := ho
        have lz : us'.length = 4 := az.1
        obtain ⟨Az, cz, rfl, _⟩ := own_slice' oz
        rw [lz] at HR ⊢
        exact hK (Az, cz) _ ⟨box_past pz bw (by omega), pw.trans pz, size_past pz zw, HR⟩
      refine goes_end [4, 3] (by kernel_rfl) ?egz ?_
      case egz =>
        simp only [fillA, Act.put, List.setIfInBounds_toArray, List.set_cons_zero, List.set_cons_succ]
        (iterate 10 (first | refine owesb_skip rfl ?_ | (refine owesb_cons (fun w hw K hK => ?_) ?_; focus ((have hS := Lib.hid hw); go_split_ands; go_simp; (try simp only [fillA, Act.put, List.setIfInBounds_toArray, List.set_cons_zero, List.set_cons_succ]); exact hK _ hS.out))))
        exact True.intro
      rintro wb ⟨bb, pb, zb, HR⟩
      simp only [fillA, Act.put, List.setIfInBounds_toArray, List.set_cons_zero, List.set_cons_succ]
      obtain ⟨us, hcs, hl3, hn3⟩ := HR.out
      have l3 : us.length = 4 := hl3
      obtain ⟨ob, oo, oc, eo, _, _, hob, hoc⟩ := hcs.form (by omega)
      obtain ⟨As, cs⟩ := s
      rw [l3] at eo
      simp only [Value.slice.injEq, true_and] at eo
      obtain ⟨rfl, rfl⟩ := eo
      have hc0 := hoc 0 (by omega)
      have hc1 := hoc 1 (by omega)
      have hc2 := hoc 2 (by omega)
      have hc3 := hoc 3 (by omega)
      have NU0 := Lib.hid (show IsNums .i8 wb (us.getD 0 nilS) r from hn3 0 (by simp))
      have NU1 := Lib.hid (show IsNums .i8 wb (us.getD 1 nilS) r from hn3 1 (by simp))
      have NU2 := Lib.hid (show IsNums .i8 wb (us.getD 2 nilS) r2 from hn3 2 (by simp))
      have NU3 := Lib.hid (show IsNums .i8 wb (us.getD 3 nilS) r from hn3 3 (by simp))
      obtain ⟨U0, m0, e0', _⟩ := NU0.out
      obtain ⟨U1, k1, e1', _⟩ := NU1.out
      obtain ⟨U2, k2, e2', _⟩ := NU2.out
      obtain ⟨U3, k3, e3', _⟩ := NU3.out
      rw [HL2.out] at e2'
      rw [e0'] at hc0 NU0
      rw [e1'] at hc1 NU1
      rw [e2'] at hc2 NU2
      rw [e3'] at hc3 NU3
      rw [Nat.add_zero] at hc0
      have d6 : ((4 : Int) != 4) = false := by decide
      have d7 : ((0 : Int) != 0) = false := by decide
      have j0 : (0 : Int) ≤ 0 := by decide
      have j1 : (0 : Int) < 4 := by decide
      have j2 : (1 : Int) < 4 := by decide
      have j3 : (2 : Int) < 4 := by decide
      have j4 : (3 : Int) < 4 := by decide
      have pF := pA.trans pb
      have vb9 := box_past pb v9 (by omega)
      have PB : P < wb.heap.size := by omega
      clear hcs hoc hn3 hl3 e0' e1' e2' e3' bb zb b9 v9 o9
      dsimp only
      go_wp2_with fail
      have cc0 := ((Past.refl wb).cell (p := ⟨ob, oo, none⟩) hob).trans hc0
      have cc1 := ((Past.refl wb).cell (p := ⟨ob, oo + 1, none⟩) hob).trans hc1
      have SEc := Lib.hid (fun (w : World) (q : Past wb w) => same_eq _ _ r w (NU0.out.grow q) (NU1.out.grow q))
      have gc0 := Past.refl wb
      have hobc : ob < wb.heap.size := by have := (Past.refl wb).2.2.1; omega
      go_upto_region 16 with fail
      refine wp_region_fill (fun w' => w'.cell? ⟨ob, oo, none⟩ = some (.slice U0 r.length m0) ∧ w'.cell? ⟨ob, oo + 1, none⟩ = some (.slice U1 r.length k1) ∧ Past wb w' ∧ ob + 1 ≤ w'.heap.size) [(109, ?vc109), (110, ?vc110), (111, ?vc111), (112, ?vc112), (113, ?vc113), (114, ?vc114), (115, ?vc115), (17, ?vc17)] [109, 110, 111, 112, 113, 114, 115, 17] (by kernel_rfl) (by kernel_rfl) rfl (by kernel_rfl) ⟨cc0, cc1, (Past.refl wb), hobc⟩ (fun w h => h) ?allc ?finc
      case allc =>
        simp only [fillA, Act.put, List.setIfInBounds_toArray, List.set_cons_zero, List.set_cons_succ]
        iterate 8 (refine owes_cons (fun w hw K hK => ?_) ?_; focus ((have hS := Lib.hid hw); go_split_ands; go_simp; (try simp only [Act.put, List.setIfInBounds_toArray, List.set_cons_zero, List.set_cons_succ]); first | exact hK _ hS.out | (((go_at_call 15; with_reducible refine (SEc.out _ (by assumption)).mono ?_; rintro e w1 ⟨rfl, g1⟩; replace g1 := Grown.past g1)); refine hK _ ?_; (exact kKeep))))
        exact True.intro
      case finc =>
        rintro wc ⟨_, _, ppc, _⟩
        simp only [fillA, Act.put, List.setIfInBounds_toArray, List.set_cons_zero, List.set_cons_succ]
        clear cc0 cc1 gc0 hobc
        have cd0 := (ppc.cell (p := ⟨ob, oo, none⟩) hob).trans hc0
        have cd1 := (ppc.cell (p := ⟨ob, oo + 3, none⟩) hob).trans hc3
        have SEd := Lib.hid (fun (w : World) (q : Past wb w) => same_eq _ _ r w (NU0.out.grow q) (NU3.out.grow q))
        have gd0 := Past.refl wc
        have hobd : ob < wc.heap.size := by have := ppc.2.2.1; omega
        go_upto_region 17 with fail
        refine wp_region_fill (fun w' => w'.cell? ⟨ob, oo, none⟩ = some (.slice U0 r.length m0) ∧ w'.cell? ⟨ob, oo + 3, none⟩ = some (.slice U3 r.length k3) ∧ Past wb w' ∧ ob + 1 ≤ w'.heap.size) [(116, ?vd116), (117, ?vd117), (118, ?vd118), (119, ?vd119), (120, ?vd120), (121, ?vd121), (122, ?vd122), (18, ?vd18)] [116, 117, 118, 119, 120, 121, 122, 18] (by kernel_rfl) (by kernel_rfl) rfl (by kernel_rfl) ⟨cd0, cd1, ppc, hobd⟩ (fun w h => h) ?alld ?find
        case alld =>
          simp only [fillA, Act.put, List.setIfInBounds_toArray, List.set_cons_zero, List.set_cons_succ]
          iterate 8 (refine owes_cons (fun w hw K hK => ?_) ?_; focus ((have hS := Lib.hid hw); go_split_ands; go_simp; (try simp only [Act.put, List.setIfInBounds_toArray, List.set_cons_zero, List.set_cons_succ]); first | exact hK _ hS.out | (((go_at_call 15; with_reducible refine (SEd.out _ (by assumption)).mono ?_; rintro e w1 ⟨rfl, g1⟩; replace g1 := Grown.past g1)); refine hK _ ?_; (exact kKeep))))
          exact True.intro
        case find =>
          rintro wd ⟨_, _, ppd, _⟩
          simp only [fillA, Act.put, List.setIfInBounds_toArray, List.set_cons_zero, List.set_cons_succ]
          clear cd0 cd1 gd0 hobd
          have pd : Past wb wd := ppd
          have pG := pF.trans pd
          have ec0 := (pd.cell (p := ⟨ob, oo, none⟩) hob).trans hc0
          have ec2 := (pd.cell (p := ⟨ob, oo + 2, none⟩) hob).trans hc2
          have n1 : ((r.length : Int) != (r.length : Int)) = false := by simp
          clear ppc ppd
          go_upto_region 18 with fail
          go_quiet (fail)
          clear ec0 ec2
          go_wp2_with fail
          obtain ⟨_, _, eU0, _, mU0, _, wU0, hU0⟩ := NU0.out
          obtain ⟨_, _, eU2, _, _, _, wU2, hU2⟩ := NU2.out
          simp only [Value.slice.injEq, true_and] at eU0
          obtain ⟨rfl, rfl⟩ := eU0
          rw [HL2.out] at eU2 hU2
          simp only [Value.slice.injEq, true_and] at eU2
          obtain ⟨rfl, rfl⟩ := eU2
          obtain ⟨L, hL⟩ : ∃ L, r.length = L := ⟨_, rfl⟩
          have HL := Lib.hid hL
          have HU0 := Lib.hid hU0
          have HU2 := Lib.hid hU2
          have HW0 := Lib.hid wU0
          have HW2 := Lib.hid wU2
          rw [hL] at HU0 HU2 HM2
          have L63 : L ≤ 9223372036854775807 := by rw [← hL]; unfold maxLen at mU0; omega
          simp only [hL]
          clear hU0 hU2 wU0 wU2 mU0 n1 NU0 NU1 NU2 NU3 hL
          go_loopw [19] (fun iv wr => ∃ j : Nat, j ≤ L ∧ iv = .int .i64 j ∧ Past wd wr) (fun iv _ => L - (intOf iv).toNat)
          case atStart => exact ⟨0, by omega, rfl, (Past.refl _).drewN⟩
          case round =>
            obtain ⟨j, hj, rfl, pr⟩ := hrel
            have pw := pd.trans pr
            have ec0 := (pw.cell (p := ⟨ob, oo, none⟩) hob).trans hc0
            have ec2 := (pw.cell (p := ⟨ob, oo + 2, none⟩) hob).trans hc2
            rw [HL.out] at ec0 ec2
            by_cases h : j < L
            · have d8 : decide ((j : Int) < (L : Int)) = true := decide_eq_true (by omega)
              obtain ⟨b0, o0, e0, hb0, hn0⟩ := HU0.out (by omega)
              obtain ⟨b2, o2, e2, hb2, hn2⟩ := HU2.out (by omega)
              subst e0 e2
              have x0 := (pw.cell (p := ⟨b0, o0 + j, none⟩) hb0).trans (hn0 j h)
              have x2 := (pw.cell (p := ⟨b2, o2 + j, none⟩) hb2).trans (hn2 j h)
              have xm := HM2.out j h
              have l1 : j < r.length := by rw [HL.out]; exact h
              have l2 : j < r2.length := by rw [HL2.out]; exact l1
              have w0 := HW0.out (r.getD j 0) (by simp [List.getD, l1])
              have w2 := HW2.out (r2.getD j 0) (by simp [List.getD, l2])
              obtain ⟨a, ha⟩ : ∃ a, r2.getD j 0 = a := ⟨_, rfl⟩
              obtain ⟨b, hb⟩ : ∃ b, r.getD j 0 = b := ⟨_, rfl⟩
              rw [ha] at x2 xm w2
              rw [hb] at x0 xm w0
              have ba : -128 ≤ a ∧ a ≤ 127 := by simpa [Lit.wf, IntKind.min, IntKind.max, IntKind.bits, IntKind.signed] using w2
              have bb : -128 ≤ b ∧ b ≤ 127 := by simpa [Lit.wf, IntKind.min, IntKind.max, IntKind.bits, IntKind.signed] using w0
              obtain ⟨ba1, ba2⟩ := ba
              obtain ⟨bb1, bb2⟩ := bb
              have bv := box_past pw vb9 PB
              have wa : IntKind.i64.wrap a = a := IntWalk.i64_in _ (by omega)
              have wb' : IntKind.i64.wrap b = b := IntWalk.i64_in _ (by omega)
              have i1 : (0 : Int) ≤ (j : Int) := by omega
              have i2 : (j : Int) < (L : Int) := by omega
              have n1 : (a != a) = false := by simp
              clear ha hb w0 w2 hn0 hn2
              by_cases hz : b < y.z
              · obtain rfl : a = y.z := by omega
                clear xm
                go_upto_region 23 with fail
                go_quiet (fail)
                go_wp2_with fail
                go_roundw
                case rel => exact ⟨j + 1, by omega, by go_num, pr.drewN⟩
                case measure => simp [intOf]; omega
              · obtain rfl : a = b := by omega
                clear xm
                go_upto_region 23 with fail
                go_quiet (fail)
                go_wp2_with fail
                go_roundw
                case rel => exact ⟨j + 1, by omega, by go_num, pr.drewN⟩
                case measure => simp [intOf]; omega
            · obtain rfl : j = L := by omega
              have d8 : decide ((j : Int) < (j : Int)) = false := by simp
              have pH := pG.trans pr
              go_wp2_with fail
              go_ret
              exact ⟨rfl, pH⟩
end Go.Proofs.YtliijchcpooplaaGreat
namespace Go.Proofs.YtliijchcpooplaaGreat
open Go.ChangeShapes Go.WideShapes Go.ChangeAt Go.RowKit
set_option maxRecDepth 20000
set_option linter.unusedVariables false

theorem resh_walk2 (W : World) (gv : Value) (g0 : GraphD) (hg0 : IsGraph W gv g0) (lv : Value) (ls : List Int) (hl0 : IsNums .i8 W lv ls) (z : Int) (hz : (Lit.int .u8 z).wf = true) : Calls Tryz.prog 5 #[gv, lv, .int .u8 z] W fun e w' => e = .returned (.bool true) ∧ Past W w' := by
  have hb : 0 ≤ z ∧ z ≤ 255 := by simpa [Lit.wf, IntKind.min, IntKind.max, IntKind.bits, IntKind.signed] using hz
  obtain ⟨n, rfl⟩ : ∃ n : Nat, z = n := ⟨z.toNat, by omega⟩
  exact resh_walk W gv g0 hg0 lv ls hl0 n (by omega)
end Go.Proofs.YtliijchcpooplaaGreat
