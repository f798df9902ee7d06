/- EvalTwice: the walk. -/
import Derived.Test.YtfllackaojlfnaaGreatNMFixR
namespace Go.Proofs.YtfllackaojlfnaaGreat
open Go.ChangeShapes Go.WideShapes Go.ChangeAt Go.RowKit
set_option maxRecDepth 20000
set_option linter.unusedVariables false
set_option linter.unusedSimpArgs false

theorem free_grownBy {w w' : World} {row : Option Nat} {b : Nat} (g : w.grownBy w' row) (h : (∀ o : Nat, w.frozen? ⟨b, o, none⟩ = false)) (hb : b < w.heap.size) (hr : some b ≠ row) : (∀ o : Nat, w'.frozen? ⟨b, o, none⟩ = false) := fun o => (World.frozen?_of_block (a := ⟨b, o, none⟩) (g.block b hb hr)).trans (h o)
theorem rows3_bytes {r : List Int} (h : Bytes r) : AllBytes [r, r, r] := fun i hi x hx => by
  have : i < 3 := hi
  rcases (show i = 0 ∨ i = 1 ∨ i = 2 by omega) with rfl | rfl | rfl <;> exact h x hx
theorem box_setOther' {w : World} {b Q q : Nat} {u : Value} {cs : Array Value} (h : (∀ o : Nat, w.cell? ⟨b, o, none⟩ = (cs : Array Value)[o]?)) (hne : Q ≠ b) : (∀ o : Nat, (w.setCell ⟨Q, q, none⟩ u).cell? ⟨b, o, none⟩ = (cs : Array Value)[o]?) := box_set h hne

set_option maxHeartbeats 8000000 in
theorem twice_walk (W : World) (gv : Value) (g0 : GraphD) (hg0 : IsGraph W gv g0) (lv : Value) (ls : List Int) (hl0 : IsNums .i8 W lv ls) : Calls Tryz.prog 5 #[gv, lv] W fun e w' => e = .returned (.bool true) ∧ Past W w' := by
  have HG0 := Lib.hid hg0
  have HLS := Lib.hid hl0
  obtain ⟨Lb, lc, rfl, _⟩ := hl0
  obtain ⟨iv0, nv0, ov0, rfl, hi0, hn0, ho0⟩ := hg0
  obtain ⟨B1, d1, rfl, _, _, _, _, _⟩ := hi0
  obtain ⟨B2, d2, rfl, _, _, _, _, _⟩ := hn0
  obtain ⟨B3, d3, rfl, _, _, _, _, _⟩ := ho0
  have LS := Lib.hid (fun w (p : Past W w) => less_any g0 _ w (HG0.out.grow p))
  have L6 : (lessD g0).ins.length ≤ 6 := by simp [lessD]; omega
  have L14 : (lessD g0).nodes.length ≤ 14 := by simp [lessD]; omega
  have LO6 : (lessD g0).outs.length ≤ 6 := by simp [lessD]; omega
  obtain ⟨g, hg⟩ : ∃ g, lessD g0 = g := ⟨_, rfl⟩
  have CU : Hid (Cut g) := Lib.hid (hg ▸ cut_lessD g0)
  rw [hg] at LS L6 L14 LO6
  clear hg
  go_enter Tryz.func5, Tryz.ntmps5
  go_upto_region 1 with fail
  refine opq (fun w' => (∀ o : Nat, w'.cell? ⟨W.heap.size, o, none⟩ = (#[.slice B1 g0.ins.length d1, .slice B2 g0.nodes.length d2, .slice B3 g0.outs.length d3] : Array Value)[o]?) ∧ (∀ o : Nat, w'.frozen? ⟨W.heap.size, o, none⟩ = false) ∧ Past W w' ∧ W.heap.size + 1 ≤ w'.heap.size) kKeep ?_
  rintro w1 ⟨b1, f1, p1, s1⟩
  go_wp2_with fail
  refine (shown6 _).mono ?_
  rintro e w2 ⟨rfl, gq⟩
  obtain ⟨b2, f2, p2, s2⟩ : (∀ o : Nat, w2.cell? ⟨W.heap.size, o, none⟩ = (#[.slice B1 g0.ins.length d1, .slice B2 g0.nodes.length d2, .slice B3 g0.outs.length d3] : Array Value)[o]?) ∧ (∀ o : Nat, w2.frozen? ⟨W.heap.size, o, none⟩ = false) ∧ Past W w2 ∧ W.heap.size + 1 ≤ w2.heap.size := by (exact kKeep)
  clear b1 f1 p1 s1 gq
  go_wp2_with fail
  refine (LS.out _ p2).mono ?_
  rintro e w3 ⟨gw, rfl, HG, q3⟩
  obtain ⟨iv, nv, ov, rfl, hi, hn, ho⟩ := HG
  have HI := Lib.hid hi
  have HN := Lib.hid hn
  have HO := Lib.hid ho
  obtain ⟨A1, c1, rfl, i1, i2, _, _, i5⟩ := hi
  obtain ⟨A2, c2, rfl, n1, n2, _, _, n5⟩ := hn
  obtain ⟨A3, c3, rfl, o1, o2, _, _, o5⟩ := ho
  obtain ⟨b3, f3, s3⟩ : (∀ o : Nat, w3.cell? ⟨W.heap.size, o, none⟩ = (#[.slice B1 g0.ins.length d1, .slice B2 g0.nodes.length d2, .slice B3 g0.outs.length d3] : Array Value)[o]?) ∧ (∀ o : Nat, w3.frozen? ⟨W.heap.size, o, none⟩ = false) ∧ W.heap.size + 1 ≤ w3.heap.size := by (exact kKeep)
  have q4 : Past W w3 := p2.trans q3
  clear b2 f2 p2 s2 q3 i1 i2 n1 n2 o1 o2 i5 n5 o5
  go_upto_region 3 with fail
  refine opq (fun w' => ((∀ o : Nat, w'.cell? ⟨W.heap.size, o, none⟩ = (#[.slice A1 g.ins.length c1, .slice A2 g.nodes.length c2, .slice A3 g.outs.length c3] : Array Value)[o]?) ∧ (∀ o : Nat, w'.frozen? ⟨W.heap.size, o, none⟩ = false) ∧ Past W w' ∧ W.heap.size + 1 ≤ w'.heap.size) ∧ IsVals w' (.slice A1 g.ins.length c1) g.ins ∧ IsNodes w' (.slice A2 g.nodes.length c2) g.nodes ∧ IsNums .i64 w' (.slice A3 g.outs.length c3) g.outs) ⟨⟨box_set3 b3, by (exact kKeep), by (exact kKeep), by (exact kKeep)⟩, vals_save HI.out (noInt_box b3) ((((Save.refl _ _).set _ _).set _ _).set _ _), nodes_save HN.out (noInt_box b3) ((((Save.refl _ _).set _ _).set _ _).set _ _), nums_save HO.out (noInt_box b3) ((((Save.refl _ _).set _ _).set _ _).set _ _)⟩ ?_
  rintro w4 ⟨⟨b4, f4, p4, s4⟩, hi, hn, ho⟩
  have HG : Hid (IsGraph w4 (.agg #[.slice A1 g.ins.length c1, .slice A2 g.nodes.length c2, .slice A3 g.outs.length c3]) g) := Lib.hid ⟨_, _, _, rfl, hi, hn, ho⟩
  have HL4 := Lib.hid (HLS.out.grow p4)
  clear b3 f3 s3 q4 HI HN HO hi hn ho HG0 LS
  have RV := Lib.hid (fun (w : World) (p : Past w4 w) => rvalues_any g _ w (HG.out.grow p) CU.out)
  go_wp2_with fail
  refine (RV.out _ (Past.refl _)).mono ?_
  rintro e w5 ⟨v5, q, rfl, hq, hv5, q5⟩
  have b5 := box_past q5 b4 (by omega)
  have p5 : Past W w5 := p4.trans q5
  have s5 : W.heap.size + 1 ≤ w5.heap.size := by have := q5.2.2.1; omega
  by_cases hE : valuesE g = 0
  rotate_left
  · have e1 : (q != 0) = true := by
      have : q ≠ 0 := fun f => hE (hq.1 f)
      simpa using this
    clear hq hv5 hE
    go_wp2_with fail
    go_ret
    exact ⟨rfl, p5⟩
  have e1 : (q != 0) = false := by simp [hq.2 hE]
  have HV5 := Lib.hid (hv5 hE)
  have E0 := Lib.hid hE
  obtain ⟨AV, cV, rfl, _⟩ := hv5 hE
  have ML := Lib.hid (makes_facts hE)
  have BG := Lib.hid (begins_ok (values_ok hE).1)
  have f5 := free_past q5 f4 (by omega)
  clear hq hv5 hE b4 f4 p4 s4 RV
  by_cases hn0 : g.nodes.length = 0
  · have d2 : ((g.nodes.length : Int) == 0) = true := beq_iff_eq.2 (by omega)
    clear f5
    go_wp2_with fail
    go_ret
    exact ⟨rfl, p5⟩
  have d2 : ((g.nodes.length : Int) == 0) = false := beq_eq_false_iff_ne.2 (by omega)
  by_cases hn12 : 12 ≤ g.nodes.length
  · have d3 : decide ((12 : Int) ≤ (g.nodes.length : Int)) = true := decide_eq_true (by omega)
    clear f5
    go_wp2_with fail
    go_ret
    exact ⟨rfl, p5⟩
  have d3 : decide ((12 : Int) ≤ (g.nodes.length : Int)) = false := decide_eq_false (by omega)
  have hn1 : 0 < g.nodes.length := by omega
  have HG5 := Lib.hid (HG.out.grow q5)
  obtain ⟨iv, nv, ov, eg, hgi, hgn, hgo⟩ := HG5.out
  simp only [Value.agg.injEq, Array.mk.injEq, List.cons.injEq, and_true] at eg
  obtain ⟨rfl, rfl, rfl⟩ := eg
  have HGI2 := Lib.hid hgi
  have HGN := Lib.hid hgn
  obtain ⟨nb, no, e2, hnb, xs, lx, rx, cx, ox⟩ := nodes_cells hgn hn1
  subst e2
  have LX := Lib.hid lx
  have RX := Lib.hid rx
  have CX := Lib.hid cx
  have OX := Lib.hid ox
  obtain ⟨_, _, eN, n1, n2, _, nwf, n5⟩ := hgn
  simp only [Value.slice.injEq, true_and] at eN
  obtain ⟨rfl, rfl⟩ := eN
  have NWF := Lib.hid nwf
  obtain ⟨nb', no', e3, _, hnc⟩ := n5 hn1
  simp only [Option.some.injEq, Addr.mk.injEq, and_true] at e3
  obtain ⟨rfl, rfl⟩ := e3
  clear n5
  obtain ⟨N1, hN1⟩ : ∃ N1, g.nodes.length - 1 = N1 := ⟨_, rfl⟩
  have HN1 := Lib.hid hN1
  obtain ⟨vi, vw, vb, hin, hcell⟩ := hnc N1 (by omega)
  have TR := Lib.hid (fun (ins : List (List Int)) (h : valuesE (twiceD g) = 0) (hl : ins.length = g.ins.length) => twice_rows h hn1 hl)
  have TD : Hid (twiceD g = ⟨g.ins, g.nodes ++ [g.nodes.getD N1 default], [((g.ins.length + g.nodes.length : Nat) : Int), ((g.ins.length + g.nodes.length - 1 : Nat) : Int), ((g.ins.length + g.nodes.length : Nat) : Int)]⟩) := Lib.hid (by unfold twiceD; rw [hN1])
  obtain ⟨n, hnk⟩ : ∃ n, g.nodes.getD N1 default = n := ⟨_, rfl⟩
  rw [hnk] at hin hcell TD
  have WFN : Hid (NodeWf n) := Lib.hid (nwf n (by rw [← hnk]; simp [List.getD, show N1 < g.nodes.length by omega]))
  have CUN := Lib.hid (CU.out.2 n (by rw [← hnk]; simp [List.getD, show N1 < g.nodes.length by omega]))
  have IN := Lib.hid hin
  have ON := Lib.hid (nodeCells_one hin)
  obtain ⟨Ai, ci, rfl, f1, f2', -, -, -⟩ := hin.1
  obtain ⟨Aw, cw, rfl, f3, f4', -, -, -⟩ := hin.2.1
  obtain ⟨Ab, cb, rfl, f5', f6, -, -, -⟩ := hin.2.2
  have x0 := hcell 0 (by omega)
  have x1 := hcell 1 (by omega)
  have x2 := hcell 2 (by omega)
  have x3 := hcell 3 (by omega)
  have x4 := hcell 4 (by omega)
  have x5 := hcell 5 (by omega)
  have x6 := hcell 6 (by omega)
  have x7 := hcell 7 (by omega)
  have x8 := hcell 8 (by omega)
  have x9 := hcell 9 (by omega)
  have x10 := hcell 10 (by omega)
  have x11 := hcell 11 (by omega)
  have x12 := hcell 12 (by omega)
  have x13 := hcell 13 (by omega)
  simp only [nodeCells, List.getElem?_cons_zero, List.getElem?_cons_succ, Nat.add_zero] at x0 x1 x2 x3 x4 x5 x6 x7 x8 x9 x10 x11 x12 x13
  have i1 : (0 : Int) ≤ (N1 : Int) := by omega
  have i2 : (N1 : Int) < (g.nodes.length : Int) := by omega
  have w9 : IntKind.i64.wrap ((g.nodes.length : Int) - 1) = (N1 : Int) := by rw [IntWalk.i64_in _ (by omega)]; omega
  obtain ⟨k0, hk0, hy0, hy1, hy2⟩ := info_parts infoNode'
  have K1 := Lib.hid hk0
  have K2 := Lib.hid hy0
  have K3 := Lib.hid hy1
  have K4 := Lib.hid hy2
  obtain ⟨Q, hQ⟩ : ∃ Q, w5.heap.size = Q := ⟨_, rfl⟩
  have HQ := Lib.hid hQ
  have nQ : W.heap.size + 1 ≤ Q := by omega
  have hnbQ : nb < Q := by omega
  have lw : n.ws.length ≤ 100000 := CUN.out.2
  clear hgi hgo hN1 hnc hin hcell hnk lx rx cx ox nwf hk0 hy0 hy1 hy2 n2 f2' f4' f6 hQ
  go_upto_region 7 with fail
  refine opq (fun w' => (∀ o : Nat, w'.cell? ⟨W.heap.size, o, none⟩ = (#[.slice A1 g.ins.length c1, .slice (some ⟨nb, no, none⟩) g.nodes.length c2, .slice A3 g.outs.length c3] : Array Value)[o]?) ∧ (∀ o : Nat, w'.cell? ⟨w5.heap.size, o, none⟩ = (#[.slice A1 g.ins.length c1, .slice (some ⟨nb, no, none⟩) g.nodes.length c2, .slice A3 g.outs.length c3] : Array Value)[o]?) ∧ (∀ o : Nat, w'.frozen? ⟨w5.heap.size, o, none⟩ = false) ∧ Past w5 w' ∧ w5.heap.size + 1 = w'.heap.size) ?_ ?_
  · have g0 := Past.refl w5
    exact ⟨by (exact kKeep), by (exact kKeep), by (exact kKeep), by (exact kKeep), by simp⟩
  rintro w7 ⟨b7, q7, f7, p7, z7⟩
  obtain ⟨x0, x1, x2, x3, x4, x5, x6, x7, x8, x9, x10, x11, x12, x13⟩ : w7.cell? ⟨nb, no + N1 * 14, none⟩ = some (.int .i64 n.op) ∧ w7.cell? ⟨nb, no + N1 * 14 + 1, none⟩ = some (.slice Ai n.ins.length ci) ∧ w7.cell? ⟨nb, no + N1 * 14 + 2, none⟩ = some (.int .i64 n.k) ∧ w7.cell? ⟨nb, no + N1 * 14 + 3, none⟩ = some (.int .i64 n.stride) ∧ w7.cell? ⟨nb, no + N1 * 14 + 4, none⟩ = some (.int .i64 n.pad) ∧ w7.cell? ⟨nb, no + N1 * 14 + 5, none⟩ = some (.int .i64 n.out) ∧ w7.cell? ⟨nb, no + N1 * 14 + 6, none⟩ = some (.int .i64 n.mul) ∧ w7.cell? ⟨nb, no + N1 * 14 + 7, none⟩ = some (.int .i64 n.shift) ∧ w7.cell? ⟨nb, no + N1 * 14 + 8, none⟩ = some (.int .i64 n.zero) ∧ w7.cell? ⟨nb, no + N1 * 14 + 9, none⟩ = some (.int .i64 n.th) ∧ w7.cell? ⟨nb, no + N1 * 14 + 10, none⟩ = some (.int .i64 n.tw) ∧ w7.cell? ⟨nb, no + N1 * 14 + 11, none⟩ = some (.int .i64 n.tc) ∧ w7.cell? ⟨nb, no + N1 * 14 + 12, none⟩ = some (.slice Aw n.ws.length cw) ∧ w7.cell? ⟨nb, no + N1 * 14 + 13, none⟩ = some (.slice Ab n.bs.length cb) := ⟨cell_past p7 x0 hnb, cell_past p7 x1 hnb, cell_past p7 x2 hnb, cell_past p7 x3 hnb, cell_past p7 x4 hnb, cell_past p7 x5 hnb, cell_past p7 x6 hnb, cell_past p7 x7 hnb, cell_past p7 x8 hnb, cell_past p7 x9 hnb, cell_past p7 x10 hnb, cell_past p7 x11 hnb, cell_past p7 x12 hnb, cell_past p7 x13 hnb⟩
  go_upto_region 8 with fail
  refine opq (fun w' => (∀ o : Nat, w'.cell? ⟨W.heap.size, o, none⟩ = (#[.slice A1 g.ins.length c1, .slice (some ⟨nb, no, none⟩) g.nodes.length c2, .slice A3 g.outs.length c3] : Array Value)[o]?) ∧ (∀ o : Nat, w'.cell? ⟨w5.heap.size, o, none⟩ = (#[.slice A1 g.ins.length c1, .slice (some ⟨nb, no, none⟩) g.nodes.length c2, .slice A3 g.outs.length c3] : Array Value)[o]?) ∧ (∀ o : Nat, w'.frozen? ⟨w5.heap.size, o, none⟩ = false) ∧ (∀ o : Nat, w'.cell? ⟨w7.heap.size, o, none⟩ = (#[.int .i64 n.op, (.slice Ai n.ins.length ci), .int .i64 n.k, .int .i64 n.stride, .int .i64 n.pad, .int .i64 n.out, .int .i64 n.mul, .int .i64 n.shift, .int .i64 n.zero, .int .i64 n.th, .int .i64 n.tw, .int .i64 n.tc, (.slice Aw n.ws.length cw), (.slice Ab n.bs.length cb)] : Array Value)[o]?) ∧ Past w5 w' ∧ w7.heap.size + 1 ≤ w'.heap.size) ?_ ?_
  · exact ⟨by (exact kKeep), by (exact kKeep), by (exact kKeep), by (exact kKeep), by (exact kKeep), by (exact kKeep)⟩
  rintro w6 ⟨b6, q6, f6, n6, p6, z6⟩
  rw [← z7, HQ.out] at n6 z6
  rw [← z7]
  rw [HQ.out] at q6 f6 ⊢
  clear b7 q7 f7 p7 z7
  clear x0 x1 x2 x3 x4 x5 x6 x7 x8 x9 x10 x11 x12 x13 b5 f5
  by_cases h500 : 500 < n.ws.length
  · have d4 : decide ((500 : Int) < (n.ws.length : Int)) = true := decide_eq_true (by omega)
    have pF := p5.trans p6
    go_wp2_with fail
    go_ret
    exact ⟨rfl, pF⟩
  have d4 : decide ((500 : Int) < (n.ws.length : Int)) = false := decide_eq_false (by omega)
  go_upto_region 10 with fail
  obtain ⟨BB, hBB⟩ : ∃ BB, w6.heap.size = BB := ⟨_, rfl⟩
  have zB : Q + 2 ≤ BB := by omega
  have z5B : w5.heap.size ≤ BB := by have := HQ.out; omega
  have z5Q : w5.heap.size ≤ Q := by have := HQ.out; omega
  refine wp_region_free (fun w' => (∀ o : Nat, w'.cell? ⟨W.heap.size, o, none⟩ = (#[.slice A1 g.ins.length c1, .slice (some ⟨nb, no, none⟩) g.nodes.length c2, .slice A3 g.outs.length c3] : Array Value)[o]?) ∧ (∀ o : Nat, w'.cell? ⟨Q + 1, o, none⟩ = (#[.int .i64 n.op, (.slice Ai n.ins.length ci), .int .i64 n.k, .int .i64 n.stride, .int .i64 n.pad, .int .i64 n.out, .int .i64 n.mul, .int .i64 n.shift, .int .i64 n.zero, .int .i64 n.th, .int .i64 n.tw, .int .i64 n.tc, (.slice Aw n.ws.length cw), (.slice Ab n.bs.length cb)] : Array Value)[o]?) ∧ (∀ o : Nat, w'.frozen? ⟨Q, o, none⟩ = false) ∧ (∃ y, (∀ o : Nat, w'.cell? ⟨Q, o, none⟩ = (#[.slice A1 g.ins.length c1, y, .slice A3 g.outs.length c3] : Array Value)[o]?)) ∧ Past w5 w' ∧ BB ≤ w'.heap.size) [(55, ?vf55), (56, ?vf56), (58, ?vf58), (61, ?vf61)] [(0, 54), (3, 57), (5, 59), (6, 60)] [8] (fun i v w' => match i with | 0 => RowF w' BB 0 (v 0) [] ∧ ∃ b, v 0 = .slice (some ⟨b, 0, none⟩) 0 0 | 3 => RowF w' BB g.nodes.length (v 3) xs | 5 => BoxF w' BB (v 5) 1 #[.int .i64 n.op, (.slice Ai n.ins.length ci), .int .i64 n.k, .int .i64 n.stride, .int .i64 n.pad, .int .i64 n.out, .int .i64 n.mul, .int .i64 n.shift, .int .i64 n.zero, .int .i64 n.th, .int .i64 n.tw, .int .i64 n.tc, (.slice Aw n.ws.length cw), (.slice Ab n.bs.length cb)] | 6 => RowF w' BB (g.nodes.length + 1) (v 6) (xs ++ (nodeCells n (.slice Ai n.ins.length ci) (.slice Aw n.ws.length cw) (.slice Ab n.bs.length cb))) | 8 => ∃ A c, v 6 = .slice A (g.nodes.length + 1) c ∧ RowF w' BB (g.nodes.length + 1) (v 6) (xs ++ (nodeCells n (.slice Ai n.ins.length ci) (.slice Aw n.ws.length cw) (.slice Ab n.bs.length cb))) ∧ (∀ o : Nat, w'.cell? ⟨Q, o, none⟩ = (#[.slice A1 g.ins.length c1, .slice A (g.nodes.length + 1) c, .slice A3 g.outs.length c3] : Array Value)[o]?) | _ => True) [(3, [0]), (6, [3, 5]), (8, [6])] [(3, [0]), (6, [0, 3, 5])] [(0, [3, 6, 8]), (3, [6, 8]), (5, [6, 8]), (6, [8])] [8] (by kernel_rfl) (by kernel_rfl) (by kernel_rfl) ?df ⟨b6, n6, f6, ⟨_, q6⟩, p6, (by omega)⟩ (fun w h => h) ?ef ?lf ?nf
  case df =>
    intro q hq
    simp only [List.mem_cons, List.not_mem_nil, or_false] at hq
    rcases hq with rfl | rfl | rfl | rfl <;> simp
  case ef =>
    simp only [latesV, List.map_cons, List.map_nil, List.cons_append, List.nil_append, fillA, Act.put, List.setIfInBounds_toArray, List.set_cons_zero, List.set_cons_succ]
    (iterate 9 (first | refine early_skip rfl ?_ | (refine early_cons (fun v w hw K hK => ?_) ?_; focus ((have hS := Lib.hid hw); go_split_ands; go_simp; (try simp only [Act.put, List.setIfInBounds_toArray, List.set_cons_zero, List.set_cons_succ]); exact hK))))
    exact True.intro
  case lf =>
    simp only [latesV, List.map_cons, List.map_nil, List.cons_append, List.nil_append, fillA, Act.put, List.setIfInBounds_toArray, List.set_cons_zero, List.set_cons_succ]
    refine late_cons ?xf0 ?_
    case xf0 =>
      unfold LateOne
      (try simp only [Act.put, List.setIfInBounds_toArray, List.set_cons_zero, List.set_cons_succ])
      intro v w hw hd K hK
      obtain ⟨bg, bn, fq, ⟨y, bq⟩, pw, zw⟩ := hw
      go_simp
      refine hK _ _ ⟨box_old bg (by omega), box_old bn (by omega), free_alloc fq, ⟨y, box_old bq (by omega)⟩, pw.alloc _, by simp; omega⟩ ⟨ownNodes_new zw, _, rfl⟩ (fun i hi hk hl h => by
        rcases i with _ | _ | _ | _ | _ | _ | _ | _ | _ | i
        · exact absurd rfl hi
        · exact True.intro
        · exact True.intro
        · exact absurd hl (by decide)
        · exact True.intro
        · exact BoxF.alloc h _
        · exact absurd hl (by decide)
        · exact True.intro
        · exact absurd hl (by decide)
        · exact True.intro)
    refine late_skip rfl ?_
    refine late_skip rfl ?_
    refine late_cons ?xf3 ?_
    case xf3 =>
      unfold LateOne
      (try simp only [Act.put, List.setIfInBounds_toArray, List.set_cons_zero, List.set_cons_succ])
      intro v w hw hd K hK
      obtain ⟨bg, bn, fq, ⟨y, bq⟩, pw, zw⟩ := hw
      obtain ⟨h0, b0, e0⟩ : RowF w BB 0 (v 0) [] ∧ ∃ b, v 0 = .slice (some ⟨b, 0, none⟩) 0 0 := hd 0 rfl
      have lt0 := World.ownsRow.lt h0
      refine wp_append_own w (.tmp 54) (.tmp 56) 23 rfl BB 48 k0 _ 14 160 Tryz.underlying23 K1.out K2.out K3.out K4.out rfl (by decide) (v 0) 0 [] rfl h0 ⟨nb, no, none⟩ g.nodes.length c2 xs rfl LX.out (fun j u hu => by have hcx := CX.out j u hu; rw [add_plain] at hcx ⊢; exact (pw.cell (p := ⟨nb, no + j, none⟩) hnb).trans hcx) OX.out (by unfold maxLen; omega) (by omega) zw (fun x w' hown hgrow _ => ?_)
      have fin := hK x w' ⟨box_grownBy hgrow bg (by omega) (fun e => by have := (lt0 _ e.symm).1; omega), box_grownBy hgrow bn (by omega) (fun e => by have := (lt0 _ e.symm).1; omega), free_grownBy hgrow fq (by omega) (fun e => by have := (lt0 _ e.symm).1; omega), ⟨y, box_grownBy hgrow bq (by omega) (fun e => by have := (lt0 _ e.symm).1; omega)⟩, pw.grownBy hgrow (fun j hj => by have := (lt0 j hj).1; omega), by have := hgrow.size; omega⟩ (by simpa [RowF, updV] using hown) (fun i hi hk hl h => by
        rcases i with _ | _ | _ | _ | _ | _ | _ | _ | _ | i
        · exact absurd hk (by decide)
        · exact True.intro
        · exact True.intro
        · exact absurd rfl hi
        · exact True.intro
        · exact BoxF.grow h hgrow (fun b e f => own_empty h0 e0 (BoxF.cells h e 0) f.symm)
        · exact absurd hl (by decide)
        · exact True.intro
        · exact absurd hl (by decide)
        · exact True.intro)
      simp only [Act.put, List.setIfInBounds_toArray, List.set_cons_zero, List.set_cons_succ]
      exact fin
    refine late_skip rfl ?_
    refine late_cons ?xf5 ?_
    case xf5 =>
      unfold LateOne
      (try simp only [Act.put, List.setIfInBounds_toArray, List.set_cons_zero, List.set_cons_succ])
      intro v w hw hd K hK
      obtain ⟨bg, bn, fq, ⟨y, bq⟩, pw, zw⟩ := hw
      go_simp
      refine hK _ _ ⟨box_old bg (by omega), box_old bn (by omega), free_alloc fq, ⟨y, box_old bq (by omega)⟩, pw.alloc _, by simp; omega⟩ ⟨_, rfl, zw, by simp, box_new rfl⟩ (fun i hi hk hl h => by
        rcases i with _ | _ | _ | _ | _ | _ | _ | _ | _ | i
        · exact ⟨h.1.alloc _, h.2⟩
        · exact True.intro
        · exact True.intro
        · exact RowF.alloc h _
        · exact True.intro
        · exact absurd rfl hi
        · exact absurd hl (by decide)
        · exact True.intro
        · exact absurd hl (by decide)
        · exact True.intro)
    refine late_cons ?xf6 ?_
    case xf6 =>
      unfold LateOne
      (try simp only [Act.put, List.setIfInBounds_toArray, List.set_cons_zero, List.set_cons_succ])
      intro v w hw hd K hK
      obtain ⟨bg, bn, fq, ⟨y, bq⟩, pw, zw⟩ := hw
      have h3 : RowF w BB g.nodes.length (v 3) xs := hd 3 rfl
      obtain ⟨b5, e5, _, hb5, c5⟩ : BoxF w BB (v 5) 1 #[.int .i64 n.op, (.slice Ai n.ins.length ci), .int .i64 n.k, .int .i64 n.stride, .int .i64 n.pad, .int .i64 n.out, .int .i64 n.mul, .int .i64 n.shift, .int .i64 n.zero, .int .i64 n.th, .int .i64 n.tw, .int .i64 n.tc, (.slice Aw n.ws.length cw), (.slice Ab n.bs.length cb)] := hd 5 rfl
      have lt0 := World.ownsRow.lt h3
      refine wp_append_own w (.tmp 57) (.tmp 59) 23 rfl BB 48 k0 _ 14 160 Tryz.underlying23 K1.out K2.out K3.out K4.out rfl (by decide) (v 3) g.nodes.length xs rfl h3 ⟨b5, 0, none⟩ 1 1 (nodeCells n (.slice Ai n.ins.length ci) (.slice Aw n.ws.length cw) (.slice Ab n.bs.length cb)) e5 rfl (fun j u hu => by rw [add_plain, Nat.zero_add]; exact (c5 j).trans (by simpa [nodeCells] using hu)) ON.out (by unfold maxLen; omega) (by omega) zw (fun x w' hown hgrow _ => ?_)
      have fin := hK x w' ⟨box_grownBy hgrow bg (by omega) (fun e => by have := (lt0 _ e.symm).1; omega), box_grownBy hgrow bn (by omega) (fun e => by have := (lt0 _ e.symm).1; omega), free_grownBy hgrow fq (by omega) (fun e => by have := (lt0 _ e.symm).1; omega), ⟨y, box_grownBy hgrow bq (by omega) (fun e => by have := (lt0 _ e.symm).1; omega)⟩, pw.grownBy hgrow (fun j hj => by have := (lt0 j hj).1; omega), by have := hgrow.size; omega⟩ (by simpa [RowF, updV] using hown) (fun i hi hk hl h => by
        rcases i with _ | _ | _ | _ | _ | _ | _ | _ | _ | i
        · exact absurd hk (by decide)
        · exact True.intro
        · exact True.intro
        · exact absurd hk (by decide)
        · exact True.intro
        · exact absurd hk (by decide)
        · exact absurd rfl hi
        · exact True.intro
        · exact absurd hl (by decide)
        · exact True.intro)
      simp only [Act.put, List.setIfInBounds_toArray, List.set_cons_zero, List.set_cons_succ]
      exact fin
    refine late_skip rfl ?_
    refine late_cons ?xf8 ?_
    case xf8 =>
      unfold LateOne
      (try simp only [Act.put, List.setIfInBounds_toArray, List.set_cons_zero, List.set_cons_succ])
      intro v w hw hd K hK
      obtain ⟨bg, bn, fq, ⟨y, bq⟩, pw, zw⟩ := hw
      have h6 : RowF w BB (g.nodes.length + 1) (v 6) (xs ++ (nodeCells n (.slice Ai n.ins.length ci) (.slice Aw n.ws.length cw) (.slice Ab n.bs.length cb))) := hd 6 rfl
      obtain ⟨A6, c6, e6, _⟩ := own_slice' h6
      simp only [e6]
      go_simp
      have fin := hK undef (w.setCell ⟨Q, 1, none⟩ (.slice A6 (g.nodes.length + 1) c6)) ⟨box_setOther' (Q := Q) bg (by omega), box_setOther' (Q := Q) bn (by omega), free_set fq, ⟨_, box_at bq 1 (by simp) _⟩, pw.setCell (by simp only; omega) _, by simpa [World.setCell] using zw⟩ ⟨A6, c6, e6, RowF.set h6 (by omega), box_at bq 1 (by simp) _⟩ (fun i hi hk hl h => by
        rcases i with _ | _ | _ | _ | _ | _ | _ | _ | _ | i
        · exact ⟨h.1.set (by omega), h.2⟩
        · exact True.intro
        · exact True.intro
        · exact RowF.set h (by omega)
        · exact True.intro
        · exact BoxF.set h (by omega)
        · exact RowF.set h (by omega)
        · exact True.intro
        · exact absurd rfl hi
        · exact True.intro)
      simp only [e6] at fin
      exact fin
    exact True.intro
  case nf =>
    intro v w8 hw hd
    simp only [latesV, List.map_cons, List.map_nil, List.cons_append, List.nil_append, fillA, Act.put, List.setIfInBounds_toArray, List.set_cons_zero, List.set_cons_succ]
    obtain ⟨bg, _, fq, _, pw, zw⟩ := hw
    obtain ⟨A6, c6, e6, r6, bq⟩ : ∃ A c, v 6 = .slice A (g.nodes.length + 1) c ∧ RowF w8 BB (g.nodes.length + 1) (v 6) (xs ++ (nodeCells n (.slice Ai n.ins.length ci) (.slice Aw n.ws.length cw) (.slice Ab n.bs.length cb))) ∧ (∀ o : Nat, w8.cell? ⟨Q, o, none⟩ = (#[.slice A1 g.ins.length c1, .slice A (g.nodes.length + 1) c, .slice A3 g.outs.length c3] : Array Value)[o]?) := hd 8 rfl
    simp only [e6] at r6 ⊢
    have INO : Hid (IsNodes w8 (.slice A6 (g.nodes.length + 1) c6) (g.nodes ++ [n])) := Lib.hid (by
      have l1 : (g.nodes ++ [n]).length = g.nodes.length + 1 := by simp
      exact nodes_of_rowsO (W := w5) (base := BB) (by rw [l1]; exact r6) (RowsO.more RX.out LX.out IN.out) pw (fun m hm => by
        rcases List.mem_append.1 hm with hm | hm
        · exact NWF.out m hm
        · simp only [List.mem_cons, List.not_mem_nil, or_false] at hm; subst hm; exact WFN.out))
    have p8 := p5.trans pw
    have r8 : Past w4 w8 := q5.trans pw
    have fb2 := free_alloc (cs := #[.int .i64 ((g.ins.length + g.nodes.length : Nat) : Int), .int .i64 ((g.ins.length + g.nodes.length - 1 : Nat) : Int), .int .i64 ((g.ins.length + g.nodes.length : Nat) : Int)]) (t := 3) fq
    have qb2 := box_old (x := .cells #[.int .i64 ((g.ins.length + g.nodes.length : Nat) : Int), .int .i64 ((g.ins.length + g.nodes.length - 1 : Nat) : Int), .int .i64 ((g.ins.length + g.nodes.length : Nat) : Int)] 3) bq (by omega)
    obtain ⟨T, hT⟩ : ∃ T, g.ins.length + g.nodes.length = T := ⟨_, rfl⟩
    obtain ⟨T1, hT1⟩ : ∃ T1, T - 1 = T1 := ⟨_, rfl⟩
    have HT := Lib.hid hT
    have HT1 := Lib.hid hT1
    have t1 : IntKind.i64.wrap ((g.ins.length : Int) + (g.nodes.length : Int)) = (T : Int) := by rw [IntWalk.i64_in _ (by omega)]; omega
    have t2 : IntKind.i64.wrap ((T : Int) - 1) = (T1 : Int) := by rw [IntWalk.i64_in _ (by omega)]; omega
    rw [hT, hT1] at fb2 qb2
    rw [hT, hT1] at TD
    clear q6 f6 n6 b6 e6 r6 hT hT1
    go_upto_region 13 with fail
    refine opq (fun w' => (∀ o : Nat, w'.cell? ⟨Q, o, none⟩ = (#[.slice A1 g.ins.length c1, .slice A6 (g.nodes.length + 1) c6, .slice (some ⟨w8.heap.size, 0, none⟩) 3 3] : Array Value)[o]?) ∧ (∀ o : Nat, w'.cell? ⟨w8.heap.size, o, none⟩ = (#[.int .i64 T, .int .i64 T1, .int .i64 T] : Array Value)[o]?) ∧ Past w5 w' ∧ w8.heap.size + 1 ≤ w'.heap.size ∧ Hid (IsNodes w' (.slice A6 (g.nodes.length + 1) c6) (g.nodes ++ [n]))) ?_ ?_
    · refine ⟨?_, ?_, ?_, ?_, ?_⟩
      · exact box_at qb2 2 (by simp) _
      · (exact kKeep)
      · exact (pw.alloc _).setCell (by simp only; omega) _
      · (exact kKeep)
      · exact Lib.hid (nodes_save (INO.out.grow ((Past.refl _).alloc _)) (noInt_box qb2) ((Save.refl _ _).set _ _))
    rintro w9 ⟨b9, o9, p9, z9, INO9⟩
    clear fb2 qb2 bg bq fq INO pw
    obtain ⟨P, hP⟩ : ∃ P, w8.heap.size = P := ⟨_, rfl⟩
    rw [hP] at b9 o9 z9 ⊢
    have zQP : Q + 2 ≤ P := by omega
    clear hP
    have hG6 : g.ins.length ≤ 6 := L6
    have CG : Hid (∀ w, Past w9 w → IsGraph w (.agg #[.slice A1 g.ins.length c1, .slice A6 (g.nodes.length + 1) c6, .slice (some ⟨P, 0, none⟩) 3 3]) (twiceD g)) := Lib.hid (fun w p => by
      rw [TD.out]
      refine ⟨_, _, _, rfl, HGI2.out.grow (p9.trans p), INO9.out.grow p, nums_lit [(T : Int), (T1 : Int), (T : Int)] (fun x hx => ?_) (by simp; decide) (by simp) (fun i => (box_past p o9 (by omega) i).trans (by simp))⟩
      simp only [List.mem_cons, List.not_mem_nil, or_false] at hx
      have h1 := HT.out
      have h2 := HT1.out
      rcases hx with rfl | rfl | rfl <;> exact WalkArith.wf_i64 (by omega))
    have CC : Hid (Cut (twiceD g)) := Lib.hid (by
      rw [TD.out]
      refine ⟨by simp, fun m hm => ?_⟩
      rcases List.mem_append.1 hm with hm | hm
      · exact CU.out.2 m hm
      · simp only [List.mem_cons, List.not_mem_nil, or_false] at hm; subst hm; exact CUN.out)
    have RV := Lib.hid (fun (w : World) (p : Past w9 w) => rvalues_any (twiceD g) _ w (CG.out w p) CC.out)
    have r9 : Past w4 w9 := q5.trans p9
    have pA := p5.trans p9
    go_wp2_with fail
    refine (RV.out _ (Past.refl _)).mono ?_
    rintro e wa ⟨va, qa, rfl, hqa, hva, xa⟩
    have ba := box_past xa b9 (by omega)
    have ra := r9.trans xa
    have pa := pA.trans xa
    by_cases hE2 : valuesE (twiceD g) = 0
    rotate_left
    · have d5 : (qa != 0) = true := by
        have : qa ≠ 0 := fun f => hE2 (hqa.1 f)
        simpa using this
      clear hqa hva hE2 ba b9
      go_wp2_with fail
      go_ret
      exact ⟨rfl, pa⟩
    have d5 : (qa != 0) = false := by simp [hqa.2 hE2]
    obtain ⟨AVa, cVa, rfl, _⟩ := hva hE2
    have zA : Q < wa.heap.size := by have := xa.2.2.1; omega
    have EA0 := Lib.hid hE2
    obtain ⟨ins, hins⟩ : ∃ ins, filledL ls g.ins g.ins.length = ins := ⟨_, rfl⟩
    have IB : Hid (AllBytes ins) := Lib.hid (by rw [← hins]; exact filled_bytes (nums_bytes HLS.out) _ _)
    have FP : Hid (fitsP g.ins ins) := Lib.hid (by rw [← hins]; exact filled_fits _ _)
    have TI : Hid ((twiceD g).ins = g.ins) := Lib.hid rfl
    have FI := Lib.hid (fun (w : World) (p : Past wa w) => by
      have := filled_rows (twiceD g) _ _ ls w (CG.out w (xa.trans p)) (HL4.out.grow (ra.trans p)) (by rw [TI.out]; omega)
      rw [TI.out, hins] at this
      exact this)
    have EO := Lib.hid (fun (us : List Value) (iv : Value) (w : World) (p : Past wa w) (h1 : HasCells w iv us) (h2 : AreNums w us ins) => eouts_ok (twiceD g) _ iv us ins w (CG.out w (xa.trans p)) CC.out h1 h2 EA0.out FP.out)
    obtain ⟨r, hr⟩ := TR.out ins hE2 FP.out.1
    rw [hr] at EO
    have RB : Hid (Bytes r) := Lib.hid (by
      have hw : ∀ m ∈ (twiceD g).nodes, Bytes m.ws := graph_bytes (CG.out w9 (Past.refl _))
      have hfit := eval_fits EA0.out hw (ins := ins) FP.out IB.out
      have ho := (outs_fits EA0.out hfit).1 0 (by rw [TD.out]; simp)
      have hb := (hfit.2 _ (by omega : ((twiceD g).outs.getD 0 0).toNat < (twiceD g).ins.length + (twiceD g).nodes.length)).2
      have e0 : (namedR (evalL (twiceD g) ins) (twiceD g).outs).getD 0 [] = r := by rw [hr]; rfl
      rw [namedR_get (by rw [TD.out]; simp)] at e0
      rw [e0] at hb
      exact hb)
    clear hqa hva hE2 hins hr b9
    go_upto_region 16 with fail
    refine wp_region_goes [3, 4, 5, 6, 7, 8, 9] (fun w' => (∀ o : Nat, w'.cell? ⟨Q, o, none⟩ = (#[.slice A1 g.ins.length c1, .slice A6 (g.nodes.length + 1) c6, .slice (some ⟨P, 0, none⟩) 3 3] : Array Value)[o]?) ∧ Past wa w' ∧ Q + 1 ≤ w'.heap.size) [(84, ?vg84), (85, ?vg85), (86, ?vg86)] [84, 85, 86] (by kernel_rfl) rfl (by kernel_rfl) ⟨ba, Past.refl _, (by omega)⟩ (fun w h => h) ?ngs
    case ngs =>
      refine goes_step (α := Option Addr × Nat) [] [4, 5, 6, 7, 8, 9] 3 87 [3, 4, 5, 6, 7, 8, 9] (fun p => .slice p.1 g.ins.length p.2) (fun w' => (∀ o : Nat, w'.cell? ⟨Q, o, none⟩ = (#[.slice A1 g.ins.length c1, .slice A6 (g.nodes.length + 1) c6, .slice (some ⟨P, 0, none⟩) 3 3] : Array Value)[o]?) ∧ Past wa w' ∧ Q + 1 ≤ w'.heap.size) (fun p w' => (∀ o : Nat, w'.cell? ⟨Q, o, none⟩ = (#[.slice A1 g.ins.length c1, .slice A6 (g.nodes.length + 1) c6, .slice (some ⟨P, 0, none⟩) 3 3] : Array Value)[o]?) ∧ Past wa w' ∧ Q + 1 ≤ w'.heap.size ∧ Hid (∃ us, HasCells w' (.slice p.1 g.ins.length p.2) us ∧ AreNums w' us ins)) (fun p => []) [] (by kernel_rfl) (by kernel_rfl) (fun _ => rfl) ?hg0 ?eg0 ?cg0 (fun p => ?_)
      case hg0 =>
        first | (simp; done) | (rw [fill_size]; simp; done) | (rw [fill_size, fill_size]; simp; done) | (simp [fillA, Act.put]; done)
      case eg0 =>
        simp only [fillA, Act.put, List.setIfInBounds_toArray, List.set_cons_zero, List.set_cons_succ]
        (iterate 10 (first | refine owesb_skip rfl ?_ | (refine owesb_cons (fun w hw K hK => ?_) ?_; focus ((have hS := Lib.hid hw); go_split_ands; go_simp; (try simp only [fillA, Act.put, List.setIfInBounds_toArray, List.set_cons_zero, List.set_cons_succ]); exact hK _ hS.out))))
        exact True.intro
      case cg0 =>
        simp only [fillA, Act.put, List.setIfInBounds_toArray, List.set_cons_zero, List.set_cons_succ]
        refine ⟨_, rfl, fun w hw K hK => ?_⟩
        obtain ⟨bw, pw, zw⟩ := hw
        go_simp
        refine (FI.out w pw).mono ?_
        rintro e wz ⟨vz, rfl, ⟨us, oz, az⟩, pz⟩
        have lz : us.length = g.ins.length := az.1.trans FP.out.1
        have HCz := oz.has
        obtain ⟨Az, cz, rfl, _⟩ := own_slice' oz
        rw [lz] at HCz ⊢
        exact hK (Az, cz) _ ⟨box_past pz bw (by omega), pw.trans pz, size_past pz zw, Lib.hid ⟨us, HCz, az.nums IB.out⟩⟩
      refine goes_step (α := Option Addr × Nat) [3] [] 4 88 [4, 5, 6, 7, 8, 9] (fun s => .tuple #[.slice s.1 3 s.2, .int .i64 0]) (fun w' => (∀ o : Nat, w'.cell? ⟨Q, o, none⟩ = (#[.slice A1 g.ins.length c1, .slice A6 (g.nodes.length + 1) c6, .slice (some ⟨P, 0, none⟩) 3 3] : Array Value)[o]?) ∧ Past wa w' ∧ Q + 1 ≤ w'.heap.size ∧ Hid (∃ us, HasCells w' (.slice p.1 g.ins.length p.2) us ∧ AreNums w' us ins)) (fun s w' => (∀ o : Nat, w'.cell? ⟨Q, o, none⟩ = (#[.slice A1 g.ins.length c1, .slice A6 (g.nodes.length + 1) c6, .slice (some ⟨P, 0, none⟩) 3 3] : Array Value)[o]?) ∧ Past wa w' ∧ Q + 1 ≤ w'.heap.size ∧ Hid (IsRows w' (.slice s.1 3 s.2) [r, r, r])) (fun s => [(83, .tuple #[.slice s.1 3 s.2, .int .i64 0]), (89, .slice s.1 3 s.2), (90, .int .i64 0), (13, .slice s.1 3 s.2), (14, .int .i64 0)]) [83, 89, 90, 13, 14] (by kernel_rfl) (by kernel_rfl) (fun _ => rfl) ?hg1 ?eg1 ?cg1 (fun s => ?_)
      case hg1 =>
        first | (simp; done) | (rw [fill_size]; simp; done) | (rw [fill_size, fill_size]; simp; done) | (simp [fillA, Act.put]; done)
      case eg1 =>
        simp only [fillA, Act.put, List.setIfInBounds_toArray, List.set_cons_zero, List.set_cons_succ]
        (iterate 10 (first | refine owesb_skip rfl ?_ | (refine owesb_cons (fun w hw K hK => ?_) ?_; focus ((have hS := Lib.hid hw); go_split_ands; go_simp; (try simp only [fillA, Act.put, List.setIfInBounds_toArray, List.set_cons_zero, List.set_cons_succ]); exact hK _ hS.out))))
        exact True.intro
      case cg1 =>
        simp only [fillA, Act.put, List.setIfInBounds_toArray, List.set_cons_zero, List.set_cons_succ]
        refine ⟨_, rfl, fun w hw K hK => ?_⟩
        obtain ⟨bw, pw, zw, hcw⟩ := hw
        obtain ⟨us, hc1, hc2⟩ := hcw.out
        go_simp
        refine (EO.out us _ w pw hc1 hc2).mono ?_
        rintro e wz ⟨vz, rfl, ho, pz⟩
        have HR := Lib.hid (ho.is (rows3_bytes RB.out))
        obtain ⟨us', oz, az⟩ := ho
        have lz : us'.length = 3 := az.1
        obtain ⟨Az, cz, rfl, _⟩ := own_slice' oz
        rw [lz] at HR ⊢
        exact hK (Az, cz) _ ⟨box_past pz bw (by omega), pw.trans pz, size_past pz zw, HR⟩
      refine goes_end [4, 3] (by kernel_rfl) ?egz ?_
      case egz =>
        simp only [fillA, Act.put, List.setIfInBounds_toArray, List.set_cons_zero, List.set_cons_succ]
        (iterate 10 (first | refine owesb_skip rfl ?_ | (refine owesb_cons (fun w hw K hK => ?_) ?_; focus ((have hS := Lib.hid hw); go_split_ands; go_simp; (try simp only [fillA, Act.put, List.setIfInBounds_toArray, List.set_cons_zero, List.set_cons_succ]); exact hK _ hS.out))))
        exact True.intro
      rintro wb ⟨bb, pb, zb, HR⟩
      simp only [fillA, Act.put, List.setIfInBounds_toArray, List.set_cons_zero, List.set_cons_succ]
      obtain ⟨us, hcs, hl3, hn3⟩ := HR.out
      have l3 : us.length = 3 := hl3
      obtain ⟨ob, oo, oc, eo, _, _, hob, hoc⟩ := hcs.form (by omega)
      obtain ⟨As, cs⟩ := s
      rw [l3] at eo
      simp only [Value.slice.injEq, true_and] at eo
      obtain ⟨rfl, rfl⟩ := eo
      have hc0 := hoc 0 (by omega)
      have hc1 := hoc 1 (by omega)
      have hc2 := hoc 2 (by omega)
      have NU0 := Lib.hid (show IsNums .i8 wb (us.getD 0 nilS) r from hn3 0 (by simp))
      have NU1 := Lib.hid (show IsNums .i8 wb (us.getD 1 nilS) r from hn3 1 (by simp))
      have NU2 := Lib.hid (show IsNums .i8 wb (us.getD 2 nilS) r from hn3 2 (by simp))
      obtain ⟨U0, m0, e0', _⟩ := NU0.out
      obtain ⟨U1, k1, e1', _⟩ := NU1.out
      obtain ⟨U2, k2, e2', _⟩ := NU2.out
      rw [e0'] at hc0 NU0
      rw [e1'] at hc1 NU1
      rw [e2'] at hc2 NU2
      rw [Nat.add_zero] at hc0
      have d6 : ((3 : Int) != 3) = false := by decide
      have d7 : ((0 : Int) != 0) = false := by decide
      have j0 : (0 : Int) ≤ 0 := by decide
      have j1 : (0 : Int) < 3 := by decide
      have j2 : (1 : Int) < 3 := by decide
      have j3 : (2 : Int) < 3 := by decide
      have pF := pa.trans pb
      clear hcs hoc hn3 hl3 e0' e1' e2' bb pb zb ba
      dsimp only
      go_wp2_with fail
      have cc0 := ((Past.refl wb).cell (p := ⟨ob, oo, none⟩) hob).trans hc0
      have cc1 := ((Past.refl wb).cell (p := ⟨ob, oo + 1, none⟩) hob).trans hc1
      have SEc := Lib.hid (fun (w : World) (q : Past wb w) => same_eq _ _ r w (NU0.out.grow q) (NU1.out.grow q))
      have gc0 := Past.refl wb
      have hobc : ob < wb.heap.size := by have := (Past.refl wb).2.2.1; omega
      go_upto_region 19 with fail
      refine wp_region_fill (fun w' => w'.cell? ⟨ob, oo, none⟩ = some (.slice U0 r.length m0) ∧ w'.cell? ⟨ob, oo + 1, none⟩ = some (.slice U1 r.length k1) ∧ Past wb w' ∧ ob + 1 ≤ w'.heap.size) [(98, ?vc98), (99, ?vc99), (100, ?vc100), (101, ?vc101), (102, ?vc102), (103, ?vc103), (104, ?vc104), (15, ?vc15)] [98, 99, 100, 101, 102, 103, 104, 15] (by kernel_rfl) (by kernel_rfl) rfl (by kernel_rfl) ⟨cc0, cc1, (Past.refl wb), hobc⟩ (fun w h => h) ?allc ?finc
      case allc =>
        simp only [fillA, Act.put, List.setIfInBounds_toArray, List.set_cons_zero, List.set_cons_succ]
        iterate 8 (refine owes_cons (fun w hw K hK => ?_) ?_; focus ((have hS := Lib.hid hw); go_split_ands; go_simp; (try simp only [Act.put, List.setIfInBounds_toArray, List.set_cons_zero, List.set_cons_succ]); first | exact hK _ hS.out | (((go_at_call 15; with_reducible refine (SEc.out _ (by assumption)).mono ?_; rintro e w1 ⟨rfl, g1⟩; replace g1 := Grown.past g1)); refine hK _ ?_; (exact kKeep))))
        exact True.intro
      case finc =>
        rintro wc ⟨_, _, ppc, _⟩
        simp only [fillA, Act.put, List.setIfInBounds_toArray, List.set_cons_zero, List.set_cons_succ]
        clear cc0 cc1 gc0 hobc
        have cd0 := (ppc.cell (p := ⟨ob, oo, none⟩) hob).trans hc0
        have cd1 := (ppc.cell (p := ⟨ob, oo + 2, none⟩) hob).trans hc2
        have SEd := Lib.hid (fun (w : World) (q : Past wb w) => same_eq _ _ r w (NU0.out.grow q) (NU2.out.grow q))
        have gd0 := Past.refl wc
        have hobd : ob < wc.heap.size := by have := ppc.2.2.1; omega
        go_upto_region 20 with fail
        refine wp_region_fill (fun w' => w'.cell? ⟨ob, oo, none⟩ = some (.slice U0 r.length m0) ∧ w'.cell? ⟨ob, oo + 2, none⟩ = some (.slice U2 r.length k2) ∧ Past wb w' ∧ ob + 1 ≤ w'.heap.size) [(105, ?vd105), (106, ?vd106), (107, ?vd107), (108, ?vd108), (109, ?vd109), (110, ?vd110), (111, ?vd111), (16, ?vd16)] [105, 106, 107, 108, 109, 110, 111, 16] (by kernel_rfl) (by kernel_rfl) rfl (by kernel_rfl) ⟨cd0, cd1, ppc, hobd⟩ (fun w h => h) ?alld ?find
        case alld =>
          simp only [fillA, Act.put, List.setIfInBounds_toArray, List.set_cons_zero, List.set_cons_succ]
          iterate 8 (refine owes_cons (fun w hw K hK => ?_) ?_; focus ((have hS := Lib.hid hw); go_split_ands; go_simp; (try simp only [Act.put, List.setIfInBounds_toArray, List.set_cons_zero, List.set_cons_succ]); first | exact hK _ hS.out | (((go_at_call 15; with_reducible refine (SEd.out _ (by assumption)).mono ?_; rintro e w1 ⟨rfl, g1⟩; replace g1 := Grown.past g1)); refine hK _ ?_; (exact kKeep))))
          exact True.intro
        case find =>
          rintro wd ⟨_, _, ppd, _⟩
          simp only [fillA, Act.put, List.setIfInBounds_toArray, List.set_cons_zero, List.set_cons_succ]
          clear cd0 cd1 gd0 hobd
          have pG := pF.trans ppd
          clear ppc ppd pF
          go_wp2_with fail
          go_ret
          exact ⟨rfl, pG⟩
end Go.Proofs.YtfllackaojlfnaaGreat
