/- The reference's Same. -/
import Derived.Deep.DeepCutAuto
import Derived.Test.YtejllmjkeefloaaJV3
import Derived.Test.YtejllmjkeefloaaJFix
import Derived.Test.YtejllmjkeefloaaJG2
import Derived.Test.YtejllmjkeefloaaJR3Node
namespace Go.Proofs.Ytejllmjkeefloaa
open Go.ChangeShapes Go.WideShapes Go.ChangeAt Go.RowKit
set_option maxRecDepth 20000
set_option linter.unusedVariables false

set_option maxHeartbeats 8000000 in
theorem rsame_any (a b : GraphD) (va vb : Value) (t : Bool) (W : World) (ha : IsGraph W va a) (hb : IsGraph W vb b) (ht : t = true ↔ a = b) : Calls Try.prog 12 #[va, vb] W fun e w' => e = .returned (.bool t) ∧ Grown W w' := by
  obtain ⟨iv, nv, ov, rfl, hi, hn, ho⟩ := ha
  obtain ⟨iu, nu, ou, rfl, hi', hn', ho'⟩ := hb
  rw [graph_eq] at ht
  have HT := Lib.hid ht
  clear ht
  have HI := Lib.hid hi
  have HN := Lib.hid hn
  have HO := Lib.hid ho
  have HI' := Lib.hid hi'
  have HN' := Lib.hid hn'
  have HO' := Lib.hid ho'
  obtain ⟨A1, c1, rfl, _, _, _, _, _⟩ := hi
  obtain ⟨A2, c2, rfl, _, n2, _, n4, n5⟩ := hn
  obtain ⟨A3, c3, rfl, _, _, _, _, _⟩ := ho
  obtain ⟨B1, d1, rfl, _, _, _, _, _⟩ := hi'
  obtain ⟨B2, d2, rfl, _, m2, _, m4, m5⟩ := hn'
  obtain ⟨B3, d3, rfl, _, _, _, _, _⟩ := ho'
  have N4 := Lib.hid n4
  have N5 := Lib.hid n5
  have M4 := Lib.hid m4
  have M5 := Lib.hid m5
  have l1 : a.nodes.length ≤ 9223372036854775807 := by unfold maxLen at n2; omega
  have l2 : b.nodes.length ≤ 9223372036854775807 := by unfold maxLen at m2; omega
  clear n2 n4 n5 m2 m4 m5
  obtain ⟨t1, ht1⟩ := bool_any (a.ins = b.ins)
  obtain ⟨t3, ht3⟩ := bool_any (a.outs = b.outs)
  have H1 := Lib.hid ht1
  have H3 := Lib.hid ht3
  have C1 := Lib.hid (fun w (g : Grown W w) => vals_any w _ _ a.ins b.ins t1 (HI.out.grow (Grown.past g)) (HI'.out.grow (Grown.past g)) H1)
  have C3 := Lib.hid (fun w (g : Grown W w) => ints_any w _ _ a.outs b.outs t3 (HO.out.grow (Grown.past g)) (HO'.out.grow (Grown.past g)) H3)
  clear ht1 ht3
  go_enter Try.func12, Try.ntmps12
  go_upto_region 1 with fail
  refine opq (fun w' => (∀ o : Nat, w'.cell? ⟨W.heap.size, o, none⟩ = (#[.slice A1 a.ins.length c1, .slice A2 a.nodes.length c2, .slice A3 a.outs.length c3] : Array Value)[o]?) ∧ (∀ o : Nat, w'.cell? ⟨W.heap.size + 1, o, none⟩ = (#[.slice B1 b.ins.length d1, .slice B2 b.nodes.length d2, .slice B3 b.outs.length d3] : Array Value)[o]?) ∧ Grown W w' ∧ W.heap.size + 2 ≤ w'.heap.size) ?_ ?_
  · (exact kKeep)
  rintro w1 ⟨b1, b2, g1, s1⟩
  go_wp2_with fail
  refine (C1.out _ g1).mono ?_
  rintro e w2 ⟨rfl, g⟩
  obtain ⟨b3, b4, g2, s2⟩ : (∀ o : Nat, w2.cell? ⟨W.heap.size, o, none⟩ = (#[.slice A1 a.ins.length c1, .slice A2 a.nodes.length c2, .slice A3 a.outs.length c3] : Array Value)[o]?) ∧ (∀ o : Nat, w2.cell? ⟨W.heap.size + 1, o, none⟩ = (#[.slice B1 b.ins.length d1, .slice B2 b.nodes.length d2, .slice B3 b.outs.length d3] : Array Value)[o]?) ∧ Grown W w2 ∧ W.heap.size + 2 ≤ w2.heap.size := by (exact kKeep)
  clear b1 b2 g1 s1 g
  go_wp2_with fail
  refine (C3.out _ g2).mono ?_
  rintro e w3 ⟨rfl, g⟩
  obtain ⟨b5, b6, g3, s3⟩ : (∀ o : Nat, w3.cell? ⟨W.heap.size, o, none⟩ = (#[.slice A1 a.ins.length c1, .slice A2 a.nodes.length c2, .slice A3 a.outs.length c3] : Array Value)[o]?) ∧ (∀ o : Nat, w3.cell? ⟨W.heap.size + 1, o, none⟩ = (#[.slice B1 b.ins.length d1, .slice B2 b.nodes.length d2, .slice B3 b.outs.length d3] : Array Value)[o]?) ∧ Grown W w3 ∧ W.heap.size + 2 ≤ w3.heap.size := by (exact kKeep)
  clear b3 b4 g2 s2 g C1 C3
  cases t1 with
  | false =>
    obtain rfl : t = false := Bool.eq_false_iff.mpr (fun h => by have := H1.out.mpr (HT.out.mp h).1; cases this)
    go_wp2_with fail
    go_ret
    exact ⟨rfl, g3⟩
  | true =>
    cases t3 with
    | false =>
      obtain rfl : t = false := Bool.eq_false_iff.mpr (fun h => by have := H3.out.mpr (HT.out.mp h).2.2; cases this)
      go_wp2_with fail
      go_ret
      exact ⟨rfl, g3⟩
    | true =>
      cases e0 : ((a.nodes.length : Int) == (b.nodes.length : Int)) with
      | false =>
        have e9 : ((a.nodes.length : Int) != (b.nodes.length : Int)) = true := by simp [bne, e0]
        obtain rfl : t = false := Bool.eq_false_iff.mpr (fun h => by
          have := congrArg List.length (HT.out.mp h).2.1
          rw [this] at e0
          simp at e0)
        go_wp2_with fail
        go_ret
        exact ⟨rfl, g3⟩
      | true =>
        have hl : a.nodes.length = b.nodes.length := by have := beq_iff_eq.mp e0; omega
        have HE := nodes_ext hl
        obtain ⟨len, hlen⟩ : ∃ n, a.nodes.length = n := ⟨_, rfl⟩
        have hlen' : b.nodes.length = len := by omega
        rw [hlen] at l1 HE
        simp only [hlen] at b5
        simp only [hlen'] at b6
        simp only [hlen, hlen']
        have HE := Lib.hid HE
        have HX := Lib.hid hlen
        have HY := Lib.hid hlen'
        clear hlen hlen' hl l2 e0
        have e9 : ((len : Int) != (len : Int)) = false := by simp
        go_wp2_with fail
        go_loopw [7, 8] (fun i _ wr => ∃ k : Nat, k ≤ len ∧ i = .int .i64 k ∧ Hid (∀ j, j < k → a.nodes.getD j default = b.nodes.getD j default) ∧ (∀ o : Nat, wr.cell? ⟨W.heap.size, o, none⟩ = (#[.slice A1 a.ins.length c1, .slice A2 len c2, .slice A3 a.outs.length c3] : Array Value)[o]?) ∧ (∀ o : Nat, wr.cell? ⟨W.heap.size + 1, o, none⟩ = (#[.slice B1 b.ins.length d1, .slice B2 len d2, .slice B3 b.outs.length d3] : Array Value)[o]?) ∧ Grown W wr ∧ W.heap.size + 2 ≤ wr.heap.size) (fun i _ _ => len - (intOf i).toNat)
        case atStart => exact ⟨0, by omega, rfl, Lib.hid (fun j h => by omega), b5, b6, g3, s3⟩
        case round =>
          clear b5 b6 g3 s3
          obtain ⟨k, hk, rfl, hx, b5, b6, g3, s3⟩ := hrel
          by_cases l : k < len
          · obtain ⟨p, of1, rfl, hp, hc⟩ := N5.out (by rw [HX.out]; omega)
            obtain ⟨p', of2, rfl, hp', hc'⟩ := M5.out (by rw [HY.out]; omega)
            obtain ⟨vi, vw, vb, hin, hcell⟩ := (hc k (by rw [HX.out]; exact l)).grow hp (Grown.past g3)
            obtain ⟨ui, uw, ub, hin', hcell'⟩ := (hc' k (by rw [HY.out]; exact l)).grow hp' (Grown.past g3)
            obtain ⟨x, ha⟩ : ∃ x, a.nodes.getD k default = x := ⟨_, rfl⟩
            obtain ⟨y, hb⟩ : ∃ y, b.nodes.getD k default = y := ⟨_, rfl⟩
            have ma : NodeWf x := N4.out x (by rw [← ha]; simp [List.getD, show k < a.nodes.length by rw [HX.out]; exact l])
            have mb : NodeWf y := M4.out y (by rw [← hb]; simp [List.getD, show k < b.nodes.length by rw [HY.out]; exact l])
            rw [ha] at hin hcell
            rw [hb] at hin' hcell'
            obtain ⟨Xi, xi, rfl⟩ := nums_slice hin.1
            obtain ⟨Xw, xw, rfl⟩ := nums_slice hin.2.1
            obtain ⟨Xb, xb, rfl⟩ := nums_slice hin.2.2
            obtain ⟨Yi, yi, rfl⟩ := nums_slice hin'.1
            obtain ⟨Yw, yw, rfl⟩ := nums_slice hin'.2.1
            obtain ⟨Yb, yb, rfl⟩ := nums_slice hin'.2.2
            have x0 := hcell 0 (by omega)
            have x1 := hcell 1 (by omega)
            have x2 := hcell 2 (by omega)
            have x3 := hcell 3 (by omega)
            have x4 := hcell 4 (by omega)
            have x5 := hcell 5 (by omega)
            have x6 := hcell 6 (by omega)
            have x7 := hcell 7 (by omega)
            have x8 := hcell 8 (by omega)
            have x9 := hcell 9 (by omega)
            have x10 := hcell 10 (by omega)
            have x11 := hcell 11 (by omega)
            have x12 := hcell 12 (by omega)
            have x13 := hcell 13 (by omega)
            have y0 := hcell' 0 (by omega)
            have y1 := hcell' 1 (by omega)
            have y2 := hcell' 2 (by omega)
            have y3 := hcell' 3 (by omega)
            have y4 := hcell' 4 (by omega)
            have y5 := hcell' 5 (by omega)
            have y6 := hcell' 6 (by omega)
            have y7 := hcell' 7 (by omega)
            have y8 := hcell' 8 (by omega)
            have y9 := hcell' 9 (by omega)
            have y10 := hcell' 10 (by omega)
            have y11 := hcell' 11 (by omega)
            have y12 := hcell' 12 (by omega)
            have y13 := hcell' 13 (by omega)
            simp only [nodeCells, List.getElem?_cons_zero, List.getElem?_cons_succ, Nat.add_zero] at x0 x1 x2 x3 x4 x5 x6 x7 x8 x9 x10 x11 x12 x13 y0 y1 y2 y3 y4 y5 y6 y7 y8 y9 y10 y11 y12 y13
            obtain ⟨tk, htk⟩ := bool_any (x = y)
            have HK := Lib.hid htk
            have HA := Lib.hid ha
            have HB := Lib.hid hb
            have CN := Lib.hid (fun w (q : Past wr w) => same_node_any w (.agg #[.int .i64 x.op, .slice Xi x.ins.length xi, .int .i64 x.k, .int .i64 x.stride, .int .i64 x.pad, .int .i64 x.out, .int .i64 x.mul, .int .i64 x.shift, .int .i64 x.zero, .int .i64 x.th, .int .i64 x.tw, .int .i64 x.tc, .slice Xw x.ws.length xw, .slice Xb x.bs.length xb]) (.agg #[.int .i64 y.op, .slice Yi y.ins.length yi, .int .i64 y.k, .int .i64 y.stride, .int .i64 y.pad, .int .i64 y.out, .int .i64 y.mul, .int .i64 y.shift, .int .i64 y.zero, .int .i64 y.th, .int .i64 y.tw, .int .i64 y.tc, .slice Yw y.ws.length yw, .slice Yb y.bs.length yb]) x y tk ⟨_, _, _, rfl, hin.grow q, ma⟩ ⟨_, _, _, rfl, hin'.grow q, mb⟩ HK)
            have i1 : (0 : Int) ≤ (k : Int) := by omega
            have i2 : (k : Int) < (len : Int) := by omega
            have q1 : p + 1 ≤ wr.heap.size := Nat.lt_of_lt_of_le hp g3.2.2
            have q2 : p' + 1 ≤ wr.heap.size := Nat.lt_of_lt_of_le hp' g3.2.2
            clear hin hin' hcell hcell' hc hc' htk ha hb ma mb
            go_upto_region 8 with fail
            refine wp_region_fill (fun w' => (∀ o : Nat, w'.cell? ⟨W.heap.size, o, none⟩ = (#[.slice A1 a.ins.length c1, .slice (some ⟨p, of1, none⟩) len c2, .slice A3 a.outs.length c3] : Array Value)[o]?) ∧ (∀ o : Nat, w'.cell? ⟨W.heap.size + 1, o, none⟩ = (#[.slice B1 b.ins.length d1, .slice (some ⟨p', of2, none⟩) len d2, .slice B3 b.outs.length d3] : Array Value)[o]?) ∧ Grown W w' ∧ W.heap.size + 2 ≤ w'.heap.size ∧ Past wr w' ∧ p + 1 ≤ w'.heap.size ∧ p' + 1 ≤ w'.heap.size ∧ w'.cell? ⟨p, of1 + k * 14, none⟩ = some (.int .i64 x.op) ∧ w'.cell? ⟨p, of1 + k * 14 + 1, none⟩ = some (.slice Xi x.ins.length xi) ∧ w'.cell? ⟨p, of1 + k * 14 + 2, none⟩ = some (.int .i64 x.k) ∧ w'.cell? ⟨p, of1 + k * 14 + 3, none⟩ = some (.int .i64 x.stride) ∧ w'.cell? ⟨p, of1 + k * 14 + 4, none⟩ = some (.int .i64 x.pad) ∧ w'.cell? ⟨p, of1 + k * 14 + 5, none⟩ = some (.int .i64 x.out) ∧ w'.cell? ⟨p, of1 + k * 14 + 6, none⟩ = some (.int .i64 x.mul) ∧ w'.cell? ⟨p, of1 + k * 14 + 7, none⟩ = some (.int .i64 x.shift) ∧ w'.cell? ⟨p, of1 + k * 14 + 8, none⟩ = some (.int .i64 x.zero) ∧ w'.cell? ⟨p, of1 + k * 14 + 9, none⟩ = some (.int .i64 x.th) ∧ w'.cell? ⟨p, of1 + k * 14 + 10, none⟩ = some (.int .i64 x.tw) ∧ w'.cell? ⟨p, of1 + k * 14 + 11, none⟩ = some (.int .i64 x.tc) ∧ w'.cell? ⟨p, of1 + k * 14 + 12, none⟩ = some (.slice Xw x.ws.length xw) ∧ w'.cell? ⟨p, of1 + k * 14 + 13, none⟩ = some (.slice Xb x.bs.length xb) ∧ w'.cell? ⟨p', of2 + k * 14, none⟩ = some (.int .i64 y.op) ∧ w'.cell? ⟨p', of2 + k * 14 + 1, none⟩ = some (.slice Yi y.ins.length yi) ∧ w'.cell? ⟨p', of2 + k * 14 + 2, none⟩ = some (.int .i64 y.k) ∧ w'.cell? ⟨p', of2 + k * 14 + 3, none⟩ = some (.int .i64 y.stride) ∧ w'.cell? ⟨p', of2 + k * 14 + 4, none⟩ = some (.int .i64 y.pad) ∧ w'.cell? ⟨p', of2 + k * 14 + 5, none⟩ = some (.int .i64 y.out) ∧ w'.cell? ⟨p', of2 + k * 14 + 6, none⟩ = some (.int .i64 y.mul) ∧ w'.cell? ⟨p', of2 + k * 14 + 7, none⟩ = some (.int .i64 y.shift) ∧ w'.cell? ⟨p', of2 + k * 14 + 8, none⟩ = some (.int .i64 y.zero) ∧ w'.cell? ⟨p', of2 + k * 14 + 9, none⟩ = some (.int .i64 y.th) ∧ w'.cell? ⟨p', of2 + k * 14 + 10, none⟩ = some (.int .i64 y.tw) ∧ w'.cell? ⟨p', of2 + k * 14 + 11, none⟩ = some (.int .i64 y.tc) ∧ w'.cell? ⟨p', of2 + k * 14 + 12, none⟩ = some (.slice Yw y.ws.length yw) ∧ w'.cell? ⟨p', of2 + k * 14 + 13, none⟩ = some (.slice Yb y.bs.length yb)) [(41, ?v41), (42, ?v42), (43, ?v43), (44, ?v44), (45, ?v45), (46, ?v46), (47, ?v47), (48, ?v48), (49, ?v49), (50, ?v50), (51, ?v51), (8, ?v8)] [41, 42, 43, 44, 45, 46, 47, 48, 49, 50, 51, 8] (by kernel_rfl) (by kernel_rfl) rfl (by kernel_rfl) ⟨b5, b6, g3, s3, Past.refl _, q1, q2, x0, x1, x2, x3, x4, x5, x6, x7, x8, x9, x10, x11, x12, x13, y0, y1, y2, y3, y4, y5, y6, y7, y8, y9, y10, y11, y12, y13⟩ (fun w h => h) ?all ?fin
            case all =>
              simp only [fillA, Act.put, List.setIfInBounds_toArray, List.set_cons_zero, List.set_cons_succ]
              iterate 10 (refine owes_cons (fun w hw K hK => ?_) ?_; focus ((have hS := Lib.hid hw); go_split_ands; go_simp; (try simp only [Act.put, List.setIfInBounds_toArray, List.set_cons_zero, List.set_cons_succ]); exact hK _ hS.out))
              refine owes_cons (fun w hw K hK => ?_) ?_
              · have hS := Lib.hid hw
                go_split_ands
                go_simp
                refine (CN.out _ (by (try go_split_ands); assumption)).mono ?_
                rintro e w6 ⟨rfl, gg⟩
                refine hK _ ?_
                have gp := Grown.past gg
                (exact kKeep)
              iterate 1 (refine owes_cons (fun w hw K hK => ?_) ?_; focus ((have hS := Lib.hid hw); go_split_ands; go_simp; (try simp only [Act.put, List.setIfInBounds_toArray, List.set_cons_zero, List.set_cons_succ]); exact hK _ hS.out))
              exact True.intro
            case fin =>
              rintro w9 ⟨b7, b8, g4, s4, _⟩
              simp only [fillA, Act.put, List.setIfInBounds_toArray, List.set_cons_zero, List.set_cons_succ]
              cases tk with
              | true =>
                have E : Hid (∀ j, j < k + 1 → a.nodes.getD j default = b.nodes.getD j default) := Lib.hid (fun j h => by
                  by_cases c : j = k
                  · rw [c, HA.out, HB.out, HK.out.mp rfl]
                  · exact hx.out j (by omega))
                go_wp2_with fail
                go_roundw
                case rel => exact ⟨k + 1, by omega, by go_num, E, b7, b8, g4, s4⟩
                case measure => simp [intOf]; omega
              | false =>
                obtain rfl : t = false := Bool.eq_false_iff.mpr (fun h => by
                  have := (HE.out.mp (HT.out.mp h).2.1) k l
                  rw [HA.out, HB.out] at this
                  have := HK.out.mpr this
                  cases this)
                go_wp2_with fail
                go_ret
                exact ⟨rfl, g4⟩
          · have T : t = true := HT.out.mpr ⟨H1.out.mp (by trivial), HE.out.mpr (fun j h => hx.out j (by omega)), H3.out.mp (by trivial)⟩
            subst T
            go_wp2_with fail
            go_ret
            exact ⟨rfl, g3⟩
end Go.Proofs.Ytejllmjkeefloaa
