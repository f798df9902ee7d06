/- The reference of layer 3: Value. -/
import Derived.Test.YtgbedoffgahhaaaR3F
import Derived.Test.YtgbedoffgahhaaaFix
namespace Go.Proofs.Ytgbedoffgahhaaa
open Go.ChangeShapes Go.WideShapes Go.ChangeAt Go.RowKit
set_option maxRecDepth 20000
set_option linter.unusedVariables false

theorem wf_i32 {x : Int} (h : (Lit.int .i32 x).wf = true) : -2147483648 ≤ x ∧ x ≤ 2147483647 := by
  simpa [Lit.wf, IntKind.min, IntKind.max, IntKind.bits, IntKind.signed] using h

set_option maxHeartbeats 8000000 in
theorem rvalue_any (n : NodeD) (vi vw vb lv : Value) (vs : List ValD) (W : World) (hin : NodeIn W n vi vw vb) (hv : IsVals W lv vs) : Calls Try.prog 25 #[.agg #[.int .i64 n.op, vi, .int .i64 n.k, .int .i64 n.stride, .int .i64 n.pad, .int .i64 n.out, .int .i64 n.mul, .int .i64 n.shift, .int .i64 n.zero, .int .i64 n.th, .int .i64 n.tw, .int .i64 n.tc, vw, vb], lv] W (ValuePost n vs W) := by
  have HV := Lib.hid hv
  have HB := Lib.hid hin.2.2
  obtain ⟨A1, c1, rfl, a1, a2, _, _, a5⟩ := hv
  obtain ⟨A2, c2, rfl, b1, b2, _, _, _⟩ := hin.2.1
  obtain ⟨A3, c3, rfl, d1, d2, _, d4, d5⟩ := hin.2.2
  have A5 := Lib.hid a5
  have D4 := Lib.hid d4
  have D5 := Lib.hid d5
  have k1 : vs.length ≤ 9223372036854775807 := by unfold maxLen at a2; omega
  have k2 : n.ws.length ≤ 9223372036854775807 := by unfold maxLen at b2; omega
  have k3 : n.bs.length ≤ 9223372036854775807 := by unfold maxLen at d2; omega
  clear a1 a2 a5 b1 b2 d1 d2 d4 d5 hin
  obtain ⟨tn, hn⟩ := bool_of (p := (1 ≤ n.op ∧ n.op ≤ 12) ∧ (vs.length : Int) = nodeW n.op ∧ nodeK n ∧ nodeP n ∧ nodeO n ∧ nodeT n ∧ nodeS n)
  have HN := Lib.hid hn
  obtain ⟨kp, hk⟩ := bool_of (p := n.op = 4 ∨ n.op = 5 ∨ n.op = 8 ∨ n.op = 9 ∨ n.op = 10 ∨ n.op = 11)
  have HK := Lib.hid hk
  clear hn hk
  go_enter Try.func25, Try.ntmps25
  go_upto_region 1 with fail
  refine opq (fun w' => (∀ o : Nat, w'.cell? ⟨W.heap.size, o, none⟩ = (#[.int .i64 n.op, vi, .int .i64 n.k, .int .i64 n.stride, .int .i64 n.pad, .int .i64 n.out, .int .i64 n.mul, .int .i64 n.shift, .int .i64 n.zero, .int .i64 n.th, .int .i64 n.tw, .int .i64 n.tc, (.slice A2 n.ws.length c2), (.slice A3 n.bs.length c3)] : Array Value)[o]?) ∧ (∀ o : Nat, w'.cell? ⟨W.heap.size + 1, o, none⟩ = (#[.int .i64 0, .int .i64 0, .int .i64 0, .int .i64 0] : Array Value)[o]?) ∧ (∀ o : Nat, w'.frozen? ⟨W.heap.size + 1, o, none⟩ = false) ∧ Grown W w' ∧ W.heap.size + 2 ≤ w'.heap.size) kLaid ?_
  rintro W1 ⟨b1, b2, f2, g1, s1⟩
  go_wp2_with fail
  refine (node_any n vi _ _ _ tn _ HN).mono ?_
  rintro e w2 ⟨rfl, g⟩
  obtain ⟨b3, b4, f3, g3, s3⟩ : (∀ o : Nat, w2.cell? ⟨W.heap.size, o, none⟩ = (#[.int .i64 n.op, vi, .int .i64 n.k, .int .i64 n.stride, .int .i64 n.pad, .int .i64 n.out, .int .i64 n.mul, .int .i64 n.shift, .int .i64 n.zero, .int .i64 n.th, .int .i64 n.tw, .int .i64 n.tc, (.slice A2 n.ws.length c2), (.slice A3 n.bs.length c3)] : Array Value)[o]?) ∧ (∀ o : Nat, w2.cell? ⟨W.heap.size + 1, o, none⟩ = (#[.int .i64 0, .int .i64 0, .int .i64 0, .int .i64 0] : Array Value)[o]?) ∧ (∀ o : Nat, w2.frozen? ⟨W.heap.size + 1, o, none⟩ = false) ∧ Grown W w2 ∧ W.heap.size + 2 ≤ w2.heap.size := by (exact kKeep)
  clear b1 b2 f2 g1 s1 g
  cases tn with
  | false =>
    have Q : Hid (valueE n vs = 11) := Lib.hid (valueE_11 (fun h => by have := HN.out.mpr (takes_node.mp h).1; cases this))
    go_wp2_with fail
    exact bodyPost_ret (v := .tuple #[.agg #[.int .i64 0, .int .i64 0, .int .i64 0, .int .i64 0], .int .i64 11]) (by simp [results, Try.results25, go_sem, *]) rfl (value_err Q.out (by decide) kKeep)
  | true =>
    have NN : Hid ((1 ≤ n.op ∧ n.op ≤ 12) ∧ (vs.length : Int) = nodeW n.op ∧ nodeK n ∧ nodeP n ∧ nodeO n ∧ nodeT n ∧ nodeS n) := Lib.hid (HN.out.mp rfl)
    clear HN
    go_wp2_with fail
    go_loopw [6] (fun i wr => ∃ k : Nat, k ≤ vs.length ∧ i = .int .i64 k ∧ Hid (∀ j, j < k → ¬ (kp = true ∧ (vs.getD j default).z ≠ n.zero)) ∧ (∀ o : Nat, wr.cell? ⟨W.heap.size, o, none⟩ = (#[.int .i64 n.op, vi, .int .i64 n.k, .int .i64 n.stride, .int .i64 n.pad, .int .i64 n.out, .int .i64 n.mul, .int .i64 n.shift, .int .i64 n.zero, .int .i64 n.th, .int .i64 n.tw, .int .i64 n.tc, (.slice A2 n.ws.length c2), (.slice A3 n.bs.length c3)] : Array Value)[o]?) ∧ (∀ o : Nat, wr.cell? ⟨W.heap.size + 1, o, none⟩ = (#[.int .i64 0, .int .i64 0, .int .i64 0, .int .i64 0] : Array Value)[o]?) ∧ (∀ o : Nat, wr.frozen? ⟨W.heap.size + 1, o, none⟩ = false) ∧ Grown W wr ∧ W.heap.size + 2 ≤ wr.heap.size) (fun i _ => vs.length - (intOf i).toNat)
    case atStart => exact ⟨0, by omega, rfl, Lib.hid (fun j h => by omega), b3, b4, f3, g3, s3⟩
    case round =>
      clear b3 b4 f3 g3 s3
      obtain ⟨k, hk, rfl, hs, b3, b4, f3, g3, s3⟩ := hrel
      by_cases h : k < vs.length
      · obtain ⟨lb, lo, rfl, hlb, hlc⟩ := A5.out (by omega)
        obtain ⟨y0, y1, y2, y3⟩ := (hlc k h).grow hlb (Grown.past g3)
        have hlb2 : lb < wr.heap.size := Nat.lt_of_lt_of_le hlb g3.2.2
        obtain ⟨x, hx⟩ : ∃ x, vs.getD k default = x := ⟨_, rfl⟩
        rw [hx] at y0 y1 y2 y3
        have HX := Lib.hid hx
        obtain ⟨tz, hz⟩ := bool_of (p := kp = true ∧ x.z ≠ n.zero)
        have HZ := Lib.hid hz
        have i1 : (0 : Int) ≤ (k : Int) := by omega
        have i2 : (k : Int) < (vs.length : Int) := by omega
        clear hlc hx hz y0 y1 y2
        go_upto_region 6 with fail
        go_cut [36] (fun c w' => c = .bool tz ∧ (∀ o : Nat, w'.cell? ⟨W.heap.size, o, none⟩ = (#[.int .i64 n.op, vi, .int .i64 n.k, .int .i64 n.stride, .int .i64 n.pad, .int .i64 n.out, .int .i64 n.mul, .int .i64 n.shift, .int .i64 n.zero, .int .i64 n.th, .int .i64 n.tw, .int .i64 n.tc, (.slice A2 n.ws.length c2), (.slice A3 n.bs.length c3)] : Array Value)[o]?) ∧ (∀ o : Nat, w'.cell? ⟨W.heap.size + 1, o, none⟩ = (#[.int .i64 0, .int .i64 0, .int .i64 0, .int .i64 0] : Array Value)[o]?) ∧ (∀ o : Nat, w'.frozen? ⟨W.heap.size + 1, o, none⟩ = false) ∧ Grown W w' ∧ W.heap.size + 2 ≤ w'.heap.size)
        case first =>
          cases kp with
          | false =>
            obtain rfl : tz = false := Bool.eq_false_iff.mpr (fun h => by have := (HZ.out.mp h).1; cases this)
            refine wp_region_fill (fun w' => (∀ o : Nat, w'.cell? ⟨W.heap.size, o, none⟩ = (#[.int .i64 n.op, vi, .int .i64 n.k, .int .i64 n.stride, .int .i64 n.pad, .int .i64 n.out, .int .i64 n.mul, .int .i64 n.shift, .int .i64 n.zero, .int .i64 n.th, .int .i64 n.tw, .int .i64 n.tc, (.slice A2 n.ws.length c2), (.slice A3 n.bs.length c3)] : Array Value)[o]?) ∧ (∀ o : Nat, w'.cell? ⟨W.heap.size + 1, o, none⟩ = (#[.int .i64 0, .int .i64 0, .int .i64 0, .int .i64 0] : Array Value)[o]?) ∧ (∀ o : Nat, w'.frozen? ⟨W.heap.size + 1, o, none⟩ = false) ∧ Grown W w' ∧ W.heap.size + 2 ≤ w'.heap.size ∧ lb + 1 ≤ w'.heap.size ∧ w'.cell? ⟨lb, lo + k * 4 + 3, none⟩ = some (.int .i64 x.z)) [(24, ?va24), (25, ?va25), (26, ?va26), (27, ?va27), (28, ?va28), (29, ?va29), (30, ?va30), (31, ?va31), (32, ?va32), (33, ?va33), (34, ?va34), (35, ?va35), (36, ?va36)] [24, 25, 26, 27, 28, 29, 30, 31, 32, 33, 34, 35, 36] (by kernel_rfl) (by kernel_rfl) rfl (by kernel_rfl) ⟨b3, b4, f3, g3, s3, hlb2, y3⟩ (fun w h => h) ?alla ?fina
            case alla =>
              simp only [fillA, Act.put, List.setIfInBounds_toArray, List.set_cons_zero, List.set_cons_succ]
              iterate 2 (refine owes_cons (fun w hw K hK => ?_) ?_; focus ((have hS := Lib.hid hw); go_split_ands; go_simp; (try simp only [Act.put, List.setIfInBounds_toArray, List.set_cons_zero, List.set_cons_succ]); exact hK _ hS.out))
              refine owes_cons (fun w hw K hK => ?_) ?_
              · have hS := Lib.hid hw
                go_split_ands
                go_simp
                refine (rkeeps_any n.op _ _ HK).mono ?_
                rintro e w6 ⟨rfl, gg⟩
                refine hK _ ?_
                (exact kKeep)
              iterate 10 (refine owes_cons (fun w hw K hK => ?_) ?_; focus ((have hS := Lib.hid hw); go_split_ands; go_simp; (try simp only [Act.put, List.setIfInBounds_toArray, List.set_cons_zero, List.set_cons_succ]); exact hK _ hS.out))
              exact True.intro
            case fina =>
              rintro w9 ⟨b9, b10, f9, g9, s9, _⟩
              simp only [fillA, Act.put, List.setIfInBounds_toArray, List.set_cons_zero, List.set_cons_succ]
              go_wp2_with fail
              go_meet
              exact ⟨rfl, b9, b10, f9, g9, s9⟩
          | true =>
            cases ez : (x.z != n.zero) with
            | true =>
              obtain rfl : tz = true := HZ.out.mpr ⟨rfl, by simpa using ez⟩
              refine wp_region_fill (fun w' => (∀ o : Nat, w'.cell? ⟨W.heap.size, o, none⟩ = (#[.int .i64 n.op, vi, .int .i64 n.k, .int .i64 n.stride, .int .i64 n.pad, .int .i64 n.out, .int .i64 n.mul, .int .i64 n.shift, .int .i64 n.zero, .int .i64 n.th, .int .i64 n.tw, .int .i64 n.tc, (.slice A2 n.ws.length c2), (.slice A3 n.bs.length c3)] : Array Value)[o]?) ∧ (∀ o : Nat, w'.cell? ⟨W.heap.size + 1, o, none⟩ = (#[.int .i64 0, .int .i64 0, .int .i64 0, .int .i64 0] : Array Value)[o]?) ∧ (∀ o : Nat, w'.frozen? ⟨W.heap.size + 1, o, none⟩ = false) ∧ Grown W w' ∧ W.heap.size + 2 ≤ w'.heap.size ∧ lb + 1 ≤ w'.heap.size ∧ w'.cell? ⟨lb, lo + k * 4 + 3, none⟩ = some (.int .i64 x.z)) [(24, ?vb24), (25, ?vb25), (26, ?vb26), (27, ?vb27), (28, ?vb28), (29, ?vb29), (30, ?vb30), (31, ?vb31), (32, ?vb32), (33, ?vb33), (34, ?vb34), (35, ?vb35), (36, ?vb36)] [24, 25, 26, 27, 28, 29, 30, 31, 32, 33, 34, 35, 36] (by kernel_rfl) (by kernel_rfl) rfl (by kernel_rfl) ⟨b3, b4, f3, g3, s3, hlb2, y3⟩ (fun w h => h) ?allb ?finb
              case allb =>
                simp only [fillA, Act.put, List.setIfInBounds_toArray, List.set_cons_zero, List.set_cons_succ]
                iterate 2 (refine owes_cons (fun w hw K hK => ?_) ?_; focus ((have hS := Lib.hid hw); go_split_ands; go_simp; (try simp only [Act.put, List.setIfInBounds_toArray, List.set_cons_zero, List.set_cons_succ]); exact hK _ hS.out))
                refine owes_cons (fun w hw K hK => ?_) ?_
                · have hS := Lib.hid hw
                  go_split_ands
                  go_simp
                  refine (rkeeps_any n.op _ _ HK).mono ?_
                  rintro e w6 ⟨rfl, gg⟩
                  refine hK _ ?_
                  (exact kKeep)
                iterate 10 (refine owes_cons (fun w hw K hK => ?_) ?_; focus ((have hS := Lib.hid hw); go_split_ands; go_simp; (try simp only [Act.put, List.setIfInBounds_toArray, List.set_cons_zero, List.set_cons_succ]); exact hK _ hS.out))
                exact True.intro
              case finb =>
                rintro w9 ⟨b9, b10, f9, g9, s9, _⟩
                simp only [fillA, Act.put, List.setIfInBounds_toArray, List.set_cons_zero, List.set_cons_succ]
                go_wp2_with fail
                go_meet
                exact ⟨rfl, b9, b10, f9, g9, s9⟩
            | false =>
              obtain rfl : tz = false := Bool.eq_false_iff.mpr (fun h => by have := (HZ.out.mp h).2; simp at ez; exact this ez)
              refine wp_region_fill (fun w' => (∀ o : Nat, w'.cell? ⟨W.heap.size, o, none⟩ = (#[.int .i64 n.op, vi, .int .i64 n.k, .int .i64 n.stride, .int .i64 n.pad, .int .i64 n.out, .int .i64 n.mul, .int .i64 n.shift, .int .i64 n.zero, .int .i64 n.th, .int .i64 n.tw, .int .i64 n.tc, (.slice A2 n.ws.length c2), (.slice A3 n.bs.length c3)] : Array Value)[o]?) ∧ (∀ o : Nat, w'.cell? ⟨W.heap.size + 1, o, none⟩ = (#[.int .i64 0, .int .i64 0, .int .i64 0, .int .i64 0] : Array Value)[o]?) ∧ (∀ o : Nat, w'.frozen? ⟨W.heap.size + 1, o, none⟩ = false) ∧ Grown W w' ∧ W.heap.size + 2 ≤ w'.heap.size ∧ lb + 1 ≤ w'.heap.size ∧ w'.cell? ⟨lb, lo + k * 4 + 3, none⟩ = some (.int .i64 x.z)) [(24, ?vc24), (25, ?vc25), (26, ?vc26), (27, ?vc27), (28, ?vc28), (29, ?vc29), (30, ?vc30), (31, ?vc31), (32, ?vc32), (33, ?vc33), (34, ?vc34), (35, ?vc35), (36, ?vc36)] [24, 25, 26, 27, 28, 29, 30, 31, 32, 33, 34, 35, 36] (by kernel_rfl) (by kernel_rfl) rfl (by kernel_rfl) ⟨b3, b4, f3, g3, s3, hlb2, y3⟩ (fun w h => h) ?allc ?finc
              case allc =>
                simp only [fillA, Act.put, List.setIfInBounds_toArray, List.set_cons_zero, List.set_cons_succ]
                iterate 2 (refine owes_cons (fun w hw K hK => ?_) ?_; focus ((have hS := Lib.hid hw); go_split_ands; go_simp; (try simp only [Act.put, List.setIfInBounds_toArray, List.set_cons_zero, List.set_cons_succ]); exact hK _ hS.out))
                refine owes_cons (fun w hw K hK => ?_) ?_
                · have hS := Lib.hid hw
                  go_split_ands
                  go_simp
                  refine (rkeeps_any n.op _ _ HK).mono ?_
                  rintro e w6 ⟨rfl, gg⟩
                  refine hK _ ?_
                  (exact kKeep)
                iterate 10 (refine owes_cons (fun w hw K hK => ?_) ?_; focus ((have hS := Lib.hid hw); go_split_ands; go_simp; (try simp only [Act.put, List.setIfInBounds_toArray, List.set_cons_zero, List.set_cons_succ]); exact hK _ hS.out))
                exact True.intro
              case finc =>
                rintro w9 ⟨b9, b10, f9, g9, s9, _⟩
                simp only [fillA, Act.put, List.setIfInBounds_toArray, List.set_cons_zero, List.set_cons_succ]
                go_wp2_with fail
                go_meet
                exact ⟨rfl, b9, b10, f9, g9, s9⟩
        case rest =>
          obtain ⟨rfl, b5, b6, f4, g4, s4⟩ := hcut
          clear b3 b4 f3 g3 s3
          cases tz with
          | true =>
            have Q : Hid (valueE n vs = 11) := Lib.hid (valueE_11 (fun h' => by
              have k1 := HZ.out.mp (by trivial)
              exact (takes_node.mp h').2 k h ⟨HK.out.mp k1.1, by rw [HX.out]; exact k1.2⟩))
            go_wp2_with fail
            exact bodyPost_ret (v := .tuple #[.agg #[.int .i64 0, .int .i64 0, .int .i64 0, .int .i64 0], .int .i64 11]) (by simp [results, Try.results25, go_sem, *]) rfl (value_err Q.out (by decide) kKeep)
          | false =>
            go_wp2_with fail
            go_roundw
            case rel => exact ⟨k + 1, by omega, by go_num, Lib.hid (fun j hj => by
              by_cases c : j = k
              · rw [c, HX.out]; exact fun f => by have := HZ.out.mpr f; cases this
              · exact hs.out j (by omega)), b5, b6, f4, g4, s4⟩
            case measure => simp [intOf]; omega
      · have ek : k = vs.length := by omega
        subst ek
        have TK : Hid (hasOp n.op ∧ takesP (opD n.op) n vs) := Lib.hid (takes_node.mpr ⟨NN.out, fun j hj f => hs.out j hj ⟨HK.out.mpr f.1, f.2⟩⟩)
        clear hs hk h HK
        go_wp2_with fail
        go_loopw [7] (fun i wr => ∃ k : Nat, k ≤ vs.length ∧ i = .int .i64 k ∧ Hid (∀ j, j < k → mayV (vs.getD j default)) ∧ (∀ o : Nat, wr.cell? ⟨W.heap.size, o, none⟩ = (#[.int .i64 n.op, vi, .int .i64 n.k, .int .i64 n.stride, .int .i64 n.pad, .int .i64 n.out, .int .i64 n.mul, .int .i64 n.shift, .int .i64 n.zero, .int .i64 n.th, .int .i64 n.tw, .int .i64 n.tc, (.slice A2 n.ws.length c2), (.slice A3 n.bs.length c3)] : Array Value)[o]?) ∧ (∀ o : Nat, wr.cell? ⟨W.heap.size + 1, o, none⟩ = (#[.int .i64 0, .int .i64 0, .int .i64 0, .int .i64 0] : Array Value)[o]?) ∧ (∀ o : Nat, wr.frozen? ⟨W.heap.size + 1, o, none⟩ = false) ∧ Grown W wr ∧ W.heap.size + 2 ≤ wr.heap.size) (fun i _ => vs.length - (intOf i).toNat)
        case atStart => exact ⟨0, by omega, rfl, Lib.hid (fun j h => by omega), b3, b4, f3, g3, s3⟩
        case round =>
          clear b3 b4 f3 g3 s3
          obtain ⟨k, hk, rfl, hs, b3, b4, f3, g3, s3⟩ := hrel
          by_cases h : k < vs.length
          · obtain ⟨lb, lo, rfl, hlb, hlc⟩ := A5.out (by omega)
            obtain ⟨y0, y1, y2, y3⟩ := (hlc k h).grow hlb (Grown.past g3)
            obtain ⟨x, hx⟩ : ∃ x, vs.getD k default = x := ⟨_, rfl⟩
            rw [hx] at y0 y1 y2 y3
            have HX := Lib.hid hx
            have i1 : (0 : Int) ≤ (k : Int) := by omega
            have i2 : (k : Int) < (vs.length : Int) := by omega
            clear hlc hx y3
            by_cases m : mayV x
            · have M := Lib.hid m
              clear m
              go_wp2_with fail
              refine (rmay_yes x.h x.w x.c _ M.out).mono ?_
              rintro e w5 ⟨rfl, g⟩
              obtain ⟨b5, b6, f4, g4, s4⟩ : (∀ o : Nat, w5.cell? ⟨W.heap.size, o, none⟩ = (#[.int .i64 n.op, vi, .int .i64 n.k, .int .i64 n.stride, .int .i64 n.pad, .int .i64 n.out, .int .i64 n.mul, .int .i64 n.shift, .int .i64 n.zero, .int .i64 n.th, .int .i64 n.tw, .int .i64 n.tc, (.slice A2 n.ws.length c2), (.slice A3 n.bs.length c3)] : Array Value)[o]?) ∧ (∀ o : Nat, w5.cell? ⟨W.heap.size + 1, o, none⟩ = (#[.int .i64 0, .int .i64 0, .int .i64 0, .int .i64 0] : Array Value)[o]?) ∧ (∀ o : Nat, w5.frozen? ⟨W.heap.size + 1, o, none⟩ = false) ∧ Grown W w5 ∧ W.heap.size + 2 ≤ w5.heap.size := by (exact kKeep)
              clear b3 b4 f3 g3 s3 g y0 y1 y2
              go_wp2_with fail
              go_roundw
              case rel => exact ⟨k + 1, by omega, by go_num, Lib.hid (fun j hj => by
                by_cases c : j = k
                · rw [c, HX.out]; exact M.out
                · exact hs.out j (by omega)), b5, b6, f4, g4, s4⟩
              case measure => simp [intOf]; omega
            · have Q : Hid (valueE n vs = 10) := Lib.hid (valueE_10 TK.out (fun f => m (by rw [← HX.out]; exact f k h)))
              have M := Lib.hid m
              clear m
              go_wp2_with fail
              refine (rmay_no x.h x.w x.c _ M.out).mono ?_
              rintro e w5 ⟨rfl, g⟩
              obtain ⟨b5, b6, f4, g4, s4⟩ : (∀ o : Nat, w5.cell? ⟨W.heap.size, o, none⟩ = (#[.int .i64 n.op, vi, .int .i64 n.k, .int .i64 n.stride, .int .i64 n.pad, .int .i64 n.out, .int .i64 n.mul, .int .i64 n.shift, .int .i64 n.zero, .int .i64 n.th, .int .i64 n.tw, .int .i64 n.tc, (.slice A2 n.ws.length c2), (.slice A3 n.bs.length c3)] : Array Value)[o]?) ∧ (∀ o : Nat, w5.cell? ⟨W.heap.size + 1, o, none⟩ = (#[.int .i64 0, .int .i64 0, .int .i64 0, .int .i64 0] : Array Value)[o]?) ∧ (∀ o : Nat, w5.frozen? ⟨W.heap.size + 1, o, none⟩ = false) ∧ Grown W w5 ∧ W.heap.size + 2 ≤ w5.heap.size := by (exact kKeep)
              clear b3 b4 f3 g3 s3 g y0 y1 y2
              go_wp2_with fail
              exact bodyPost_ret (v := .tuple #[.agg #[.int .i64 0, .int .i64 0, .int .i64 0, .int .i64 0], .int .i64 10]) (by simp [results, Try.results25, go_sem, *]) rfl (value_err Q.out (by decide) kKeep)
          · have ek : k = vs.length := by omega
            subst ek
            have MV : Hid (∀ j, j < vs.length → mayV (vs.getD j default)) := hs
            have l1 : 0 < vs.length := by
              have := NN.out.2.1
              unfold nodeW at this
              split at this <;> omega
            obtain ⟨lb, lo, rfl, hlb, hlc⟩ := A5.out l1
            obtain ⟨y0, y1, y2, y3⟩ := (hlc 0 l1).grow hlb (Grown.past g3)
            have hlb2 : lb + 1 ≤ wr.heap.size := Nat.lt_of_lt_of_le hlb g3.2.2
            obtain ⟨x, hx⟩ : ∃ x, vs.getD 0 default = x := ⟨_, rfl⟩
            rw [hx] at y0 y1 y2 y3
            obtain ⟨s, hs2⟩ : ∃ s, madeS n vs = s := ⟨_, rfl⟩
            obtain ⟨wa, wb, hab⟩ : ∃ wa wb, wantS n x (madeS n vs).2.2 = (wa, wb) := ⟨_, _, rfl⟩
            have MA := Lib.hid (fun w (g : Grown W w) => made_any n vi (.slice A2 n.ws.length c2) (.slice A3 n.bs.length c3) _ vs w (HV.out.grow (Grown.past g)) TK.out.1 NN.out.2.1 MV.out s hs2)
            have CA := Lib.hid (fun w => many_any n vi (.slice A2 n.ws.length c2) (.slice A3 n.bs.length c3) vs w l1 TK.out.1 NN.out.2.2.1 NN.out.2.2.2.2.1 MV.out x hx wa wb hab)
            have HS := Lib.hid hs2
            have HAB := Lib.hid hab
            have HX := Lib.hid hx
            have L1 := Lib.hid l1
            have i1 : (0 : Int) ≤ 0 := by omega
            have i2 : (0 : Int) < (vs.length : Int) := by omega
            clear hs hs2 hab hx hlc hk h y3
            simp only [Nat.zero_mul, Nat.add_zero] at y0 y1 y2
            go_wp2_with fail
            refine (MA.out _ g3).mono ?_
            rintro e w5 ⟨rfl, g⟩
            obtain ⟨b5, b6, f4, g4, s4, z0, z1, z2, z3⟩ : (∀ o : Nat, w5.cell? ⟨W.heap.size, o, none⟩ = (#[.int .i64 n.op, vi, .int .i64 n.k, .int .i64 n.stride, .int .i64 n.pad, .int .i64 n.out, .int .i64 n.mul, .int .i64 n.shift, .int .i64 n.zero, .int .i64 n.th, .int .i64 n.tw, .int .i64 n.tc, (.slice A2 n.ws.length c2), (.slice A3 n.bs.length c3)] : Array Value)[o]?) ∧ (∀ o : Nat, w5.cell? ⟨W.heap.size + 1, o, none⟩ = (#[.int .i64 0, .int .i64 0, .int .i64 0, .int .i64 0] : Array Value)[o]?) ∧ (∀ o : Nat, w5.frozen? ⟨W.heap.size + 1, o, none⟩ = false) ∧ Grown W w5 ∧ W.heap.size + 2 ≤ w5.heap.size ∧ lb + 1 ≤ w5.heap.size ∧ w5.cell? ⟨lb, lo, none⟩ = some (.int .i64 x.h) ∧ w5.cell? ⟨lb, lo + 1, none⟩ = some (.int .i64 x.w) ∧ w5.cell? ⟨lb, lo + 2, none⟩ = some (.int .i64 x.c) := by (exact kKeep)
            clear b3 b4 f3 g3 s3 g y0 y1 y2 hlb2 MA
            obtain ⟨P8, hP⟩ : ∃ P8, w5.heap.size = P8 := ⟨_, rfl⟩
            go_upto_region 14 with fail
            refine opq (fun w' => ((∀ o : Nat, w'.cell? ⟨W.heap.size, o, none⟩ = (#[.int .i64 n.op, vi, .int .i64 n.k, .int .i64 n.stride, .int .i64 n.pad, .int .i64 n.out, .int .i64 n.mul, .int .i64 n.shift, .int .i64 n.zero, .int .i64 n.th, .int .i64 n.tw, .int .i64 n.tc, (.slice A2 n.ws.length c2), (.slice A3 n.bs.length c3)] : Array Value)[o]?) ∧ (∀ o : Nat, w'.cell? ⟨W.heap.size + 1, o, none⟩ = (#[.int .i64 0, .int .i64 0, .int .i64 0, .int .i64 0] : Array Value)[o]?) ∧ (∀ o : Nat, w'.frozen? ⟨W.heap.size + 1, o, none⟩ = false) ∧ Grown W w' ∧ W.heap.size + 2 ≤ w'.heap.size ∧ (∀ o : Nat, w'.cell? ⟨P8, o, none⟩ = (#[.int .i64 s.1, .int .i64 s.2.1, .int .i64 s.2.2] : Array Value)[o]?) ∧ P8 + 1 ≤ w'.heap.size) ∧ lb + 1 ≤ w'.heap.size ∧ w'.cell? ⟨lb, lo, none⟩ = some (.int .i64 x.h) ∧ w'.cell? ⟨lb, lo + 1, none⟩ = some (.int .i64 x.w) ∧ w'.cell? ⟨lb, lo + 2, none⟩ = some (.int .i64 x.c)) (by
              subst hP
              (exact kKeep)) ?_
            rintro w6 ⟨⟨b3, b4, f3, g3, s3, b7, s7⟩, y0, y1, y2, y3⟩
            have q8 : W.heap.size + 2 ≤ P8 := by omega
            clear b5 b6 f4 g4 s4 z0 z1 z2 z3 hP
            have q9 : W.heap.size + 1 ≠ P8 := by omega
            by_cases m : mayT s
            · have MS := Lib.hid m
              have RM := Lib.hid (fun w => rmay_yes s.1 s.2.1 s.2.2 w m)
              clear m
              go_upto_region 16 with (first | (go_at_call 23; with_reducible refine (RM.out _).mono ?_; rintro e w7 ⟨rfl, g⟩; obtain ⟨⟨t1, t2, t3, t4, t5, t6, t7⟩, u0, u1, u2, u3⟩ : ((∀ o : Nat, w7.cell? ⟨W.heap.size, o, none⟩ = (#[.int .i64 n.op, vi, .int .i64 n.k, .int .i64 n.stride, .int .i64 n.pad, .int .i64 n.out, .int .i64 n.mul, .int .i64 n.shift, .int .i64 n.zero, .int .i64 n.th, .int .i64 n.tw, .int .i64 n.tc, (.slice A2 n.ws.length c2), (.slice A3 n.bs.length c3)] : Array Value)[o]?) ∧ (∀ o : Nat, w7.cell? ⟨W.heap.size + 1, o, none⟩ = (#[.int .i64 0, .int .i64 0, .int .i64 0, .int .i64 0] : Array Value)[o]?) ∧ (∀ o : Nat, w7.frozen? ⟨W.heap.size + 1, o, none⟩ = false) ∧ Grown W w7 ∧ W.heap.size + 2 ≤ w7.heap.size ∧ (∀ o : Nat, w7.cell? ⟨P8, o, none⟩ = (#[.int .i64 s.1, .int .i64 s.2.1, .int .i64 s.2.2] : Array Value)[o]?) ∧ P8 + 1 ≤ w7.heap.size) ∧ lb + 1 ≤ w7.heap.size ∧ w7.cell? ⟨lb, lo, none⟩ = some (.int .i64 x.h) ∧ w7.cell? ⟨lb, lo + 1, none⟩ = some (.int .i64 x.w) ∧ w7.cell? ⟨lb, lo + 2, none⟩ = some (.int .i64 x.c) := by (exact kKeep)))
              clear b3 b4 f3 g3 s3 b7 s7 y0 y1 y2 y3 g RM
              go_cut [9, 10] (fun c9 c10 w' => c9 = .int .i64 wa ∧ c10 = .int .i64 wb ∧ (∀ o : Nat, w'.cell? ⟨W.heap.size, o, none⟩ = (#[.int .i64 n.op, vi, .int .i64 n.k, .int .i64 n.stride, .int .i64 n.pad, .int .i64 n.out, .int .i64 n.mul, .int .i64 n.shift, .int .i64 n.zero, .int .i64 n.th, .int .i64 n.tw, .int .i64 n.tc, (.slice A2 n.ws.length c2), (.slice A3 n.bs.length c3)] : Array Value)[o]?) ∧ (∀ o : Nat, w'.cell? ⟨W.heap.size + 1, o, none⟩ = (#[.int .i64 0, .int .i64 0, .int .i64 0, .int .i64 0] : Array Value)[o]?) ∧ (∀ o : Nat, w'.frozen? ⟨W.heap.size + 1, o, none⟩ = false) ∧ Grown W w' ∧ W.heap.size + 2 ≤ w'.heap.size ∧ (∀ o : Nat, w'.cell? ⟨P8, o, none⟩ = (#[.int .i64 s.1, .int .i64 s.2.1, .int .i64 s.2.2] : Array Value)[o]?) ∧ P8 + 1 ≤ w'.heap.size)
              case first =>
                go_region_held3 (fun w' => ((∀ o : Nat, w'.cell? ⟨W.heap.size, o, none⟩ = (#[.int .i64 n.op, vi, .int .i64 n.k, .int .i64 n.stride, .int .i64 n.pad, .int .i64 n.out, .int .i64 n.mul, .int .i64 n.shift, .int .i64 n.zero, .int .i64 n.th, .int .i64 n.tw, .int .i64 n.tc, (.slice A2 n.ws.length c2), (.slice A3 n.bs.length c3)] : Array Value)[o]?) ∧ (∀ o : Nat, w'.cell? ⟨W.heap.size + 1, o, none⟩ = (#[.int .i64 0, .int .i64 0, .int .i64 0, .int .i64 0] : Array Value)[o]?) ∧ (∀ o : Nat, w'.frozen? ⟨W.heap.size + 1, o, none⟩ = false) ∧ Grown W w' ∧ W.heap.size + 2 ≤ w'.heap.size ∧ (∀ o : Nat, w'.cell? ⟨P8, o, none⟩ = (#[.int .i64 s.1, .int .i64 s.2.1, .int .i64 s.2.2] : Array Value)[o]?) ∧ P8 + 1 ≤ w'.heap.size) ∧ lb + 1 ≤ w'.heap.size ∧ w'.cell? ⟨lb, lo, none⟩ = some (.int .i64 x.h) ∧ w'.cell? ⟨lb, lo + 1, none⟩ = some (.int .i64 x.w) ∧ w'.cell? ⟨lb, lo + 2, none⟩ = some (.int .i64 x.c)) (exact kKeep)
                  (first | ((with_reducible refine (CA.out _).mono ?_); rintro e w7 ⟨rfl, g⟩))
                all_goals
                  go_wp2_with fail
                  go_meet
                  exact ⟨rfl, rfl, by (exact kKeep)⟩
              case rest =>
                obtain ⟨rfl, rfl, o1, o2, o3, o4, o5, o6, o7⟩ := hcut
                clear t1 t2 t3 t4 t5 t6 t7 u0 u1 u2 u3 CA
                have q1 := valueE_12 (n := n) (vs := vs) TK.out MV.out (HS.out.symm ▸ MS.out)
                have q0 := valueE_0 (n := n) (vs := vs) TK.out MV.out (HS.out.symm ▸ MS.out)
                have QE : Hid (lensP n vs ↔ ((n.ws.length : Int) = wa ∧ (n.bs.length : Int) = wb ∧ ∀ j, j < n.bs.length → nearB (n.bs.getD j 0))) := Lib.hid (by unfold lensP; rw [HX.out, HAB.out])
                have Q1 := Lib.hid q1
                have Q0 := Lib.hid q0
                clear q1 q0
                cases e1 : ((n.ws.length : Int) == wa) with
                | false =>
                  have e1' : ((n.ws.length : Int) != wa) = true := by simp [bne, e1]
                  have Q := Lib.hid (Q1.out (fun l => by have := (QE.out.mp l).1; rw [this] at e1; simp at e1))
                  go_wp2_with fail
                  exact bodyPost_ret (v := .tuple #[.agg #[.int .i64 0, .int .i64 0, .int .i64 0, .int .i64 0], .int .i64 12]) (by simp [results, Try.results25, go_sem, *]) rfl (value_err Q.out (by decide) kKeep)
                | true =>
                  have e1' : ((n.ws.length : Int) != wa) = false := by simp [bne, e1]
                  cases e2 : ((n.bs.length : Int) == wb) with
                  | false =>
                    have e2' : ((n.bs.length : Int) != wb) = true := by simp [bne, e2]
                    have Q := Lib.hid (Q1.out (fun l => by have := (QE.out.mp l).2.1; rw [this] at e2; simp at e2))
                    go_wp2_with fail
                    exact bodyPost_ret (v := .tuple #[.agg #[.int .i64 0, .int .i64 0, .int .i64 0, .int .i64 0], .int .i64 12]) (by simp [results, Try.results25, go_sem, *]) rfl (value_err Q.out (by decide) kKeep)
                  | true =>
                    have e2' : ((n.bs.length : Int) != wb) = false := by simp [bne, e2]
                    have QL : Hid ((∀ j, j < n.bs.length → nearB (n.bs.getD j 0)) ↔ lensP n vs) := Lib.hid (by
                      rw [QE.out]
                      exact ⟨fun h => ⟨by simpa using e1, by simpa using e2, h⟩, fun h => h.2.2⟩)
                    clear e1 e2 QE
                    go_wp2_with fail
                    go_loopw [11] (fun i wr => ∃ k : Nat, k ≤ n.bs.length ∧ i = .int .i64 k ∧ Hid (∀ j, j < k → nearB (n.bs.getD j 0)) ∧ (∀ o : Nat, wr.cell? ⟨W.heap.size, o, none⟩ = (#[.int .i64 n.op, vi, .int .i64 n.k, .int .i64 n.stride, .int .i64 n.pad, .int .i64 n.out, .int .i64 n.mul, .int .i64 n.shift, .int .i64 n.zero, .int .i64 n.th, .int .i64 n.tw, .int .i64 n.tc, (.slice A2 n.ws.length c2), (.slice A3 n.bs.length c3)] : Array Value)[o]?) ∧ (∀ o : Nat, wr.cell? ⟨W.heap.size + 1, o, none⟩ = (#[.int .i64 0, .int .i64 0, .int .i64 0, .int .i64 0] : Array Value)[o]?) ∧ (∀ o : Nat, wr.frozen? ⟨W.heap.size + 1, o, none⟩ = false) ∧ Grown W wr ∧ W.heap.size + 2 ≤ wr.heap.size ∧ (∀ o : Nat, wr.cell? ⟨P8, o, none⟩ = (#[.int .i64 s.1, .int .i64 s.2.1, .int .i64 s.2.2] : Array Value)[o]?) ∧ P8 + 1 ≤ wr.heap.size) (fun i _ => n.bs.length - (intOf i).toNat)
                    case atStart => exact ⟨0, by omega, rfl, Lib.hid (fun j h => by omega), o1, o2, o3, o4, o5, o6, o7⟩
                    case round =>
                      clear o1 o2 o3 o4 o5 o6 o7
                      obtain ⟨k, hk, rfl, hs, o1, o2, o3, o4, o5, o6, o7⟩ := hrel
                      by_cases h : k < n.bs.length
                      · obtain ⟨bb, bo, rfl, hbb, hbc⟩ := D5.out (by omega)
                        have y0 := cell_grown o4 (hbc k h) hbb
                        obtain ⟨y, hy⟩ : ∃ y, n.bs.getD k 0 = y := ⟨_, rfl⟩
                        have hyw := wf_i32 (D4.out y (by rw [← hy]; simp [List.getD, h]))
                        rw [hy] at y0
                        obtain ⟨hy1, hy2⟩ := hyw
                        obtain ⟨tb, htb⟩ := bool_of (p := -16777216 ≤ y ∧ y ≤ 16777216)
                        have HTB := Lib.hid htb
                        have HY := Lib.hid hy
                        have i3 : (0 : Int) ≤ (k : Int) := by omega
                        have i4 : (k : Int) < (n.bs.length : Int) := by omega
                        clear hbc htb hy
                        go_wp2_with fail
                        refine (rin_any y (-16777216) 16777216 tb _ HTB).mono ?_
                        rintro e w9 ⟨rfl, g⟩
                        obtain ⟨r1, r2, r3, r4, r5, r6, r7⟩ : (∀ o : Nat, w9.cell? ⟨W.heap.size, o, none⟩ = (#[.int .i64 n.op, vi, .int .i64 n.k, .int .i64 n.stride, .int .i64 n.pad, .int .i64 n.out, .int .i64 n.mul, .int .i64 n.shift, .int .i64 n.zero, .int .i64 n.th, .int .i64 n.tw, .int .i64 n.tc, .slice A2 n.ws.length c2, .slice (some ⟨bb, bo, none⟩) n.bs.length c3] : Array Value)[o]?) ∧ (∀ o : Nat, w9.cell? ⟨W.heap.size + 1, o, none⟩ = (#[.int .i64 0, .int .i64 0, .int .i64 0, .int .i64 0] : Array Value)[o]?) ∧ (∀ o : Nat, w9.frozen? ⟨W.heap.size + 1, o, none⟩ = false) ∧ Grown W w9 ∧ W.heap.size + 2 ≤ w9.heap.size ∧ (∀ o : Nat, w9.cell? ⟨P8, o, none⟩ = (#[.int .i64 s.1, .int .i64 s.2.1, .int .i64 s.2.2] : Array Value)[o]?) ∧ P8 + 1 ≤ w9.heap.size := by (exact kKeep)
                        clear o1 o2 o3 o4 o5 o6 o7 g y0
                        cases tb with
                        | true =>
                          go_wp2_with fail
                          go_roundw
                          case rel => exact ⟨k + 1, by omega, by go_num, Lib.hid (fun j hj => by
                            by_cases c : j = k
                            · rw [c, HY.out]; exact HTB.out.mp (by trivial)
                            · exact hs.out j (by omega)), r1, r2, r3, r4, r5, r6, r7⟩
                          case measure => simp [intOf]; omega
                        | false =>
                          have Q := Lib.hid (Q1.out (fun l => by
                            have := HTB.out.mpr (by have := (QL.out.mpr l) k h; rw [HY.out] at this; exact this)
                            cases this))
                          go_wp2_with fail
                          exact bodyPost_ret (v := .tuple #[.agg #[.int .i64 0, .int .i64 0, .int .i64 0, .int .i64 0], .int .i64 12]) (by simp [results, Try.results25, go_sem, *]) rfl (value_err Q.out (by decide) kKeep)
                      · have ek : k = n.bs.length := by omega
                        subst ek
                        have q := Q0.out (QL.out.mp hs.out)
                        have fin : Hid (ValuePost n vs W = fun e w' => e = .returned (.tuple #[.agg #[.int .i64 s.1, .int .i64 s.2.1, .int .i64 s.2.2, .int .i64 n.zero], .int .i64 0]) ∧ Grown W w') := Lib.hid (by
                          unfold ValuePost; rw [valueV_ok q, q, HS.out])
                        clear q hk h hs
                        go_wp2_with fail
                        exact bodyPost_ret (v := .tuple #[.agg #[.int .i64 s.1, .int .i64 s.2.1, .int .i64 s.2.2, .int .i64 n.zero], .int .i64 0]) (by simp [results, Try.results25, go_sem, *]) rfl (by rw [fin.out]; exact ⟨rfl, by (exact kKeep)⟩)
            · have Q : Hid (valueE n vs = 10) := Lib.hid (valueE_10' TK.out MV.out (by rw [HS.out]; exact m))
              have RM := Lib.hid (fun w => rmay_no s.1 s.2.1 s.2.2 w m)
              clear m
              go_wp2_with (first | (go_at_call 23; with_reducible refine (RM.out _).mono ?_; rintro e w7 ⟨rfl, g⟩; obtain ⟨t1, t2, t3, t4, t5, t6, t7⟩ : (∀ o : Nat, w7.cell? ⟨W.heap.size, o, none⟩ = (#[.int .i64 n.op, vi, .int .i64 n.k, .int .i64 n.stride, .int .i64 n.pad, .int .i64 n.out, .int .i64 n.mul, .int .i64 n.shift, .int .i64 n.zero, .int .i64 n.th, .int .i64 n.tw, .int .i64 n.tc, (.slice A2 n.ws.length c2), (.slice A3 n.bs.length c3)] : Array Value)[o]?) ∧ (∀ o : Nat, w7.cell? ⟨W.heap.size + 1, o, none⟩ = (#[.int .i64 0, .int .i64 0, .int .i64 0, .int .i64 0] : Array Value)[o]?) ∧ (∀ o : Nat, w7.frozen? ⟨W.heap.size + 1, o, none⟩ = false) ∧ Grown W w7 ∧ W.heap.size + 2 ≤ w7.heap.size ∧ (∀ o : Nat, w7.cell? ⟨P8, o, none⟩ = (#[.int .i64 s.1, .int .i64 s.2.1, .int .i64 s.2.2] : Array Value)[o]?) ∧ P8 + 1 ≤ w7.heap.size := by (exact kKeep)))
              exact bodyPost_ret (v := .tuple #[.agg #[.int .i64 0, .int .i64 0, .int .i64 0, .int .i64 0], .int .i64 10]) (by simp [results, Try.results25, go_sem, *]) rfl (value_err Q.out (by decide) kKeep)
end Go.Proofs.Ytgbedoffgahhaaa
