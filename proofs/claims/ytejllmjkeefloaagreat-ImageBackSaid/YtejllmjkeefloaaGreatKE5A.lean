/- graph.sameNode, case by case (0, 8, 9, 10). -/
import Derived.Test.YtejllmjkeefloaaGreatKE1
import Derived.Test.YtejllmjkeefloaaGreatKE4
import Derived.Test.YtejllmjkeefloaaGreatKFix
namespace Go.Proofs.YtejllmjkeefloaaGreat
open Go.ChangeShapes Go.WideShapes Go.ChangeAt Go.RowKit
set_option maxRecDepth 20000
set_option linter.unusedVariables false

set_option maxHeartbeats 8000000 in
theorem same_case0 (a b : NodeD) (W : World) (Ai Aw Ab Bi Bw Bb : Option Addr) (ci cw cb di dw db : Nat) (q8 : ∀ w, (Op.equalIn 10000 123 (.agg #[.int .i64 a.op, .int .i64 a.k, .int .i64 a.stride, .int .i64 a.pad, .int .i64 a.out, .int .i64 a.mul, .int .i64 a.shift, .int .i64 a.zero]) (.agg #[.int .i64 b.op, .int .i64 b.k, .int .i64 b.stride, .int .i64 b.pad, .int .i64 b.out, .int .i64 b.mul, .int .i64 b.shift, .int .i64 b.zero])).run Tryz.prog w = .ok false w) :
    Calls Tryz.prog 60 #[.agg #[.int .i64 a.op, .slice Ai a.ins.length ci, .int .i64 a.k, .int .i64 a.stride, .int .i64 a.pad, .int .i64 a.out, .int .i64 a.mul, .int .i64 a.shift, .int .i64 a.zero, .int .i64 a.th, .int .i64 a.tw, .int .i64 a.tc, .slice Aw a.ws.length cw, .slice Ab a.bs.length cb], .agg #[.int .i64 b.op, .slice Bi b.ins.length di, .int .i64 b.k, .int .i64 b.stride, .int .i64 b.pad, .int .i64 b.out, .int .i64 b.mul, .int .i64 b.shift, .int .i64 b.zero, .int .i64 b.th, .int .i64 b.tw, .int .i64 b.tc, .slice Bw b.ws.length dw, .slice Bb b.bs.length db]] W fun e w' => e = .returned (.bool false) ∧ Grown W w' := by
  have hE : ∀ (xs : Array Value) (w : World), (callFunc 85 xs).run Tryz.prog w = .ok (.enter 85 xs) w := fun xs w => by kernel_rfl
  go_enter Tryz.func60, Tryz.ntmps60
  go_upto_region 1 with fail
  refine opq (fun w' => (∀ o : Nat, w'.cell? ⟨W.heap.size, o, none⟩ = (#[.int .i64 a.op, .slice Ai a.ins.length ci, .int .i64 a.k, .int .i64 a.stride, .int .i64 a.pad, .int .i64 a.out, .int .i64 a.mul, .int .i64 a.shift, .int .i64 a.zero, .int .i64 a.th, .int .i64 a.tw, .int .i64 a.tc, .slice Aw a.ws.length cw, .slice Ab a.bs.length cb] : Array Value)[o]?) ∧ (∀ o : Nat, w'.cell? ⟨W.heap.size + 1, o, none⟩ = (#[.int .i64 b.op, .slice Bi b.ins.length di, .int .i64 b.k, .int .i64 b.stride, .int .i64 b.pad, .int .i64 b.out, .int .i64 b.mul, .int .i64 b.shift, .int .i64 b.zero, .int .i64 b.th, .int .i64 b.tw, .int .i64 b.tc, .slice Bw b.ws.length dw, .slice Bb b.bs.length db] : Array Value)[o]?) ∧ Grown W w' ∧ W.heap.size + 2 ≤ w'.heap.size) ?_ ?_
  · (exact kKeep)
  rintro w1 ⟨b1, b2, g1, s1⟩
  go_upto_region 2 with fail
  refine wp_region_fill (fun w' => (∀ o : Nat, w'.cell? ⟨W.heap.size, o, none⟩ = (#[.int .i64 a.op, .slice Ai a.ins.length ci, .int .i64 a.k, .int .i64 a.stride, .int .i64 a.pad, .int .i64 a.out, .int .i64 a.mul, .int .i64 a.shift, .int .i64 a.zero, .int .i64 a.th, .int .i64 a.tw, .int .i64 a.tc, .slice Aw a.ws.length cw, .slice Ab a.bs.length cb] : Array Value)[o]?) ∧ (∀ o : Nat, w'.cell? ⟨W.heap.size + 1, o, none⟩ = (#[.int .i64 b.op, .slice Bi b.ins.length di, .int .i64 b.k, .int .i64 b.stride, .int .i64 b.pad, .int .i64 b.out, .int .i64 b.mul, .int .i64 b.shift, .int .i64 b.zero, .int .i64 b.th, .int .i64 b.tw, .int .i64 b.tc, .slice Bw b.ws.length dw, .slice Bb b.bs.length db] : Array Value)[o]?) ∧ Grown W w' ∧ W.heap.size + 2 ≤ w'.heap.size) [(6, ?v6), (7, ?v7), (8, ?v8), (9, ?v9), (10, ?v10), (11, ?v11), (12, ?v12), (13, ?v13), (14, ?v14), (15, ?v15), (16, ?v16), (17, ?v17), (18, ?v18), (19, ?v19), (20, ?v20), (21, ?v21), (22, ?v22), (23, ?v23), (24, ?v24), (25, ?v25), (26, ?v26), (27, ?v27), (28, ?v28), (29, ?v29), (30, ?v30), (31, ?v31), (32, ?v32), (33, ?v33), (34, ?v34), (35, ?v35), (36, ?v36), (37, ?v37), (38, ?v38), (39, ?v39), (40, ?v40), (4, ?v4)] [6, 7, 8, 9, 10, 11, 12, 13, 14, 15, 16, 17, 18, 19, 20, 21, 22, 23, 24, 25, 26, 27, 28, 29, 30, 31, 32, 33, 34, 35, 36, 37, 38, 39, 40, 4] (by kernel_rfl) (by kernel_rfl) rfl (by kernel_rfl) ⟨b1, b2, g1, s1⟩ (fun w h => h) ?all ?fin
  case all =>
    simp only [fillA, Act.put, List.setIfInBounds_toArray, List.set_cons_zero, List.set_cons_succ]
    iterate 2 (refine owes_cons (fun w hw K hK => ?_) ?_; focus ((have hS := Lib.hid hw); go_split_ands; go_simp; (try simp only [Act.put, List.setIfInBounds_toArray, List.set_cons_zero, List.set_cons_succ]); exact hK _ hS.out))
    refine owes_cons (fun w hw K hK => ?_) ?_
    · have hS := Lib.hid hw
      go_split_ands
      go_simp
      refine (single_any a _ _ _ _).mono ?_
      rintro e w6 ⟨rfl, gg⟩
      refine hK _ ?_
      (exact kKeep)
    iterate 2 (refine owes_cons (fun w hw K hK => ?_) ?_; focus ((have hS := Lib.hid hw); go_split_ands; go_simp; (try simp only [Act.put, List.setIfInBounds_toArray, List.set_cons_zero, List.set_cons_succ]); exact hK _ hS.out))
    refine owes_cons (fun w hw K hK => ?_) ?_
    · have hS := Lib.hid hw
      go_split_ands
      go_simp
      refine (single_any b _ _ _ _).mono ?_
      rintro e w6 ⟨rfl, gg⟩
      refine hK _ ?_
      (exact kKeep)
    iterate 30 (refine owes_cons (fun w hw K hK => ?_) ?_; focus ((have hS := Lib.hid hw); go_split_ands; go_simp; (try simp only [Act.put, List.setIfInBounds_toArray, List.set_cons_zero, List.set_cons_succ]); exact hK _ hS.out))
    exact True.intro
  case fin =>
    rintro w9 ⟨b9, x9, g9, s9⟩
    simp only [fillA, Act.put, List.setIfInBounds_toArray, List.set_cons_zero, List.set_cons_succ]
    go_wp2_with fail
    go_ret
    exact ⟨rfl, g9⟩
set_option maxHeartbeats 8000000 in
theorem same_case8 (a b : NodeD) (W : World) (Ai Aw Ab Bi Bw Bb : Option Addr) (ci cw cb di dw db : Nat) (q8 : ∀ w, (Op.equalIn 10000 123 (.agg #[.int .i64 a.op, .int .i64 a.k, .int .i64 a.stride, .int .i64 a.pad, .int .i64 a.out, .int .i64 a.mul, .int .i64 a.shift, .int .i64 a.zero]) (.agg #[.int .i64 b.op, .int .i64 b.k, .int .i64 b.stride, .int .i64 b.pad, .int .i64 b.out, .int .i64 b.mul, .int .i64 b.shift, .int .i64 b.zero])).run Tryz.prog w = .ok true w) (e8 : (a.th == b.th) = false) :
    Calls Tryz.prog 60 #[.agg #[.int .i64 a.op, .slice Ai a.ins.length ci, .int .i64 a.k, .int .i64 a.stride, .int .i64 a.pad, .int .i64 a.out, .int .i64 a.mul, .int .i64 a.shift, .int .i64 a.zero, .int .i64 a.th, .int .i64 a.tw, .int .i64 a.tc, .slice Aw a.ws.length cw, .slice Ab a.bs.length cb], .agg #[.int .i64 b.op, .slice Bi b.ins.length di, .int .i64 b.k, .int .i64 b.stride, .int .i64 b.pad, .int .i64 b.out, .int .i64 b.mul, .int .i64 b.shift, .int .i64 b.zero, .int .i64 b.th, .int .i64 b.tw, .int .i64 b.tc, .slice Bw b.ws.length dw, .slice Bb b.bs.length db]] W fun e w' => e = .returned (.bool false) ∧ Grown W w' := by
  have hE : ∀ (xs : Array Value) (w : World), (callFunc 85 xs).run Tryz.prog w = .ok (.enter 85 xs) w := fun xs w => by kernel_rfl
  go_enter Tryz.func60, Tryz.ntmps60
  go_upto_region 1 with fail
  refine opq (fun w' => (∀ o : Nat, w'.cell? ⟨W.heap.size, o, none⟩ = (#[.int .i64 a.op, .slice Ai a.ins.length ci, .int .i64 a.k, .int .i64 a.stride, .int .i64 a.pad, .int .i64 a.out, .int .i64 a.mul, .int .i64 a.shift, .int .i64 a.zero, .int .i64 a.th, .int .i64 a.tw, .int .i64 a.tc, .slice Aw a.ws.length cw, .slice Ab a.bs.length cb] : Array Value)[o]?) ∧ (∀ o : Nat, w'.cell? ⟨W.heap.size + 1, o, none⟩ = (#[.int .i64 b.op, .slice Bi b.ins.length di, .int .i64 b.k, .int .i64 b.stride, .int .i64 b.pad, .int .i64 b.out, .int .i64 b.mul, .int .i64 b.shift, .int .i64 b.zero, .int .i64 b.th, .int .i64 b.tw, .int .i64 b.tc, .slice Bw b.ws.length dw, .slice Bb b.bs.length db] : Array Value)[o]?) ∧ Grown W w' ∧ W.heap.size + 2 ≤ w'.heap.size) ?_ ?_
  · (exact kKeep)
  rintro w1 ⟨b1, b2, g1, s1⟩
  go_upto_region 2 with fail
  refine wp_region_fill (fun w' => (∀ o : Nat, w'.cell? ⟨W.heap.size, o, none⟩ = (#[.int .i64 a.op, .slice Ai a.ins.length ci, .int .i64 a.k, .int .i64 a.stride, .int .i64 a.pad, .int .i64 a.out, .int .i64 a.mul, .int .i64 a.shift, .int .i64 a.zero, .int .i64 a.th, .int .i64 a.tw, .int .i64 a.tc, .slice Aw a.ws.length cw, .slice Ab a.bs.length cb] : Array Value)[o]?) ∧ (∀ o : Nat, w'.cell? ⟨W.heap.size + 1, o, none⟩ = (#[.int .i64 b.op, .slice Bi b.ins.length di, .int .i64 b.k, .int .i64 b.stride, .int .i64 b.pad, .int .i64 b.out, .int .i64 b.mul, .int .i64 b.shift, .int .i64 b.zero, .int .i64 b.th, .int .i64 b.tw, .int .i64 b.tc, .slice Bw b.ws.length dw, .slice Bb b.bs.length db] : Array Value)[o]?) ∧ Grown W w' ∧ W.heap.size + 2 ≤ w'.heap.size) [(6, ?v6), (7, ?v7), (8, ?v8), (9, ?v9), (10, ?v10), (11, ?v11), (12, ?v12), (13, ?v13), (14, ?v14), (15, ?v15), (16, ?v16), (17, ?v17), (18, ?v18), (19, ?v19), (20, ?v20), (21, ?v21), (22, ?v22), (23, ?v23), (24, ?v24), (25, ?v25), (26, ?v26), (27, ?v27), (28, ?v28), (29, ?v29), (30, ?v30), (31, ?v31), (32, ?v32), (33, ?v33), (34, ?v34), (35, ?v35), (36, ?v36), (37, ?v37), (38, ?v38), (39, ?v39), (40, ?v40), (4, ?v4)] [6, 7, 8, 9, 10, 11, 12, 13, 14, 15, 16, 17, 18, 19, 20, 21, 22, 23, 24, 25, 26, 27, 28, 29, 30, 31, 32, 33, 34, 35, 36, 37, 38, 39, 40, 4] (by kernel_rfl) (by kernel_rfl) rfl (by kernel_rfl) ⟨b1, b2, g1, s1⟩ (fun w h => h) ?all ?fin
  case all =>
    simp only [fillA, Act.put, List.setIfInBounds_toArray, List.set_cons_zero, List.set_cons_succ]
    iterate 2 (refine owes_cons (fun w hw K hK => ?_) ?_; focus ((have hS := Lib.hid hw); go_split_ands; go_simp; (try simp only [Act.put, List.setIfInBounds_toArray, List.set_cons_zero, List.set_cons_succ]); exact hK _ hS.out))
    refine owes_cons (fun w hw K hK => ?_) ?_
    · have hS := Lib.hid hw
      go_split_ands
      go_simp
      refine (single_any a _ _ _ _).mono ?_
      rintro e w6 ⟨rfl, gg⟩
      refine hK _ ?_
      (exact kKeep)
    iterate 2 (refine owes_cons (fun w hw K hK => ?_) ?_; focus ((have hS := Lib.hid hw); go_split_ands; go_simp; (try simp only [Act.put, List.setIfInBounds_toArray, List.set_cons_zero, List.set_cons_succ]); exact hK _ hS.out))
    refine owes_cons (fun w hw K hK => ?_) ?_
    · have hS := Lib.hid hw
      go_split_ands
      go_simp
      refine (single_any b _ _ _ _).mono ?_
      rintro e w6 ⟨rfl, gg⟩
      refine hK _ ?_
      (exact kKeep)
    iterate 30 (refine owes_cons (fun w hw K hK => ?_) ?_; focus ((have hS := Lib.hid hw); go_split_ands; go_simp; (try simp only [Act.put, List.setIfInBounds_toArray, List.set_cons_zero, List.set_cons_succ]); exact hK _ hS.out))
    exact True.intro
  case fin =>
    rintro w9 ⟨b9, x9, g9, s9⟩
    simp only [fillA, Act.put, List.setIfInBounds_toArray, List.set_cons_zero, List.set_cons_succ]
    go_wp2_with fail
    go_ret
    exact ⟨rfl, g9⟩
set_option maxHeartbeats 8000000 in
theorem same_case9 (a b : NodeD) (W : World) (Ai Aw Ab Bi Bw Bb : Option Addr) (ci cw cb di dw db : Nat) (q8 : ∀ w, (Op.equalIn 10000 123 (.agg #[.int .i64 a.op, .int .i64 a.k, .int .i64 a.stride, .int .i64 a.pad, .int .i64 a.out, .int .i64 a.mul, .int .i64 a.shift, .int .i64 a.zero]) (.agg #[.int .i64 b.op, .int .i64 b.k, .int .i64 b.stride, .int .i64 b.pad, .int .i64 b.out, .int .i64 b.mul, .int .i64 b.shift, .int .i64 b.zero])).run Tryz.prog w = .ok true w) (e8 : (a.th == b.th) = true) (e9 : (a.tw == b.tw) = false) :
    Calls Tryz.prog 60 #[.agg #[.int .i64 a.op, .slice Ai a.ins.length ci, .int .i64 a.k, .int .i64 a.stride, .int .i64 a.pad, .int .i64 a.out, .int .i64 a.mul, .int .i64 a.shift, .int .i64 a.zero, .int .i64 a.th, .int .i64 a.tw, .int .i64 a.tc, .slice Aw a.ws.length cw, .slice Ab a.bs.length cb], .agg #[.int .i64 b.op, .slice Bi b.ins.length di, .int .i64 b.k, .int .i64 b.stride, .int .i64 b.pad, .int .i64 b.out, .int .i64 b.mul, .int .i64 b.shift, .int .i64 b.zero, .int .i64 b.th, .int .i64 b.tw, .int .i64 b.tc, .slice Bw b.ws.length dw, .slice Bb b.bs.length db]] W fun e w' => e = .returned (.bool false) ∧ Grown W w' := by
  have hE : ∀ (xs : Array Value) (w : World), (callFunc 85 xs).run Tryz.prog w = .ok (.enter 85 xs) w := fun xs w => by kernel_rfl
  go_enter Tryz.func60, Tryz.ntmps60
  go_upto_region 1 with fail
  refine opq (fun w' => (∀ o : Nat, w'.cell? ⟨W.heap.size, o, none⟩ = (#[.int .i64 a.op, .slice Ai a.ins.length ci, .int .i64 a.k, .int .i64 a.stride, .int .i64 a.pad, .int .i64 a.out, .int .i64 a.mul, .int .i64 a.shift, .int .i64 a.zero, .int .i64 a.th, .int .i64 a.tw, .int .i64 a.tc, .slice Aw a.ws.length cw, .slice Ab a.bs.length cb] : Array Value)[o]?) ∧ (∀ o : Nat, w'.cell? ⟨W.heap.size + 1, o, none⟩ = (#[.int .i64 b.op, .slice Bi b.ins.length di, .int .i64 b.k, .int .i64 b.stride, .int .i64 b.pad, .int .i64 b.out, .int .i64 b.mul, .int .i64 b.shift, .int .i64 b.zero, .int .i64 b.th, .int .i64 b.tw, .int .i64 b.tc, .slice Bw b.ws.length dw, .slice Bb b.bs.length db] : Array Value)[o]?) ∧ Grown W w' ∧ W.heap.size + 2 ≤ w'.heap.size) ?_ ?_
  · (exact kKeep)
  rintro w1 ⟨b1, b2, g1, s1⟩
  go_upto_region 2 with fail
  refine wp_region_fill (fun w' => (∀ o : Nat, w'.cell? ⟨W.heap.size, o, none⟩ = (#[.int .i64 a.op, .slice Ai a.ins.length ci, .int .i64 a.k, .int .i64 a.stride, .int .i64 a.pad, .int .i64 a.out, .int .i64 a.mul, .int .i64 a.shift, .int .i64 a.zero, .int .i64 a.th, .int .i64 a.tw, .int .i64 a.tc, .slice Aw a.ws.length cw, .slice Ab a.bs.length cb] : Array Value)[o]?) ∧ (∀ o : Nat, w'.cell? ⟨W.heap.size + 1, o, none⟩ = (#[.int .i64 b.op, .slice Bi b.ins.length di, .int .i64 b.k, .int .i64 b.stride, .int .i64 b.pad, .int .i64 b.out, .int .i64 b.mul, .int .i64 b.shift, .int .i64 b.zero, .int .i64 b.th, .int .i64 b.tw, .int .i64 b.tc, .slice Bw b.ws.length dw, .slice Bb b.bs.length db] : Array Value)[o]?) ∧ Grown W w' ∧ W.heap.size + 2 ≤ w'.heap.size) [(6, ?v6), (7, ?v7), (8, ?v8), (9, ?v9), (10, ?v10), (11, ?v11), (12, ?v12), (13, ?v13), (14, ?v14), (15, ?v15), (16, ?v16), (17, ?v17), (18, ?v18), (19, ?v19), (20, ?v20), (21, ?v21), (22, ?v22), (23, ?v23), (24, ?v24), (25, ?v25), (26, ?v26), (27, ?v27), (28, ?v28), (29, ?v29), (30, ?v30), (31, ?v31), (32, ?v32), (33, ?v33), (34, ?v34), (35, ?v35), (36, ?v36), (37, ?v37), (38, ?v38), (39, ?v39), (40, ?v40), (4, ?v4)] [6, 7, 8, 9, 10, 11, 12, 13, 14, 15, 16, 17, 18, 19, 20, 21, 22, 23, 24, 25, 26, 27, 28, 29, 30, 31, 32, 33, 34, 35, 36, 37, 38, 39, 40, 4] (by kernel_rfl) (by kernel_rfl) rfl (by kernel_rfl) ⟨b1, b2, g1, s1⟩ (fun w h => h) ?all ?fin
  case all =>
    simp only [fillA, Act.put, List.setIfInBounds_toArray, List.set_cons_zero, List.set_cons_succ]
    iterate 2 (refine owes_cons (fun w hw K hK => ?_) ?_; focus ((have hS := Lib.hid hw); go_split_ands; go_simp; (try simp only [Act.put, List.setIfInBounds_toArray, List.set_cons_zero, List.set_cons_succ]); exact hK _ hS.out))
    refine owes_cons (fun w hw K hK => ?_) ?_
    · have hS := Lib.hid hw
      go_split_ands
      go_simp
      refine (single_any a _ _ _ _).mono ?_
      rintro e w6 ⟨rfl, gg⟩
      refine hK _ ?_
      (exact kKeep)
    iterate 2 (refine owes_cons (fun w hw K hK => ?_) ?_; focus ((have hS := Lib.hid hw); go_split_ands; go_simp; (try simp only [Act.put, List.setIfInBounds_toArray, List.set_cons_zero, List.set_cons_succ]); exact hK _ hS.out))
    refine owes_cons (fun w hw K hK => ?_) ?_
    · have hS := Lib.hid hw
      go_split_ands
      go_simp
      refine (single_any b _ _ _ _).mono ?_
      rintro e w6 ⟨rfl, gg⟩
      refine hK _ ?_
      (exact kKeep)
    iterate 30 (refine owes_cons (fun w hw K hK => ?_) ?_; focus ((have hS := Lib.hid hw); go_split_ands; go_simp; (try simp only [Act.put, List.setIfInBounds_toArray, List.set_cons_zero, List.set_cons_succ]); exact hK _ hS.out))
    exact True.intro
  case fin =>
    rintro w9 ⟨b9, x9, g9, s9⟩
    simp only [fillA, Act.put, List.setIfInBounds_toArray, List.set_cons_zero, List.set_cons_succ]
    go_wp2_with fail
    go_ret
    exact ⟨rfl, g9⟩
set_option maxHeartbeats 8000000 in
theorem same_case10 (a b : NodeD) (W : World) (Ai Aw Ab Bi Bw Bb : Option Addr) (ci cw cb di dw db : Nat) (q8 : ∀ w, (Op.equalIn 10000 123 (.agg #[.int .i64 a.op, .int .i64 a.k, .int .i64 a.stride, .int .i64 a.pad, .int .i64 a.out, .int .i64 a.mul, .int .i64 a.shift, .int .i64 a.zero]) (.agg #[.int .i64 b.op, .int .i64 b.k, .int .i64 b.stride, .int .i64 b.pad, .int .i64 b.out, .int .i64 b.mul, .int .i64 b.shift, .int .i64 b.zero])).run Tryz.prog w = .ok true w) (e8 : (a.th == b.th) = true) (e9 : (a.tw == b.tw) = true) (e10 : (a.tc == b.tc) = false) :
    Calls Tryz.prog 60 #[.agg #[.int .i64 a.op, .slice Ai a.ins.length ci, .int .i64 a.k, .int .i64 a.stride, .int .i64 a.pad, .int .i64 a.out, .int .i64 a.mul, .int .i64 a.shift, .int .i64 a.zero, .int .i64 a.th, .int .i64 a.tw, .int .i64 a.tc, .slice Aw a.ws.length cw, .slice Ab a.bs.length cb], .agg #[.int .i64 b.op, .slice Bi b.ins.length di, .int .i64 b.k, .int .i64 b.stride, .int .i64 b.pad, .int .i64 b.out, .int .i64 b.mul, .int .i64 b.shift, .int .i64 b.zero, .int .i64 b.th, .int .i64 b.tw, .int .i64 b.tc, .slice Bw b.ws.length dw, .slice Bb b.bs.length db]] W fun e w' => e = .returned (.bool false) ∧ Grown W w' := by
  have hE : ∀ (xs : Array Value) (w : World), (callFunc 85 xs).run Tryz.prog w = .ok (.enter 85 xs) w := fun xs w => by kernel_rfl
  go_enter Tryz.func60, Tryz.ntmps60
  go_upto_region 1 with fail
  refine opq (fun w' => (∀ o : Nat, w'.cell? ⟨W.heap.size, o, none⟩ = (#[.int .i64 a.op, .slice Ai a.ins.length ci, .int .i64 a.k, .int .i64 a.stride, .int .i64 a.pad, .int .i64 a.out, .int .i64 a.mul, .int .i64 a.shift, .int .i64 a.zero, .int .i64 a.th, .int .i64 a.tw, .int .i64 a.tc, .slice Aw a.ws.length cw, .slice Ab a.bs.length cb] : Array Value)[o]?) ∧ (∀ o : Nat, w'.cell? ⟨W.heap.size + 1, o, none⟩ = (#[.int .i64 b.op, .slice Bi b.ins.length di, .int .i64 b.k, .int .i64 b.stride, .int .i64 b.pad, .int .i64 b.out, .int .i64 b.mul, .int .i64 b.shift, .int .i64 b.zero, .int .i64 b.th, .int .i64 b.tw, .int .i64 b.tc, .slice Bw b.ws.length dw, .slice Bb b.bs.length db] : Array Value)[o]?) ∧ Grown W w' ∧ W.heap.size + 2 ≤ w'.heap.size) ?_ ?_
  · (exact kKeep)
  rintro w1 ⟨b1, b2, g1, s1⟩
  go_upto_region 2 with fail
  refine wp_region_fill (fun w' => (∀ o : Nat, w'.cell? ⟨W.heap.size, o, none⟩ = (#[.int .i64 a.op, .slice Ai a.ins.length ci, .int .i64 a.k, .int .i64 a.stride, .int .i64 a.pad, .int .i64 a.out, .int .i64 a.mul, .int .i64 a.shift, .int .i64 a.zero, .int .i64 a.th, .int .i64 a.tw, .int .i64 a.tc, .slice Aw a.ws.length cw, .slice Ab a.bs.length cb] : Array Value)[o]?) ∧ (∀ o : Nat, w'.cell? ⟨W.heap.size + 1, o, none⟩ = (#[.int .i64 b.op, .slice Bi b.ins.length di, .int .i64 b.k, .int .i64 b.stride, .int .i64 b.pad, .int .i64 b.out, .int .i64 b.mul, .int .i64 b.shift, .int .i64 b.zero, .int .i64 b.th, .int .i64 b.tw, .int .i64 b.tc, .slice Bw b.ws.length dw, .slice Bb b.bs.length db] : Array Value)[o]?) ∧ Grown W w' ∧ W.heap.size + 2 ≤ w'.heap.size) [(6, ?v6), (7, ?v7), (8, ?v8), (9, ?v9), (10, ?v10), (11, ?v11), (12, ?v12), (13, ?v13), (14, ?v14), (15, ?v15), (16, ?v16), (17, ?v17), (18, ?v18), (19, ?v19), (20, ?v20), (21, ?v21), (22, ?v22), (23, ?v23), (24, ?v24), (25, ?v25), (26, ?v26), (27, ?v27), (28, ?v28), (29, ?v29), (30, ?v30), (31, ?v31), (32, ?v32), (33, ?v33), (34, ?v34), (35, ?v35), (36, ?v36), (37, ?v37), (38, ?v38), (39, ?v39), (40, ?v40), (4, ?v4)] [6, 7, 8, 9, 10, 11, 12, 13, 14, 15, 16, 17, 18, 19, 20, 21, 22, 23, 24, 25, 26, 27, 28, 29, 30, 31, 32, 33, 34, 35, 36, 37, 38, 39, 40, 4] (by kernel_rfl) (by kernel_rfl) rfl (by kernel_rfl) ⟨b1, b2, g1, s1⟩ (fun w h => h) ?all ?fin
  case all =>
    simp only [fillA, Act.put, List.setIfInBounds_toArray, List.set_cons_zero, List.set_cons_succ]
    iterate 2 (refine owes_cons (fun w hw K hK => ?_) ?_; focus ((have hS := Lib.hid hw); go_split_ands; go_simp; (try simp only [Act.put, List.setIfInBounds_toArray, List.set_cons_zero, List.set_cons_succ]); exact hK _ hS.out))
    refine owes_cons (fun w hw K hK => ?_) ?_
    · have hS := Lib.hid hw
      go_split_ands
      go_simp
      refine (single_any a _ _ _ _).mono ?_
      rintro e w6 ⟨rfl, gg⟩
      refine hK _ ?_
      (exact kKeep)
    iterate 2 (refine owes_cons (fun w hw K hK => ?_) ?_; focus ((have hS := Lib.hid hw); go_split_ands; go_simp; (try simp only [Act.put, List.setIfInBounds_toArray, List.set_cons_zero, List.set_cons_succ]); exact hK _ hS.out))
    refine owes_cons (fun w hw K hK => ?_) ?_
    · have hS := Lib.hid hw
      go_split_ands
      go_simp
      refine (single_any b _ _ _ _).mono ?_
      rintro e w6 ⟨rfl, gg⟩
      refine hK _ ?_
      (exact kKeep)
    iterate 30 (refine owes_cons (fun w hw K hK => ?_) ?_; focus ((have hS := Lib.hid hw); go_split_ands; go_simp; (try simp only [Act.put, List.setIfInBounds_toArray, List.set_cons_zero, List.set_cons_succ]); exact hK _ hS.out))
    exact True.intro
  case fin =>
    rintro w9 ⟨b9, x9, g9, s9⟩
    simp only [fillA, Act.put, List.setIfInBounds_toArray, List.set_cons_zero, List.set_cons_succ]
    go_wp2_with fail
    go_ret
    exact ⟨rfl, g9⟩
end Go.Proofs.YtejllmjkeefloaaGreat
