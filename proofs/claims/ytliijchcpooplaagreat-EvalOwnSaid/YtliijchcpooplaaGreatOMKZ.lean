/- The reference of layer 5: Needs, of any node. -/
import Derived.Test.YtliijchcpooplaaGreatOMKYA
import Derived.Test.YtliijchcpooplaaGreatOMKYC
namespace Go.Proofs.YtliijchcpooplaaGreat
open Go.ChangeShapes Go.WideShapes Go.ChangeAt Go.RowKit
set_option maxRecDepth 20000
set_option linter.unusedVariables false
set_option maxHeartbeats 4000000 in
theorem rneeds_bad (n : NodeD) (vi vw vb lv : Value) (vs : List ValD) (first rows q : Int) (W : World) (hin : NodeIn W n vi vw vb) (hl : IsVals W lv vs) (hq : valueE n vs = q) (h0 : q ≠ 0) :
    Calls Tryz.prog 41 #[.agg (nC n vi vw vb), lv, .int .i64 first, .int .i64 rows] W fun e w' => e = .returned (.tuple #[.agg #[.int .i64 0, .int .i64 0, .int .i64 0, .int .i64 0], .int .i64 q]) /\ Grown W w' := by
  have VA : Hid (∀ w, Past W w -> Calls Tryz.prog 22 #[.agg (nC n vi vw vb), lv] w fun e w' => e = .returned (.tuple #[.agg #[.int .i64 0, .int .i64 0, .int .i64 0, .int .i64 0], .int .i64 q]) /\ Grown w w') := Lib.hid (by
    intro w p
    have := rvalue_any n vi vw vb lv vs w (hin.grow p) (hl.grow p)
    unfold ValuePost at this
    rw [valueV_err hq h0, hq] at this
    exact this)
  have d1 : (q != 0) = true := by simpa using h0
  have d2 : (q == 0) = false := by simpa using h0
  obtain ⟨A1, c1, rfl, _⟩ := hl
  obtain ⟨Ai, ci, rfl, _⟩ := hin.1
  obtain ⟨Aw, cw, rfl, _⟩ := hin.2.1
  obtain ⟨Ab, cb, rfl, _⟩ := hin.2.2
  clear hin hq h0
  go_enter Tryz.func41, Tryz.ntmps41
  go_upto_region 2 with fail
  refine opq (fun w' => (Bx w' (W.heap.size) (nC n (.slice Ai n.ins.length ci) (.slice Aw n.ws.length cw) (.slice Ab n.bs.length cb))) /\ (Bx w' (W.heap.size + 1) #[.int .i64 0, .int .i64 0, .int .i64 0, .int .i64 0]) /\ (Fr w' (W.heap.size + 1)) /\ (Bx w' (W.heap.size + 2) #[.int .i64 0, .int .i64 0, .int .i64 0, .int .i64 0]) /\ (Fr w' (W.heap.size + 2)) /\ Grown W w' /\ W.heap.size + 3 <= w'.heap.size) kKeepS ?_
  rintro W1 ⟨b4, b8, f8, b10, f10, g1, z1⟩
  go_wp2_with (refine wpList_load_box rfl 44 (.tmp 4) rfl W.heap.size (nC n (.slice Ai n.ins.length ci) (.slice Aw n.ws.length cw) (.slice Ab n.bs.length cb)) rfl b4 Tryz.underlying44 rfl N14 ?_)
  refine (VA.out _ (Grown.past g1)).mono ?_
  rintro e w2 ⟨rfl, g⟩
  obtain ⟨b42, b82, f82, b102, f102, g2, z2⟩ : (Bx w2 (W.heap.size) (nC n (.slice Ai n.ins.length ci) (.slice Aw n.ws.length cw) (.slice Ab n.bs.length cb))) /\ (Bx w2 (W.heap.size + 1) #[.int .i64 0, .int .i64 0, .int .i64 0, .int .i64 0]) /\ (Fr w2 (W.heap.size + 1)) /\ (Bx w2 (W.heap.size + 2) #[.int .i64 0, .int .i64 0, .int .i64 0, .int .i64 0]) /\ (Fr w2 (W.heap.size + 2)) /\ Grown W w2 /\ W.heap.size + 3 <= w2.heap.size := by (exact kKeepS)
  clear b4 b8 f8 b10 f10 g1 z1 g
  go_upto_region 4 with fail
  refine opq (fun w' => (Bx w' (W.heap.size) (nC n (.slice Ai n.ins.length ci) (.slice Aw n.ws.length cw) (.slice Ab n.bs.length cb))) /\ (Bx w' (W.heap.size + 1) #[.int .i64 0, .int .i64 0, .int .i64 0, .int .i64 0]) /\ (Fr w' (W.heap.size + 1)) /\ (Bx w' (W.heap.size + 2) #[.int .i64 0, .int .i64 0, .int .i64 0, .int .i64 0]) /\ (Fr w' (W.heap.size + 2)) /\ Grown W w' /\ W.heap.size + 3 <= w'.heap.size) kKeepS ?_
  rintro w3 ⟨b4, b8, f8, b10, f10, g1, z1⟩
  clear b42 b82 f82 b102 f102 g2 z2
  go_wp2_with ((refine wpList_store_box rfl 81 (.tmp 8) (.tmp 26) rfl (W.heap.size + 1) #[.int .i64 0, .int .i64 0, .int .i64 0, .int .i64 0] _ rfl rfl b8 f8 rfl A4 (by simp [Value.oneCell']) (fun w' => (Bx w' (W.heap.size + 1) #[.int .i64 0, .int .i64 0, .int .i64 0, .int .i64 0]) /\ Grown W w') ⟨box_setAll b8 rfl, grown_setAll (by omega) _ _ _ g1⟩ ?_); rintro w9 ⟨b9, g9⟩)
  exact ret_box rfl (W.heap.size + 1) #[.int .i64 0, .int .i64 0, .int .i64 0, .int .i64 0] _ (.int .i64 q) rfl rfl b9 Tryz.underlying81 rfl A4 rfl ⟨rfl, g9⟩
set_option maxHeartbeats 4000000 in
theorem rneeds_out (n : NodeD) (vi vw vb lv : Value) (vs : List ValD) (m : Int × Int × Int) (first rows : Int) (W : World) (hin : NodeIn W n vi vw vb) (hl : IsVals W lv vs) (h0 : valueE n vs = 0) (hm : madeS n vs = m) (t1 t2 t3 t4 : Bool) (e1 : decide (first < 0) = t1) (e2 : decide (rows < 1) = t2) (e3 : decide (m.1 < first) = t3) (e4 : decide (m.1 - first < rows) = t4) (e5 : t1 = false -> t3 = false -> IntKind.i64.wrap (m.1 - first) = m.1 - first)
    (hor : t1 = true ∨ (t1 = false /\ t2 = true) ∨ (t1 = false /\ t2 = false /\ t3 = true) ∨ (t1 = false /\ t2 = false /\ t3 = false /\ t4 = true)) :
    Calls Tryz.prog 41 #[.agg (nC n vi vw vb), lv, .int .i64 first, .int .i64 rows] W fun e w' => e = .returned (.tuple #[.agg #[.int .i64 0, .int .i64 0, .int .i64 0, .int .i64 0], .int .i64 1]) /\ Grown W w' := by
  have VA : Hid (∀ w, Past W w -> Calls Tryz.prog 22 #[.agg (nC n vi vw vb), lv] w fun e w' => e = .returned (.tuple #[.agg #[.int .i64 m.1, .int .i64 m.2.1, .int .i64 m.2.2, .int .i64 n.zero], .int .i64 0]) /\ Grown w w') := Lib.hid (by
    intro w p
    have := rvalue_any n vi vw vb lv vs w (hin.grow p) (hl.grow p)
    unfold ValuePost at this
    rw [valueV_ok h0, h0, hm] at this
    exact this)
  obtain ⟨A1, c1, rfl, _⟩ := hl
  obtain ⟨Ai, ci, rfl, _⟩ := hin.1
  obtain ⟨Aw, cw, rfl, _⟩ := hin.2.1
  obtain ⟨Ab, cb, rfl, _⟩ := hin.2.2
  clear hin h0 hm
  rcases hor with rfl | ⟨rfl, rfl⟩ | ⟨rfl, rfl, rfl⟩ | ⟨rfl, rfl, rfl, rfl⟩
  . clear e5
    go_enter Tryz.func41, Tryz.ntmps41
    go_upto_region 2 with fail
    refine opq (fun w' => (Bx w' (W.heap.size) (nC n (.slice Ai n.ins.length ci) (.slice Aw n.ws.length cw) (.slice Ab n.bs.length cb))) /\ (Bx w' (W.heap.size + 1) #[.int .i64 0, .int .i64 0, .int .i64 0, .int .i64 0]) /\ (Fr w' (W.heap.size + 1)) /\ (Bx w' (W.heap.size + 2) #[.int .i64 0, .int .i64 0, .int .i64 0, .int .i64 0]) /\ (Fr w' (W.heap.size + 2)) /\ Grown W w' /\ W.heap.size + 3 <= w'.heap.size) kKeepS ?_
    rintro W1 ⟨b4, b8, f8, b10, f10, g1, z1⟩
    go_wp2_with (refine wpList_load_box rfl 44 (.tmp 4) rfl W.heap.size (nC n (.slice Ai n.ins.length ci) (.slice Aw n.ws.length cw) (.slice Ab n.bs.length cb)) rfl b4 Tryz.underlying44 rfl N14 ?_)
    refine (VA.out _ (Grown.past g1)).mono ?_
    rintro e w2 ⟨rfl, g⟩
    obtain ⟨b42, b82, f82, b102, f102, g2, z2⟩ : (Bx w2 (W.heap.size) (nC n (.slice Ai n.ins.length ci) (.slice Aw n.ws.length cw) (.slice Ab n.bs.length cb))) /\ (Bx w2 (W.heap.size + 1) #[.int .i64 0, .int .i64 0, .int .i64 0, .int .i64 0]) /\ (Fr w2 (W.heap.size + 1)) /\ (Bx w2 (W.heap.size + 2) #[.int .i64 0, .int .i64 0, .int .i64 0, .int .i64 0]) /\ (Fr w2 (W.heap.size + 2)) /\ Grown W w2 /\ W.heap.size + 3 <= w2.heap.size := by (exact kKeepS)
    clear b4 b8 f8 b10 f10 g1 z1 g
    go_upto_region 6 with fail
    refine opq (fun w' => (Bx w' (W.heap.size) (nC n (.slice Ai n.ins.length ci) (.slice Aw n.ws.length cw) (.slice Ab n.bs.length cb))) /\ (Bx w' (W.heap.size + 1) #[.int .i64 0, .int .i64 0, .int .i64 0, .int .i64 0]) /\ (Fr w' (W.heap.size + 1)) /\ (Bx w' (W.heap.size + 2) #[.int .i64 0, .int .i64 0, .int .i64 0, .int .i64 0]) /\ (Fr w' (W.heap.size + 2)) /\ Grown W w' /\ W.heap.size + 3 <= w'.heap.size) kKeepS ?_
    rintro w3 ⟨b4, b8, f8, b10, f10, g1, z1⟩
    clear b42 b82 f82 b102 f102 g2 z2
    go_wp2_with ((refine wpList_store_box rfl 81 (.tmp 8) (.tmp 50) rfl (W.heap.size + 1) #[.int .i64 0, .int .i64 0, .int .i64 0, .int .i64 0] _ rfl rfl b8 f8 rfl A4 (by simp [Value.oneCell']) (fun w' => (Bx w' (W.heap.size + 1) #[.int .i64 0, .int .i64 0, .int .i64 0, .int .i64 0]) /\ Grown W w') ⟨box_setAll b8 rfl, grown_setAll (by omega) _ _ _ g1⟩ ?_); rintro w9 ⟨b9, g9⟩)
    exact ret_box rfl (W.heap.size + 1) #[.int .i64 0, .int .i64 0, .int .i64 0, .int .i64 0] _ (.int .i64 1) rfl rfl b9 Tryz.underlying81 rfl A4 rfl ⟨rfl, g9⟩
  . clear e5
    go_enter Tryz.func41, Tryz.ntmps41
    go_upto_region 2 with fail
    refine opq (fun w' => (Bx w' (W.heap.size) (nC n (.slice Ai n.ins.length ci) (.slice Aw n.ws.length cw) (.slice Ab n.bs.length cb))) /\ (Bx w' (W.heap.size + 1) #[.int .i64 0, .int .i64 0, .int .i64 0, .int .i64 0]) /\ (Fr w' (W.heap.size + 1)) /\ (Bx w' (W.heap.size + 2) #[.int .i64 0, .int .i64 0, .int .i64 0, .int .i64 0]) /\ (Fr w' (W.heap.size + 2)) /\ Grown W w' /\ W.heap.size + 3 <= w'.heap.size) kKeepS ?_
    rintro W1 ⟨b4, b8, f8, b10, f10, g1, z1⟩
    go_wp2_with (refine wpList_load_box rfl 44 (.tmp 4) rfl W.heap.size (nC n (.slice Ai n.ins.length ci) (.slice Aw n.ws.length cw) (.slice Ab n.bs.length cb)) rfl b4 Tryz.underlying44 rfl N14 ?_)
    refine (VA.out _ (Grown.past g1)).mono ?_
    rintro e w2 ⟨rfl, g⟩
    obtain ⟨b42, b82, f82, b102, f102, g2, z2⟩ : (Bx w2 (W.heap.size) (nC n (.slice Ai n.ins.length ci) (.slice Aw n.ws.length cw) (.slice Ab n.bs.length cb))) /\ (Bx w2 (W.heap.size + 1) #[.int .i64 0, .int .i64 0, .int .i64 0, .int .i64 0]) /\ (Fr w2 (W.heap.size + 1)) /\ (Bx w2 (W.heap.size + 2) #[.int .i64 0, .int .i64 0, .int .i64 0, .int .i64 0]) /\ (Fr w2 (W.heap.size + 2)) /\ Grown W w2 /\ W.heap.size + 3 <= w2.heap.size := by (exact kKeepS)
    clear b4 b8 f8 b10 f10 g1 z1 g
    go_upto_region 6 with fail
    refine opq (fun w' => (Bx w' (W.heap.size) (nC n (.slice Ai n.ins.length ci) (.slice Aw n.ws.length cw) (.slice Ab n.bs.length cb))) /\ (Bx w' (W.heap.size + 1) #[.int .i64 0, .int .i64 0, .int .i64 0, .int .i64 0]) /\ (Fr w' (W.heap.size + 1)) /\ (Bx w' (W.heap.size + 2) #[.int .i64 0, .int .i64 0, .int .i64 0, .int .i64 0]) /\ (Fr w' (W.heap.size + 2)) /\ Grown W w' /\ W.heap.size + 3 <= w'.heap.size) kKeepS ?_
    rintro w3 ⟨b4, b8, f8, b10, f10, g1, z1⟩
    clear b42 b82 f82 b102 f102 g2 z2
    go_wp2_with ((refine wpList_store_box rfl 81 (.tmp 8) (.tmp 50) rfl (W.heap.size + 1) #[.int .i64 0, .int .i64 0, .int .i64 0, .int .i64 0] _ rfl rfl b8 f8 rfl A4 (by simp [Value.oneCell']) (fun w' => (Bx w' (W.heap.size + 1) #[.int .i64 0, .int .i64 0, .int .i64 0, .int .i64 0]) /\ Grown W w') ⟨box_setAll b8 rfl, grown_setAll (by omega) _ _ _ g1⟩ ?_); rintro w9 ⟨b9, g9⟩)
    exact ret_box rfl (W.heap.size + 1) #[.int .i64 0, .int .i64 0, .int .i64 0, .int .i64 0] _ (.int .i64 1) rfl rfl b9 Tryz.underlying81 rfl A4 rfl ⟨rfl, g9⟩
  . clear e5
    go_enter Tryz.func41, Tryz.ntmps41
    go_upto_region 2 with fail
    refine opq (fun w' => (Bx w' (W.heap.size) (nC n (.slice Ai n.ins.length ci) (.slice Aw n.ws.length cw) (.slice Ab n.bs.length cb))) /\ (Bx w' (W.heap.size + 1) #[.int .i64 0, .int .i64 0, .int .i64 0, .int .i64 0]) /\ (Fr w' (W.heap.size + 1)) /\ (Bx w' (W.heap.size + 2) #[.int .i64 0, .int .i64 0, .int .i64 0, .int .i64 0]) /\ (Fr w' (W.heap.size + 2)) /\ Grown W w' /\ W.heap.size + 3 <= w'.heap.size) kKeepS ?_
    rintro W1 ⟨b4, b8, f8, b10, f10, g1, z1⟩
    go_wp2_with (refine wpList_load_box rfl 44 (.tmp 4) rfl W.heap.size (nC n (.slice Ai n.ins.length ci) (.slice Aw n.ws.length cw) (.slice Ab n.bs.length cb)) rfl b4 Tryz.underlying44 rfl N14 ?_)
    refine (VA.out _ (Grown.past g1)).mono ?_
    rintro e w2 ⟨rfl, g⟩
    obtain ⟨b42, b82, f82, b102, f102, g2, z2⟩ : (Bx w2 (W.heap.size) (nC n (.slice Ai n.ins.length ci) (.slice Aw n.ws.length cw) (.slice Ab n.bs.length cb))) /\ (Bx w2 (W.heap.size + 1) #[.int .i64 0, .int .i64 0, .int .i64 0, .int .i64 0]) /\ (Fr w2 (W.heap.size + 1)) /\ (Bx w2 (W.heap.size + 2) #[.int .i64 0, .int .i64 0, .int .i64 0, .int .i64 0]) /\ (Fr w2 (W.heap.size + 2)) /\ Grown W w2 /\ W.heap.size + 3 <= w2.heap.size := by (exact kKeepS)
    clear b4 b8 f8 b10 f10 g1 z1 g
    go_upto_region 6 with fail
    refine opq (fun w' => (Bx w' (W.heap.size) (nC n (.slice Ai n.ins.length ci) (.slice Aw n.ws.length cw) (.slice Ab n.bs.length cb))) /\ (Bx w' (W.heap.size + 1) #[.int .i64 0, .int .i64 0, .int .i64 0, .int .i64 0]) /\ (Fr w' (W.heap.size + 1)) /\ (Bx w' (W.heap.size + 2) #[.int .i64 0, .int .i64 0, .int .i64 0, .int .i64 0]) /\ (Fr w' (W.heap.size + 2)) /\ Grown W w' /\ W.heap.size + 3 <= w'.heap.size) kKeepS ?_
    rintro w3 ⟨b4, b8, f8, b10, f10, g1, z1⟩
    clear b42 b82 f82 b102 f102 g2 z2
    go_wp2_with ((refine wpList_store_box rfl 81 (.tmp 8) (.tmp 50) rfl (W.heap.size + 1) #[.int .i64 0, .int .i64 0, .int .i64 0, .int .i64 0] _ rfl rfl b8 f8 rfl A4 (by simp [Value.oneCell']) (fun w' => (Bx w' (W.heap.size + 1) #[.int .i64 0, .int .i64 0, .int .i64 0, .int .i64 0]) /\ Grown W w') ⟨box_setAll b8 rfl, grown_setAll (by omega) _ _ _ g1⟩ ?_); rintro w9 ⟨b9, g9⟩)
    exact ret_box rfl (W.heap.size + 1) #[.int .i64 0, .int .i64 0, .int .i64 0, .int .i64 0] _ (.int .i64 1) rfl rfl b9 Tryz.underlying81 rfl A4 rfl ⟨rfl, g9⟩
  . have e6 := e5 rfl rfl
    clear e5
    go_enter Tryz.func41, Tryz.ntmps41
    go_upto_region 2 with fail
    refine opq (fun w' => (Bx w' (W.heap.size) (nC n (.slice Ai n.ins.length ci) (.slice Aw n.ws.length cw) (.slice Ab n.bs.length cb))) /\ (Bx w' (W.heap.size + 1) #[.int .i64 0, .int .i64 0, .int .i64 0, .int .i64 0]) /\ (Fr w' (W.heap.size + 1)) /\ (Bx w' (W.heap.size + 2) #[.int .i64 0, .int .i64 0, .int .i64 0, .int .i64 0]) /\ (Fr w' (W.heap.size + 2)) /\ Grown W w' /\ W.heap.size + 3 <= w'.heap.size) kKeepS ?_
    rintro W1 ⟨b4, b8, f8, b10, f10, g1, z1⟩
    go_wp2_with (refine wpList_load_box rfl 44 (.tmp 4) rfl W.heap.size (nC n (.slice Ai n.ins.length ci) (.slice Aw n.ws.length cw) (.slice Ab n.bs.length cb)) rfl b4 Tryz.underlying44 rfl N14 ?_)
    refine (VA.out _ (Grown.past g1)).mono ?_
    rintro e w2 ⟨rfl, g⟩
    obtain ⟨b42, b82, f82, b102, f102, g2, z2⟩ : (Bx w2 (W.heap.size) (nC n (.slice Ai n.ins.length ci) (.slice Aw n.ws.length cw) (.slice Ab n.bs.length cb))) /\ (Bx w2 (W.heap.size + 1) #[.int .i64 0, .int .i64 0, .int .i64 0, .int .i64 0]) /\ (Fr w2 (W.heap.size + 1)) /\ (Bx w2 (W.heap.size + 2) #[.int .i64 0, .int .i64 0, .int .i64 0, .int .i64 0]) /\ (Fr w2 (W.heap.size + 2)) /\ Grown W w2 /\ W.heap.size + 3 <= w2.heap.size := by (exact kKeepS)
    clear b4 b8 f8 b10 f10 g1 z1 g
    go_upto_region 6 with fail
    refine opq (fun w' => (Bx w' (W.heap.size) (nC n (.slice Ai n.ins.length ci) (.slice Aw n.ws.length cw) (.slice Ab n.bs.length cb))) /\ (Bx w' (W.heap.size + 1) #[.int .i64 0, .int .i64 0, .int .i64 0, .int .i64 0]) /\ (Fr w' (W.heap.size + 1)) /\ (Bx w' (W.heap.size + 2) #[.int .i64 0, .int .i64 0, .int .i64 0, .int .i64 0]) /\ (Fr w' (W.heap.size + 2)) /\ Grown W w' /\ W.heap.size + 3 <= w'.heap.size) kKeepS ?_
    rintro w3 ⟨b4, b8, f8, b10, f10, g1, z1⟩
    clear b42 b82 f82 b102 f102 g2 z2
    go_wp2_with ((refine wpList_store_box rfl 81 (.tmp 8) (.tmp 50) rfl (W.heap.size + 1) #[.int .i64 0, .int .i64 0, .int .i64 0, .int .i64 0] _ rfl rfl b8 f8 rfl A4 (by simp [Value.oneCell']) (fun w' => (Bx w' (W.heap.size + 1) #[.int .i64 0, .int .i64 0, .int .i64 0, .int .i64 0]) /\ Grown W w') ⟨box_setAll b8 rfl, grown_setAll (by omega) _ _ _ g1⟩ ?_); rintro w9 ⟨b9, g9⟩)
    exact ret_box rfl (W.heap.size + 1) #[.int .i64 0, .int .i64 0, .int .i64 0, .int .i64 0] _ (.int .i64 1) rfl rfl b9 Tryz.underlying81 rfl A4 rfl ⟨rfl, g9⟩
theorem rneeds_any (n : NodeD) (vi vw vb lv : Value) (vs : List ValD) (first rows : Int) (W : World) (hin : NodeIn W n vi vw vb) (hl : IsVals W lv vs) (hf : -9223372036854775808 <= first /\ first <= 9223372036854775807) :
    Calls Tryz.prog 41 #[.agg (nC n vi vw vb), lv, .int .i64 first, .int .i64 rows] W (NeedsPost n vs first rows W) := by
  by_cases h0 : valueE n vs = 0
  . have mt := (value_parts h0).2.2.1
    obtain ⟨m1, m2, _⟩ := mt
    by_cases k : rowsOk n vs first rows
    . have N0 : ∀ p0 q0, vs.length = 1 -> p0 = (looksD n (vs.getD 0 default).h first rows).1 -> q0 = (looksD n (vs.getD 0 default).h first rows).2 -> NeedsAt n vs first rows vs.length p0 q0 0 0 := fun p0 q0 l a b => ⟨fun e => by omega, fun _ => ⟨a, b⟩, fun _ => ⟨rfl, rfl⟩, fun e => by omega⟩
      have N2 : ∀ p0 q0 p1 q1, vs.length = 2 -> p0 = (looksD n (vs.getD 0 default).h first rows).1 -> q0 = (looksD n (vs.getD 0 default).h first rows).2 -> p1 = (looksD n (vs.getD 1 default).h first rows).1 -> q1 = (looksD n (vs.getD 1 default).h first rows).2 -> NeedsAt n vs first rows vs.length p0 q0 p1 q1 := fun p0 q0 p1 q1 l a b c d => ⟨fun e => by omega, fun _ => ⟨a, b⟩, fun e => by omega, fun _ => ⟨c, d⟩⟩
      unfold NeedsPost
      obtain ⟨o1, o2⟩ := (value_parts h0).1.1
      rcases (show n.op = 1 ∨ n.op = 2 ∨ n.op = 3 ∨ n.op = 4 ∨ n.op = 5 ∨ n.op = 6 ∨ n.op = 7 ∨ n.op = 8 ∨ n.op = 9 ∨ n.op = 10 ∨ n.op = 11 ∨ n.op = 12 by omega) with c | c | c | c | c | c | c | c | c | c | c | c
      . have l : vs.length = 1 := by rcases vals_len h0 with ⟨l, _⟩ | ⟨_, l⟩
                                     . omega
                                     . exact l
        rw [needs_in h0 k (N0 _ _ l rfl rfl)]
        exact rneeds_1 n vi vw vb lv vs first rows _ _ W hin hl h0 k c l (Lib.hid rfl) (Lib.hid rfl)
      . have l : vs.length = 1 := by rcases vals_len h0 with ⟨l, _⟩ | ⟨_, l⟩
                                     . omega
                                     . exact l
        rw [needs_in h0 k (N0 _ _ l rfl rfl)]
        exact rneeds_2 n vi vw vb lv vs first rows _ _ W hin hl h0 k c l (Lib.hid rfl) (Lib.hid rfl)
      . have l : vs.length = 1 := by rcases vals_len h0 with ⟨l, _⟩ | ⟨_, l⟩
                                     . omega
                                     . exact l
        rw [needs_in h0 k (N0 _ _ l rfl rfl)]
        exact rneeds_3 n vi vw vb lv vs first rows _ _ W hin hl h0 k c l (Lib.hid rfl) (Lib.hid rfl)
      . have l : vs.length = 1 := by rcases vals_len h0 with ⟨l, _⟩ | ⟨_, l⟩
                                     . omega
                                     . exact l
        rw [needs_in h0 k (N0 _ _ l rfl rfl)]
        exact rneeds_4 n vi vw vb lv vs first rows _ _ W hin hl h0 k c l (Lib.hid rfl) (Lib.hid rfl)
      . have l : vs.length = 1 := by rcases vals_len h0 with ⟨l, _⟩ | ⟨_, l⟩
                                     . omega
                                     . exact l
        rw [needs_in h0 k (N0 _ _ l rfl rfl)]
        exact rneeds_5 n vi vw vb lv vs first rows _ _ W hin hl h0 k c l (Lib.hid rfl) (Lib.hid rfl)
      . have l : vs.length = 2 := by rcases vals_len h0 with ⟨_, l⟩ | ⟨l, _⟩
                                     . exact l
                                     . omega
        rw [needs_in h0 k (N2 _ _ _ _ l rfl rfl rfl rfl)]
        exact rneeds_6 n vi vw vb lv vs first rows _ _ _ _ W hin hl h0 k (Or.inl c) l (Lib.hid rfl) (Lib.hid rfl) (Lib.hid rfl) (Lib.hid rfl)
      . have l : vs.length = 2 := by rcases vals_len h0 with ⟨_, l⟩ | ⟨l, _⟩
                                     . exact l
                                     . omega
        rw [needs_in h0 k (N2 _ _ _ _ l rfl rfl rfl rfl)]
        exact rneeds_6 n vi vw vb lv vs first rows _ _ _ _ W hin hl h0 k (Or.inr (Or.inl c)) l (Lib.hid rfl) (Lib.hid rfl) (Lib.hid rfl) (Lib.hid rfl)
      . have l : vs.length = 1 := by rcases vals_len h0 with ⟨l, _⟩ | ⟨_, l⟩
                                     . omega
                                     . exact l
        rw [needs_in h0 k (N0 _ _ l rfl rfl)]
        exact rneeds_8 n vi vw vb lv vs first rows _ _ W hin hl h0 k (Or.inl c) l (Lib.hid rfl) (Lib.hid rfl)
      . have l : vs.length = 1 := by rcases vals_len h0 with ⟨l, _⟩ | ⟨_, l⟩
                                     . omega
                                     . exact l
        rw [needs_in h0 k (N0 _ _ l rfl rfl)]
        exact rneeds_9 n vi vw vb lv vs first rows _ _ W hin hl h0 k c l (Lib.hid rfl) (Lib.hid rfl)
      . have l : vs.length = 2 := by rcases vals_len h0 with ⟨_, l⟩ | ⟨l, _⟩
                                     . exact l
                                     . omega
        rw [needs_in h0 k (N2 _ _ _ _ l rfl rfl rfl rfl)]
        exact rneeds_6 n vi vw vb lv vs first rows _ _ _ _ W hin hl h0 k (Or.inr (Or.inr c)) l (Lib.hid rfl) (Lib.hid rfl) (Lib.hid rfl) (Lib.hid rfl)
      . have l : vs.length = 1 := by rcases vals_len h0 with ⟨l, _⟩ | ⟨_, l⟩
                                     . omega
                                     . exact l
        rw [needs_in h0 k (N0 _ _ l rfl rfl)]
        exact rneeds_11 n vi vw vb lv vs first rows _ _ W hin hl h0 k c l (Lib.hid rfl) (Lib.hid rfl)
      . have l : vs.length = 1 := by rcases vals_len h0 with ⟨l, _⟩ | ⟨_, l⟩
                                     . omega
                                     . exact l
        rw [needs_in h0 k (N0 _ _ l rfl rfl)]
        exact rneeds_8 n vi vw vb lv vs first rows _ _ W hin hl h0 k (Or.inr c) l (Lib.hid rfl) (Lib.hid rfl)
    . unfold NeedsPost
      rw [needs_out h0 k]
      refine rneeds_out n vi vw vb lv vs (madeS n vs) first rows W hin hl h0 rfl _ _ _ _ rfl rfl rfl rfl (fun a b => ?_) ?_
      . have a' : ¬ first < 0 := of_decide_eq_false a
        have b' : ¬ (madeS n vs).1 < first := of_decide_eq_false b
        exact IntWalk.i64_in _ (by omega)
      . have k' : ¬ (0 <= first /\ 1 <= rows /\ rows <= (madeS n vs).1 - first) := k
        by_cases c1 : first < 0
        . left; simpa using c1
        . by_cases c2 : rows < 1
          . right; left; exact ⟨by simpa using c1, by simpa using c2⟩
          . by_cases c3 : (madeS n vs).1 < first
            . right; right; left; exact ⟨by simpa using c1, by simpa using c2, by simpa using c3⟩
            . right; right; right; exact ⟨by simpa using c1, by simpa using c2, by simpa using c3, by simp; omega⟩
  . unfold NeedsPost
    rw [needs_bad h0]
    exact rneeds_bad n vi vw vb lv vs first rows _ W hin hl rfl h0
end Go.Proofs.YtliijchcpooplaaGreat
