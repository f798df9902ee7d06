/- The reference of layer 5: Needs, op by op. The reference of layer 5: Needs, op by op. -/
import Derived.Deep.DeepCutAuto
import Derived.Test.YtliijchcpooplaaGreatOMKWe
namespace Go.Proofs.YtliijchcpooplaaGreat
open Go.ChangeShapes Go.WideShapes Go.ChangeAt Go.RowKit
set_option maxRecDepth 20000
set_option linter.unusedVariables false
set_option maxHeartbeats 8000000 in
theorem rneeds_1 (n : NodeD) (vi vw vb lv : Value) (vs : List ValD) (first rows p0 q0 : Int) (W : World) (hin : NodeIn W n vi vw vb) (hl : IsVals W lv vs) (h0 : valueE n vs = 0) (k : rowsOk n vs first rows) (ho : n.op = 1) (hlen : vs.length = 1) (hp0 : Hid (p0 = (looksD n (vs.getD 0 default).h first rows).1)) (hq0 : Hid (q0 = (looksD n (vs.getD 0 default).h first rows).2)) :
    Calls Tryz.prog 41 #[.agg (nC n vi vw vb), lv, .int .i64 first, .int .i64 rows] W fun e w' => e = .returned (.tuple #[.agg #[.int .i64 p0, .int .i64 q0, .int .i64 0, .int .i64 0], .int .i64 0]) /\ Grown W w' := by
  obtain ⟨m, hm⟩ : ∃ m, madeS n vs = m := ⟨_, rfl⟩
  have mm := (value_parts h0).2.2.1
  rw [hm] at mm
  obtain ⟨m1, m2, _⟩ := mm
  obtain ⟨f0, r1, r2⟩ := k
  rw [hm] at r2
  have VA : Hid (∀ w, Past W w -> Calls Tryz.prog 22 #[.agg (nC n vi vw vb), lv] w fun e w' => e = .returned (.tuple #[.agg #[.int .i64 m.1, .int .i64 m.2.1, .int .i64 m.2.2, .int .i64 n.zero], .int .i64 0]) /\ Grown w w') := Lib.hid (by
    intro w p
    have := rvalue_any n vi vw vb lv vs w (hin.grow p) (hl.grow p)
    unfold ValuePost at this
    rw [valueV_ok h0, h0, hm] at this
    exact this)
  have e0 : looksD n (vs.getD 0 default).h first rows = reachI first rows n.k n.stride n.pad (vs.getD 0 default).h := by unfold looksD; simp [ho]
  have mv0 := (value_parts h0).2.1 0 (by omega)
  obtain ⟨v0a, v0b, _⟩ := mv0
  obtain ⟨x0, hx0⟩ : ∃ x, vs.getD 0 default = x := ⟨_, rfl⟩
  rw [hx0] at e0 v0a v0b
  rw [hx0, e0] at hp0 hq0
  have RR := Lib.hid (fun w => rreach_any first rows n.k n.stride n.pad x0.h p0 q0 w (by omega) (by omega) hp0 hq0)
  have w0 : IntKind.i64.wrap (first + rows) = first + rows := IntWalk.i64_in _ (by omega)
  have t1 : decide (first < 0) = false := by simp; omega
  have t2 : decide (rows < 1) = false := by simp; omega
  have t3 : decide (m.1 < first) = false := by simp; omega
  have t4 : decide (m.1 - first < rows) = false := by simp; omega
  have t5 : IntKind.i64.wrap (m.1 - first) = m.1 - first := IntWalk.i64_in _ (by omega)
  have c1 : (n.op == 1) = true := by rw [ho]; decide
  have HL := Lib.hid hlen
  have HX0 := Lib.hid hx0
  obtain ⟨Ai, ci, rfl, _⟩ := hin.1
  obtain ⟨Aw, cw, rfl, _⟩ := hin.2.1
  obtain ⟨Ab, cb, rfl, _⟩ := hin.2.2
  obtain ⟨A1, c1, rfl, a1, a2, _, a4, a5⟩ := hl
  obtain ⟨lb, lo, rfl, hlb, hlc⟩ := a5 (by omega)
  have HC := Lib.hid hlc
  have k1 : vs.length <= 9223372036854775807 := by omega
  clear hin h0 hm ho hlen m1 m2 r2 a2 a4 a5 hlc hx0
  clear hp0 hq0 e0
  go_enter Tryz.func41, Tryz.ntmps41
  go_upto_region 2 with fail
  refine opq (fun w' => (Bx w' (W.heap.size) (nC n (.slice Ai n.ins.length ci) (.slice Aw n.ws.length cw) (.slice Ab n.bs.length cb))) /\ (Bx w' (W.heap.size + 1) #[.int .i64 0, .int .i64 0, .int .i64 0, .int .i64 0]) /\ (Fr w' (W.heap.size + 1)) /\ (Bx w' (W.heap.size + 2) #[.int .i64 0, .int .i64 0, .int .i64 0, .int .i64 0]) /\ (Fr w' (W.heap.size + 2)) /\ Grown W w' /\ W.heap.size + 3 <= w'.heap.size) kKeepS ?_
  rintro W1 ⟨b4, b8, f8, b10, f10, g1, z1⟩
  go_wp2_with (refine wpList_load_box rfl 44 (.tmp 4) rfl W.heap.size (nC n (.slice Ai n.ins.length ci) (.slice Aw n.ws.length cw) (.slice Ab n.bs.length cb)) rfl b4 Tryz.underlying44 rfl N14 ?_)
  refine (VA.out _ (Grown.past g1)).mono ?_
  rintro e w2 ⟨rfl, g⟩
  obtain ⟨b42, b82, f82, b102, f102, g2, z2⟩ : (Bx w2 (W.heap.size) (nC n (.slice Ai n.ins.length ci) (.slice Aw n.ws.length cw) (.slice Ab n.bs.length cb))) /\ (Bx w2 (W.heap.size + 1) #[.int .i64 0, .int .i64 0, .int .i64 0, .int .i64 0]) /\ (Fr w2 (W.heap.size + 1)) /\ (Bx w2 (W.heap.size + 2) #[.int .i64 0, .int .i64 0, .int .i64 0, .int .i64 0]) /\ (Fr w2 (W.heap.size + 2)) /\ Grown W w2 /\ W.heap.size + 3 <= w2.heap.size := by (exact kKeepS)
  clear b4 b8 f8 b10 f10 g1 z1 g
  go_upto_region 7 with fail
  refine opq (fun w' => (Bx w' (W.heap.size) (nC n (.slice Ai n.ins.length ci) (.slice Aw n.ws.length cw) (.slice Ab n.bs.length cb))) /\ (Bx w' (W.heap.size + 1) #[.int .i64 0, .int .i64 0, .int .i64 0, .int .i64 0]) /\ (Fr w' (W.heap.size + 1)) /\ (Bx w' (W.heap.size + 2) #[.int .i64 0, .int .i64 0, .int .i64 0, .int .i64 0]) /\ (Fr w' (W.heap.size + 2)) /\ Grown W w' /\ W.heap.size + 3 <= w'.heap.size) kKeepS ?_
  rintro w3 ⟨b4, b8, f8, b10, f10, g1, z1⟩
  clear b42 b82 f82 b102 f102 g2 z2
  go_wp2_with fail
  go_loopw [13] (fun i wr => (i = .int .i64 0 /\ (Bx wr (W.heap.size) (nC n (.slice Ai n.ins.length ci) (.slice Aw n.ws.length cw) (.slice Ab n.bs.length cb))) /\ (Bx wr (W.heap.size + 1) #[.int .i64 0, .int .i64 0, .int .i64 0, .int .i64 0]) /\ (Fr wr (W.heap.size + 1)) /\ (Bx wr (W.heap.size + 2) #[.int .i64 0, .int .i64 0, .int .i64 0, .int .i64 0]) /\ (Fr wr (W.heap.size + 2)) /\ Grown W wr /\ W.heap.size + 3 <= wr.heap.size) ∨ (i = .int .i64 1 /\ (Bx wr (W.heap.size) (nC n (.slice Ai n.ins.length ci) (.slice Aw n.ws.length cw) (.slice Ab n.bs.length cb))) /\ (Bx wr (W.heap.size + 1) #[.int .i64 0, .int .i64 0, .int .i64 0, .int .i64 0]) /\ (Fr wr (W.heap.size + 1)) /\ (Bx wr (W.heap.size + 2) #[.int .i64 p0, .int .i64 q0, .int .i64 0, .int .i64 0]) /\ (Fr wr (W.heap.size + 2)) /\ Grown W wr /\ W.heap.size + 3 <= wr.heap.size)) (fun i _ => 1 - (intOf i).toNat)
  case atStart => exact Or.inl ⟨by first | rfl | go_num, b4, b8, f8, b10, f10, g1, z1⟩
  case round =>
    clear b4 b8 f8 b10 f10 g1 z1
    rcases hrel with ⟨rfl, b4, b8, f8, b10, f10, g1, z1⟩ | ⟨rfl, b4, b8, f8, b10, f10, g1, z1⟩
    . have dl : decide ((0 : Int) < (vs.length : Int)) = true := by rw [HL.out]; decide
      obtain ⟨y0, y1, y2, y3⟩ := (HC.out 0 (by rw [HL.out]; decide)).grow hlb (Grown.past g1)
      rw [HX0.out] at y0 y1 y2 y3
      simp only [Nat.zero_mul, Nat.add_zero] at y0 y1 y2 y3
      have hlb2 : lb < wr.heap.size := Nat.lt_of_lt_of_le hlb g1.2.2
      have il : (0 : Nat) < vs.length := by rw [HL.out]; decide
      go_wp2_with fail
      refine (RR.out _).mono ?_
      rintro e w5 ⟨rfl, g⟩
      obtain ⟨b4, b8, f8, b10, f10, g5, z5⟩ : (Bx w5 (W.heap.size) (nC n (.slice Ai n.ins.length ci) (.slice Aw n.ws.length cw) (.slice Ab n.bs.length cb))) /\ (Bx w5 (W.heap.size + 1) #[.int .i64 0, .int .i64 0, .int .i64 0, .int .i64 0]) /\ (Fr w5 (W.heap.size + 1)) /\ (Bx w5 (W.heap.size + 2) #[.int .i64 0, .int .i64 0, .int .i64 0, .int .i64 0]) /\ (Fr w5 (W.heap.size + 2)) /\ Grown W w5 /\ W.heap.size + 3 <= w5.heap.size := by (exact kKeepS)
      go_wp2_with fail
      go_roundw
      case rel => exact Or.inr ⟨by first | rfl | go_num, by (exact kKeepS), by (exact kKeepS), by (exact kKeepS), box4_at b10, by (exact kKeepS), by (exact kKeepS), by (exact kKeepS)⟩
      case measure => first | (simp [intOf]; done) | decide | (simp [intOf]; omega)
    . have dl : decide ((1 : Int) < (vs.length : Int)) = false := by rw [HL.out]; decide
      go_wp2_with ((refine wpList_store_box rfl 81 (.tmp 8) (.tmp 110) rfl (W.heap.size + 1) #[.int .i64 p0, .int .i64 q0, .int .i64 0, .int .i64 0] _ rfl rfl b8 f8 rfl A4 (by simp [Value.oneCell']) (fun w' => (Bx w' (W.heap.size + 1) #[.int .i64 p0, .int .i64 q0, .int .i64 0, .int .i64 0]) /\ Grown W w') ⟨box_setAll b8 rfl, grown_setAll (by omega) _ _ _ g1⟩ ?_); rintro w9 ⟨b9, g9⟩)
      exact ret_box rfl (W.heap.size + 1) #[.int .i64 p0, .int .i64 q0, .int .i64 0, .int .i64 0] _ (.int .i64 0) rfl rfl b9 Tryz.underlying81 rfl A4 rfl ⟨rfl, g9⟩
set_option maxHeartbeats 8000000 in
theorem rneeds_2 (n : NodeD) (vi vw vb lv : Value) (vs : List ValD) (first rows p0 q0 : Int) (W : World) (hin : NodeIn W n vi vw vb) (hl : IsVals W lv vs) (h0 : valueE n vs = 0) (k : rowsOk n vs first rows) (ho : n.op = 2) (hlen : vs.length = 1) (hp0 : Hid (p0 = (looksD n (vs.getD 0 default).h first rows).1)) (hq0 : Hid (q0 = (looksD n (vs.getD 0 default).h first rows).2)) :
    Calls Tryz.prog 41 #[.agg (nC n vi vw vb), lv, .int .i64 first, .int .i64 rows] W fun e w' => e = .returned (.tuple #[.agg #[.int .i64 p0, .int .i64 q0, .int .i64 0, .int .i64 0], .int .i64 0]) /\ Grown W w' := by
  obtain ⟨m, hm⟩ : ∃ m, madeS n vs = m := ⟨_, rfl⟩
  have mm := (value_parts h0).2.2.1
  rw [hm] at mm
  obtain ⟨m1, m2, _⟩ := mm
  obtain ⟨f0, r1, r2⟩ := k
  rw [hm] at r2
  have VA : Hid (∀ w, Past W w -> Calls Tryz.prog 22 #[.agg (nC n vi vw vb), lv] w fun e w' => e = .returned (.tuple #[.agg #[.int .i64 m.1, .int .i64 m.2.1, .int .i64 m.2.2, .int .i64 n.zero], .int .i64 0]) /\ Grown w w') := Lib.hid (by
    intro w p
    have := rvalue_any n vi vw vb lv vs w (hin.grow p) (hl.grow p)
    unfold ValuePost at this
    rw [valueV_ok h0, h0, hm] at this
    exact this)
  have e0 : looksD n (vs.getD 0 default).h first rows = reachI first rows n.k n.stride n.pad (vs.getD 0 default).h := by unfold looksD; simp [ho]
  have mv0 := (value_parts h0).2.1 0 (by omega)
  obtain ⟨v0a, v0b, _⟩ := mv0
  obtain ⟨x0, hx0⟩ : ∃ x, vs.getD 0 default = x := ⟨_, rfl⟩
  rw [hx0] at e0 v0a v0b
  rw [hx0, e0] at hp0 hq0
  have RR := Lib.hid (fun w => rreach_any first rows n.k n.stride n.pad x0.h p0 q0 w (by omega) (by omega) hp0 hq0)
  have w0 : IntKind.i64.wrap (first + rows) = first + rows := IntWalk.i64_in _ (by omega)
  have t1 : decide (first < 0) = false := by simp; omega
  have t2 : decide (rows < 1) = false := by simp; omega
  have t3 : decide (m.1 < first) = false := by simp; omega
  have t4 : decide (m.1 - first < rows) = false := by simp; omega
  have t5 : IntKind.i64.wrap (m.1 - first) = m.1 - first := IntWalk.i64_in _ (by omega)
  have c1 : (n.op == 1) = false := by rw [ho]; decide
  have c2 : (n.op == 2) = true := by rw [ho]; decide
  have HL := Lib.hid hlen
  have HX0 := Lib.hid hx0
  obtain ⟨Ai, ci, rfl, _⟩ := hin.1
  obtain ⟨Aw, cw, rfl, _⟩ := hin.2.1
  obtain ⟨Ab, cb, rfl, _⟩ := hin.2.2
  obtain ⟨A1, c1, rfl, a1, a2, _, a4, a5⟩ := hl
  obtain ⟨lb, lo, rfl, hlb, hlc⟩ := a5 (by omega)
  have HC := Lib.hid hlc
  have k1 : vs.length <= 9223372036854775807 := by omega
  clear hin h0 hm ho hlen m1 m2 r2 a2 a4 a5 hlc hx0
  clear hp0 hq0 e0
  go_enter Tryz.func41, Tryz.ntmps41
  go_upto_region 2 with fail
  refine opq (fun w' => (Bx w' (W.heap.size) (nC n (.slice Ai n.ins.length ci) (.slice Aw n.ws.length cw) (.slice Ab n.bs.length cb))) /\ (Bx w' (W.heap.size + 1) #[.int .i64 0, .int .i64 0, .int .i64 0, .int .i64 0]) /\ (Fr w' (W.heap.size + 1)) /\ (Bx w' (W.heap.size + 2) #[.int .i64 0, .int .i64 0, .int .i64 0, .int .i64 0]) /\ (Fr w' (W.heap.size + 2)) /\ Grown W w' /\ W.heap.size + 3 <= w'.heap.size) kKeepS ?_
  rintro W1 ⟨b4, b8, f8, b10, f10, g1, z1⟩
  go_wp2_with (refine wpList_load_box rfl 44 (.tmp 4) rfl W.heap.size (nC n (.slice Ai n.ins.length ci) (.slice Aw n.ws.length cw) (.slice Ab n.bs.length cb)) rfl b4 Tryz.underlying44 rfl N14 ?_)
  refine (VA.out _ (Grown.past g1)).mono ?_
  rintro e w2 ⟨rfl, g⟩
  obtain ⟨b42, b82, f82, b102, f102, g2, z2⟩ : (Bx w2 (W.heap.size) (nC n (.slice Ai n.ins.length ci) (.slice Aw n.ws.length cw) (.slice Ab n.bs.length cb))) /\ (Bx w2 (W.heap.size + 1) #[.int .i64 0, .int .i64 0, .int .i64 0, .int .i64 0]) /\ (Fr w2 (W.heap.size + 1)) /\ (Bx w2 (W.heap.size + 2) #[.int .i64 0, .int .i64 0, .int .i64 0, .int .i64 0]) /\ (Fr w2 (W.heap.size + 2)) /\ Grown W w2 /\ W.heap.size + 3 <= w2.heap.size := by (exact kKeepS)
  clear b4 b8 f8 b10 f10 g1 z1 g
  go_upto_region 7 with fail
  refine opq (fun w' => (Bx w' (W.heap.size) (nC n (.slice Ai n.ins.length ci) (.slice Aw n.ws.length cw) (.slice Ab n.bs.length cb))) /\ (Bx w' (W.heap.size + 1) #[.int .i64 0, .int .i64 0, .int .i64 0, .int .i64 0]) /\ (Fr w' (W.heap.size + 1)) /\ (Bx w' (W.heap.size + 2) #[.int .i64 0, .int .i64 0, .int .i64 0, .int .i64 0]) /\ (Fr w' (W.heap.size + 2)) /\ Grown W w' /\ W.heap.size + 3 <= w'.heap.size) kKeepS ?_
  rintro w3 ⟨b4, b8, f8, b10, f10, g1, z1⟩
  clear b42 b82 f82 b102 f102 g2 z2
  go_wp2_with fail
  go_loopw [13] (fun i wr => (i = .int .i64 0 /\ (Bx wr (W.heap.size) (nC n (.slice Ai n.ins.length ci) (.slice Aw n.ws.length cw) (.slice Ab n.bs.length cb))) /\ (Bx wr (W.heap.size + 1) #[.int .i64 0, .int .i64 0, .int .i64 0, .int .i64 0]) /\ (Fr wr (W.heap.size + 1)) /\ (Bx wr (W.heap.size + 2) #[.int .i64 0, .int .i64 0, .int .i64 0, .int .i64 0]) /\ (Fr wr (W.heap.size + 2)) /\ Grown W wr /\ W.heap.size + 3 <= wr.heap.size) ∨ (i = .int .i64 1 /\ (Bx wr (W.heap.size) (nC n (.slice Ai n.ins.length ci) (.slice Aw n.ws.length cw) (.slice Ab n.bs.length cb))) /\ (Bx wr (W.heap.size + 1) #[.int .i64 0, .int .i64 0, .int .i64 0, .int .i64 0]) /\ (Fr wr (W.heap.size + 1)) /\ (Bx wr (W.heap.size + 2) #[.int .i64 p0, .int .i64 q0, .int .i64 0, .int .i64 0]) /\ (Fr wr (W.heap.size + 2)) /\ Grown W wr /\ W.heap.size + 3 <= wr.heap.size)) (fun i _ => 1 - (intOf i).toNat)
  case atStart => exact Or.inl ⟨by first | rfl | go_num, b4, b8, f8, b10, f10, g1, z1⟩
  case round =>
    clear b4 b8 f8 b10 f10 g1 z1
    rcases hrel with ⟨rfl, b4, b8, f8, b10, f10, g1, z1⟩ | ⟨rfl, b4, b8, f8, b10, f10, g1, z1⟩
    . have dl : decide ((0 : Int) < (vs.length : Int)) = true := by rw [HL.out]; decide
      obtain ⟨y0, y1, y2, y3⟩ := (HC.out 0 (by rw [HL.out]; decide)).grow hlb (Grown.past g1)
      rw [HX0.out] at y0 y1 y2 y3
      simp only [Nat.zero_mul, Nat.add_zero] at y0 y1 y2 y3
      have hlb2 : lb < wr.heap.size := Nat.lt_of_lt_of_le hlb g1.2.2
      have il : (0 : Nat) < vs.length := by rw [HL.out]; decide
      go_wp2_with fail
      refine (RR.out _).mono ?_
      rintro e w5 ⟨rfl, g⟩
      obtain ⟨b4, b8, f8, b10, f10, g5, z5⟩ : (Bx w5 (W.heap.size) (nC n (.slice Ai n.ins.length ci) (.slice Aw n.ws.length cw) (.slice Ab n.bs.length cb))) /\ (Bx w5 (W.heap.size + 1) #[.int .i64 0, .int .i64 0, .int .i64 0, .int .i64 0]) /\ (Fr w5 (W.heap.size + 1)) /\ (Bx w5 (W.heap.size + 2) #[.int .i64 0, .int .i64 0, .int .i64 0, .int .i64 0]) /\ (Fr w5 (W.heap.size + 2)) /\ Grown W w5 /\ W.heap.size + 3 <= w5.heap.size := by (exact kKeepS)
      go_wp2_with fail
      go_roundw
      case rel => exact Or.inr ⟨by first | rfl | go_num, by (exact kKeepS), by (exact kKeepS), by (exact kKeepS), box4_at b10, by (exact kKeepS), by (exact kKeepS), by (exact kKeepS)⟩
      case measure => first | (simp [intOf]; done) | decide | (simp [intOf]; omega)
    . have dl : decide ((1 : Int) < (vs.length : Int)) = false := by rw [HL.out]; decide
      go_wp2_with ((refine wpList_store_box rfl 81 (.tmp 8) (.tmp 110) rfl (W.heap.size + 1) #[.int .i64 p0, .int .i64 q0, .int .i64 0, .int .i64 0] _ rfl rfl b8 f8 rfl A4 (by simp [Value.oneCell']) (fun w' => (Bx w' (W.heap.size + 1) #[.int .i64 p0, .int .i64 q0, .int .i64 0, .int .i64 0]) /\ Grown W w') ⟨box_setAll b8 rfl, grown_setAll (by omega) _ _ _ g1⟩ ?_); rintro w9 ⟨b9, g9⟩)
      exact ret_box rfl (W.heap.size + 1) #[.int .i64 p0, .int .i64 q0, .int .i64 0, .int .i64 0] _ (.int .i64 0) rfl rfl b9 Tryz.underlying81 rfl A4 rfl ⟨rfl, g9⟩
set_option maxHeartbeats 8000000 in
theorem rneeds_3 (n : NodeD) (vi vw vb lv : Value) (vs : List ValD) (first rows p0 q0 : Int) (W : World) (hin : NodeIn W n vi vw vb) (hl : IsVals W lv vs) (h0 : valueE n vs = 0) (k : rowsOk n vs first rows) (ho : n.op = 3) (hlen : vs.length = 1) (hp0 : Hid (p0 = (looksD n (vs.getD 0 default).h first rows).1)) (hq0 : Hid (q0 = (looksD n (vs.getD 0 default).h first rows).2)) :
    Calls Tryz.prog 41 #[.agg (nC n vi vw vb), lv, .int .i64 first, .int .i64 rows] W fun e w' => e = .returned (.tuple #[.agg #[.int .i64 p0, .int .i64 q0, .int .i64 0, .int .i64 0], .int .i64 0]) /\ Grown W w' := by
  obtain ⟨m, hm⟩ : ∃ m, madeS n vs = m := ⟨_, rfl⟩
  have mm := (value_parts h0).2.2.1
  rw [hm] at mm
  obtain ⟨m1, m2, _⟩ := mm
  obtain ⟨f0, r1, r2⟩ := k
  rw [hm] at r2
  have VA : Hid (∀ w, Past W w -> Calls Tryz.prog 22 #[.agg (nC n vi vw vb), lv] w fun e w' => e = .returned (.tuple #[.agg #[.int .i64 m.1, .int .i64 m.2.1, .int .i64 m.2.2, .int .i64 n.zero], .int .i64 0]) /\ Grown w w') := Lib.hid (by
    intro w p
    have := rvalue_any n vi vw vb lv vs w (hin.grow p) (hl.grow p)
    unfold ValuePost at this
    rw [valueV_ok h0, h0, hm] at this
    exact this)
  have e0 : looksD n (vs.getD 0 default).h first rows = (0, (vs.getD 0 default).h) := by unfold looksD; simp [ho]
  have mv0 := (value_parts h0).2.1 0 (by omega)
  obtain ⟨v0a, v0b, _⟩ := mv0
  obtain ⟨x0, hx0⟩ : ∃ x, vs.getD 0 default = x := ⟨_, rfl⟩
  rw [hx0] at e0 v0a v0b
  rw [hx0, e0] at hp0 hq0
  have ep0 : p0 = 0 := hp0.out
  have eq0 : q0 = x0.h := hq0.out
  have w0 : IntKind.i64.wrap (first + rows) = first + rows := IntWalk.i64_in _ (by omega)
  have t1 : decide (first < 0) = false := by simp; omega
  have t2 : decide (rows < 1) = false := by simp; omega
  have t3 : decide (m.1 < first) = false := by simp; omega
  have t4 : decide (m.1 - first < rows) = false := by simp; omega
  have t5 : IntKind.i64.wrap (m.1 - first) = m.1 - first := IntWalk.i64_in _ (by omega)
  have c1 : (n.op == 1) = false := by rw [ho]; decide
  have c2 : (n.op == 2) = false := by rw [ho]; decide
  have c4 : (n.op == 4) = false := by rw [ho]; decide
  have c5 : (n.op == 5) = false := by rw [ho]; decide
  have c9 : (n.op == 9) = false := by rw [ho]; decide
  have c3 : (n.op == 3) = true := by rw [ho]; decide
  have HL := Lib.hid hlen
  have HX0 := Lib.hid hx0
  obtain ⟨Ai, ci, rfl, _⟩ := hin.1
  obtain ⟨Aw, cw, rfl, _⟩ := hin.2.1
  obtain ⟨Ab, cb, rfl, _⟩ := hin.2.2
  obtain ⟨A1, c1, rfl, a1, a2, _, a4, a5⟩ := hl
  obtain ⟨lb, lo, rfl, hlb, hlc⟩ := a5 (by omega)
  have HC := Lib.hid hlc
  have k1 : vs.length <= 9223372036854775807 := by omega
  clear hin h0 hm ho hlen m1 m2 r2 a2 a4 a5 hlc hx0
  clear hp0 hq0 e0
  subst ep0 eq0
  go_enter Tryz.func41, Tryz.ntmps41
  go_upto_region 2 with fail
  refine opq (fun w' => (Bx w' (W.heap.size) (nC n (.slice Ai n.ins.length ci) (.slice Aw n.ws.length cw) (.slice Ab n.bs.length cb))) /\ (Bx w' (W.heap.size + 1) #[.int .i64 0, .int .i64 0, .int .i64 0, .int .i64 0]) /\ (Fr w' (W.heap.size + 1)) /\ (Bx w' (W.heap.size + 2) #[.int .i64 0, .int .i64 0, .int .i64 0, .int .i64 0]) /\ (Fr w' (W.heap.size + 2)) /\ Grown W w' /\ W.heap.size + 3 <= w'.heap.size) kKeepS ?_
  rintro W1 ⟨b4, b8, f8, b10, f10, g1, z1⟩
  go_wp2_with (refine wpList_load_box rfl 44 (.tmp 4) rfl W.heap.size (nC n (.slice Ai n.ins.length ci) (.slice Aw n.ws.length cw) (.slice Ab n.bs.length cb)) rfl b4 Tryz.underlying44 rfl N14 ?_)
  refine (VA.out _ (Grown.past g1)).mono ?_
  rintro e w2 ⟨rfl, g⟩
  obtain ⟨b42, b82, f82, b102, f102, g2, z2⟩ : (Bx w2 (W.heap.size) (nC n (.slice Ai n.ins.length ci) (.slice Aw n.ws.length cw) (.slice Ab n.bs.length cb))) /\ (Bx w2 (W.heap.size + 1) #[.int .i64 0, .int .i64 0, .int .i64 0, .int .i64 0]) /\ (Fr w2 (W.heap.size + 1)) /\ (Bx w2 (W.heap.size + 2) #[.int .i64 0, .int .i64 0, .int .i64 0, .int .i64 0]) /\ (Fr w2 (W.heap.size + 2)) /\ Grown W w2 /\ W.heap.size + 3 <= w2.heap.size := by (exact kKeepS)
  clear b4 b8 f8 b10 f10 g1 z1 g
  go_upto_region 7 with fail
  refine opq (fun w' => (Bx w' (W.heap.size) (nC n (.slice Ai n.ins.length ci) (.slice Aw n.ws.length cw) (.slice Ab n.bs.length cb))) /\ (Bx w' (W.heap.size + 1) #[.int .i64 0, .int .i64 0, .int .i64 0, .int .i64 0]) /\ (Fr w' (W.heap.size + 1)) /\ (Bx w' (W.heap.size + 2) #[.int .i64 0, .int .i64 0, .int .i64 0, .int .i64 0]) /\ (Fr w' (W.heap.size + 2)) /\ Grown W w' /\ W.heap.size + 3 <= w'.heap.size) kKeepS ?_
  rintro w3 ⟨b4, b8, f8, b10, f10, g1, z1⟩
  clear b42 b82 f82 b102 f102 g2 z2
  go_wp2_with fail
  go_loopw [13] (fun i wr => (i = .int .i64 0 /\ (Bx wr (W.heap.size) (nC n (.slice Ai n.ins.length ci) (.slice Aw n.ws.length cw) (.slice Ab n.bs.length cb))) /\ (Bx wr (W.heap.size + 1) #[.int .i64 0, .int .i64 0, .int .i64 0, .int .i64 0]) /\ (Fr wr (W.heap.size + 1)) /\ (Bx wr (W.heap.size + 2) #[.int .i64 0, .int .i64 0, .int .i64 0, .int .i64 0]) /\ (Fr wr (W.heap.size + 2)) /\ Grown W wr /\ W.heap.size + 3 <= wr.heap.size) ∨ (i = .int .i64 1 /\ (Bx wr (W.heap.size) (nC n (.slice Ai n.ins.length ci) (.slice Aw n.ws.length cw) (.slice Ab n.bs.length cb))) /\ (Bx wr (W.heap.size + 1) #[.int .i64 0, .int .i64 0, .int .i64 0, .int .i64 0]) /\ (Fr wr (W.heap.size + 1)) /\ (Bx wr (W.heap.size + 2) #[.int .i64 0, .int .i64 x0.h, .int .i64 0, .int .i64 0]) /\ (Fr wr (W.heap.size + 2)) /\ Grown W wr /\ W.heap.size + 3 <= wr.heap.size)) (fun i _ => 1 - (intOf i).toNat)
  case atStart => exact Or.inl ⟨by first | rfl | go_num, b4, b8, f8, b10, f10, g1, z1⟩
  case round =>
    clear b4 b8 f8 b10 f10 g1 z1
    rcases hrel with ⟨rfl, b4, b8, f8, b10, f10, g1, z1⟩ | ⟨rfl, b4, b8, f8, b10, f10, g1, z1⟩
    . have dl : decide ((0 : Int) < (vs.length : Int)) = true := by rw [HL.out]; decide
      obtain ⟨y0, y1, y2, y3⟩ := (HC.out 0 (by rw [HL.out]; decide)).grow hlb (Grown.past g1)
      rw [HX0.out] at y0 y1 y2 y3
      simp only [Nat.zero_mul, Nat.add_zero] at y0 y1 y2 y3
      have hlb2 : lb < wr.heap.size := Nat.lt_of_lt_of_le hlb g1.2.2
      have il : (0 : Nat) < vs.length := by rw [HL.out]; decide
      go_wp2_with fail
      go_roundw
      case rel => exact Or.inr ⟨by first | rfl | go_num, by (exact kKeepS), by (exact kKeepS), by (exact kKeepS), box4_at b10, by (exact kKeepS), by (exact kKeepS), by (exact kKeepS)⟩
      case measure => first | (simp [intOf]; done) | decide | (simp [intOf]; omega)
    . have dl : decide ((1 : Int) < (vs.length : Int)) = false := by rw [HL.out]; decide
      go_wp2_with ((refine wpList_store_box rfl 81 (.tmp 8) (.tmp 110) rfl (W.heap.size + 1) #[.int .i64 0, .int .i64 x0.h, .int .i64 0, .int .i64 0] _ rfl rfl b8 f8 rfl A4 (by simp [Value.oneCell']) (fun w' => (Bx w' (W.heap.size + 1) #[.int .i64 0, .int .i64 x0.h, .int .i64 0, .int .i64 0]) /\ Grown W w') ⟨box_setAll b8 rfl, grown_setAll (by omega) _ _ _ g1⟩ ?_); rintro w9 ⟨b9, g9⟩)
      exact ret_box rfl (W.heap.size + 1) #[.int .i64 0, .int .i64 x0.h, .int .i64 0, .int .i64 0] _ (.int .i64 0) rfl rfl b9 Tryz.underlying81 rfl A4 rfl ⟨rfl, g9⟩
set_option maxHeartbeats 8000000 in
theorem rneeds_4 (n : NodeD) (vi vw vb lv : Value) (vs : List ValD) (first rows p0 q0 : Int) (W : World) (hin : NodeIn W n vi vw vb) (hl : IsVals W lv vs) (h0 : valueE n vs = 0) (k : rowsOk n vs first rows) (ho : n.op = 4) (hlen : vs.length = 1) (hp0 : Hid (p0 = (looksD n (vs.getD 0 default).h first rows).1)) (hq0 : Hid (q0 = (looksD n (vs.getD 0 default).h first rows).2)) :
    Calls Tryz.prog 41 #[.agg (nC n vi vw vb), lv, .int .i64 first, .int .i64 rows] W fun e w' => e = .returned (.tuple #[.agg #[.int .i64 p0, .int .i64 q0, .int .i64 0, .int .i64 0], .int .i64 0]) /\ Grown W w' := by
  obtain ⟨m, hm⟩ : ∃ m, madeS n vs = m := ⟨_, rfl⟩
  have mm := (value_parts h0).2.2.1
  rw [hm] at mm
  obtain ⟨m1, m2, _⟩ := mm
  obtain ⟨f0, r1, r2⟩ := k
  rw [hm] at r2
  have VA : Hid (∀ w, Past W w -> Calls Tryz.prog 22 #[.agg (nC n vi vw vb), lv] w fun e w' => e = .returned (.tuple #[.agg #[.int .i64 m.1, .int .i64 m.2.1, .int .i64 m.2.2, .int .i64 n.zero], .int .i64 0]) /\ Grown w w') := Lib.hid (by
    intro w p
    have := rvalue_any n vi vw vb lv vs w (hin.grow p) (hl.grow p)
    unfold ValuePost at this
    rw [valueV_ok h0, h0, hm] at this
    exact this)
  have e0 : looksD n (vs.getD 0 default).h first rows = reachI first rows n.k n.stride n.pad (vs.getD 0 default).h := by unfold looksD; simp [ho]
  have mv0 := (value_parts h0).2.1 0 (by omega)
  obtain ⟨v0a, v0b, _⟩ := mv0
  obtain ⟨x0, hx0⟩ : ∃ x, vs.getD 0 default = x := ⟨_, rfl⟩
  rw [hx0] at e0 v0a v0b
  rw [hx0, e0] at hp0 hq0
  have RR := Lib.hid (fun w => rreach_any first rows n.k n.stride n.pad x0.h p0 q0 w (by omega) (by omega) hp0 hq0)
  have w0 : IntKind.i64.wrap (first + rows) = first + rows := IntWalk.i64_in _ (by omega)
  have t1 : decide (first < 0) = false := by simp; omega
  have t2 : decide (rows < 1) = false := by simp; omega
  have t3 : decide (m.1 < first) = false := by simp; omega
  have t4 : decide (m.1 - first < rows) = false := by simp; omega
  have t5 : IntKind.i64.wrap (m.1 - first) = m.1 - first := IntWalk.i64_in _ (by omega)
  have c1 : (n.op == 1) = false := by rw [ho]; decide
  have c2 : (n.op == 2) = false := by rw [ho]; decide
  have c4 : (n.op == 4) = true := by rw [ho]; decide
  have HL := Lib.hid hlen
  have HX0 := Lib.hid hx0
  obtain ⟨Ai, ci, rfl, _⟩ := hin.1
  obtain ⟨Aw, cw, rfl, _⟩ := hin.2.1
  obtain ⟨Ab, cb, rfl, _⟩ := hin.2.2
  obtain ⟨A1, c1, rfl, a1, a2, _, a4, a5⟩ := hl
  obtain ⟨lb, lo, rfl, hlb, hlc⟩ := a5 (by omega)
  have HC := Lib.hid hlc
  have k1 : vs.length <= 9223372036854775807 := by omega
  clear hin h0 hm ho hlen m1 m2 r2 a2 a4 a5 hlc hx0
  clear hp0 hq0 e0
  go_enter Tryz.func41, Tryz.ntmps41
  go_upto_region 2 with fail
  refine opq (fun w' => (Bx w' (W.heap.size) (nC n (.slice Ai n.ins.length ci) (.slice Aw n.ws.length cw) (.slice Ab n.bs.length cb))) /\ (Bx w' (W.heap.size + 1) #[.int .i64 0, .int .i64 0, .int .i64 0, .int .i64 0]) /\ (Fr w' (W.heap.size + 1)) /\ (Bx w' (W.heap.size + 2) #[.int .i64 0, .int .i64 0, .int .i64 0, .int .i64 0]) /\ (Fr w' (W.heap.size + 2)) /\ Grown W w' /\ W.heap.size + 3 <= w'.heap.size) kKeepS ?_
  rintro W1 ⟨b4, b8, f8, b10, f10, g1, z1⟩
  go_wp2_with (refine wpList_load_box rfl 44 (.tmp 4) rfl W.heap.size (nC n (.slice Ai n.ins.length ci) (.slice Aw n.ws.length cw) (.slice Ab n.bs.length cb)) rfl b4 Tryz.underlying44 rfl N14 ?_)
  refine (VA.out _ (Grown.past g1)).mono ?_
  rintro e w2 ⟨rfl, g⟩
  obtain ⟨b42, b82, f82, b102, f102, g2, z2⟩ : (Bx w2 (W.heap.size) (nC n (.slice Ai n.ins.length ci) (.slice Aw n.ws.length cw) (.slice Ab n.bs.length cb))) /\ (Bx w2 (W.heap.size + 1) #[.int .i64 0, .int .i64 0, .int .i64 0, .int .i64 0]) /\ (Fr w2 (W.heap.size + 1)) /\ (Bx w2 (W.heap.size + 2) #[.int .i64 0, .int .i64 0, .int .i64 0, .int .i64 0]) /\ (Fr w2 (W.heap.size + 2)) /\ Grown W w2 /\ W.heap.size + 3 <= w2.heap.size := by (exact kKeepS)
  clear b4 b8 f8 b10 f10 g1 z1 g
  go_upto_region 7 with fail
  refine opq (fun w' => (Bx w' (W.heap.size) (nC n (.slice Ai n.ins.length ci) (.slice Aw n.ws.length cw) (.slice Ab n.bs.length cb))) /\ (Bx w' (W.heap.size + 1) #[.int .i64 0, .int .i64 0, .int .i64 0, .int .i64 0]) /\ (Fr w' (W.heap.size + 1)) /\ (Bx w' (W.heap.size + 2) #[.int .i64 0, .int .i64 0, .int .i64 0, .int .i64 0]) /\ (Fr w' (W.heap.size + 2)) /\ Grown W w' /\ W.heap.size + 3 <= w'.heap.size) kKeepS ?_
  rintro w3 ⟨b4, b8, f8, b10, f10, g1, z1⟩
  clear b42 b82 f82 b102 f102 g2 z2
  go_wp2_with fail
  go_loopw [13] (fun i wr => (i = .int .i64 0 /\ (Bx wr (W.heap.size) (nC n (.slice Ai n.ins.length ci) (.slice Aw n.ws.length cw) (.slice Ab n.bs.length cb))) /\ (Bx wr (W.heap.size + 1) #[.int .i64 0, .int .i64 0, .int .i64 0, .int .i64 0]) /\ (Fr wr (W.heap.size + 1)) /\ (Bx wr (W.heap.size + 2) #[.int .i64 0, .int .i64 0, .int .i64 0, .int .i64 0]) /\ (Fr wr (W.heap.size + 2)) /\ Grown W wr /\ W.heap.size + 3 <= wr.heap.size) ∨ (i = .int .i64 1 /\ (Bx wr (W.heap.size) (nC n (.slice Ai n.ins.length ci) (.slice Aw n.ws.length cw) (.slice Ab n.bs.length cb))) /\ (Bx wr (W.heap.size + 1) #[.int .i64 0, .int .i64 0, .int .i64 0, .int .i64 0]) /\ (Fr wr (W.heap.size + 1)) /\ (Bx wr (W.heap.size + 2) #[.int .i64 p0, .int .i64 q0, .int .i64 0, .int .i64 0]) /\ (Fr wr (W.heap.size + 2)) /\ Grown W wr /\ W.heap.size + 3 <= wr.heap.size)) (fun i _ => 1 - (intOf i).toNat)
  case atStart => exact Or.inl ⟨by first | rfl | go_num, b4, b8, f8, b10, f10, g1, z1⟩
  case round =>
    clear b4 b8 f8 b10 f10 g1 z1
    rcases hrel with ⟨rfl, b4, b8, f8, b10, f10, g1, z1⟩ | ⟨rfl, b4, b8, f8, b10, f10, g1, z1⟩
    . have dl : decide ((0 : Int) < (vs.length : Int)) = true := by rw [HL.out]; decide
      obtain ⟨y0, y1, y2, y3⟩ := (HC.out 0 (by rw [HL.out]; decide)).grow hlb (Grown.past g1)
      rw [HX0.out] at y0 y1 y2 y3
      simp only [Nat.zero_mul, Nat.add_zero] at y0 y1 y2 y3
      have hlb2 : lb < wr.heap.size := Nat.lt_of_lt_of_le hlb g1.2.2
      have il : (0 : Nat) < vs.length := by rw [HL.out]; decide
      go_wp2_with fail
      refine (RR.out _).mono ?_
      rintro e w5 ⟨rfl, g⟩
      obtain ⟨b4, b8, f8, b10, f10, g5, z5⟩ : (Bx w5 (W.heap.size) (nC n (.slice Ai n.ins.length ci) (.slice Aw n.ws.length cw) (.slice Ab n.bs.length cb))) /\ (Bx w5 (W.heap.size + 1) #[.int .i64 0, .int .i64 0, .int .i64 0, .int .i64 0]) /\ (Fr w5 (W.heap.size + 1)) /\ (Bx w5 (W.heap.size + 2) #[.int .i64 0, .int .i64 0, .int .i64 0, .int .i64 0]) /\ (Fr w5 (W.heap.size + 2)) /\ Grown W w5 /\ W.heap.size + 3 <= w5.heap.size := by (exact kKeepS)
      go_wp2_with fail
      go_roundw
      case rel => exact Or.inr ⟨by first | rfl | go_num, by (exact kKeepS), by (exact kKeepS), by (exact kKeepS), box4_at b10, by (exact kKeepS), by (exact kKeepS), by (exact kKeepS)⟩
      case measure => first | (simp [intOf]; done) | decide | (simp [intOf]; omega)
    . have dl : decide ((1 : Int) < (vs.length : Int)) = false := by rw [HL.out]; decide
      go_wp2_with ((refine wpList_store_box rfl 81 (.tmp 8) (.tmp 110) rfl (W.heap.size + 1) #[.int .i64 p0, .int .i64 q0, .int .i64 0, .int .i64 0] _ rfl rfl b8 f8 rfl A4 (by simp [Value.oneCell']) (fun w' => (Bx w' (W.heap.size + 1) #[.int .i64 p0, .int .i64 q0, .int .i64 0, .int .i64 0]) /\ Grown W w') ⟨box_setAll b8 rfl, grown_setAll (by omega) _ _ _ g1⟩ ?_); rintro w9 ⟨b9, g9⟩)
      exact ret_box rfl (W.heap.size + 1) #[.int .i64 p0, .int .i64 q0, .int .i64 0, .int .i64 0] _ (.int .i64 0) rfl rfl b9 Tryz.underlying81 rfl A4 rfl ⟨rfl, g9⟩
set_option maxHeartbeats 8000000 in
theorem rneeds_5 (n : NodeD) (vi vw vb lv : Value) (vs : List ValD) (first rows p0 q0 : Int) (W : World) (hin : NodeIn W n vi vw vb) (hl : IsVals W lv vs) (h0 : valueE n vs = 0) (k : rowsOk n vs first rows) (ho : n.op = 5) (hlen : vs.length = 1) (hp0 : Hid (p0 = (looksD n (vs.getD 0 default).h first rows).1)) (hq0 : Hid (q0 = (looksD n (vs.getD 0 default).h first rows).2)) :
    Calls Tryz.prog 41 #[.agg (nC n vi vw vb), lv, .int .i64 first, .int .i64 rows] W fun e w' => e = .returned (.tuple #[.agg #[.int .i64 p0, .int .i64 q0, .int .i64 0, .int .i64 0], .int .i64 0]) /\ Grown W w' := by
  obtain ⟨m, hm⟩ : ∃ m, madeS n vs = m := ⟨_, rfl⟩
  have mm := (value_parts h0).2.2.1
  rw [hm] at mm
  obtain ⟨m1, m2, _⟩ := mm
  obtain ⟨f0, r1, r2⟩ := k
  rw [hm] at r2
  have VA : Hid (∀ w, Past W w -> Calls Tryz.prog 22 #[.agg (nC n vi vw vb), lv] w fun e w' => e = .returned (.tuple #[.agg #[.int .i64 m.1, .int .i64 m.2.1, .int .i64 m.2.2, .int .i64 n.zero], .int .i64 0]) /\ Grown w w') := Lib.hid (by
    intro w p
    have := rvalue_any n vi vw vb lv vs w (hin.grow p) (hl.grow p)
    unfold ValuePost at this
    rw [valueV_ok h0, h0, hm] at this
    exact this)
  have e0 : looksD n (vs.getD 0 default).h first rows = reachI first rows n.k n.stride n.pad (vs.getD 0 default).h := by unfold looksD; simp [ho]
  have mv0 := (value_parts h0).2.1 0 (by omega)
  obtain ⟨v0a, v0b, _⟩ := mv0
  obtain ⟨x0, hx0⟩ : ∃ x, vs.getD 0 default = x := ⟨_, rfl⟩
  rw [hx0] at e0 v0a v0b
  rw [hx0, e0] at hp0 hq0
  have RR := Lib.hid (fun w => rreach_any first rows n.k n.stride n.pad x0.h p0 q0 w (by omega) (by omega) hp0 hq0)
  have w0 : IntKind.i64.wrap (first + rows) = first + rows := IntWalk.i64_in _ (by omega)
  have t1 : decide (first < 0) = false := by simp; omega
  have t2 : decide (rows < 1) = false := by simp; omega
  have t3 : decide (m.1 < first) = false := by simp; omega
  have t4 : decide (m.1 - first < rows) = false := by simp; omega
  have t5 : IntKind.i64.wrap (m.1 - first) = m.1 - first := IntWalk.i64_in _ (by omega)
  have c1 : (n.op == 1) = false := by rw [ho]; decide
  have c2 : (n.op == 2) = false := by rw [ho]; decide
  have c4 : (n.op == 4) = false := by rw [ho]; decide
  have c5 : (n.op == 5) = true := by rw [ho]; decide
  have HL := Lib.hid hlen
  have HX0 := Lib.hid hx0
  obtain ⟨Ai, ci, rfl, _⟩ := hin.1
  obtain ⟨Aw, cw, rfl, _⟩ := hin.2.1
  obtain ⟨Ab, cb, rfl, _⟩ := hin.2.2
  obtain ⟨A1, c1, rfl, a1, a2, _, a4, a5⟩ := hl
  obtain ⟨lb, lo, rfl, hlb, hlc⟩ := a5 (by omega)
  have HC := Lib.hid hlc
  have k1 : vs.length <= 9223372036854775807 := by omega
  clear hin h0 hm ho hlen m1 m2 r2 a2 a4 a5 hlc hx0
  clear hp0 hq0 e0
  go_enter Tryz.func41, Tryz.ntmps41
  go_upto_region 2 with fail
  refine opq (fun w' => (Bx w' (W.heap.size) (nC n (.slice Ai n.ins.length ci) (.slice Aw n.ws.length cw) (.slice Ab n.bs.length cb))) /\ (Bx w' (W.heap.size + 1) #[.int .i64 0, .int .i64 0, .int .i64 0, .int .i64 0]) /\ (Fr w' (W.heap.size + 1)) /\ (Bx w' (W.heap.size + 2) #[.int .i64 0, .int .i64 0, .int .i64 0, .int .i64 0]) /\ (Fr w' (W.heap.size + 2)) /\ Grown W w' /\ W.heap.size + 3 <= w'.heap.size) kKeepS ?_
  rintro W1 ⟨b4, b8, f8, b10, f10, g1, z1⟩
  go_wp2_with (refine wpList_load_box rfl 44 (.tmp 4) rfl W.heap.size (nC n (.slice Ai n.ins.length ci) (.slice Aw n.ws.length cw) (.slice Ab n.bs.length cb)) rfl b4 Tryz.underlying44 rfl N14 ?_)
  refine (VA.out _ (Grown.past g1)).mono ?_
  rintro e w2 ⟨rfl, g⟩
  obtain ⟨b42, b82, f82, b102, f102, g2, z2⟩ : (Bx w2 (W.heap.size) (nC n (.slice Ai n.ins.length ci) (.slice Aw n.ws.length cw) (.slice Ab n.bs.length cb))) /\ (Bx w2 (W.heap.size + 1) #[.int .i64 0, .int .i64 0, .int .i64 0, .int .i64 0]) /\ (Fr w2 (W.heap.size + 1)) /\ (Bx w2 (W.heap.size + 2) #[.int .i64 0, .int .i64 0, .int .i64 0, .int .i64 0]) /\ (Fr w2 (W.heap.size + 2)) /\ Grown W w2 /\ W.heap.size + 3 <= w2.heap.size := by (exact kKeepS)
  clear b4 b8 f8 b10 f10 g1 z1 g
  go_upto_region 7 with fail
  refine opq (fun w' => (Bx w' (W.heap.size) (nC n (.slice Ai n.ins.length ci) (.slice Aw n.ws.length cw) (.slice Ab n.bs.length cb))) /\ (Bx w' (W.heap.size + 1) #[.int .i64 0, .int .i64 0, .int .i64 0, .int .i64 0]) /\ (Fr w' (W.heap.size + 1)) /\ (Bx w' (W.heap.size + 2) #[.int .i64 0, .int .i64 0, .int .i64 0, .int .i64 0]) /\ (Fr w' (W.heap.size + 2)) /\ Grown W w' /\ W.heap.size + 3 <= w'.heap.size) kKeepS ?_
  rintro w3 ⟨b4, b8, f8, b10, f10, g1, z1⟩
  clear b42 b82 f82 b102 f102 g2 z2
  go_wp2_with fail
  go_loopw [13] (fun i wr => (i = .int .i64 0 /\ (Bx wr (W.heap.size) (nC n (.slice Ai n.ins.length ci) (.slice Aw n.ws.length cw) (.slice Ab n.bs.length cb))) /\ (Bx wr (W.heap.size + 1) #[.int .i64 0, .int .i64 0, .int .i64 0, .int .i64 0]) /\ (Fr wr (W.heap.size + 1)) /\ (Bx wr (W.heap.size + 2) #[.int .i64 0, .int .i64 0, .int .i64 0, .int .i64 0]) /\ (Fr wr (W.heap.size + 2)) /\ Grown W wr /\ W.heap.size + 3 <= wr.heap.size) ∨ (i = .int .i64 1 /\ (Bx wr (W.heap.size) (nC n (.slice Ai n.ins.length ci) (.slice Aw n.ws.length cw) (.slice Ab n.bs.length cb))) /\ (Bx wr (W.heap.size + 1) #[.int .i64 0, .int .i64 0, .int .i64 0, .int .i64 0]) /\ (Fr wr (W.heap.size + 1)) /\ (Bx wr (W.heap.size + 2) #[.int .i64 p0, .int .i64 q0, .int .i64 0, .int .i64 0]) /\ (Fr wr (W.heap.size + 2)) /\ Grown W wr /\ W.heap.size + 3 <= wr.heap.size)) (fun i _ => 1 - (intOf i).toNat)
  case atStart => exact Or.inl ⟨by first | rfl | go_num, b4, b8, f8, b10, f10, g1, z1⟩
  case round =>
    clear b4 b8 f8 b10 f10 g1 z1
    rcases hrel with ⟨rfl, b4, b8, f8, b10, f10, g1, z1⟩ | ⟨rfl, b4, b8, f8, b10, f10, g1, z1⟩
    . have dl : decide ((0 : Int) < (vs.length : Int)) = true := by rw [HL.out]; decide
      obtain ⟨y0, y1, y2, y3⟩ := (HC.out 0 (by rw [HL.out]; decide)).grow hlb (Grown.past g1)
      rw [HX0.out] at y0 y1 y2 y3
      simp only [Nat.zero_mul, Nat.add_zero] at y0 y1 y2 y3
      have hlb2 : lb < wr.heap.size := Nat.lt_of_lt_of_le hlb g1.2.2
      have il : (0 : Nat) < vs.length := by rw [HL.out]; decide
      go_wp2_with fail
      refine (RR.out _).mono ?_
      rintro e w5 ⟨rfl, g⟩
      obtain ⟨b4, b8, f8, b10, f10, g5, z5⟩ : (Bx w5 (W.heap.size) (nC n (.slice Ai n.ins.length ci) (.slice Aw n.ws.length cw) (.slice Ab n.bs.length cb))) /\ (Bx w5 (W.heap.size + 1) #[.int .i64 0, .int .i64 0, .int .i64 0, .int .i64 0]) /\ (Fr w5 (W.heap.size + 1)) /\ (Bx w5 (W.heap.size + 2) #[.int .i64 0, .int .i64 0, .int .i64 0, .int .i64 0]) /\ (Fr w5 (W.heap.size + 2)) /\ Grown W w5 /\ W.heap.size + 3 <= w5.heap.size := by (exact kKeepS)
      go_wp2_with fail
      go_roundw
      case rel => exact Or.inr ⟨by first | rfl | go_num, by (exact kKeepS), by (exact kKeepS), by (exact kKeepS), box4_at b10, by (exact kKeepS), by (exact kKeepS), by (exact kKeepS)⟩
      case measure => first | (simp [intOf]; done) | decide | (simp [intOf]; omega)
    . have dl : decide ((1 : Int) < (vs.length : Int)) = false := by rw [HL.out]; decide
      go_wp2_with ((refine wpList_store_box rfl 81 (.tmp 8) (.tmp 110) rfl (W.heap.size + 1) #[.int .i64 p0, .int .i64 q0, .int .i64 0, .int .i64 0] _ rfl rfl b8 f8 rfl A4 (by simp [Value.oneCell']) (fun w' => (Bx w' (W.heap.size + 1) #[.int .i64 p0, .int .i64 q0, .int .i64 0, .int .i64 0]) /\ Grown W w') ⟨box_setAll b8 rfl, grown_setAll (by omega) _ _ _ g1⟩ ?_); rintro w9 ⟨b9, g9⟩)
      exact ret_box rfl (W.heap.size + 1) #[.int .i64 p0, .int .i64 q0, .int .i64 0, .int .i64 0] _ (.int .i64 0) rfl rfl b9 Tryz.underlying81 rfl A4 rfl ⟨rfl, g9⟩
set_option maxHeartbeats 8000000 in
theorem rneeds_11 (n : NodeD) (vi vw vb lv : Value) (vs : List ValD) (first rows p0 q0 : Int) (W : World) (hin : NodeIn W n vi vw vb) (hl : IsVals W lv vs) (h0 : valueE n vs = 0) (k : rowsOk n vs first rows) (ho : n.op = 11) (hlen : vs.length = 1) (hp0 : Hid (p0 = (looksD n (vs.getD 0 default).h first rows).1)) (hq0 : Hid (q0 = (looksD n (vs.getD 0 default).h first rows).2)) :
    Calls Tryz.prog 41 #[.agg (nC n vi vw vb), lv, .int .i64 first, .int .i64 rows] W fun e w' => e = .returned (.tuple #[.agg #[.int .i64 p0, .int .i64 q0, .int .i64 0, .int .i64 0], .int .i64 0]) /\ Grown W w' := by
  obtain ⟨m, hm⟩ : ∃ m, madeS n vs = m := ⟨_, rfl⟩
  have mm := (value_parts h0).2.2.1
  rw [hm] at mm
  obtain ⟨m1, m2, _⟩ := mm
  obtain ⟨f0, r1, r2⟩ := k
  rw [hm] at r2
  have VA : Hid (∀ w, Past W w -> Calls Tryz.prog 22 #[.agg (nC n vi vw vb), lv] w fun e w' => e = .returned (.tuple #[.agg #[.int .i64 m.1, .int .i64 m.2.1, .int .i64 m.2.2, .int .i64 n.zero], .int .i64 0]) /\ Grown w w') := Lib.hid (by
    intro w p
    have := rvalue_any n vi vw vb lv vs w (hin.grow p) (hl.grow p)
    unfold ValuePost at this
    rw [valueV_ok h0, h0, hm] at this
    exact this)
  have e0 : looksD n (vs.getD 0 default).h first rows = (0, (vs.getD 0 default).h) := by unfold looksD; simp [ho]
  have mv0 := (value_parts h0).2.1 0 (by omega)
  obtain ⟨v0a, v0b, _⟩ := mv0
  obtain ⟨x0, hx0⟩ : ∃ x, vs.getD 0 default = x := ⟨_, rfl⟩
  rw [hx0] at e0 v0a v0b
  rw [hx0, e0] at hp0 hq0
  have ep0 : p0 = 0 := hp0.out
  have eq0 : q0 = x0.h := hq0.out
  have w0 : IntKind.i64.wrap (first + rows) = first + rows := IntWalk.i64_in _ (by omega)
  have t1 : decide (first < 0) = false := by simp; omega
  have t2 : decide (rows < 1) = false := by simp; omega
  have t3 : decide (m.1 < first) = false := by simp; omega
  have t4 : decide (m.1 - first < rows) = false := by simp; omega
  have t5 : IntKind.i64.wrap (m.1 - first) = m.1 - first := IntWalk.i64_in _ (by omega)
  have c1 : (n.op == 1) = false := by rw [ho]; decide
  have c2 : (n.op == 2) = false := by rw [ho]; decide
  have c4 : (n.op == 4) = false := by rw [ho]; decide
  have c5 : (n.op == 5) = false := by rw [ho]; decide
  have c9 : (n.op == 9) = false := by rw [ho]; decide
  have c3 : (n.op == 3) = false := by rw [ho]; decide
  have c11 : (n.op == 11) = true := by rw [ho]; decide
  have HL := Lib.hid hlen
  have HX0 := Lib.hid hx0
  obtain ⟨Ai, ci, rfl, _⟩ := hin.1
  obtain ⟨Aw, cw, rfl, _⟩ := hin.2.1
  obtain ⟨Ab, cb, rfl, _⟩ := hin.2.2
  obtain ⟨A1, c1, rfl, a1, a2, _, a4, a5⟩ := hl
  obtain ⟨lb, lo, rfl, hlb, hlc⟩ := a5 (by omega)
  have HC := Lib.hid hlc
  have k1 : vs.length <= 9223372036854775807 := by omega
  clear hin h0 hm ho hlen m1 m2 r2 a2 a4 a5 hlc hx0
  clear hp0 hq0 e0
  subst ep0 eq0
  go_enter Tryz.func41, Tryz.ntmps41
  go_upto_region 2 with fail
  refine opq (fun w' => (Bx w' (W.heap.size) (nC n (.slice Ai n.ins.length ci) (.slice Aw n.ws.length cw) (.slice Ab n.bs.length cb))) /\ (Bx w' (W.heap.size + 1) #[.int .i64 0, .int .i64 0, .int .i64 0, .int .i64 0]) /\ (Fr w' (W.heap.size + 1)) /\ (Bx w' (W.heap.size + 2) #[.int .i64 0, .int .i64 0, .int .i64 0, .int .i64 0]) /\ (Fr w' (W.heap.size + 2)) /\ Grown W w' /\ W.heap.size + 3 <= w'.heap.size) kKeepS ?_
  rintro W1 ⟨b4, b8, f8, b10, f10, g1, z1⟩
  go_wp2_with (refine wpList_load_box rfl 44 (.tmp 4) rfl W.heap.size (nC n (.slice Ai n.ins.length ci) (.slice Aw n.ws.length cw) (.slice Ab n.bs.length cb)) rfl b4 Tryz.underlying44 rfl N14 ?_)
  refine (VA.out _ (Grown.past g1)).mono ?_
  rintro e w2 ⟨rfl, g⟩
  obtain ⟨b42, b82, f82, b102, f102, g2, z2⟩ : (Bx w2 (W.heap.size) (nC n (.slice Ai n.ins.length ci) (.slice Aw n.ws.length cw) (.slice Ab n.bs.length cb))) /\ (Bx w2 (W.heap.size + 1) #[.int .i64 0, .int .i64 0, .int .i64 0, .int .i64 0]) /\ (Fr w2 (W.heap.size + 1)) /\ (Bx w2 (W.heap.size + 2) #[.int .i64 0, .int .i64 0, .int .i64 0, .int .i64 0]) /\ (Fr w2 (W.heap.size + 2)) /\ Grown W w2 /\ W.heap.size + 3 <= w2.heap.size := by (exact kKeepS)
  clear b4 b8 f8 b10 f10 g1 z1 g
  go_upto_region 7 with fail
  refine opq (fun w' => (Bx w' (W.heap.size) (nC n (.slice Ai n.ins.length ci) (.slice Aw n.ws.length cw) (.slice Ab n.bs.length cb))) /\ (Bx w' (W.heap.size + 1) #[.int .i64 0, .int .i64 0, .int .i64 0, .int .i64 0]) /\ (Fr w' (W.heap.size + 1)) /\ (Bx w' (W.heap.size + 2) #[.int .i64 0, .int .i64 0, .int .i64 0, .int .i64 0]) /\ (Fr w' (W.heap.size + 2)) /\ Grown W w' /\ W.heap.size + 3 <= w'.heap.size) kKeepS ?_
  rintro w3 ⟨b4, b8, f8, b10, f10, g1, z1⟩
  clear b42 b82 f82 b102 f102 g2 z2
  go_wp2_with fail
  go_loopw [13] (fun i wr => (i = .int .i64 0 /\ (Bx wr (W.heap.size) (nC n (.slice Ai n.ins.length ci) (.slice Aw n.ws.length cw) (.slice Ab n.bs.length cb))) /\ (Bx wr (W.heap.size + 1) #[.int .i64 0, .int .i64 0, .int .i64 0, .int .i64 0]) /\ (Fr wr (W.heap.size + 1)) /\ (Bx wr (W.heap.size + 2) #[.int .i64 0, .int .i64 0, .int .i64 0, .int .i64 0]) /\ (Fr wr (W.heap.size + 2)) /\ Grown W wr /\ W.heap.size + 3 <= wr.heap.size) ∨ (i = .int .i64 1 /\ (Bx wr (W.heap.size) (nC n (.slice Ai n.ins.length ci) (.slice Aw n.ws.length cw) (.slice Ab n.bs.length cb))) /\ (Bx wr (W.heap.size + 1) #[.int .i64 0, .int .i64 0, .int .i64 0, .int .i64 0]) /\ (Fr wr (W.heap.size + 1)) /\ (Bx wr (W.heap.size + 2) #[.int .i64 0, .int .i64 x0.h, .int .i64 0, .int .i64 0]) /\ (Fr wr (W.heap.size + 2)) /\ Grown W wr /\ W.heap.size + 3 <= wr.heap.size)) (fun i _ => 1 - (intOf i).toNat)
  case atStart => exact Or.inl ⟨by first | rfl | go_num, b4, b8, f8, b10, f10, g1, z1⟩
  case round =>
    clear b4 b8 f8 b10 f10 g1 z1
    rcases hrel with ⟨rfl, b4, b8, f8, b10, f10, g1, z1⟩ | ⟨rfl, b4, b8, f8, b10, f10, g1, z1⟩
    . have dl : decide ((0 : Int) < (vs.length : Int)) = true := by rw [HL.out]; decide
      obtain ⟨y0, y1, y2, y3⟩ := (HC.out 0 (by rw [HL.out]; decide)).grow hlb (Grown.past g1)
      rw [HX0.out] at y0 y1 y2 y3
      simp only [Nat.zero_mul, Nat.add_zero] at y0 y1 y2 y3
      have hlb2 : lb < wr.heap.size := Nat.lt_of_lt_of_le hlb g1.2.2
      have il : (0 : Nat) < vs.length := by rw [HL.out]; decide
      go_wp2_with fail
      go_roundw
      case rel => exact Or.inr ⟨by first | rfl | go_num, by (exact kKeepS), by (exact kKeepS), by (exact kKeepS), box4_at b10, by (exact kKeepS), by (exact kKeepS), by (exact kKeepS)⟩
      case measure => first | (simp [intOf]; done) | decide | (simp [intOf]; omega)
    . have dl : decide ((1 : Int) < (vs.length : Int)) = false := by rw [HL.out]; decide
      go_wp2_with ((refine wpList_store_box rfl 81 (.tmp 8) (.tmp 110) rfl (W.heap.size + 1) #[.int .i64 0, .int .i64 x0.h, .int .i64 0, .int .i64 0] _ rfl rfl b8 f8 rfl A4 (by simp [Value.oneCell']) (fun w' => (Bx w' (W.heap.size + 1) #[.int .i64 0, .int .i64 x0.h, .int .i64 0, .int .i64 0]) /\ Grown W w') ⟨box_setAll b8 rfl, grown_setAll (by omega) _ _ _ g1⟩ ?_); rintro w9 ⟨b9, g9⟩)
      exact ret_box rfl (W.heap.size + 1) #[.int .i64 0, .int .i64 x0.h, .int .i64 0, .int .i64 0] _ (.int .i64 0) rfl rfl b9 Tryz.underlying81 rfl A4 rfl ⟨rfl, g9⟩
end Go.Proofs.YtliijchcpooplaaGreat
