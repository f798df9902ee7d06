/- kern: views of one value. -/
import Derived.Deep.DeepCutAuto
import Derived.Test.YtliijchcpooplaaGreatSMFix
import Derived.Test.YtliijchcpooplaaGreatSMKR
namespace Go.Proofs.YtliijchcpooplaaGreat
open Go.ChangeShapes Go.WideShapes Go.ChangeAt Go.RowKit
set_option maxRecDepth 20000
set_option linter.unusedVariables false

set_option maxHeartbeats 8000000 in
theorem views_1 (n : NodeD) (vi vw vb lv : Value) (vs : List ValD) (m : Int × Int × Int) (a  : ViewD) (sa  : Value) (p0 p1 q0 q1 : Int) (W : World) (hl : IsVals W lv vs) (hlen : vs.length = 1) (na : IsNums .i8 W sa a.xs) (fa : FullV a) (ea : a.v = vs.getD 0 default) (pa : p0 = p1 ∨ (0 ≤ p0 ∧ p1 ≤ a.v.h)) :
    Calls Tryz.prog 58 #[.agg #[.int .i64 n.op, vi, .int .i64 n.k, .int .i64 n.stride, .int .i64 n.pad, .int .i64 n.out, .int .i64 n.mul, .int .i64 n.shift, .int .i64 n.zero, .int .i64 n.th, .int .i64 n.tw, .int .i64 n.tc, vw, vb, lv, .int .i64 m.1, .int .i64 m.2.1, .int .i64 m.2.2], .agg #[.int .i64 0, .int .i64 a.many, sa, .int .i64 0, .int .i64 0, .slice none 0 0], .agg #[.int .i64 p0, .int .i64 p1, .int .i64 q0, .int .i64 q1]] W fun e w' => e = .returned (.tuple #[.agg #[.int .i64 a.v.h, .int .i64 a.v.w, .int .i64 a.v.c, .int .i64 a.v.z, .int .i64 a.base, .int .i64 a.many, sa, .int .i64 0, .int .i64 0, .int .i64 0, .int .i64 0, .int .i64 0, .int .i64 0, .slice none 0 0], .bool true]) ∧ Grown W w' := by
  obtain ⟨A1, c1, rfl, a1, a2, _, a4, a5⟩ := hl
  obtain ⟨lb, lo, rfl, hlb, hlc⟩ := a5 (by omega)
  have HC := Lib.hid hlc
  have k1 : vs.length ≤ 9223372036854775807 := by omega
  have HL := Lib.hid hlen
  have EA := Lib.hid ea
  have BA : a.base = 0 := fa.2.1
  have BA' := Lib.hid BA
  have MA := Lib.hid (fun w (g : Grown W w) => may_full a sa w (na.grow (Grown.past g)) fa)
  have HA := Lib.hid (fun w => has_full a sa p0 p1 w fa pa)
  obtain ⟨A2, c2, rfl, _⟩ := na
  clear a2 a4 a5 hlc hlen ea fa pa BA
  go_enter Tryz.func58, Tryz.ntmps58
  go_upto_region 2 with fail
  refine opq (fun w' => (Bx w' (W.heap.size) #[.int .i64 n.op, vi, .int .i64 n.k, .int .i64 n.stride, .int .i64 n.pad, .int .i64 n.out, .int .i64 n.mul, .int .i64 n.shift, .int .i64 n.zero, .int .i64 n.th, .int .i64 n.tw, .int .i64 n.tc, vw, vb, (.slice (some ⟨lb, lo, none⟩) vs.length c1), .int .i64 m.1, .int .i64 m.2.1, .int .i64 m.2.2]) ∧ (Bx w' (W.heap.size + 1) #[.int .i64 0, .int .i64 a.many, (.slice A2 a.xs.length c2), .int .i64 0, .int .i64 0, .slice none 0 0]) ∧ (Bx w' (W.heap.size + 2) #[.int .i64 p0, .int .i64 p1, .int .i64 q0, .int .i64 q1]) ∧ (Bx w' (W.heap.size + 3) #[.int .i64 0, .int .i64 0, .int .i64 0, .int .i64 0, .int .i64 0, .int .i64 0, .slice none 0 0, .int .i64 0, .int .i64 0, .int .i64 0, .int .i64 0, .int .i64 0, .int .i64 0, .slice none 0 0]) ∧ (Fr w' (W.heap.size + 3)) ∧ (Bx w' (W.heap.size + 4) #[.int .i64 0, .int .i64 0, .int .i64 0, .int .i64 0, .int .i64 0, .int .i64 0, .slice none 0 0, .int .i64 0, .int .i64 0, .int .i64 0, .int .i64 0, .int .i64 0, .int .i64 0, .slice none 0 0]) ∧ (Fr w' (W.heap.size + 4)) ∧ Grown W w' ∧ W.heap.size + 5 ≤ w'.heap.size) kKeepS ?_
  rintro W2 ⟨bt, b4, b5, b6, f6, b8, f8, g2, z2⟩
  go_wp2_with fail
  go_loopw [14] (fun i wr => (i = .int .i64 0 ∧ (Bx wr (W.heap.size) #[.int .i64 n.op, vi, .int .i64 n.k, .int .i64 n.stride, .int .i64 n.pad, .int .i64 n.out, .int .i64 n.mul, .int .i64 n.shift, .int .i64 n.zero, .int .i64 n.th, .int .i64 n.tw, .int .i64 n.tc, vw, vb, (.slice (some ⟨lb, lo, none⟩) vs.length c1), .int .i64 m.1, .int .i64 m.2.1, .int .i64 m.2.2]) ∧ (Bx wr (W.heap.size + 1) #[.int .i64 0, .int .i64 a.many, (.slice A2 a.xs.length c2), .int .i64 0, .int .i64 0, .slice none 0 0]) ∧ (Bx wr (W.heap.size + 2) #[.int .i64 p0, .int .i64 p1, .int .i64 q0, .int .i64 q1]) ∧ (Bx wr (W.heap.size + 3) #[.int .i64 0, .int .i64 0, .int .i64 0, .int .i64 0, .int .i64 0, .int .i64 0, .slice none 0 0, .int .i64 0, .int .i64 0, .int .i64 0, .int .i64 0, .int .i64 0, .int .i64 0, .slice none 0 0]) ∧ (Fr wr (W.heap.size + 3)) ∧ (Bx wr (W.heap.size + 4) #[.int .i64 0, .int .i64 0, .int .i64 0, .int .i64 0, .int .i64 0, .int .i64 0, .slice none 0 0, .int .i64 0, .int .i64 0, .int .i64 0, .int .i64 0, .int .i64 0, .int .i64 0, .slice none 0 0]) ∧ (Fr wr (W.heap.size + 4)) ∧ Grown W wr ∧ W.heap.size + 5 ≤ wr.heap.size) ∨ (i = .int .i64 1 ∧ (Bx wr (W.heap.size) #[.int .i64 n.op, vi, .int .i64 n.k, .int .i64 n.stride, .int .i64 n.pad, .int .i64 n.out, .int .i64 n.mul, .int .i64 n.shift, .int .i64 n.zero, .int .i64 n.th, .int .i64 n.tw, .int .i64 n.tc, vw, vb, (.slice (some ⟨lb, lo, none⟩) vs.length c1), .int .i64 m.1, .int .i64 m.2.1, .int .i64 m.2.2]) ∧ (Bx wr (W.heap.size + 1) #[.int .i64 0, .int .i64 a.many, (.slice A2 a.xs.length c2), .int .i64 0, .int .i64 0, .slice none 0 0]) ∧ (Bx wr (W.heap.size + 2) #[.int .i64 p0, .int .i64 p1, .int .i64 q0, .int .i64 q1]) ∧ (Bx wr (W.heap.size + 3) #[.int .i64 0, .int .i64 0, .int .i64 0, .int .i64 0, .int .i64 0, .int .i64 0, .slice none 0 0, .int .i64 0, .int .i64 0, .int .i64 0, .int .i64 0, .int .i64 0, .int .i64 0, .slice none 0 0]) ∧ (Fr wr (W.heap.size + 3)) ∧ (Bx wr (W.heap.size + 4) #[.int .i64 a.v.h, .int .i64 a.v.w, .int .i64 a.v.c, .int .i64 a.v.z, .int .i64 a.base, .int .i64 a.many, (.slice A2 a.xs.length c2), .int .i64 0, .int .i64 0, .int .i64 0, .int .i64 0, .int .i64 0, .int .i64 0, .slice none 0 0]) ∧ (Fr wr (W.heap.size + 4)) ∧ Grown W wr ∧ W.heap.size + 5 ≤ wr.heap.size)) (fun i _ => 1 - (intOf i).toNat)
  case atStart => exact Or.inl ⟨by first | rfl | go_num, bt, b4, b5, b6, f6, b8, f8, g2, z2⟩
  case round =>
    clear bt b4 b5 b6 f6 b8 f8 g2 z2
    rcases hrel with ⟨rfl, bt, b4, b5, b6, f6, b8, f8, g2, z2⟩ | ⟨rfl, bt, b4, b5, b6, f6, b8, f8, g2, z2⟩
    · have dl : decide ((0 : Int) < (vs.length : Int)) = true := by rw [HL.out]; decide
      obtain ⟨y0, y1, y2, y3⟩ := (HC.out 0 (by rw [HL.out]; decide)).grow hlb (Grown.past g2)
      rw [← EA.out] at y0 y1 y2 y3
      simp only [Nat.zero_mul, Nat.add_zero] at y0 y1 y2 y3
      have hlb2 : lb < wr.heap.size := Nat.lt_of_lt_of_le hlb g2.2.2
      have il : (0 : Nat) < vs.length := by rw [HL.out]; decide
      go_upto_region 5 with fail
      refine opq (fun w' => (Bx w' (W.heap.size) #[.int .i64 n.op, vi, .int .i64 n.k, .int .i64 n.stride, .int .i64 n.pad, .int .i64 n.out, .int .i64 n.mul, .int .i64 n.shift, .int .i64 n.zero, .int .i64 n.th, .int .i64 n.tw, .int .i64 n.tc, vw, vb, (.slice (some ⟨lb, lo, none⟩) vs.length c1), .int .i64 m.1, .int .i64 m.2.1, .int .i64 m.2.2]) ∧ (Bx w' (W.heap.size + 1) #[.int .i64 0, .int .i64 a.many, (.slice A2 a.xs.length c2), .int .i64 0, .int .i64 0, .slice none 0 0]) ∧ (Bx w' (W.heap.size + 2) #[.int .i64 p0, .int .i64 p1, .int .i64 q0, .int .i64 q1]) ∧ (Bx w' (W.heap.size + 3) #[.int .i64 0, .int .i64 0, .int .i64 0, .int .i64 0, .int .i64 0, .int .i64 0, .slice none 0 0, .int .i64 0, .int .i64 0, .int .i64 0, .int .i64 0, .int .i64 0, .int .i64 0, .slice none 0 0]) ∧ (Fr w' (W.heap.size + 3)) ∧ (Bx w' (W.heap.size + 4) #[.int .i64 0, .int .i64 0, .int .i64 0, .int .i64 0, .int .i64 0, .int .i64 0, .slice none 0 0, .int .i64 0, .int .i64 0, .int .i64 0, .int .i64 0, .int .i64 0, .int .i64 0, .slice none 0 0]) ∧ (Fr w' (W.heap.size + 4)) ∧ Grown W w' ∧ (Bx w' (wr.heap.size) #[.int .i64 a.v.h, .int .i64 a.v.w, .int .i64 a.v.c, .int .i64 a.v.z]) ∧ wr.heap.size + 1 ≤ w'.heap.size) kKeepS ?_
      rintro w4 ⟨bt, b4, b5, b6, f6, b8, f8, g4, b10, z4⟩
      obtain ⟨P10, hP10⟩ : ∃ P10, wr.heap.size = P10 := ⟨_, rfl⟩
      rw [hP10] at b10 z4 z2
      rw [hP10]
      clear hP10 y0 y1 y2 y3 hlb2 g2
      refine wp_region_stage [7] [fun w' => (Bx w' (W.heap.size) #[.int .i64 n.op, vi, .int .i64 n.k, .int .i64 n.stride, .int .i64 n.pad, .int .i64 n.out, .int .i64 n.mul, .int .i64 n.shift, .int .i64 n.zero, .int .i64 n.th, .int .i64 n.tw, .int .i64 n.tc, vw, vb, (.slice (some ⟨lb, lo, none⟩) vs.length c1), .int .i64 m.1, .int .i64 m.2.1, .int .i64 m.2.2]) ∧ (Bx w' (W.heap.size + 1) #[.int .i64 0, .int .i64 a.many, (.slice A2 a.xs.length c2), .int .i64 0, .int .i64 0, .slice none 0 0]) ∧ (Bx w' (W.heap.size + 2) #[.int .i64 p0, .int .i64 p1, .int .i64 q0, .int .i64 q1]) ∧ (Bx w' (W.heap.size + 3) #[.int .i64 0, .int .i64 0, .int .i64 0, .int .i64 0, .int .i64 0, .int .i64 0, .slice none 0 0, .int .i64 0, .int .i64 0, .int .i64 0, .int .i64 0, .int .i64 0, .int .i64 0, .slice none 0 0]) ∧ (Fr w' (W.heap.size + 3)) ∧ (Bx w' (W.heap.size + 4) #[.int .i64 0, .int .i64 0, .int .i64 0, .int .i64 0, .int .i64 0, .int .i64 0, .slice none 0 0, .int .i64 0, .int .i64 0, .int .i64 0, .int .i64 0, .int .i64 0, .int .i64 0, .slice none 0 0]) ∧ (Fr w' (W.heap.size + 4)) ∧ Grown W w' ∧ (Bx w' P10 #[.int .i64 a.v.h, .int .i64 a.v.w, .int .i64 a.v.c, .int .i64 a.v.z]) ∧ P10 + 1 ≤ w'.heap.size, fun w' => (Bx w' (W.heap.size) #[.int .i64 n.op, vi, .int .i64 n.k, .int .i64 n.stride, .int .i64 n.pad, .int .i64 n.out, .int .i64 n.mul, .int .i64 n.shift, .int .i64 n.zero, .int .i64 n.th, .int .i64 n.tw, .int .i64 n.tc, vw, vb, (.slice (some ⟨lb, lo, none⟩) vs.length c1), .int .i64 m.1, .int .i64 m.2.1, .int .i64 m.2.2]) ∧ (Bx w' (W.heap.size + 1) #[.int .i64 0, .int .i64 a.many, (.slice A2 a.xs.length c2), .int .i64 0, .int .i64 0, .slice none 0 0]) ∧ (Bx w' (W.heap.size + 2) #[.int .i64 p0, .int .i64 p1, .int .i64 q0, .int .i64 q1]) ∧ (Bx w' (W.heap.size + 3) #[.int .i64 0, .int .i64 0, .int .i64 0, .int .i64 0, .int .i64 0, .int .i64 0, .slice none 0 0, .int .i64 0, .int .i64 0, .int .i64 0, .int .i64 0, .int .i64 0, .int .i64 0, .slice none 0 0]) ∧ (Fr w' (W.heap.size + 3)) ∧ (Bx w' (W.heap.size + 4) #[.int .i64 a.v.h, .int .i64 a.v.w, .int .i64 a.v.c, .int .i64 a.v.z, .int .i64 a.base, .int .i64 a.many, (.slice A2 a.xs.length c2), .int .i64 0, .int .i64 0, .int .i64 0, .int .i64 0, .int .i64 0, .int .i64 0, .slice none 0 0]) ∧ (Fr w' (W.heap.size + 4)) ∧ Grown W w' ∧ (Bx w' P10 #[.int .i64 a.v.h, .int .i64 a.v.w, .int .i64 a.v.c, .int .i64 a.v.z]) ∧ P10 + 1 ≤ w'.heap.size] [(19, ?vr019), (20, ?vr020), (21, ?vr021), (22, ?vr022), (23, ?vr023), (24, ?vr024), (25, ?vr025)] [19, 20, 21, 22, 23, 24, 25] (by kernel_rfl) (by kernel_rfl) rfl (by kernel_rfl) ⟨bt, b4, b5, b6, f6, b8, f8, g4, b10, z4⟩ (fun w h => h) ?allr0 ?forr0 ?finr0
      case allr0 =>
        simp only [fillA, Act.put, List.setIfInBounds_toArray, List.set_cons_zero, List.set_cons_succ]
        refine ⟨?_, ?_, True.intro⟩
        all_goals (iterate 8 (first | refine pass rfl ?_ | (refine abides_load rfl 47 (.tmp 10) rfl (P10) #[.int .i64 a.v.h, .int .i64 a.v.w, .int .i64 a.v.c, .int .i64 a.v.z] rfl (fun w h => by (try go_split_ands); assumption) Tryz.underlying47 rfl V4 (by simp only [Act.put, List.setIfInBounds_toArray, List.set_cons_zero, List.set_cons_succ] <;> rfl) ?_) | (refine abides (fun w hw K hK => ?_) ?_; focus ((have hS := Lib.hid hw); go_split_ands; go_simp; (try simp only [Act.put, List.setIfInBounds_toArray, List.set_cons_zero, List.set_cons_succ]); first | exact hK _ hS.out))))
        all_goals exact True.intro
      case forr0 =>
        simp only [fillA, Act.put, List.setIfInBounds_toArray, List.set_cons_zero, List.set_cons_succ]
        refine turns rfl (fun w hw K hK => ?_) True.intro
        obtain ⟨bt, b4, b5, b6, f6, b8, f8, g4, b10, z4⟩ := hw
        go_simp
        refine hK _ ?_
        rw [BA'.out]
        exact ⟨by (exact kKeepS), by (exact kKeepS), by (exact kKeepS), by (exact kKeepS), by (exact kKeepS), box14_lo b8, by (exact kKeepS), by (exact kKeepS), by (exact kKeepS), by (exact kKeepS)⟩
      rintro w5 ⟨bt, b4, b5, b6, f6, b8, f8, g5, b10', z5⟩
      simp only [fillA, Act.put, List.setIfInBounds_toArray, List.set_cons_zero, List.set_cons_succ]
      clear b10 b10' z4 g4
      go_upto_region 6 with fail
      refine wp_region_fill (fun w' => (Bx w' (W.heap.size) #[.int .i64 n.op, vi, .int .i64 n.k, .int .i64 n.stride, .int .i64 n.pad, .int .i64 n.out, .int .i64 n.mul, .int .i64 n.shift, .int .i64 n.zero, .int .i64 n.th, .int .i64 n.tw, .int .i64 n.tc, vw, vb, (.slice (some ⟨lb, lo, none⟩) vs.length c1), .int .i64 m.1, .int .i64 m.2.1, .int .i64 m.2.2]) ∧ (Bx w' (W.heap.size + 1) #[.int .i64 0, .int .i64 a.many, (.slice A2 a.xs.length c2), .int .i64 0, .int .i64 0, .slice none 0 0]) ∧ (Bx w' (W.heap.size + 2) #[.int .i64 p0, .int .i64 p1, .int .i64 q0, .int .i64 q1]) ∧ (Bx w' (W.heap.size + 3) #[.int .i64 0, .int .i64 0, .int .i64 0, .int .i64 0, .int .i64 0, .int .i64 0, .slice none 0 0, .int .i64 0, .int .i64 0, .int .i64 0, .int .i64 0, .int .i64 0, .int .i64 0, .slice none 0 0]) ∧ (Fr w' (W.heap.size + 3)) ∧ (Bx w' (W.heap.size + 4) #[.int .i64 a.v.h, .int .i64 a.v.w, .int .i64 a.v.c, .int .i64 a.v.z, .int .i64 a.base, .int .i64 a.many, (.slice A2 a.xs.length c2), .int .i64 0, .int .i64 0, .int .i64 0, .int .i64 0, .int .i64 0, .int .i64 0, .slice none 0 0]) ∧ (Fr w' (W.heap.size + 4)) ∧ Grown W w' ∧ P10 + 1 ≤ w'.heap.size) [(26, ?va026), (27, ?va027), (28, ?va028), (29, ?va029), (30, ?va030), (31, ?va031), (32, ?va032), (33, ?va033), (34, ?va034), (35, ?va035), (36, ?va036), (37, ?va037), (38, ?va038), (39, ?va039), (40, ?va040), (41, ?va041), (42, ?va042), (43, ?va043), (44, ?va044), (45, ?va045)] [26, 27, 28, 29, 30, 31, 32, 33, 34, 35, 36, 37, 38, 39, 40, 41, 42, 43, 44, 45] (by kernel_rfl) (by kernel_rfl) rfl (by kernel_rfl) ⟨bt, b4, b5, b6, f6, b8, f8, g5, z5⟩ (fun w h => h) ?alla0 ?fina0
      case alla0 =>
        simp only [fillA, Act.put, List.setIfInBounds_toArray, List.set_cons_zero, List.set_cons_succ]
        iterate 20 (refine owes_cons (fun w hw K hK => ?_) ?_; focus ((have hS := Lib.hid hw); go_split_ands; go_simp; (try simp only [Act.put, List.setIfInBounds_toArray, List.set_cons_zero, List.set_cons_succ]); first | exact hK _ hS.out | ((first | ((with_reducible refine (MA.out _ (by with_reducible assumption)).mono ?_); rintro e w6 ⟨rfl, gg⟩) | ((with_reducible refine (HA.out _).mono ?_); rintro e w6 ⟨rfl, gg⟩)); refine hK _ ?_; (exact kKeepS))))
        exact True.intro
      case fina0 =>
        rintro w9 ⟨bt, b4, b5, b6, f6, b8, f8, g9, z9⟩
        simp only [fillA, Act.put, List.setIfInBounds_toArray, List.set_cons_zero, List.set_cons_succ]
        go_wp2_with fail
        go_roundw
        case rel => exact Or.inr ⟨by first | rfl | go_num, bt, b4, b5, b6, f6, b8, f8, g9, by omega⟩
        case measure => first | (simp [intOf]; done) | decide | (simp [intOf]; omega)
    · have dl : decide ((1 : Int) < (vs.length : Int)) = false := by rw [HL.out]; decide
      go_wp2_with ((refine wpList_store_box rfl 106 (.tmp 6) (.tmp 48) rfl (W.heap.size + 3) #[.int .i64 a.v.h, .int .i64 a.v.w, .int .i64 a.v.c, .int .i64 a.v.z, .int .i64 a.base, .int .i64 a.many, (.slice A2 a.xs.length c2), .int .i64 0, .int .i64 0, .int .i64 0, .int .i64 0, .int .i64 0, .int .i64 0, .slice none 0 0] _ rfl rfl b6 f6 rfl W14 (by simp [Value.oneCell']) (fun w' => (Bx w' (W.heap.size + 3) #[.int .i64 a.v.h, .int .i64 a.v.w, .int .i64 a.v.c, .int .i64 a.v.z, .int .i64 a.base, .int .i64 a.many, (.slice A2 a.xs.length c2), .int .i64 0, .int .i64 0, .int .i64 0, .int .i64 0, .int .i64 0, .int .i64 0, .slice none 0 0]) ∧ Grown W w') ⟨box_setAll b6 rfl, grown_setAll (by omega) _ _ _ g2⟩ ?_); rintro w3 ⟨b9, g9⟩)
      exact ret_box rfl (W.heap.size + 3) #[.int .i64 a.v.h, .int .i64 a.v.w, .int .i64 a.v.c, .int .i64 a.v.z, .int .i64 a.base, .int .i64 a.many, (.slice A2 a.xs.length c2), .int .i64 0, .int .i64 0, .int .i64 0, .int .i64 0, .int .i64 0, .int .i64 0, .slice none 0 0] _ (.bool true) rfl rfl b9 Tryz.underlying106 rfl W14 rfl ⟨rfl, g9⟩
end Go.Proofs.YtliijchcpooplaaGreat
