/- kern: views of one value. The reference's number of a window, and whether a window has its rows. -/
import Derived.Deep.DeepCutAuto
import Derived.Test.YtliijchcpooplaaGreatOMFix
import Derived.Test.YtliijchcpooplaaGreatOMKR
import Derived.Test.YtliijchcpooplaaGreatOMKA
import Derived.Test.YtliijchcpooplaaGreatOMKK
import Derived.Test.YtliijchcpooplaaGreatOMFxMath
namespace Go.Proofs.YtliijchcpooplaaGreat
open Go.ChangeShapes Go.WideShapes Go.ChangeAt Go.RowKit
set_option maxRecDepth 20000
set_option linter.unusedVariables false
set_option maxHeartbeats 8000000 in
theorem views_1 (n : NodeD) (vi vw vb lv : Value) (vs : List ValD) (m : Int × Int × Int) (a  : ViewD) (sa  : Value) (p0 p1 q0 q1 : Int) (W : World) (hl : IsVals W lv vs) (hlen : vs.length = 1) (na : IsNums .i8 W sa a.xs) (fa : FullV a) (ea : a.v = vs.getD 0 default) (pa : p0 = p1 ∨ (0 <= p0 /\ p1 <= a.v.h)) :
    Calls Tryz.prog 58 #[.agg #[.int .i64 n.op, vi, .int .i64 n.k, .int .i64 n.stride, .int .i64 n.pad, .int .i64 n.out, .int .i64 n.mul, .int .i64 n.shift, .int .i64 n.zero, .int .i64 n.th, .int .i64 n.tw, .int .i64 n.tc, vw, vb, lv, .int .i64 m.1, .int .i64 m.2.1, .int .i64 m.2.2], .agg #[.int .i64 0, .int .i64 a.many, sa, .int .i64 0, .int .i64 0, .slice none 0 0], .agg #[.int .i64 p0, .int .i64 p1, .int .i64 q0, .int .i64 q1]] W fun e w' => e = .returned (.tuple #[.agg #[.int .i64 a.v.h, .int .i64 a.v.w, .int .i64 a.v.c, .int .i64 a.v.z, .int .i64 a.base, .int .i64 a.many, sa, .int .i64 0, .int .i64 0, .int .i64 0, .int .i64 0, .int .i64 0, .int .i64 0, .slice none 0 0], .bool true]) /\ Grown W w' := by
  obtain ⟨A1, c1, rfl, a1, a2, _, a4, a5⟩ := hl
  obtain ⟨lb, lo, rfl, hlb, hlc⟩ := a5 (by omega)
  have HC := Lib.hid hlc
  have k1 : vs.length <= 9223372036854775807 := by omega
  have HL := Lib.hid hlen
  have EA := Lib.hid ea
  have BA : a.base = 0 := fa.2.1
  have BA' := Lib.hid BA
  have MA := Lib.hid (fun w (g : Grown W w) => may_full a sa w (na.grow (Grown.past g)) fa)
  have HA := Lib.hid (fun w => has_full a sa p0 p1 w fa pa)
  obtain ⟨A2, c2, rfl, _⟩ := na
  clear a2 a4 a5 hlc hlen ea fa pa BA
  go_enter Tryz.func58, Tryz.ntmps58
  go_upto_region 2 with fail
  refine opq (fun w' => (Bx w' (W.heap.size) #[.int .i64 n.op, vi, .int .i64 n.k, .int .i64 n.stride, .int .i64 n.pad, .int .i64 n.out, .int .i64 n.mul, .int .i64 n.shift, .int .i64 n.zero, .int .i64 n.th, .int .i64 n.tw, .int .i64 n.tc, vw, vb, (.slice (some ⟨lb, lo, none⟩) vs.length c1), .int .i64 m.1, .int .i64 m.2.1, .int .i64 m.2.2]) /\ (Bx w' (W.heap.size + 1) #[.int .i64 0, .int .i64 a.many, (.slice A2 a.xs.length c2), .int .i64 0, .int .i64 0, .slice none 0 0]) /\ (Bx w' (W.heap.size + 2) #[.int .i64 p0, .int .i64 p1, .int .i64 q0, .int .i64 q1]) /\ (Bx w' (W.heap.size + 3) #[.int .i64 0, .int .i64 0, .int .i64 0, .int .i64 0, .int .i64 0, .int .i64 0, .slice none 0 0, .int .i64 0, .int .i64 0, .int .i64 0, .int .i64 0, .int .i64 0, .int .i64 0, .slice none 0 0]) /\ (Fr w' (W.heap.size + 3)) /\ (Bx w' (W.heap.size + 4) #[.int .i64 0, .int .i64 0, .int .i64 0, .int .i64 0, .int .i64 0, .int .i64 0, .slice none 0 0, .int .i64 0, .int .i64 0, .int .i64 0, .int .i64 0, .int .i64 0, .int .i64 0, .slice none 0 0]) /\ (Fr w' (W.heap.size + 4)) /\ Grown W w' /\ W.heap.size + 5 <= w'.heap.size) kKeepS ?_
  rintro W2 ⟨bt, b4, b5, b6, f6, b8, f8, g2, z2⟩
  go_wp2_with fail
  go_loopw [14] (fun i wr => (i = .int .i64 0 /\ (Bx wr (W.heap.size) #[.int .i64 n.op, vi, .int .i64 n.k, .int .i64 n.stride, .int .i64 n.pad, .int .i64 n.out, .int .i64 n.mul, .int .i64 n.shift, .int .i64 n.zero, .int .i64 n.th, .int .i64 n.tw, .int .i64 n.tc, vw, vb, (.slice (some ⟨lb, lo, none⟩) vs.length c1), .int .i64 m.1, .int .i64 m.2.1, .int .i64 m.2.2]) /\ (Bx wr (W.heap.size + 1) #[.int .i64 0, .int .i64 a.many, (.slice A2 a.xs.length c2), .int .i64 0, .int .i64 0, .slice none 0 0]) /\ (Bx wr (W.heap.size + 2) #[.int .i64 p0, .int .i64 p1, .int .i64 q0, .int .i64 q1]) /\ (Bx wr (W.heap.size + 3) #[.int .i64 0, .int .i64 0, .int .i64 0, .int .i64 0, .int .i64 0, .int .i64 0, .slice none 0 0, .int .i64 0, .int .i64 0, .int .i64 0, .int .i64 0, .int .i64 0, .int .i64 0, .slice none 0 0]) /\ (Fr wr (W.heap.size + 3)) /\ (Bx wr (W.heap.size + 4) #[.int .i64 0, .int .i64 0, .int .i64 0, .int .i64 0, .int .i64 0, .int .i64 0, .slice none 0 0, .int .i64 0, .int .i64 0, .int .i64 0, .int .i64 0, .int .i64 0, .int .i64 0, .slice none 0 0]) /\ (Fr wr (W.heap.size + 4)) /\ Grown W wr /\ W.heap.size + 5 <= wr.heap.size) ∨ (i = .int .i64 1 /\ (Bx wr (W.heap.size) #[.int .i64 n.op, vi, .int .i64 n.k, .int .i64 n.stride, .int .i64 n.pad, .int .i64 n.out, .int .i64 n.mul, .int .i64 n.shift, .int .i64 n.zero, .int .i64 n.th, .int .i64 n.tw, .int .i64 n.tc, vw, vb, (.slice (some ⟨lb, lo, none⟩) vs.length c1), .int .i64 m.1, .int .i64 m.2.1, .int .i64 m.2.2]) /\ (Bx wr (W.heap.size + 1) #[.int .i64 0, .int .i64 a.many, (.slice A2 a.xs.length c2), .int .i64 0, .int .i64 0, .slice none 0 0]) /\ (Bx wr (W.heap.size + 2) #[.int .i64 p0, .int .i64 p1, .int .i64 q0, .int .i64 q1]) /\ (Bx wr (W.heap.size + 3) #[.int .i64 0, .int .i64 0, .int .i64 0, .int .i64 0, .int .i64 0, .int .i64 0, .slice none 0 0, .int .i64 0, .int .i64 0, .int .i64 0, .int .i64 0, .int .i64 0, .int .i64 0, .slice none 0 0]) /\ (Fr wr (W.heap.size + 3)) /\ (Bx wr (W.heap.size + 4) #[.int .i64 a.v.h, .int .i64 a.v.w, .int .i64 a.v.c, .int .i64 a.v.z, .int .i64 a.base, .int .i64 a.many, (.slice A2 a.xs.length c2), .int .i64 0, .int .i64 0, .int .i64 0, .int .i64 0, .int .i64 0, .int .i64 0, .slice none 0 0]) /\ (Fr wr (W.heap.size + 4)) /\ Grown W wr /\ W.heap.size + 5 <= wr.heap.size)) (fun i _ => 1 - (intOf i).toNat)
  case atStart => exact Or.inl ⟨by first | rfl | go_num, bt, b4, b5, b6, f6, b8, f8, g2, z2⟩
  case round =>
    clear bt b4 b5 b6 f6 b8 f8 g2 z2
    rcases hrel with ⟨rfl, bt, b4, b5, b6, f6, b8, f8, g2, z2⟩ | ⟨rfl, bt, b4, b5, b6, f6, b8, f8, g2, z2⟩
    . have dl : decide ((0 : Int) < (vs.length : Int)) = true := by rw [HL.out]; decide
      obtain ⟨y0, y1, y2, y3⟩ := (HC.out 0 (by rw [HL.out]; decide)).grow hlb (Grown.past g2)
      rw [<- EA.out] at y0 y1 y2 y3
      simp only [Nat.zero_mul, Nat.add_zero] at y0 y1 y2 y3
      have hlb2 : lb < wr.heap.size := Nat.lt_of_lt_of_le hlb g2.2.2
      have il : (0 : Nat) < vs.length := by rw [HL.out]; decide
      go_upto_region 5 with fail
      refine opq (fun w' => (Bx w' (W.heap.size) #[.int .i64 n.op, vi, .int .i64 n.k, .int .i64 n.stride, .int .i64 n.pad, .int .i64 n.out, .int .i64 n.mul, .int .i64 n.shift, .int .i64 n.zero, .int .i64 n.th, .int .i64 n.tw, .int .i64 n.tc, vw, vb, (.slice (some ⟨lb, lo, none⟩) vs.length c1), .int .i64 m.1, .int .i64 m.2.1, .int .i64 m.2.2]) /\ (Bx w' (W.heap.size + 1) #[.int .i64 0, .int .i64 a.many, (.slice A2 a.xs.length c2), .int .i64 0, .int .i64 0, .slice none 0 0]) /\ (Bx w' (W.heap.size + 2) #[.int .i64 p0, .int .i64 p1, .int .i64 q0, .int .i64 q1]) /\ (Bx w' (W.heap.size + 3) #[.int .i64 0, .int .i64 0, .int .i64 0, .int .i64 0, .int .i64 0, .int .i64 0, .slice none 0 0, .int .i64 0, .int .i64 0, .int .i64 0, .int .i64 0, .int .i64 0, .int .i64 0, .slice none 0 0]) /\ (Fr w' (W.heap.size + 3)) /\ (Bx w' (W.heap.size + 4) #[.int .i64 0, .int .i64 0, .int .i64 0, .int .i64 0, .int .i64 0, .int .i64 0, .slice none 0 0, .int .i64 0, .int .i64 0, .int .i64 0, .int .i64 0, .int .i64 0, .int .i64 0, .slice none 0 0]) /\ (Fr w' (W.heap.size + 4)) /\ Grown W w' /\ (Bx w' (wr.heap.size) #[.int .i64 a.v.h, .int .i64 a.v.w, .int .i64 a.v.c, .int .i64 a.v.z]) /\ wr.heap.size + 1 <= w'.heap.size) kKeepS ?_
      rintro w4 ⟨bt, b4, b5, b6, f6, b8, f8, g4, b10, z4⟩
      obtain ⟨P10, hP10⟩ : ∃ P10, wr.heap.size = P10 := ⟨_, rfl⟩
      rw [hP10] at b10 z4 z2
      rw [hP10]
      clear hP10 y0 y1 y2 y3 hlb2 g2
      refine wp_region_stage [7] [fun w' => (Bx w' (W.heap.size) #[.int .i64 n.op, vi, .int .i64 n.k, .int .i64 n.stride, .int .i64 n.pad, .int .i64 n.out, .int .i64 n.mul, .int .i64 n.shift, .int .i64 n.zero, .int .i64 n.th, .int .i64 n.tw, .int .i64 n.tc, vw, vb, (.slice (some ⟨lb, lo, none⟩) vs.length c1), .int .i64 m.1, .int .i64 m.2.1, .int .i64 m.2.2]) /\ (Bx w' (W.heap.size + 1) #[.int .i64 0, .int .i64 a.many, (.slice A2 a.xs.length c2), .int .i64 0, .int .i64 0, .slice none 0 0]) /\ (Bx w' (W.heap.size + 2) #[.int .i64 p0, .int .i64 p1, .int .i64 q0, .int .i64 q1]) /\ (Bx w' (W.heap.size + 3) #[.int .i64 0, .int .i64 0, .int .i64 0, .int .i64 0, .int .i64 0, .int .i64 0, .slice none 0 0, .int .i64 0, .int .i64 0, .int .i64 0, .int .i64 0, .int .i64 0, .int .i64 0, .slice none 0 0]) /\ (Fr w' (W.heap.size + 3)) /\ (Bx w' (W.heap.size + 4) #[.int .i64 0, .int .i64 0, .int .i64 0, .int .i64 0, .int .i64 0, .int .i64 0, .slice none 0 0, .int .i64 0, .int .i64 0, .int .i64 0, .int .i64 0, .int .i64 0, .int .i64 0, .slice none 0 0]) /\ (Fr w' (W.heap.size + 4)) /\ Grown W w' /\ (Bx w' P10 #[.int .i64 a.v.h, .int .i64 a.v.w, .int .i64 a.v.c, .int .i64 a.v.z]) /\ P10 + 1 <= w'.heap.size, fun w' => (Bx w' (W.heap.size) #[.int .i64 n.op, vi, .int .i64 n.k, .int .i64 n.stride, .int .i64 n.pad, .int .i64 n.out, .int .i64 n.mul, .int .i64 n.shift, .int .i64 n.zero, .int .i64 n.th, .int .i64 n.tw, .int .i64 n.tc, vw, vb, (.slice (some ⟨lb, lo, none⟩) vs.length c1), .int .i64 m.1, .int .i64 m.2.1, .int .i64 m.2.2]) /\ (Bx w' (W.heap.size + 1) #[.int .i64 0, .int .i64 a.many, (.slice A2 a.xs.length c2), .int .i64 0, .int .i64 0, .slice none 0 0]) /\ (Bx w' (W.heap.size + 2) #[.int .i64 p0, .int .i64 p1, .int .i64 q0, .int .i64 q1]) /\ (Bx w' (W.heap.size + 3) #[.int .i64 0, .int .i64 0, .int .i64 0, .int .i64 0, .int .i64 0, .int .i64 0, .slice none 0 0, .int .i64 0, .int .i64 0, .int .i64 0, .int .i64 0, .int .i64 0, .int .i64 0, .slice none 0 0]) /\ (Fr w' (W.heap.size + 3)) /\ (Bx w' (W.heap.size + 4) #[.int .i64 a.v.h, .int .i64 a.v.w, .int .i64 a.v.c, .int .i64 a.v.z, .int .i64 a.base, .int .i64 a.many, (.slice A2 a.xs.length c2), .int .i64 0, .int .i64 0, .int .i64 0, .int .i64 0, .int .i64 0, .int .i64 0, .slice none 0 0]) /\ (Fr w' (W.heap.size + 4)) /\ Grown W w' /\ (Bx w' P10 #[.int .i64 a.v.h, .int .i64 a.v.w, .int .i64 a.v.c, .int .i64 a.v.z]) /\ P10 + 1 <= w'.heap.size] [(19, ?vr019), (20, ?vr020), (21, ?vr021), (22, ?vr022), (23, ?vr023), (24, ?vr024), (25, ?vr025)] [19, 20, 21, 22, 23, 24, 25] (by kernel_rfl) (by kernel_rfl) rfl (by kernel_rfl) ⟨bt, b4, b5, b6, f6, b8, f8, g4, b10, z4⟩ (fun w h => h) ?allr0 ?forr0 ?finr0
      case allr0 =>
        simp only [fillA, Act.put, fU1, fU2, fU3]
        refine ⟨?_, ?_, True.intro⟩
        all_goals (iterate 8 (first | refine pass rfl ?_ | (refine abides_load rfl 47 (.tmp 10) rfl (P10) #[.int .i64 a.v.h, .int .i64 a.v.w, .int .i64 a.v.c, .int .i64 a.v.z] rfl (fun w h => by (try go_split_ands); assumption) Tryz.underlying47 rfl V4 (by simp only [Act.put, List.setIfInBounds_toArray, List.set_cons_zero, List.set_cons_succ] <;> rfl) ?_) | (refine abides (fun w hw K hK => ?_) ?_; focus ((have hS := Lib.hid hw); go_split_ands; go_simp; (try simp only [Act.put, List.setIfInBounds_toArray, List.set_cons_zero, List.set_cons_succ]); first | exact hK _ hS.out))))
        all_goals exact True.intro
      case forr0 =>
        simp only [fillA, Act.put, fU1, fU2, fU3]
        refine turns rfl (fun w hw K hK => ?_) True.intro
        obtain ⟨bt, b4, b5, b6, f6, b8, f8, g4, b10, z4⟩ := hw
        go_simp
        refine hK _ ?_
        rw [BA'.out]
        exact ⟨by (exact kKeepS), by (exact kKeepS), by (exact kKeepS), by (exact kKeepS), by (exact kKeepS), box14_lo b8, by (exact kKeepS), by (exact kKeepS), by (exact kKeepS), by (exact kKeepS)⟩
      rintro w5 ⟨bt, b4, b5, b6, f6, b8, f8, g5, b10', z5⟩
      simp only [fillA, Act.put, fU1, fU2, fU3]
      clear b10 b10' z4 g4
      go_upto_region 6 with fail
      refine wp_region_fill (fun w' => (Bx w' (W.heap.size) #[.int .i64 n.op, vi, .int .i64 n.k, .int .i64 n.stride, .int .i64 n.pad, .int .i64 n.out, .int .i64 n.mul, .int .i64 n.shift, .int .i64 n.zero, .int .i64 n.th, .int .i64 n.tw, .int .i64 n.tc, vw, vb, (.slice (some ⟨lb, lo, none⟩) vs.length c1), .int .i64 m.1, .int .i64 m.2.1, .int .i64 m.2.2]) /\ (Bx w' (W.heap.size + 1) #[.int .i64 0, .int .i64 a.many, (.slice A2 a.xs.length c2), .int .i64 0, .int .i64 0, .slice none 0 0]) /\ (Bx w' (W.heap.size + 2) #[.int .i64 p0, .int .i64 p1, .int .i64 q0, .int .i64 q1]) /\ (Bx w' (W.heap.size + 3) #[.int .i64 0, .int .i64 0, .int .i64 0, .int .i64 0, .int .i64 0, .int .i64 0, .slice none 0 0, .int .i64 0, .int .i64 0, .int .i64 0, .int .i64 0, .int .i64 0, .int .i64 0, .slice none 0 0]) /\ (Fr w' (W.heap.size + 3)) /\ (Bx w' (W.heap.size + 4) #[.int .i64 a.v.h, .int .i64 a.v.w, .int .i64 a.v.c, .int .i64 a.v.z, .int .i64 a.base, .int .i64 a.many, (.slice A2 a.xs.length c2), .int .i64 0, .int .i64 0, .int .i64 0, .int .i64 0, .int .i64 0, .int .i64 0, .slice none 0 0]) /\ (Fr w' (W.heap.size + 4)) /\ Grown W w' /\ P10 + 1 <= w'.heap.size) [(26, ?va026), (27, ?va027), (28, ?va028), (29, ?va029), (30, ?va030), (31, ?va031), (32, ?va032), (33, ?va033), (34, ?va034), (35, ?va035), (36, ?va036), (37, ?va037), (38, ?va038), (39, ?va039), (40, ?va040), (41, ?va041), (42, ?va042), (43, ?va043), (44, ?va044), (45, ?va045)] [26, 27, 28, 29, 30, 31, 32, 33, 34, 35, 36, 37, 38, 39, 40, 41, 42, 43, 44, 45] (by kernel_rfl) (by kernel_rfl) rfl (by kernel_rfl) ⟨bt, b4, b5, b6, f6, b8, f8, g5, z5⟩ (fun w h => h) ?alla0 ?fina0
      case alla0 =>
        simp only [fillA, Act.put, fU1, fU2, fU3]
        iterate 20 (refine owes_cons (fun w hw K hK => ?_) ?_; focus ((have hS := Lib.hid hw); go_split_ands; go_simp; (try simp only [Act.put, List.setIfInBounds_toArray, List.set_cons_zero, List.set_cons_succ]); first | exact hK _ hS.out | ((first | ((with_reducible refine (MA.out _ (by with_reducible assumption)).mono ?_); rintro e w6 ⟨rfl, gg⟩) | ((with_reducible refine (HA.out _).mono ?_); rintro e w6 ⟨rfl, gg⟩)); refine hK _ ?_; (exact kKeepS))))
        exact True.intro
      case fina0 =>
        rintro w9 ⟨bt, b4, b5, b6, f6, b8, f8, g9, z9⟩
        simp only [fillA, Act.put, fU1, fU2, fU3]
        go_wp2_with fail
        go_roundw
        case rel => exact Or.inr ⟨by first | rfl | go_num, bt, b4, b5, b6, f6, b8, f8, g9, by omega⟩
        case measure => first | (simp [intOf]; done) | decide | (simp [intOf]; omega)
    . have dl : decide ((1 : Int) < (vs.length : Int)) = false := by rw [HL.out]; decide
      go_wp2_with ((refine wpList_store_box rfl 106 (.tmp 6) (.tmp 48) rfl (W.heap.size + 3) #[.int .i64 a.v.h, .int .i64 a.v.w, .int .i64 a.v.c, .int .i64 a.v.z, .int .i64 a.base, .int .i64 a.many, (.slice A2 a.xs.length c2), .int .i64 0, .int .i64 0, .int .i64 0, .int .i64 0, .int .i64 0, .int .i64 0, .slice none 0 0] _ rfl rfl b6 f6 rfl W14 (by simp [Value.oneCell']) (fun w' => (Bx w' (W.heap.size + 3) #[.int .i64 a.v.h, .int .i64 a.v.w, .int .i64 a.v.c, .int .i64 a.v.z, .int .i64 a.base, .int .i64 a.many, (.slice A2 a.xs.length c2), .int .i64 0, .int .i64 0, .int .i64 0, .int .i64 0, .int .i64 0, .int .i64 0, .slice none 0 0]) /\ Grown W w') ⟨box_setAll b6 rfl, grown_setAll (by omega) _ _ _ g2⟩ ?_); rintro w3 ⟨b9, g9⟩)
      exact ret_box rfl (W.heap.size + 3) #[.int .i64 a.v.h, .int .i64 a.v.w, .int .i64 a.v.c, .int .i64 a.v.z, .int .i64 a.base, .int .i64 a.many, (.slice A2 a.xs.length c2), .int .i64 0, .int .i64 0, .int .i64 0, .int .i64 0, .int .i64 0, .int .i64 0, .slice none 0 0] _ (.bool true) rfl rfl b9 Tryz.underlying106 rfl W14 rfl ⟨rfl, g9⟩
theorem rnum_out0 (u : ViewD) (s : Value) (y x c q : Int) (W : World)  (h0 : y < 0) (hq : Hid (q = u.v.z)) : Calls Tryz.prog 62 #[.agg #[.int .i64 u.v.h, .int .i64 u.v.w, .int .i64 u.v.c, .int .i64 u.v.z], .agg #[.int .i64 0, .int .i64 u.v.h, s], .int .i64 y, .int .i64 x, .int .i64 c] W fun e w' => e = .returned (.int .i64 q) /\ Grown W w' := by
  obtain rfl := hq.out
  clear hq
  go_enter Tryz.func62, Tryz.ntmps62
  go_upto_region 1 with fail
  refine opq (fun w' => (Bx w' (W.heap.size) #[.int .i64 u.v.h, .int .i64 u.v.w, .int .i64 u.v.c, .int .i64 u.v.z]) /\ (Bx w' (W.heap.size + 1) #[.int .i64 0, .int .i64 u.v.h, s]) /\ Grown W w' /\ W.heap.size + 2 <= w'.heap.size) kLaid ?_
  rintro W1 ⟨b1, b2, g1, z1⟩
  go_upto_region 2 with fail
  refine opq (fun w' => (Bx w' (W.heap.size) #[.int .i64 u.v.h, .int .i64 u.v.w, .int .i64 u.v.c, .int .i64 u.v.z]) /\ (Bx w' (W.heap.size + 1) #[.int .i64 0, .int .i64 u.v.h, s]) /\ (Bx w' (W1.heap.size) #[.int .i64 u.v.h, .int .i64 u.v.w, .int .i64 u.v.c]) /\ Grown W w' /\ W1.heap.size + 1 <= w'.heap.size) kKeep ?_
  rintro W2 ⟨b3, b4, b5, g2, z2⟩
  clear b1 b2 g1
  have d0 : decide (y < 0) = true := decide_eq_true h0
  go_wp2_with fail
  go_ret
  exact ⟨rfl, g2⟩
theorem rnum_out1 (u : ViewD) (s : Value) (y x c q : Int) (W : World) (h0 : ¬ y < 0) (h1 : u.v.h <= y) (hq : Hid (q = u.v.z)) : Calls Tryz.prog 62 #[.agg #[.int .i64 u.v.h, .int .i64 u.v.w, .int .i64 u.v.c, .int .i64 u.v.z], .agg #[.int .i64 0, .int .i64 u.v.h, s], .int .i64 y, .int .i64 x, .int .i64 c] W fun e w' => e = .returned (.int .i64 q) /\ Grown W w' := by
  obtain rfl := hq.out
  clear hq
  go_enter Tryz.func62, Tryz.ntmps62
  go_upto_region 1 with fail
  refine opq (fun w' => (Bx w' (W.heap.size) #[.int .i64 u.v.h, .int .i64 u.v.w, .int .i64 u.v.c, .int .i64 u.v.z]) /\ (Bx w' (W.heap.size + 1) #[.int .i64 0, .int .i64 u.v.h, s]) /\ Grown W w' /\ W.heap.size + 2 <= w'.heap.size) kLaid ?_
  rintro W1 ⟨b1, b2, g1, z1⟩
  go_upto_region 2 with fail
  refine opq (fun w' => (Bx w' (W.heap.size) #[.int .i64 u.v.h, .int .i64 u.v.w, .int .i64 u.v.c, .int .i64 u.v.z]) /\ (Bx w' (W.heap.size + 1) #[.int .i64 0, .int .i64 u.v.h, s]) /\ (Bx w' (W1.heap.size) #[.int .i64 u.v.h, .int .i64 u.v.w, .int .i64 u.v.c]) /\ Grown W w' /\ W1.heap.size + 1 <= w'.heap.size) kKeep ?_
  rintro W2 ⟨b3, b4, b5, g2, z2⟩
  clear b1 b2 g1
  have d0 : decide (y < 0) = false := decide_eq_false h0
  have d1 : decide (u.v.h <= y) = true := decide_eq_true h1
  go_wp2_with fail
  go_ret
  exact ⟨rfl, g2⟩
theorem rnum_out2 (u : ViewD) (s : Value) (y x c q : Int) (W : World) (h0 : ¬ y < 0) (h1 : ¬ u.v.h <= y) (h2 : x < 0) (hq : Hid (q = u.v.z)) : Calls Tryz.prog 62 #[.agg #[.int .i64 u.v.h, .int .i64 u.v.w, .int .i64 u.v.c, .int .i64 u.v.z], .agg #[.int .i64 0, .int .i64 u.v.h, s], .int .i64 y, .int .i64 x, .int .i64 c] W fun e w' => e = .returned (.int .i64 q) /\ Grown W w' := by
  obtain rfl := hq.out
  clear hq
  go_enter Tryz.func62, Tryz.ntmps62
  go_upto_region 1 with fail
  refine opq (fun w' => (Bx w' (W.heap.size) #[.int .i64 u.v.h, .int .i64 u.v.w, .int .i64 u.v.c, .int .i64 u.v.z]) /\ (Bx w' (W.heap.size + 1) #[.int .i64 0, .int .i64 u.v.h, s]) /\ Grown W w' /\ W.heap.size + 2 <= w'.heap.size) kLaid ?_
  rintro W1 ⟨b1, b2, g1, z1⟩
  go_upto_region 2 with fail
  refine opq (fun w' => (Bx w' (W.heap.size) #[.int .i64 u.v.h, .int .i64 u.v.w, .int .i64 u.v.c, .int .i64 u.v.z]) /\ (Bx w' (W.heap.size + 1) #[.int .i64 0, .int .i64 u.v.h, s]) /\ (Bx w' (W1.heap.size) #[.int .i64 u.v.h, .int .i64 u.v.w, .int .i64 u.v.c]) /\ Grown W w' /\ W1.heap.size + 1 <= w'.heap.size) kKeep ?_
  rintro W2 ⟨b3, b4, b5, g2, z2⟩
  clear b1 b2 g1
  have d0 : decide (y < 0) = false := decide_eq_false h0
  have d1 : decide (u.v.h <= y) = false := decide_eq_false h1
  have d2 : decide (x < 0) = true := decide_eq_true h2
  go_wp2_with fail
  go_ret
  exact ⟨rfl, g2⟩
theorem rnum_out3 (u : ViewD) (s : Value) (y x c q : Int) (W : World) (h0 : ¬ y < 0) (h1 : ¬ u.v.h <= y) (h2 : ¬ x < 0) (h3 : u.v.w <= x) (hq : Hid (q = u.v.z)) : Calls Tryz.prog 62 #[.agg #[.int .i64 u.v.h, .int .i64 u.v.w, .int .i64 u.v.c, .int .i64 u.v.z], .agg #[.int .i64 0, .int .i64 u.v.h, s], .int .i64 y, .int .i64 x, .int .i64 c] W fun e w' => e = .returned (.int .i64 q) /\ Grown W w' := by
  obtain rfl := hq.out
  clear hq
  go_enter Tryz.func62, Tryz.ntmps62
  go_upto_region 1 with fail
  refine opq (fun w' => (Bx w' (W.heap.size) #[.int .i64 u.v.h, .int .i64 u.v.w, .int .i64 u.v.c, .int .i64 u.v.z]) /\ (Bx w' (W.heap.size + 1) #[.int .i64 0, .int .i64 u.v.h, s]) /\ Grown W w' /\ W.heap.size + 2 <= w'.heap.size) kLaid ?_
  rintro W1 ⟨b1, b2, g1, z1⟩
  go_upto_region 2 with fail
  refine opq (fun w' => (Bx w' (W.heap.size) #[.int .i64 u.v.h, .int .i64 u.v.w, .int .i64 u.v.c, .int .i64 u.v.z]) /\ (Bx w' (W.heap.size + 1) #[.int .i64 0, .int .i64 u.v.h, s]) /\ (Bx w' (W1.heap.size) #[.int .i64 u.v.h, .int .i64 u.v.w, .int .i64 u.v.c]) /\ Grown W w' /\ W1.heap.size + 1 <= w'.heap.size) kKeep ?_
  rintro W2 ⟨b3, b4, b5, g2, z2⟩
  clear b1 b2 g1
  have d0 : decide (y < 0) = false := decide_eq_false h0
  have d1 : decide (u.v.h <= y) = false := decide_eq_false h1
  have d2 : decide (x < 0) = false := decide_eq_false h2
  have d3 : decide (u.v.w <= x) = true := decide_eq_true h3
  go_wp2_with fail
  go_ret
  exact ⟨rfl, g2⟩
theorem rnum_out4 (u : ViewD) (s : Value) (y x c q : Int) (W : World) (h0 : ¬ y < 0) (h1 : ¬ u.v.h <= y) (h2 : ¬ x < 0) (h3 : ¬ u.v.w <= x) (h4 : c < 0) (hq : Hid (q = u.v.z)) : Calls Tryz.prog 62 #[.agg #[.int .i64 u.v.h, .int .i64 u.v.w, .int .i64 u.v.c, .int .i64 u.v.z], .agg #[.int .i64 0, .int .i64 u.v.h, s], .int .i64 y, .int .i64 x, .int .i64 c] W fun e w' => e = .returned (.int .i64 q) /\ Grown W w' := by
  obtain rfl := hq.out
  clear hq
  go_enter Tryz.func62, Tryz.ntmps62
  go_upto_region 1 with fail
  refine opq (fun w' => (Bx w' (W.heap.size) #[.int .i64 u.v.h, .int .i64 u.v.w, .int .i64 u.v.c, .int .i64 u.v.z]) /\ (Bx w' (W.heap.size + 1) #[.int .i64 0, .int .i64 u.v.h, s]) /\ Grown W w' /\ W.heap.size + 2 <= w'.heap.size) kLaid ?_
  rintro W1 ⟨b1, b2, g1, z1⟩
  go_upto_region 2 with fail
  refine opq (fun w' => (Bx w' (W.heap.size) #[.int .i64 u.v.h, .int .i64 u.v.w, .int .i64 u.v.c, .int .i64 u.v.z]) /\ (Bx w' (W.heap.size + 1) #[.int .i64 0, .int .i64 u.v.h, s]) /\ (Bx w' (W1.heap.size) #[.int .i64 u.v.h, .int .i64 u.v.w, .int .i64 u.v.c]) /\ Grown W w' /\ W1.heap.size + 1 <= w'.heap.size) kKeep ?_
  rintro W2 ⟨b3, b4, b5, g2, z2⟩
  clear b1 b2 g1
  have d0 : decide (y < 0) = false := decide_eq_false h0
  have d1 : decide (u.v.h <= y) = false := decide_eq_false h1
  have d2 : decide (x < 0) = false := decide_eq_false h2
  have d3 : decide (u.v.w <= x) = false := decide_eq_false h3
  have d4 : decide (c < 0) = true := decide_eq_true h4
  go_wp2_with fail
  go_ret
  exact ⟨rfl, g2⟩
theorem rnum_out5 (u : ViewD) (s : Value) (y x c q : Int) (W : World) (h0 : ¬ y < 0) (h1 : ¬ u.v.h <= y) (h2 : ¬ x < 0) (h3 : ¬ u.v.w <= x) (h4 : ¬ c < 0) (h5 : u.v.c <= c) (hq : Hid (q = u.v.z)) : Calls Tryz.prog 62 #[.agg #[.int .i64 u.v.h, .int .i64 u.v.w, .int .i64 u.v.c, .int .i64 u.v.z], .agg #[.int .i64 0, .int .i64 u.v.h, s], .int .i64 y, .int .i64 x, .int .i64 c] W fun e w' => e = .returned (.int .i64 q) /\ Grown W w' := by
  obtain rfl := hq.out
  clear hq
  go_enter Tryz.func62, Tryz.ntmps62
  go_upto_region 1 with fail
  refine opq (fun w' => (Bx w' (W.heap.size) #[.int .i64 u.v.h, .int .i64 u.v.w, .int .i64 u.v.c, .int .i64 u.v.z]) /\ (Bx w' (W.heap.size + 1) #[.int .i64 0, .int .i64 u.v.h, s]) /\ Grown W w' /\ W.heap.size + 2 <= w'.heap.size) kLaid ?_
  rintro W1 ⟨b1, b2, g1, z1⟩
  go_upto_region 2 with fail
  refine opq (fun w' => (Bx w' (W.heap.size) #[.int .i64 u.v.h, .int .i64 u.v.w, .int .i64 u.v.c, .int .i64 u.v.z]) /\ (Bx w' (W.heap.size + 1) #[.int .i64 0, .int .i64 u.v.h, s]) /\ (Bx w' (W1.heap.size) #[.int .i64 u.v.h, .int .i64 u.v.w, .int .i64 u.v.c]) /\ Grown W w' /\ W1.heap.size + 1 <= w'.heap.size) kKeep ?_
  rintro W2 ⟨b3, b4, b5, g2, z2⟩
  clear b1 b2 g1
  have d0 : decide (y < 0) = false := decide_eq_false h0
  have d1 : decide (u.v.h <= y) = false := decide_eq_false h1
  have d2 : decide (x < 0) = false := decide_eq_false h2
  have d3 : decide (u.v.w <= x) = false := decide_eq_false h3
  have d4 : decide (c < 0) = false := decide_eq_false h4
  have d5 : decide (u.v.c <= c) = true := decide_eq_true h5
  go_wp2_with fail
  go_ret
  exact ⟨rfl, g2⟩
set_option maxHeartbeats 1000000 in
theorem rnum_in (u : ViewD) (s : Value) (y x c q : Int) (W : World) (hs : IsNums .i8 W s u.xs) (F : FullV u) (hq : Hid (q = atD u y x c)) (hi : inS u.v.h u.v.w u.v.c y x c) : Calls Tryz.prog 62 #[.agg #[.int .i64 u.v.h, .int .i64 u.v.w, .int .i64 u.v.c, .int .i64 u.v.z], .agg #[.int .i64 0, .int .i64 u.v.h, s], .int .i64 y, .int .i64 x, .int .i64 c] W fun e w' => e = .returned (.int .i64 q) /\ Grown W w' := by
  obtain ⟨r0, r1⟩ := F.all y x c hi
  obtain ⟨A, cap, rfl, a1, a2, _, a4, a5⟩ := hs
  obtain ⟨sb, so, rfl, hsb, hc⟩ := a5 (by omega)
  obtain ⟨hm, y0, y1, x0, x1, c0, c1⟩ := id hi
  obtain ⟨m1, m2, m3, m4, m5, m6⟩ := hm
  obtain ⟨k, hk⟩ : ∃ k : Nat, (placeD u y x c).toNat = k := ⟨_, rfl⟩
  have Q : q = u.xs.getD k 0 := by rw [hq.out, <- hk]; unfold atD; rw [if_pos hi]
  have hp : (y * u.v.w + x) * u.v.c + c = (k : Int) := by
    rw [<- hk, Int.toNat_of_nonneg r0]
    unfold placeD
    rw [F.2.1]; simp
  have k1 : k < u.xs.length := by omega
  have LL := F.len.2
  have wf : -128 <= q /\ q <= 127 := by rw [Q]; exact getD_i8 F.2.2.2.2.2 k
  obtain ⟨q1, q2⟩ := wf
  have cq : W.cell? ⟨sb, so + k, none⟩ = some (.int .i8 q) := by rw [Q]; exact hc k k1
  have e5 : IntKind.i64.wrap q = q := IntWalk.i64_in _ (by omega)
  obtain ⟨p1, hp1⟩ : ∃ p1, y * u.v.w = p1 := ⟨_, rfl⟩
  have pb1 : 0 <= p1 /\ p1 <= 256 := by
    rw [<- hp1]
    exact ⟨Int.mul_nonneg y0 (by omega), Int.le_trans (Int.mul_le_mul (show y <= 16 by omega) m4 (by omega) (by omega)) (by omega)⟩
  rw [hp1] at hp
  obtain ⟨p2, hp2⟩ : ∃ p2, p1 + x = p2 := ⟨_, rfl⟩
  rw [hp2] at hp
  obtain ⟨p3, hp3⟩ : ∃ p3, p2 * u.v.c = p3 := ⟨_, rfl⟩
  rw [hp3] at hp
  have e1 : IntKind.i64.wrap (y * u.v.w) = p1 := by rw [hp1]; exact IntWalk.i64_in _ (by omega)
  have e2 : IntKind.i64.wrap (p1 + x) = p2 := by rw [hp2]; exact IntWalk.i64_in _ (by omega)
  have e3 : IntKind.i64.wrap (p2 * u.v.c) = p3 := by rw [hp3]; exact IntWalk.i64_in _ (by omega)
  have e4 : IntKind.i64.wrap (p3 + c) = (k : Int) := by rw [hp]; exact IntWalk.i64_in _ (by omega)
  have k0 : (0 : Int) <= (k : Int) := by omega
  have k2 : (k : Int) < (u.xs.length : Int) := by omega
  have n0 : decide (y < 0) = false := decide_eq_false (by omega)
  have n1 : decide (u.v.h <= y) = false := decide_eq_false (by omega)
  have n2 : decide (x < 0) = false := decide_eq_false (by omega)
  have n3 : decide (u.v.w <= x) = false := decide_eq_false (by omega)
  have n4 : decide (c < 0) = false := decide_eq_false (by omega)
  have n5 : decide (u.v.c <= c) = false := decide_eq_false (by omega)
  have cc1 : u.xs.length <= cap := a1
  have cc2 : u.xs.length <= 9223372036854775807 := by omega
  clear Q hc a1 a2 a4 a5 hq r0 r1 hk hp1 hp2 hp3 hp F hi LL
  go_enter Tryz.func62, Tryz.ntmps62
  go_upto_region 1 with fail
  refine opq (fun w' => (Bx w' (W.heap.size) #[.int .i64 u.v.h, .int .i64 u.v.w, .int .i64 u.v.c, .int .i64 u.v.z]) /\ (Bx w' (W.heap.size + 1) #[.int .i64 0, .int .i64 u.v.h, .slice (some ⟨sb, so, none⟩) u.xs.length cap]) /\ w'.cell? ⟨sb, so + k, none⟩ = some (.int .i8 q) /\ Grown W w' /\ W.heap.size + 2 <= w'.heap.size) kLaid ?_
  rintro W1 ⟨b1, b2, y1, g1, z1⟩
  go_upto_region 2 with fail
  refine opq (fun w' => (Bx w' (W.heap.size) #[.int .i64 u.v.h, .int .i64 u.v.w, .int .i64 u.v.c, .int .i64 u.v.z]) /\ (Bx w' (W.heap.size + 1) #[.int .i64 0, .int .i64 u.v.h, .slice (some ⟨sb, so, none⟩) u.xs.length cap]) /\ (Bx w' (W1.heap.size) #[.int .i64 u.v.h, .int .i64 u.v.w, .int .i64 u.v.c]) /\ w'.cell? ⟨sb, so + k, none⟩ = some (.int .i8 q) /\ Grown W w' /\ W1.heap.size + 1 <= w'.heap.size) kKeep ?_
  rintro W2 ⟨b3, b4, b5, y2, g2, z2⟩
  clear b1 b2 y1 g1
  go_wp2_with fail
  go_ret
  exact ⟨rfl, g2⟩
theorem rnum_any (u : ViewD) (s : Value) (y x c q : Int) (W : World) (hs : IsNums .i8 W s u.xs) (F : FullV u) (hq : Hid (q = atD u y x c)) : Calls Tryz.prog 62 #[.agg #[.int .i64 u.v.h, .int .i64 u.v.w, .int .i64 u.v.c, .int .i64 u.v.z], .agg #[.int .i64 0, .int .i64 u.v.h, s], .int .i64 y, .int .i64 x, .int .i64 c] W fun e w' => e = .returned (.int .i64 q) /\ Grown W w' := by
  by_cases hi : inS u.v.h u.v.w u.v.c y x c
  . exact rnum_in u s y x c q W hs F hq hi
  . have Q : Hid (q = u.v.z) := Lib.hid (by rw [hq.out]; unfold atD; rw [if_neg hi])
    by_cases h0 : y < 0
    . exact rnum_out0 u s y x c q W h0 Q
    by_cases h1 : u.v.h <= y
    . exact rnum_out1 u s y x c q W h0 h1 Q
    by_cases h2 : x < 0
    . exact rnum_out2 u s y x c q W h0 h1 h2 Q
    by_cases h3 : u.v.w <= x
    . exact rnum_out3 u s y x c q W h0 h1 h2 h3 Q
    by_cases h4 : c < 0
    . exact rnum_out4 u s y x c q W h0 h1 h2 h3 h4 Q
    by_cases h5 : u.v.c <= c
    . exact rnum_out5 u s y x c q W h0 h1 h2 h3 h4 h5 Q
    exact absurd ⟨F.1, by omega, by omega, by omega, by omega, by omega, by omega⟩ hi
theorem rrow_any (H W C q : Int) (w : World) (hq : Hid (q = rowI H W C)) :
    Calls Tryz.prog 61 #[.agg #[.int .i64 H, .int .i64 W, .int .i64 C]] w fun e w' => e = .returned (.int .i64 q) /\ Grown w w' := by
  rw [hq.out]
  by_cases h : mayS H W C
  . have e : rowI H W C = W * C := by unfold rowI; rw [if_pos h]
    rw [e]
    obtain ⟨h1, h2, h3, h4, h5, h6⟩ := id h
    obtain ⟨m1, m2⟩ := mul_bd h3 h4 h5 h6
    go_enter Tryz.func61, Tryz.ntmps61
    go_wp2_with fail
    refine (rmay_yes H W C _ h).mono ?_; rintro e w1 ⟨rfl, g1⟩
    have c1 : w1.cell? ⟨w.heap.size, 1, none⟩ = some (.int .i64 W) := (grown_cell g1 (by simp)).trans (by go_cell)
    have c2 : w1.cell? ⟨w.heap.size, 2, none⟩ = some (.int .i64 C) := (grown_cell g1 (by simp)).trans (by go_cell)
    clear h
    go_wp2_with fail
    go_ret
    exact ⟨rfl, grown_trans (by go_grown) g1⟩
  . have e : rowI H W C = 0 := by unfold rowI; rw [if_neg h]
    rw [e]
    go_enter Tryz.func61, Tryz.ntmps61
    go_wp2_with fail
    refine (rmay_no H W C _ h).mono ?_; rintro e w1 ⟨rfl, g1⟩
    go_wp2_with fail
    go_ret
    exact ⟨rfl, grown_trans (by go_grown) g1⟩
set_option maxHeartbeats 1000000 in
theorem rfits_same (u : ViewD) (s : Value) (p q : Int) (W : World) (hs : IsNums .i8 W s u.xs) (F : FullV u) (hpq : p = q) : Calls Tryz.prog 42 #[.agg #[.int .i64 u.v.h, .int .i64 u.v.w, .int .i64 u.v.c, .int .i64 u.v.z], .agg #[.int .i64 0, .int .i64 u.v.h, s], .int .i64 p, .int .i64 q] W fun e w' => e = .returned (.bool true) /\ Grown W w' := by
  obtain ⟨A, cap, rfl, a1, a2, _, _, _⟩ := hs
  obtain ⟨m1, m2, m3, m4, m5, m6⟩ := id F.1
  have LL := F.len.2
  have FL := F.2.2.2.2.1
  obtain ⟨ro, hro⟩ : ∃ ro, Hid (ro = rowI u.v.h u.v.w u.v.c) := ⟨_, Lib.hid rfl⟩
  have hr : u.v.h * ro = (u.xs.length : Int) := by
    have er : ro = u.v.w * u.v.c := by rw [hro.out]; unfold rowI; rw [if_pos F.1]
    have es : sizeI u.v.h u.v.w u.v.c = u.v.h * u.v.w * u.v.c := by unfold sizeI; rw [if_pos F.1]
    rw [FL, es, er, Int.mul_assoc]
  have e1 : IntKind.i64.wrap (u.v.h * ro) = (u.xs.length : Int) := by rw [hr]; exact IntWalk.i64_in _ (by omega)
  have e0 : IntKind.i64.wrap u.v.h = u.v.h := IntWalk.i64_in _ (by omega)
  have n0 : decide (u.v.h < 0) = false := decide_eq_false (by omega)
  have n1 : decide (u.v.h < u.v.h) = false := decide_eq_false (by omega)
  have n2 : ((u.xs.length : Int) != (u.xs.length : Int)) = false := by simp
  have n3 : decide ((0 : Int) < 0) = false := by decide
  clear F FL hr LL
  have k1 : (p == q) = true := beq_iff_eq.2 hpq
  clear hpq
  go_enter Tryz.func42, Tryz.ntmps42
  go_upto_region 1 with fail
  refine opq (fun w' => (Bx w' (W.heap.size) #[.int .i64 u.v.h, .int .i64 u.v.w, .int .i64 u.v.c, .int .i64 u.v.z]) /\ (Bx w' (W.heap.size + 1) #[.int .i64 0, .int .i64 u.v.h, .slice A u.xs.length cap]) /\ Grown W w' /\ W.heap.size + 2 <= w'.heap.size) kLaid ?_
  rintro W1 ⟨b1, b2, g1, z1⟩
  refine wp_region_fill (fun w' => (Bx w' (W.heap.size) #[.int .i64 u.v.h, .int .i64 u.v.w, .int .i64 u.v.c, .int .i64 u.v.z]) /\ (Bx w' (W.heap.size + 1) #[.int .i64 0, .int .i64 u.v.h, .slice A u.xs.length cap]) /\ Grown W w' /\ W.heap.size + 2 <= w'.heap.size) [(9, ?va9), (10, ?va10), (11, ?va11), (12, ?va12), (13, ?va13), (14, ?va14), (15, ?va15), (16, ?va16), (17, ?va17), (18, ?va18), (19, ?va19), (20, ?va20), (21, ?va21), (22, ?va22), (23, ?va23), (24, ?va24), (25, ?va25), (26, ?va26), (27, ?va27), (28, ?va28), (29, ?va29), (30, ?va30), (31, ?va31), (32, ?va32), (33, ?va33), (34, ?va34), (35, ?va35), (36, ?va36), (37, ?va37), (38, ?va38), (39, ?va39), (40, ?va40), (41, ?va41), (42, ?va42), (43, ?va43), (44, ?va44), (45, ?va45), (46, ?va46), (47, ?va47)] [9, 10, 11, 12, 13, 14, 15, 16, 17, 18, 19, 20, 21, 22, 23, 24, 25, 26, 27, 28, 29, 30, 31, 32, 33, 34, 35, 36, 37, 38, 39, 40, 41, 42, 43, 44, 45, 46, 47] (by kernel_rfl) (by kernel_rfl) rfl (by kernel_rfl) ⟨b1, b2, g1, z1⟩ (fun w h => h) ?alla ?fina
  case alla =>
    simp only [fillA, Act.put, fU1, fU2, fU3]
    iterate 39 (refine owes_cons (fun w hw K hK => ?_) ?_; focus ((have hS := Lib.hid hw); go_split_ands; go_simp; (try simp only [Act.put, List.setIfInBounds_toArray, List.set_cons_zero, List.set_cons_succ]); first | exact hK _ hS.out | (((with_reducible refine (rrow_any _ _ _ ro _ hro).mono ?_); rintro e w6 ⟨rfl, gg⟩); refine hK _ ?_; (exact kKeep))))
    exact True.intro
  case fina =>
    rintro w9 ⟨b3, b4, g3, z3⟩
    simp only [fillA, Act.put, fU1, fU2, fU3]
    clear b1 b2 g1 hro
    go_wp2_with fail
    go_ret
    exact ⟨rfl, g3⟩
set_option maxHeartbeats 1000000 in
theorem rfits_in (u : ViewD) (s : Value) (p q : Int) (W : World) (hs : IsNums .i8 W s u.xs) (F : FullV u) (hpq : p ≠ q) (h0 : 0 <= p) (h1 : q <= u.v.h) : Calls Tryz.prog 42 #[.agg #[.int .i64 u.v.h, .int .i64 u.v.w, .int .i64 u.v.c, .int .i64 u.v.z], .agg #[.int .i64 0, .int .i64 u.v.h, s], .int .i64 p, .int .i64 q] W fun e w' => e = .returned (.bool true) /\ Grown W w' := by
  obtain ⟨A, cap, rfl, a1, a2, _, _, _⟩ := hs
  obtain ⟨m1, m2, m3, m4, m5, m6⟩ := id F.1
  have LL := F.len.2
  have FL := F.2.2.2.2.1
  obtain ⟨ro, hro⟩ : ∃ ro, Hid (ro = rowI u.v.h u.v.w u.v.c) := ⟨_, Lib.hid rfl⟩
  have hr : u.v.h * ro = (u.xs.length : Int) := by
    have er : ro = u.v.w * u.v.c := by rw [hro.out]; unfold rowI; rw [if_pos F.1]
    have es : sizeI u.v.h u.v.w u.v.c = u.v.h * u.v.w * u.v.c := by unfold sizeI; rw [if_pos F.1]
    rw [FL, es, er, Int.mul_assoc]
  have e1 : IntKind.i64.wrap (u.v.h * ro) = (u.xs.length : Int) := by rw [hr]; exact IntWalk.i64_in _ (by omega)
  have e0 : IntKind.i64.wrap u.v.h = u.v.h := IntWalk.i64_in _ (by omega)
  have n0 : decide (u.v.h < 0) = false := decide_eq_false (by omega)
  have n1 : decide (u.v.h < u.v.h) = false := decide_eq_false (by omega)
  have n2 : ((u.xs.length : Int) != (u.xs.length : Int)) = false := by simp
  have n3 : decide ((0 : Int) < 0) = false := by decide
  clear F FL hr LL
  have k1 : (p == q) = false := beq_eq_false_iff_ne.2 hpq
  have k2 : decide ((0 : Int) <= p) = true := decide_eq_true h0
  have k3 : decide (q <= u.v.h) = true := decide_eq_true h1
  go_enter Tryz.func42, Tryz.ntmps42
  go_upto_region 1 with fail
  refine opq (fun w' => (Bx w' (W.heap.size) #[.int .i64 u.v.h, .int .i64 u.v.w, .int .i64 u.v.c, .int .i64 u.v.z]) /\ (Bx w' (W.heap.size + 1) #[.int .i64 0, .int .i64 u.v.h, .slice A u.xs.length cap]) /\ Grown W w' /\ W.heap.size + 2 <= w'.heap.size) kLaid ?_
  rintro W1 ⟨b1, b2, g1, z1⟩
  refine wp_region_fill (fun w' => (Bx w' (W.heap.size) #[.int .i64 u.v.h, .int .i64 u.v.w, .int .i64 u.v.c, .int .i64 u.v.z]) /\ (Bx w' (W.heap.size + 1) #[.int .i64 0, .int .i64 u.v.h, .slice A u.xs.length cap]) /\ Grown W w' /\ W.heap.size + 2 <= w'.heap.size) [(9, ?va9), (10, ?va10), (11, ?va11), (12, ?va12), (13, ?va13), (14, ?va14), (15, ?va15), (16, ?va16), (17, ?va17), (18, ?va18), (19, ?va19), (20, ?va20), (21, ?va21), (22, ?va22), (23, ?va23), (24, ?va24), (25, ?va25), (26, ?va26), (27, ?va27), (28, ?va28), (29, ?va29), (30, ?va30), (31, ?va31), (32, ?va32), (33, ?va33), (34, ?va34), (35, ?va35), (36, ?va36), (37, ?va37), (38, ?va38), (39, ?va39), (40, ?va40), (41, ?va41), (42, ?va42), (43, ?va43), (44, ?va44), (45, ?va45), (46, ?va46), (47, ?va47)] [9, 10, 11, 12, 13, 14, 15, 16, 17, 18, 19, 20, 21, 22, 23, 24, 25, 26, 27, 28, 29, 30, 31, 32, 33, 34, 35, 36, 37, 38, 39, 40, 41, 42, 43, 44, 45, 46, 47] (by kernel_rfl) (by kernel_rfl) rfl (by kernel_rfl) ⟨b1, b2, g1, z1⟩ (fun w h => h) ?alla ?fina
  case alla =>
    simp only [fillA, Act.put, fU1, fU2, fU3]
    iterate 39 (refine owes_cons (fun w hw K hK => ?_) ?_; focus ((have hS := Lib.hid hw); go_split_ands; go_simp; (try simp only [Act.put, List.setIfInBounds_toArray, List.set_cons_zero, List.set_cons_succ]); first | exact hK _ hS.out | (((with_reducible refine (rrow_any _ _ _ ro _ hro).mono ?_); rintro e w6 ⟨rfl, gg⟩); refine hK _ ?_; (exact kKeep))))
    exact True.intro
  case fina =>
    rintro w9 ⟨b3, b4, g3, z3⟩
    simp only [fillA, Act.put, fU1, fU2, fU3]
    clear b1 b2 g1 hro
    go_wp2_with fail
    go_ret
    exact ⟨rfl, g3⟩
theorem rfits_any (u : ViewD) (s : Value) (p q : Int) (W : World) (hs : IsNums .i8 W s u.xs) (F : FullV u) (hpq : p = q ∨ (0 <= p /\ q <= u.v.h)) : Calls Tryz.prog 42 #[.agg #[.int .i64 u.v.h, .int .i64 u.v.w, .int .i64 u.v.c, .int .i64 u.v.z], .agg #[.int .i64 0, .int .i64 u.v.h, s], .int .i64 p, .int .i64 q] W fun e w' => e = .returned (.bool true) /\ Grown W w' := by
  by_cases h : p = q
  . exact rfits_same u s p q W hs F h
  . rcases hpq with e | ⟨e1, e2⟩
    . exact absurd e h
    . exact rfits_in u s p q W hs F h e1 e2
end Go.Proofs.YtliijchcpooplaaGreat
