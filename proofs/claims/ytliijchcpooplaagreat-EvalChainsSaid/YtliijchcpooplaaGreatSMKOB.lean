/- kern: maker, op by op. kern: maker, op by op. kern: maker, op by op. kern: a row. -/
import Derived.Test.YtliijchcpooplaaGreatSMFix
import Derived.Test.YtliijchcpooplaaGreatSMKR
import Derived.Deep.DeepCutAuto
import Derived.OwnWalk
import Derived.Test.YtliijchcpooplaaGreatSMKOA
namespace Go.Proofs.YtliijchcpooplaaGreat
open Go.ChangeShapes Go.WideShapes Go.ChangeAt Go.RowKit
set_option maxRecDepth 20000
set_option linter.unusedVariables false

section
variable {n : NodeD} {vs : List ValD} {a b : ViewD} {m : Int × Int × Int} {y : Int} {vi vw vb lv sa sb : Value} {W : World}

set_option maxHeartbeats 4000000 in
theorem maker_1 (h : MakeOk n vs a b m) (ho : n.op = 1) (y0 : 0 ≤ y) (y1 : y < m.1) (hin : NodeIn W n vi vw vb) (na : IsNums .i8 W sa a.xs) (nb : IsNums .i8 W sb b.xs) :
    Calls Tryz.prog 86 #[.agg #[.int .i64 n.op, vi, .int .i64 n.k, .int .i64 n.stride, .int .i64 n.pad, .int .i64 n.out, .int .i64 n.mul, .int .i64 n.shift, .int .i64 n.zero, .int .i64 n.th, .int .i64 n.tw, .int .i64 n.tc, vw, vb, lv, .int .i64 m.1, .int .i64 m.2.1, .int .i64 m.2.2], .agg #[.int .i64 a.v.h, .int .i64 a.v.w, .int .i64 a.v.c, .int .i64 a.v.z, .int .i64 a.base, .int .i64 a.many, sa], .agg #[.int .i64 b.v.h, .int .i64 b.v.w, .int .i64 b.v.c, .int .i64 b.v.z, .int .i64 b.base, .int .i64 b.many, sb]] W (MakerPost n a b m y W) := by
  have c1 : (n.op == 1) = true := by rw [ho]; decide
  have HO := Lib.hid ho
  clear ho
  go_enter Tryz.func86, Tryz.ntmps86
  go_upto_region 1 with fail
  refine opq (fun w' => (Bx w' (W.heap.size) #[.int .i64 n.op, vi, .int .i64 n.k, .int .i64 n.stride, .int .i64 n.pad, .int .i64 n.out, .int .i64 n.mul, .int .i64 n.shift, .int .i64 n.zero, .int .i64 n.th, .int .i64 n.tw, .int .i64 n.tc, vw, vb, lv, .int .i64 m.1, .int .i64 m.2.1, .int .i64 m.2.2]) ∧ (Bx w' (W.heap.size + 1) #[.int .i64 a.v.h, .int .i64 a.v.w, .int .i64 a.v.c, .int .i64 a.v.z, .int .i64 a.base, .int .i64 a.many, sa]) ∧ (Bx w' (W.heap.size + 2) #[.int .i64 b.v.h, .int .i64 b.v.w, .int .i64 b.v.c, .int .i64 b.v.z, .int .i64 b.base, .int .i64 b.many, sb]) ∧ Grown W w' ∧ W.heap.size + 3 ≤ w'.heap.size) kLaid ?_
  rintro W1 ⟨bt, ba, bb, g1, z1⟩
  have NA := Lib.hid (na.grow (Grown.past g1))
  have NB := Lib.hid (nb.grow (Grown.past g1))
  have NW := Lib.hid (hin.2.1.grow (Grown.past g1))
  have NI := Lib.hid (hin.2.2.grow (Grown.past g1))
  go_upto_region 3 with fail
  refine wp_region_mix [7, 8, 9] (fun w' => (Bx w' (W.heap.size) #[.int .i64 n.op, vi, .int .i64 n.k, .int .i64 n.stride, .int .i64 n.pad, .int .i64 n.out, .int .i64 n.mul, .int .i64 n.shift, .int .i64 n.zero, .int .i64 n.th, .int .i64 n.tw, .int .i64 n.tc, vw, vb, lv, .int .i64 m.1, .int .i64 m.2.1, .int .i64 m.2.2]) ∧ (Bx w' (W.heap.size + 1) #[.int .i64 a.v.h, .int .i64 a.v.w, .int .i64 a.v.c, .int .i64 a.v.z, .int .i64 a.base, .int .i64 a.many, sa]) ∧ Grown W w' ∧ W.heap.size + 3 ≤ w'.heap.size) [(12, ?va12), (13, ?va13), (14, ?va14), (15, ?va15), (16, ?va16), (17, ?va17), (18, ?va18)] [12, 13, 14, 15, 16, 17, 18] (by kernel_rfl) (by kernel_rfl) rfl (by kernel_rfl) ⟨bt, ba, g1, z1⟩ (fun w h => h) ?alla ?fina
  case alla =>
    simp only [fillA, Act.put, List.setIfInBounds_toArray, List.set_cons_zero, List.set_cons_succ]
    iterate 10 (first | refine forced rfl ?_ | (refine reads_load rfl 77 (.tmp 3) rfl (W.heap.size) #[.int .i64 n.op, vi, .int .i64 n.k, .int .i64 n.stride, .int .i64 n.pad, .int .i64 n.out, .int .i64 n.mul, .int .i64 n.shift, .int .i64 n.zero, .int .i64 n.th, .int .i64 n.tw, .int .i64 n.tc, vw, vb, lv, .int .i64 m.1, .int .i64 m.2.1, .int .i64 m.2.2] rfl (fun w h => by (try go_split_ands); assumption) Tryz.underlying77 rfl T18 (by simp only [Act.put, List.setIfInBounds_toArray, List.set_cons_zero, List.set_cons_succ] <;> rfl) ?_) | (refine reads_load rfl 105 (.tmp 4) rfl (W.heap.size + 1) #[.int .i64 a.v.h, .int .i64 a.v.w, .int .i64 a.v.c, .int .i64 a.v.z, .int .i64 a.base, .int .i64 a.many, sa] rfl (fun w h => by (try go_split_ands); assumption) Tryz.underlying105 rfl W7 (by simp only [Act.put, List.setIfInBounds_toArray, List.set_cons_zero, List.set_cons_succ] <;> rfl) ?_) | (refine reads (fun w hw K hK => ?_) ?_; focus ((have hS := Lib.hid hw); go_split_ands; go_simp; (try simp only [Act.put, List.setIfInBounds_toArray, List.set_cons_zero, List.set_cons_succ]); exact hK)))
    exact True.intro
  case fina =>
    rintro w2 ⟨bt, ba, g2, z2⟩
    simp only [fillA, Act.put, List.setIfInBounds_toArray, List.set_cons_zero, List.set_cons_succ]
    refine mix_at 19 rfl rfl (fun K hK => ?_)
    simp only [Act.put, List.setIfInBounds_toArray, List.set_cons_zero, List.set_cons_succ] at hK
    go_simp
    refine (weighed_mk _ _ _ _ _ _ _ _ _ _ _ _).mono ?_; rintro e w6 ⟨rfl, d1, d2, d3, d4, gg, zz⟩
    refine hK _ _ kKeep ?_
    (try simp only [Act.put, List.setIfInBounds_toArray, List.set_cons_zero, List.set_cons_succ])
    refine mix_at 20 rfl rfl (fun K hK => ?_)
    simp only [Act.put, List.setIfInBounds_toArray, List.set_cons_zero, List.set_cons_succ] at hK
    go_simp
    refine (scaled_mk _ _ _ _ _ _ _ _ _).mono ?_; rintro e w7 ⟨rfl, d5, d6, gh, zh⟩
    have bt6 := box_grown gg bt (by omega)
    have ba6 := box_grown gg ba (by omega)
    have g6 := grown_trans g2 gg
    have z6 : W.heap.size + 3 ≤ w6.heap.size := by omega
    refine hK _ _ kKeep ?_
    (try simp only [Act.put, List.setIfInBounds_toArray, List.set_cons_zero, List.set_cons_succ])
    refine mix_at 6 rfl rfl (fun K hK => ?_)
    simp only [Act.put, List.setIfInBounds_toArray, List.set_cons_zero, List.set_cons_succ] at hK
    go_simp
    have g7 := grown_trans g6 gh
    have bt7 := box_grown gh bt6 (by omega)
    have ba7 := box_grown gh ba6 (by omega)
    have z7 : W.heap.size + 3 ≤ w7.heap.size := by omega
    refine hK _ _ kKeep ?_
    (try simp only [Act.put, List.setIfInBounds_toArray, List.set_cons_zero, List.set_cons_succ])
    refine mix_nil ?_
    go_wp2_with fail
    go_ret
    have p7 : Past W w7 := Grown.past g7
    have NA7 := na.grow p7
    have NW7 := hin.2.1.grow p7
    have NI7 := hin.2.2.grow p7
    obtain ⟨mn, C, hmn, hC, hL, hl2, mn1, mn8⟩ := conv_len h HO.out
    rw [hmn] at d3
    exact ⟨_, rfl, is_weighed (mn := mn) (C := C) h (Or.inl HO.out) y0 y1 (fun _ => 0) NA7 NW7 NI7 (box_grown gh d1 (by omega)) (by omega) (box_grown gh d2 (by omega)) (by omega) (box_grown gh d3 (by omega)) (by omega) (box_grown gh d4 (by omega)) (by omega) enters_from0 (fun c w => from0_any c w) d5 (by omega) rfl d6 (by omega) hC hL hl2 (lens1 h HO.out).2.2 mn1 mn8 (fun c _ _ => by omega) (fun x c _ _ _ _ => by rw [num1 HO.out, hmn, Int.toNat_natCast]), g7⟩
end
end Go.Proofs.YtliijchcpooplaaGreat
namespace Go.Proofs.YtliijchcpooplaaGreat
open Go.ChangeShapes Go.WideShapes Go.ChangeAt Go.RowKit
set_option maxRecDepth 20000
set_option linter.unusedVariables false

section
variable {n : NodeD} {vs : List ValD} {a b : ViewD} {m : Int × Int × Int} {y : Int} {vi vw vb lv sa sb : Value} {W : World}

set_option maxHeartbeats 4000000 in
theorem maker_2 (h : MakeOk n vs a b m) (ho : n.op = 2) (y0 : 0 ≤ y) (y1 : y < m.1) (hin : NodeIn W n vi vw vb) (na : IsNums .i8 W sa a.xs) (nb : IsNums .i8 W sb b.xs) :
    Calls Tryz.prog 86 #[.agg #[.int .i64 n.op, vi, .int .i64 n.k, .int .i64 n.stride, .int .i64 n.pad, .int .i64 n.out, .int .i64 n.mul, .int .i64 n.shift, .int .i64 n.zero, .int .i64 n.th, .int .i64 n.tw, .int .i64 n.tc, vw, vb, lv, .int .i64 m.1, .int .i64 m.2.1, .int .i64 m.2.2], .agg #[.int .i64 a.v.h, .int .i64 a.v.w, .int .i64 a.v.c, .int .i64 a.v.z, .int .i64 a.base, .int .i64 a.many, sa], .agg #[.int .i64 b.v.h, .int .i64 b.v.w, .int .i64 b.v.c, .int .i64 b.v.z, .int .i64 b.base, .int .i64 b.many, sb]] W (MakerPost n a b m y W) := by
  have c1 : (n.op == 1) = false := by rw [ho]; decide
  have c2 : (n.op == 2) = true := by rw [ho]; decide
  have HO := Lib.hid ho
  clear ho
  go_enter Tryz.func86, Tryz.ntmps86
  go_upto_region 1 with fail
  refine opq (fun w' => (Bx w' (W.heap.size) #[.int .i64 n.op, vi, .int .i64 n.k, .int .i64 n.stride, .int .i64 n.pad, .int .i64 n.out, .int .i64 n.mul, .int .i64 n.shift, .int .i64 n.zero, .int .i64 n.th, .int .i64 n.tw, .int .i64 n.tc, vw, vb, lv, .int .i64 m.1, .int .i64 m.2.1, .int .i64 m.2.2]) ∧ (Bx w' (W.heap.size + 1) #[.int .i64 a.v.h, .int .i64 a.v.w, .int .i64 a.v.c, .int .i64 a.v.z, .int .i64 a.base, .int .i64 a.many, sa]) ∧ (Bx w' (W.heap.size + 2) #[.int .i64 b.v.h, .int .i64 b.v.w, .int .i64 b.v.c, .int .i64 b.v.z, .int .i64 b.base, .int .i64 b.many, sb]) ∧ Grown W w' ∧ W.heap.size + 3 ≤ w'.heap.size) kLaid ?_
  rintro W1 ⟨bt, ba, bb, g1, z1⟩
  have NA := Lib.hid (na.grow (Grown.past g1))
  have NB := Lib.hid (nb.grow (Grown.past g1))
  have NW := Lib.hid (hin.2.1.grow (Grown.past g1))
  have NI := Lib.hid (hin.2.2.grow (Grown.past g1))
  go_upto_region 5 with fail
  refine wp_region_mix [3, 4, 5] (fun w' => (Bx w' (W.heap.size) #[.int .i64 n.op, vi, .int .i64 n.k, .int .i64 n.stride, .int .i64 n.pad, .int .i64 n.out, .int .i64 n.mul, .int .i64 n.shift, .int .i64 n.zero, .int .i64 n.th, .int .i64 n.tw, .int .i64 n.tc, vw, vb, lv, .int .i64 m.1, .int .i64 m.2.1, .int .i64 m.2.2]) ∧ (Bx w' (W.heap.size + 1) #[.int .i64 a.v.h, .int .i64 a.v.w, .int .i64 a.v.c, .int .i64 a.v.z, .int .i64 a.base, .int .i64 a.many, sa]) ∧ Grown W w' ∧ W.heap.size + 3 ≤ w'.heap.size) [(23, ?va23), (24, ?va24), (25, ?va25)] [23, 24, 25] (by kernel_rfl) (by kernel_rfl) rfl (by kernel_rfl) ⟨bt, ba, g1, z1⟩ (fun w h => h) ?alla ?fina
  case alla =>
    simp only [fillA, Act.put, List.setIfInBounds_toArray, List.set_cons_zero, List.set_cons_succ]
    iterate 6 (first | refine forced rfl ?_ | (refine reads_load rfl 77 (.tmp 3) rfl (W.heap.size) #[.int .i64 n.op, vi, .int .i64 n.k, .int .i64 n.stride, .int .i64 n.pad, .int .i64 n.out, .int .i64 n.mul, .int .i64 n.shift, .int .i64 n.zero, .int .i64 n.th, .int .i64 n.tw, .int .i64 n.tc, vw, vb, lv, .int .i64 m.1, .int .i64 m.2.1, .int .i64 m.2.2] rfl (fun w h => by (try go_split_ands); assumption) Tryz.underlying77 rfl T18 (by simp only [Act.put, List.setIfInBounds_toArray, List.set_cons_zero, List.set_cons_succ] <;> rfl) ?_) | (refine reads_load rfl 105 (.tmp 4) rfl (W.heap.size + 1) #[.int .i64 a.v.h, .int .i64 a.v.w, .int .i64 a.v.c, .int .i64 a.v.z, .int .i64 a.base, .int .i64 a.many, sa] rfl (fun w h => by (try go_split_ands); assumption) Tryz.underlying105 rfl W7 (by simp only [Act.put, List.setIfInBounds_toArray, List.set_cons_zero, List.set_cons_succ] <;> rfl) ?_) | (refine reads (fun w hw K hK => ?_) ?_; focus ((have hS := Lib.hid hw); go_split_ands; go_simp; (try simp only [Act.put, List.setIfInBounds_toArray, List.set_cons_zero, List.set_cons_succ]); exact hK)))
    exact True.intro
  case fina =>
    rintro w2 ⟨bt, ba, g2, z2⟩
    simp only [fillA, Act.put, List.setIfInBounds_toArray, List.set_cons_zero, List.set_cons_succ]
    refine mix_at 26 rfl rfl (fun K hK => ?_)
    simp only [Act.put, List.setIfInBounds_toArray, List.set_cons_zero, List.set_cons_succ] at hK
    go_simp
    refine (weighed_mk _ _ _ _ _ _ _ _ _ _ _ _).mono ?_; rintro e w6 ⟨rfl, d1, d2, d3, d4, gg, zz⟩
    refine hK _ _ kKeep ?_
    (try simp only [Act.put, List.setIfInBounds_toArray, List.set_cons_zero, List.set_cons_succ])
    refine mix_at 27 rfl rfl (fun K hK => ?_)
    simp only [Act.put, List.setIfInBounds_toArray, List.set_cons_zero, List.set_cons_succ] at hK
    go_simp
    refine (scaled_mk _ _ _ _ _ _ _ _ _).mono ?_; rintro e w7 ⟨rfl, d5, d6, gh, zh⟩
    have bt6 := box_grown gg bt (by omega)
    have ba6 := box_grown gg ba (by omega)
    have g6 := grown_trans g2 gg
    have z6 : W.heap.size + 3 ≤ w6.heap.size := by omega
    refine hK _ _ kKeep ?_
    (try simp only [Act.put, List.setIfInBounds_toArray, List.set_cons_zero, List.set_cons_succ])
    refine mix_at 6 rfl rfl (fun K hK => ?_)
    simp only [Act.put, List.setIfInBounds_toArray, List.set_cons_zero, List.set_cons_succ] at hK
    go_simp
    have g7 := grown_trans g6 gh
    have bt7 := box_grown gh bt6 (by omega)
    have ba7 := box_grown gh ba6 (by omega)
    have z7 : W.heap.size + 3 ≤ w7.heap.size := by omega
    refine hK _ _ kKeep ?_
    (try simp only [Act.put, List.setIfInBounds_toArray, List.set_cons_zero, List.set_cons_succ])
    refine mix_nil ?_
    go_wp2_with fail
    go_ret
    have p7 : Past W w7 := Grown.past g7
    have NA7 := na.grow p7
    have NW7 := hin.2.1.grow p7
    have NI7 := hin.2.2.grow p7
    obtain ⟨C, hC, hL, hl2⟩ := depth_len h HO.out
    obtain ⟨_, _, _, _, _, m6⟩ := h.m16
    exact ⟨_, rfl, is_weighed (mn := 1) (C := C) h (Or.inr HO.out) y0 y1 (fun c => c) NA7 NW7 NI7 (box_grown gh d1 (by omega)) (by omega) (box_grown gh d2 (by omega)) (by omega) (box_grown gh d3 (by omega)) (by omega) (box_grown gh d4 (by omega)) (by omega) enters_fromC (fun c w => fromC_any c w) d5 (by omega) rfl d6 (by omega) hC hL hl2 (lens2 h HO.out).2.2 (by omega) (by omega) (fun c c0 c1 => by omega) (fun x c _ _ _ _ => num2 HO.out a b m y x c), g7⟩
end
end Go.Proofs.YtliijchcpooplaaGreat
namespace Go.Proofs.YtliijchcpooplaaGreat
open Go.ChangeShapes Go.WideShapes Go.ChangeAt Go.RowKit
set_option maxRecDepth 20000
set_option linter.unusedVariables false

section
variable {n : NodeD} {vs : List ValD} {a b : ViewD} {m : Int × Int × Int} {y : Int} {vi vw vb lv sa sb : Value} {W : World}

set_option maxHeartbeats 4000000 in
theorem maker_3 (h : MakeOk n vs a b m) (ho : n.op = 3) (y0 : 0 ≤ y) (y1 : y < m.1) (hin : NodeIn W n vi vw vb) (na : IsNums .i8 W sa a.xs) (nb : IsNums .i8 W sb b.xs) :
    Calls Tryz.prog 86 #[.agg #[.int .i64 n.op, vi, .int .i64 n.k, .int .i64 n.stride, .int .i64 n.pad, .int .i64 n.out, .int .i64 n.mul, .int .i64 n.shift, .int .i64 n.zero, .int .i64 n.th, .int .i64 n.tw, .int .i64 n.tc, vw, vb, lv, .int .i64 m.1, .int .i64 m.2.1, .int .i64 m.2.2], .agg #[.int .i64 a.v.h, .int .i64 a.v.w, .int .i64 a.v.c, .int .i64 a.v.z, .int .i64 a.base, .int .i64 a.many, sa], .agg #[.int .i64 b.v.h, .int .i64 b.v.w, .int .i64 b.v.c, .int .i64 b.v.z, .int .i64 b.base, .int .i64 b.many, sb]] W (MakerPost n a b m y W) := by
  have c1 : (n.op == 1) = false := by rw [ho]; decide
  have c2 : (n.op == 2) = false := by rw [ho]; decide
  have c3 : (n.op == 3) = true := by rw [ho]; decide
  have HO := Lib.hid ho
  clear ho
  go_enter Tryz.func86, Tryz.ntmps86
  go_upto_region 1 with fail
  refine opq (fun w' => (Bx w' (W.heap.size) #[.int .i64 n.op, vi, .int .i64 n.k, .int .i64 n.stride, .int .i64 n.pad, .int .i64 n.out, .int .i64 n.mul, .int .i64 n.shift, .int .i64 n.zero, .int .i64 n.th, .int .i64 n.tw, .int .i64 n.tc, vw, vb, lv, .int .i64 m.1, .int .i64 m.2.1, .int .i64 m.2.2]) ∧ (Bx w' (W.heap.size + 1) #[.int .i64 a.v.h, .int .i64 a.v.w, .int .i64 a.v.c, .int .i64 a.v.z, .int .i64 a.base, .int .i64 a.many, sa]) ∧ (Bx w' (W.heap.size + 2) #[.int .i64 b.v.h, .int .i64 b.v.w, .int .i64 b.v.c, .int .i64 b.v.z, .int .i64 b.base, .int .i64 b.many, sb]) ∧ Grown W w' ∧ W.heap.size + 3 ≤ w'.heap.size) kLaid ?_
  rintro W1 ⟨bt, ba, bb, g1, z1⟩
  have NA := Lib.hid (na.grow (Grown.past g1))
  have NB := Lib.hid (nb.grow (Grown.past g1))
  have NW := Lib.hid (hin.2.1.grow (Grown.past g1))
  have NI := Lib.hid (hin.2.2.grow (Grown.past g1))
  go_upto_region 7 with fail
  refine wp_region_mix [3, 4, 5] (fun w' => (Bx w' (W.heap.size) #[.int .i64 n.op, vi, .int .i64 n.k, .int .i64 n.stride, .int .i64 n.pad, .int .i64 n.out, .int .i64 n.mul, .int .i64 n.shift, .int .i64 n.zero, .int .i64 n.th, .int .i64 n.tw, .int .i64 n.tc, vw, vb, lv, .int .i64 m.1, .int .i64 m.2.1, .int .i64 m.2.2]) ∧ (Bx w' (W.heap.size + 1) #[.int .i64 a.v.h, .int .i64 a.v.w, .int .i64 a.v.c, .int .i64 a.v.z, .int .i64 a.base, .int .i64 a.many, sa]) ∧ Grown W w' ∧ W.heap.size + 3 ≤ w'.heap.size) [(30, ?va30), (31, ?va31), (32, ?va32)] [30, 31, 32] (by kernel_rfl) (by kernel_rfl) rfl (by kernel_rfl) ⟨bt, ba, g1, z1⟩ (fun w h => h) ?alla ?fina
  case alla =>
    simp only [fillA, Act.put, List.setIfInBounds_toArray, List.set_cons_zero, List.set_cons_succ]
    iterate 6 (first | refine forced rfl ?_ | (refine reads_load rfl 77 (.tmp 3) rfl (W.heap.size) #[.int .i64 n.op, vi, .int .i64 n.k, .int .i64 n.stride, .int .i64 n.pad, .int .i64 n.out, .int .i64 n.mul, .int .i64 n.shift, .int .i64 n.zero, .int .i64 n.th, .int .i64 n.tw, .int .i64 n.tc, vw, vb, lv, .int .i64 m.1, .int .i64 m.2.1, .int .i64 m.2.2] rfl (fun w h => by (try go_split_ands); assumption) Tryz.underlying77 rfl T18 (by simp only [Act.put, List.setIfInBounds_toArray, List.set_cons_zero, List.set_cons_succ] <;> rfl) ?_) | (refine reads_load rfl 105 (.tmp 4) rfl (W.heap.size + 1) #[.int .i64 a.v.h, .int .i64 a.v.w, .int .i64 a.v.c, .int .i64 a.v.z, .int .i64 a.base, .int .i64 a.many, sa] rfl (fun w h => by (try go_split_ands); assumption) Tryz.underlying105 rfl W7 (by simp only [Act.put, List.setIfInBounds_toArray, List.set_cons_zero, List.set_cons_succ] <;> rfl) ?_) | (refine reads (fun w hw K hK => ?_) ?_; focus ((have hS := Lib.hid hw); go_split_ands; go_simp; (try simp only [Act.put, List.setIfInBounds_toArray, List.set_cons_zero, List.set_cons_succ]); exact hK)))
    exact True.intro
  case fina =>
    rintro w2 ⟨bt, ba, g2, z2⟩
    simp only [fillA, Act.put, List.setIfInBounds_toArray, List.set_cons_zero, List.set_cons_succ]
    refine mix_at 33 rfl rfl (fun K hK => ?_)
    simp only [Act.put, List.setIfInBounds_toArray, List.set_cons_zero, List.set_cons_succ] at hK
    go_simp
    refine (whole_mk _ _ _ _ _ _ _ _ _).mono ?_; rintro e w6 ⟨rfl, d1, d2, gg, zz⟩
    refine hK _ _ kKeep ?_
    (try simp only [Act.put, List.setIfInBounds_toArray, List.set_cons_zero, List.set_cons_succ])
    refine mix_at 34 rfl rfl (fun K hK => ?_)
    simp only [Act.put, List.setIfInBounds_toArray, List.set_cons_zero, List.set_cons_succ] at hK
    go_simp
    refine (scaled_mk _ _ _ _ _ _ _ _ _).mono ?_; rintro e w7 ⟨rfl, d5, d6, gh, zh⟩
    have bt6 := box_grown gg bt (by omega)
    have ba6 := box_grown gg ba (by omega)
    have g6 := grown_trans g2 gg
    have z6 : W.heap.size + 3 ≤ w6.heap.size := by omega
    refine hK _ _ kKeep ?_
    (try simp only [Act.put, List.setIfInBounds_toArray, List.set_cons_zero, List.set_cons_succ])
    refine mix_at 6 rfl rfl (fun K hK => ?_)
    simp only [Act.put, List.setIfInBounds_toArray, List.set_cons_zero, List.set_cons_succ] at hK
    go_simp
    have g7 := grown_trans g6 gh
    have bt7 := box_grown gh bt6 (by omega)
    have ba7 := box_grown gh ba6 (by omega)
    have z7 : W.heap.size + 3 ≤ w7.heap.size := by omega
    refine hK _ _ kKeep ?_
    (try simp only [Act.put, List.setIfInBounds_toArray, List.set_cons_zero, List.set_cons_succ])
    refine mix_nil ?_
    go_wp2_with fail
    go_ret
    have p7 : Past W w7 := Grown.past g7
    have NA7 := na.grow p7
    have NW7 := hin.2.1.grow p7
    have NI7 := hin.2.2.grow p7
    exact ⟨_, rfl, is_full h HO.out NA7 NW7 NI7 (box_grown gh d1 (by omega)) (by omega) (box_grown gh d2 (by omega)) (by omega) d5 (by omega) rfl d6 (by omega), g7⟩
end
end Go.Proofs.YtliijchcpooplaaGreat
namespace Go.Proofs.YtliijchcpooplaaGreat
open Go.ChangeShapes Go.WideShapes Go.ChangeAt Go.RowKit
set_option maxRecDepth 20000
set_option linter.unusedVariables false

theorem maker_any {n : NodeD} {vs : List ValD} {a b : ViewD} {m : Int × Int × Int} {y : Int} {vi vw vb lv sa sb : Value} {W : World} (h : MakeOk n vs a b m) (y0 : 0 ≤ y) (y1 : y < m.1) (hin : NodeIn W n vi vw vb) (na : IsNums .i8 W sa a.xs) (nb : IsNums .i8 W sb b.xs) :
    Calls Tryz.prog 86 #[.agg #[.int .i64 n.op, vi, .int .i64 n.k, .int .i64 n.stride, .int .i64 n.pad, .int .i64 n.out, .int .i64 n.mul, .int .i64 n.shift, .int .i64 n.zero, .int .i64 n.th, .int .i64 n.tw, .int .i64 n.tc, vw, vb, lv, .int .i64 m.1, .int .i64 m.2.1, .int .i64 m.2.2], .agg #[.int .i64 a.v.h, .int .i64 a.v.w, .int .i64 a.v.c, .int .i64 a.v.z, .int .i64 a.base, .int .i64 a.many, sa], .agg #[.int .i64 b.v.h, .int .i64 b.v.w, .int .i64 b.v.c, .int .i64 b.v.z, .int .i64 b.base, .int .i64 b.many, sb]] W (MakerPost n a b m y W) := by
  obtain ⟨o1, o2⟩ := (value_parts h.1).1.1
  rcases (show n.op = 1 ∨ n.op = 2 ∨ n.op = 3 ∨ n.op = 4 ∨ n.op = 5 ∨ n.op = 6 ∨ n.op = 7 ∨ n.op = 8 ∨ n.op = 9 ∨ n.op = 10 ∨ n.op = 11 ∨ n.op = 12 by omega) with c | c | c | c | c | c | c | c | c | c | c | c
  · exact maker_1 h c y0 y1 hin na nb
  · exact maker_2 h c y0 y1 hin na nb
  · exact maker_3 h c y0 y1 hin na nb
  · exact maker_4 h c y0 y1 hin na nb
  · exact maker_5 h c y0 y1 hin na nb
  · exact maker_6 h c y0 y1 hin na nb
  · exact maker_7 h c y0 y1 hin na nb
  · exact maker_8 h c y0 y1 hin na nb
  · exact maker_9 h c y0 y1 hin na nb
  · exact maker_10 h c y0 y1 hin na nb
  · exact maker_11 h c y0 y1 hin na nb
  · exact maker_12 h c y0 y1 hin na nb
/-- The numbers of a row, and of all rows. -/
noncomputable def rowF (n : NodeD) (a b : ViewD) (m : Int × Int × Int) (y : Int) (i : Nat) : Int := numD n a b m y ((i / m.2.2.toNat : Nat) : Int) ((i % m.2.2.toNat : Nat) : Int)
noncomputable def rowL (n : NodeD) (a b : ViewD) (m : Int × Int × Int) (y : Int) (k : Nat) : List Int := (List.range k).map (rowF n a b m y)
theorem rowL_succ (n : NodeD) (a b : ViewD) (m : Int × Int × Int) (y : Int) (k : Nat) : rowL n a b m y (k + 1) = rowL n a b m y k ++ [rowF n a b m y k] := by
  unfold rowL
  rw [List.range_succ, List.map_append]
  rfl
theorem rowF_at (n : NodeD) (a b : ViewD) (m : Int × Int × Int) (y : Int) (x c : Nat) (hc : c < m.2.2.toNat) : rowF n a b m y (x * m.2.2.toNat + c) = numD n a b m y x c := by
  unfold rowF
  rw [Nat.mul_comm x, Nat.mul_add_div (by omega), Nat.div_eq_of_lt hc, Nat.add_zero, Nat.mul_add_mod, Nat.mod_eq_of_lt hc]
theorem sumN_mid {f : Nat → Int} {lo hi : Int} {k : Nat} (h : ∀ i, i < k → lo ≤ f i ∧ f i ≤ hi) : lo * k ≤ sumN f k ∧ sumN f k ≤ hi * k := by
  induction k with
  | zero => simp [sumN]
  | succ k ih =>
    have a := ih (fun i hi => h i (by omega))
    have b := h k (by omega)
    have e1 : lo * ((k + 1 : Nat) : Int) = lo * k + lo := by rw [Int.natCast_add, Int.mul_add]; simp
    have e2 : hi * ((k + 1 : Nat) : Int) = hi * k + hi := by rw [Int.natCast_add, Int.mul_add]; simp
    simp only [sumN]
    rw [e1, e2]
    omega
theorem numD_bd {n : NodeD} {vs : List ValD} {a b : ViewD} {m : Int × Int × Int} (h : MakeOk n vs a b m) (hw : ∀ k, -128 ≤ n.ws.getD k 0 ∧ n.ws.getD k 0 ≤ 127) {y x : Int} (y0 : 0 ≤ y) (y1 : y < m.1) (x0 : 0 ≤ x) (x1 : x < m.2.1) (d : Int) : -128 ≤ numD n a b m y x d ∧ numD n a b m y x d ≤ 127 := by
  have A := fun y x c => atD_bd h.2.2.1.ok y x c
  obtain ⟨o1, o2⟩ := (value_parts h.1).1.1
  rcases (show n.op = 1 ∨ n.op = 2 ∨ n.op = 3 ∨ n.op = 4 ∨ n.op = 5 ∨ n.op = 6 ∨ n.op = 7 ∨ n.op = 8 ∨ n.op = 9 ∨ n.op = 10 ∨ n.op = 11 ∨ n.op = 12 by omega) with c | c | c | c | c | c | c | c | c | c | c | c
  · rw [num1 c]; exact scaleD_bd _ _ _ _
  · rw [num2 c]; exact scaleD_bd _ _ _ _
  · rw [num3 c]; exact scaleD_bd _ _ _ _
  · rw [num4 c]; exact mostN_bd (fun i _ => A _ _ _)
  · rw [num5 c]
    obtain ⟨⟨k1, k3⟩, _⟩ := h.win (by omega) y0 y1 x0 x1
    have s := sumN_mid (f := underN n a y x d) (lo := -128) (hi := 127) (k := n.k.toNat * n.k.toNat) (fun i _ => A _ _ _)
    have e : ((n.k.toNat * n.k.toNat : Nat) : Int) = n.k * n.k := by rw [Int.natCast_mul, Int.toNat_of_nonneg (by omega)]
    rw [e] at s
    have kk := (mul_bd k1 k3 k1 k3).1
    have e1 := fx.rd_mul (-128) (n.k * n.k) (by omega)
    have e2 := fx.rd_mul 127 (n.k * n.k) (by omega)
    have m1 := fx.rd_mono (-128 * (n.k * n.k)) _ (n.k * n.k) (by omega) s.1
    have m2 := fx.rd_mono _ (127 * (n.k * n.k)) (n.k * n.k) (by omega) s.2
    rw [e1] at m1
    rw [e2] at m2
    exact ⟨m1, m2⟩
  · rw [num6 c]; exact scaleD_bd _ _ _ _
  · rw [num7 c]; exact scaleD_bd _ _ _ _
  · rw [num8 c]; have := A y x d; have := h.scaled; omega
  · rw [num9 c]; exact A _ _ _
  · rw [num10 c]; have fb := (h.2.2.2.2 (by omega)).1; split
    · exact A _ _ _
    · exact atD_bd fb.ok _ _ _
  · rw [num11 c]; exact getD_i8 h.2.2.1.2.2.2.2.2 _
  · rw [num12 c]; exact hw _
theorem infoI8 : (Tryz.prog.info? 35).map (fun i => (i.zero, i.size, i.bytes)) = some (some (.int .i8 0), 1, 1) := by kernel_rfl
def Own8 (w : World) (base : Nat) (v : Value) (xs : List Int) : Prop := w.ownsRow base 35 1 v xs.length (xs.map (Value.int .i8))
theorem Own8.nil (w : World) (base : Nat) : Own8 w base (.slice none 0 0) [] := World.ownsRow_nil _ _ _ _
theorem own8_add {w : World} {base : Nat} {v : Value} {xs : List Int} {u : Int} (h : w.ownsRow base 35 1 v (xs.length + 1) (xs.map (Value.int .i8) ++ [.int .i8 u])) : Own8 w base v (xs ++ [u]) := by
  unfold Own8
  simpa using h
theorem Own8.past {w w' : World} {base : Nat} {v : Value} {xs : List Int} (h : Own8 w base v xs) (g : Past w w') : Own8 w' base v xs := by
  obtain ⟨hl, h⟩ := h
  refine ⟨hl, ?_⟩
  rcases h with ⟨rfl, h0⟩ | ⟨b, cap, cur, rfl, hb, hg, hn, hm, hs, ht⟩
  · exact .inl ⟨rfl, h0⟩
  · exact .inr ⟨b, cap, cur, rfl, hb, (g.2.2.2 b (Array.getElem?_eq_some_iff.1 hg).1).trans hg, hn, hm, hs, ht⟩
theorem Own8.nums {w : World} {base : Nat} {v : Value} {xs : List Int} (ho : Own8 w base v xs) (wf : ∀ x ∈ xs, -128 ≤ x ∧ x ≤ 127) : IsNums .i8 w v xs := by
  obtain ⟨hl, h⟩ := ho
  have wf' : ∀ x ∈ xs, (Lit.int .i8 x).wf = true := fun x hx => by have := wf x hx; simp [Lit.wf, IntKind.min, IntKind.max, IntKind.bits, IntKind.signed]; omega
  rcases h with ⟨rfl, h0⟩ | ⟨b, cap, cur, rfl, hb, hg, hn, hm, hs, ht⟩
  · have : xs = [] := List.eq_nil_of_length_eq_zero h0
    subst this
    exact ⟨none, 0, rfl, Nat.le_refl _, Nat.zero_le _, fun _ => rfl, by simp, by simp⟩
  · refine ⟨some ⟨b, 0, none⟩, cap, rfl, hn, hm, (fun h => by cases h), wf', fun hp => ⟨b, 0, rfl, (Array.getElem?_eq_some_iff.1 hg).1, fun i hi => ?_⟩⟩
    have key : w.cell? ⟨b, 0 + i, none⟩ = (xs.map (Value.int .i8))[i]? := by
      rw [← ht, List.getElem?_take_of_lt (by omega)]
      simp [World.cell?, hg]
    rw [key]
    simp [List.getD, hi]
theorem Own8.lt {w : World} {base : Nat} {v : Value} {xs : List Int} (h : Own8 w base v xs) : ∀ k, v.ownBlock = some k → base ≤ k ∧ k < w.heap.size := World.ownsRow.lt h
theorem cells_new1 (w : World) (l : List Value) (t : TypeId) (j : Nat) (u : Value) (h : l[j]? = some u) : (w.alloc (.cells ⟨l⟩ t)).cell? ((⟨w.heap.size, 0, none⟩ : Addr).add j) = some u := by
  rw [Addr.add_mid]
  have := box_new (w := w) (cs := ⟨l⟩) (t := t) (b := w.heap.size) rfl (0 + j)
  rw [this]
  simpa using h
set_option maxHeartbeats 8000000 in
theorem row_made (n : NodeD) (vi vw vb lv : Value) (m : Int × Int × Int) (a b : ViewD) (sa sb : Value) (vs : List ValD) (y : Int) (W : World) (h : MakeOk n vs a b m) (y0 : 0 ≤ y) (y1 : y < m.1) (hin : NodeIn W n vi vw vb) (na : IsNums .i8 W sa a.xs) (nb : IsNums .i8 W sb b.xs) :
    Calls Tryz.prog 59 #[.agg #[.int .i64 n.op, vi, .int .i64 n.k, .int .i64 n.stride, .int .i64 n.pad, .int .i64 n.out, .int .i64 n.mul, .int .i64 n.shift, .int .i64 n.zero, .int .i64 n.th, .int .i64 n.tw, .int .i64 n.tc, vw, vb, lv, .int .i64 m.1, .int .i64 m.2.1, .int .i64 m.2.2], .agg #[.int .i64 a.v.h, .int .i64 a.v.w, .int .i64 a.v.c, .int .i64 a.v.z, .int .i64 a.base, .int .i64 a.many, sa, .int .i64 b.v.h, .int .i64 b.v.w, .int .i64 b.v.c, .int .i64 b.v.z, .int .i64 b.base, .int .i64 b.many, sb], .int .i64 y] W fun e w' => ∃ v, e = .returned v ∧ IsNums .i8 w' v (rowL n a b m y (m.2.1.toNat * m.2.2.toNat)) ∧ Past W w' := by
  have MK := Lib.hid (fun w (g : Past W w) => maker_any (vi := vi) (vw := vw) (vb := vb) (lv := lv) (sa := sa) (sb := sb) h y0 y1 (hin.grow g) (na.grow g) (nb.grow g))
  have HW := Lib.hid (fun k => nums_i8 hin.2.1 k)
  have H := Lib.hid h
  obtain ⟨m1, m2, m3, m4, m5, m6⟩ := h.m16
  obtain ⟨X, hX⟩ : ∃ X : Nat, m.2.1 = X := ⟨m.2.1.toNat, by omega⟩
  obtain ⟨C, hC⟩ : ∃ C : Nat, m.2.2 = C := ⟨m.2.2.toNat, by omega⟩
  have hXn : m.2.1.toNat = X := by rw [hX]; rfl
  have hCn : m.2.2.toNat = C := by rw [hC]; rfl
  have X16 : X ≤ 16 := by omega
  have C8 : C ≤ 8 := by omega
  rw [hXn, hCn]
  have HX := Lib.hid hX
  have HC := Lib.hid hC
  have HCN := Lib.hid hCn
  obtain ⟨i0, hi0, hz0, hz1, hz2⟩ := info_parts infoI8
  have I1 := Lib.hid hi0
  have I2 := Lib.hid hz0
  have I3 := Lib.hid hz1
  have I4 := Lib.hid hz2
  clear hi0 hz0 hz1 hz2 h hin na nb hX hC hXn hCn m1 m2 m3 m4 m5 m6
  go_enter Tryz.func59, Tryz.ntmps59
  go_upto_region 1 with fail
  refine opq (fun w' => (Bx w' (W.heap.size) #[.int .i64 n.op, vi, .int .i64 n.k, .int .i64 n.stride, .int .i64 n.pad, .int .i64 n.out, .int .i64 n.mul, .int .i64 n.shift, .int .i64 n.zero, .int .i64 n.th, .int .i64 n.tw, .int .i64 n.tc, vw, vb, lv, .int .i64 m.1, .int .i64 m.2.1, .int .i64 m.2.2]) ∧ (Bx w' (W.heap.size + 1) #[.int .i64 a.v.h, .int .i64 a.v.w, .int .i64 a.v.c, .int .i64 a.v.z, .int .i64 a.base, .int .i64 a.many, sa, .int .i64 b.v.h, .int .i64 b.v.w, .int .i64 b.v.c, .int .i64 b.v.z, .int .i64 b.base, .int .i64 b.many, sb]) ∧ Past W w' ∧ W.heap.size + 2 ≤ w'.heap.size) kKeep ?_
  rintro W1 ⟨bt, b4, p1, z1⟩
  go_wp2_with (refine wpList_load_box rfl 77 (.tmp 3) rfl W.heap.size #[.int .i64 n.op, vi, .int .i64 n.k, .int .i64 n.stride, .int .i64 n.pad, .int .i64 n.out, .int .i64 n.mul, .int .i64 n.shift, .int .i64 n.zero, .int .i64 n.th, .int .i64 n.tw, .int .i64 n.tc, vw, vb, lv, .int .i64 m.1, .int .i64 m.2.1, .int .i64 m.2.2] rfl bt Tryz.underlying77 rfl T18 ?_)
  refine (MK.out _ p1).mono ?_
  rintro e w2 ⟨v, rfl, hmk, g2⟩
  obtain ⟨fid, q0, q1, rfl, hE, hF⟩ := hmk
  have hE := fun xs w => hE xs w
  have HF := Lib.hid hF
  have bt2 := box_grown g2 bt (by omega)
  have z2 : W.heap.size + 2 ≤ w2.heap.size := by have := g2.2.2; omega
  have p2 := p1.trans (Grown.past g2)
  clear hF bt b4 p1 g2 MK
  go_wp2_with fail
  go_loopw [8, 20] (fun v i wr => ∃ k : Nat, k ≤ X ∧ i = .int .i64 k ∧ Hid (Own8 wr w2.heap.size v (rowL n a b m y (k * C))) ∧ Past w2 wr ∧ w2.heap.size ≤ wr.heap.size) (fun _ i _ => X - (intOf i).toNat)
  case atStart => exact ⟨0, by omega, rfl, Lib.hid (by rw [Nat.zero_mul]; exact Own8.nil _ _), Past.refl _, Nat.le_refl _⟩
  case round =>
    obtain ⟨x, hx, rfl, hown, pp, zz⟩ := hrel
    have btr := box_past pp bt2 (by omega)
    by_cases hlt : x < X
    · have d1 : decide ((x : Int) < m.2.1) = true := by have := HX.out; simp; omega
      go_wp2_with fail
      go_loopw [8, 26] (fun v i wr => ∃ k : Nat, k ≤ C ∧ i = .int .i64 k ∧ Hid (Own8 wr w2.heap.size v (rowL n a b m y (x * C + k))) ∧ Past w2 wr ∧ w2.heap.size ≤ wr.heap.size) (fun _ i _ => C - (intOf i).toNat)
      case atStart => exact ⟨0, by omega, rfl, hown, pp, zz⟩
      case round =>
        clear hown pp zz btr
        obtain ⟨c, hc, rfl, hown, pp, zz⟩ := hrel
        have btr := box_past pp bt2 (by omega)
        by_cases hlc : c < C
        · have d2 : decide ((c : Int) < m.2.2) = true := by have := HC.out; simp; omega
          obtain ⟨q, hq⟩ : ∃ q, numD n a b m y x c = q := ⟨_, rfl⟩
          have qb := numD_bd H.out HW.out y0 y1 (show (0 : Int) ≤ (x : Int) by omega) (by have := HX.out; omega) (c : Int)
          rw [hq] at qb
          have FC := Lib.hid (HF.out wr pp x c (by omega) (by have := HX.out; omega) (by omega) (by have := HC.out; omega))
          rw [hq] at FC
          have RS := Lib.hid (rowL_succ n a b m y (x * C + c))
          have RF := rowF_at n a b m y x c (by rw [HCN.out]; exact hlc)
          rw [HCN.out, hq] at RF
          have RF' := Lib.hid RF
          have e8 : IntKind.i8.wrap q = q := IntWalk.i8_in _ (by omega)
          have lb : x * C + c ≤ 200 := by
            have := Nat.mul_le_mul (show x ≤ 16 by omega) C8
            omega
          clear RF hq
          go_wp2_with fail
          refine FC.out.mono ?_
          rintro e w5 ⟨rfl, p5⟩
          have OW := Lib.hid (hown.out.past p5)
          have P5 := pp.trans p5
          have Z5 : w2.heap.size ≤ w5.heap.size := P5.2.2.1
          clear hown pp zz btr p5 FC
          go_wp2_with (at_builtin; refine wpList_append_own _ rfl (.tmp 29) (.tmp 36) 27 rfl w2.heap.size 35 i0 _ 1 1 Tryz.underlying27 I1.out I2.out I3.out I4.out rfl (by decide) _ _ _ rfl (World.ownsRow.alloc OW.out _) ⟨w5.heap.size, 0, none⟩ 1 1 [.int .i8 q] rfl rfl (fun j u hu => cells_new1 w5 _ 35 j u hu) (by intro u hu; simp at hu; subst hu; rfl) ?c4 ?c5 ?c6 ?_)
          case c4 => unfold maxLen; simp only [rowL, List.length_map, List.length_range]; omega
          case c5 => simp only [rowL, List.length_map, List.length_range]; omega
          case c6 => simp; omega
          intro v4 w4 hown4 hgrow _
          have ho4 := Lib.hid (own8_add hown4)
          have P4 := (P5.alloc (.cells #[.int .i8 q] 35)).grownBy hgrow (fun j hj => (OW.out.lt j hj).1)
          have Z4 : w2.heap.size ≤ w4.heap.size := P4.2.2.1
          clear hown4 hgrow OW P5 Z5
          go_wp2_with fail
          go_roundw
          case rel => exact ⟨c + 1, by omega, by go_num, Lib.hid (by rw [← Nat.add_assoc, RS.out, RF'.out]; exact ho4.out), P4, Z4⟩
          case measure => simp [intOf]; omega
        · obtain rfl : c = C := by omega
          have d2 : decide ((c : Int) < m.2.2) = false := by have := HC.out; simp; omega
          go_wp2_with fail
          go_roundw
          case rel => exact ⟨x + 1, by omega, by go_num, Lib.hid (by rw [Nat.add_mul, Nat.one_mul]; exact hown.out), pp, zz⟩
          case measure => simp [intOf]; omega
    · obtain rfl : x = X := by omega
      have d1 : decide ((x : Int) < m.2.1) = false := by have := HX.out; simp; omega
      go_wp2_with fail
      go_ret
      refine ⟨_, rfl, hown.out.nums (fun u hu => ?_), p2.trans pp⟩
      simp only [rowL, List.mem_map, List.mem_range] at hu
      obtain ⟨i, hi, rfl⟩ := hu
      have c0 : 0 < C := by rcases Nat.eq_zero_or_pos C with e | e
                            · subst e; simp at hi
                            · exact e
      have hxi : i / C < x := Nat.div_lt_of_lt_mul (by rw [Nat.mul_comm]; exact hi)
      unfold rowF
      rw [HCN.out]
      obtain ⟨j, hj⟩ : ∃ j, i / C = j := ⟨_, rfl⟩
      rw [hj] at hxi ⊢
      exact numD_bd H.out HW.out y0 y1 (by omega) (by have := HX.out; omega) _
end Go.Proofs.YtliijchcpooplaaGreat
