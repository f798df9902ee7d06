/- kern: maker, op by op. kern: maker, op by op. kern: maker, op by op. -/
import Derived.Test.YtliijchcpooplaaGreatOMFix
import Derived.Test.YtliijchcpooplaaGreatOMKR
namespace Go.Proofs.YtliijchcpooplaaGreat
open Go.ChangeShapes Go.WideShapes Go.ChangeAt Go.RowKit
set_option maxRecDepth 20000
set_option linter.unusedVariables false
section
variable {n : NodeD} {vs : List ValD} {a b : ViewD} {m : Int × Int × Int} {y : Int} {vi vw vb lv sa sb : Value} {W : World}
set_option maxHeartbeats 4000000 in
theorem maker_1 (h : MakeOk n vs a b m) (ho : n.op = 1) (y0 : 0 <= y) (y1 : y < m.1) (hin : NodeIn W n vi vw vb) (na : IsNums .i8 W sa a.xs) (nb : IsNums .i8 W sb b.xs) :
    Calls Tryz.prog 86 #[.agg #[.int .i64 n.op, vi, .int .i64 n.k, .int .i64 n.stride, .int .i64 n.pad, .int .i64 n.out, .int .i64 n.mul, .int .i64 n.shift, .int .i64 n.zero, .int .i64 n.th, .int .i64 n.tw, .int .i64 n.tc, vw, vb, lv, .int .i64 m.1, .int .i64 m.2.1, .int .i64 m.2.2], .agg #[.int .i64 a.v.h, .int .i64 a.v.w, .int .i64 a.v.c, .int .i64 a.v.z, .int .i64 a.base, .int .i64 a.many, sa], .agg #[.int .i64 b.v.h, .int .i64 b.v.w, .int .i64 b.v.c, .int .i64 b.v.z, .int .i64 b.base, .int .i64 b.many, sb]] W (MakerPost n a b m y W) := by
  have c1 : (n.op == 1) = true := by rw [ho]; decide
  have HO := Lib.hid ho
  clear ho
  go_enter Tryz.func86, Tryz.ntmps86
  go_upto_region 1 with fail
  refine opq (fun w' => (Bx w' (W.heap.size) #[.int .i64 n.op, vi, .int .i64 n.k, .int .i64 n.stride, .int .i64 n.pad, .int .i64 n.out, .int .i64 n.mul, .int .i64 n.shift, .int .i64 n.zero, .int .i64 n.th, .int .i64 n.tw, .int .i64 n.tc, vw, vb, lv, .int .i64 m.1, .int .i64 m.2.1, .int .i64 m.2.2]) /\ (Bx w' (W.heap.size + 1) #[.int .i64 a.v.h, .int .i64 a.v.w, .int .i64 a.v.c, .int .i64 a.v.z, .int .i64 a.base, .int .i64 a.many, sa]) /\ (Bx w' (W.heap.size + 2) #[.int .i64 b.v.h, .int .i64 b.v.w, .int .i64 b.v.c, .int .i64 b.v.z, .int .i64 b.base, .int .i64 b.many, sb]) /\ Grown W w' /\ W.heap.size + 3 <= w'.heap.size) kLaid ?_
  rintro W1 ⟨bt, ba, bb, g1, z1⟩
  have NA := Lib.hid (na.grow (Grown.past g1))
  have NB := Lib.hid (nb.grow (Grown.past g1))
  have NW := Lib.hid (hin.2.1.grow (Grown.past g1))
  have NI := Lib.hid (hin.2.2.grow (Grown.past g1))
  go_upto_region 3 with fail
  refine wp_region_mix [7, 8, 9] (fun w' => (Bx w' (W.heap.size) #[.int .i64 n.op, vi, .int .i64 n.k, .int .i64 n.stride, .int .i64 n.pad, .int .i64 n.out, .int .i64 n.mul, .int .i64 n.shift, .int .i64 n.zero, .int .i64 n.th, .int .i64 n.tw, .int .i64 n.tc, vw, vb, lv, .int .i64 m.1, .int .i64 m.2.1, .int .i64 m.2.2]) /\ (Bx w' (W.heap.size + 1) #[.int .i64 a.v.h, .int .i64 a.v.w, .int .i64 a.v.c, .int .i64 a.v.z, .int .i64 a.base, .int .i64 a.many, sa]) /\ Grown W w' /\ W.heap.size + 3 <= w'.heap.size) [(12, ?va12), (13, ?va13), (14, ?va14), (15, ?va15), (16, ?va16), (17, ?va17), (18, ?va18)] [12, 13, 14, 15, 16, 17, 18] (by kernel_rfl) (by kernel_rfl) rfl (by kernel_rfl) ⟨bt, ba, g1, z1⟩ (fun w h => h) ?alla ?fina
  case alla =>
    simp only [fillA, Act.put, fU1, fU2, fU3]
    iterate 10 (first | refine forced rfl ?_ | (refine reads_load rfl 77 (.tmp 3) rfl (W.heap.size) #[.int .i64 n.op, vi, .int .i64 n.k, .int .i64 n.stride, .int .i64 n.pad, .int .i64 n.out, .int .i64 n.mul, .int .i64 n.shift, .int .i64 n.zero, .int .i64 n.th, .int .i64 n.tw, .int .i64 n.tc, vw, vb, lv, .int .i64 m.1, .int .i64 m.2.1, .int .i64 m.2.2] rfl (fun w h => by (try go_split_ands); assumption) Tryz.underlying77 rfl T18 (by simp only [Act.put, List.setIfInBounds_toArray, List.set_cons_zero, List.set_cons_succ] <;> rfl) ?_) | (refine reads_load rfl 105 (.tmp 4) rfl (W.heap.size + 1) #[.int .i64 a.v.h, .int .i64 a.v.w, .int .i64 a.v.c, .int .i64 a.v.z, .int .i64 a.base, .int .i64 a.many, sa] rfl (fun w h => by (try go_split_ands); assumption) Tryz.underlying105 rfl W7 (by simp only [Act.put, List.setIfInBounds_toArray, List.set_cons_zero, List.set_cons_succ] <;> rfl) ?_) | (refine reads (fun w hw K hK => ?_) ?_; focus ((have hS := Lib.hid hw); go_split_ands; go_simp; (try simp only [Act.put, List.setIfInBounds_toArray, List.set_cons_zero, List.set_cons_succ]); exact hK)))
    exact True.intro
  case fina =>
    rintro w2 ⟨bt, ba, g2, z2⟩
    simp only [fillA, Act.put, fU1, fU2, fU3]
    refine mix_at 19 rfl rfl (fun K hK => ?_)
    simp only [Act.put, List.setIfInBounds_toArray, List.set_cons_zero, List.set_cons_succ] at hK
    go_simp
    refine (weighed_mk _ _ _ _ _ _ _ _ _ _ _ _).mono ?_; rintro e w6 ⟨rfl, d1, d2, d3, d4, gg, zz⟩
    refine hK _ _ kKeep ?_
    (try simp only [Act.put, List.setIfInBounds_toArray, List.set_cons_zero, List.set_cons_succ])
    refine mix_at 20 rfl rfl (fun K hK => ?_)
    simp only [Act.put, List.setIfInBounds_toArray, List.set_cons_zero, List.set_cons_succ] at hK
    go_simp
    refine (scaled_mk _ _ _ _ _ _ _ _ _).mono ?_; rintro e w7 ⟨rfl, d5, d6, gh, zh⟩
    have bt6 := box_grown gg bt (by omega)
    have ba6 := box_grown gg ba (by omega)
    have g6 := grown_trans g2 gg
    have z6 : W.heap.size + 3 <= w6.heap.size := by omega
    refine hK _ _ kKeep ?_
    (try simp only [Act.put, List.setIfInBounds_toArray, List.set_cons_zero, List.set_cons_succ])
    refine mix_at 6 rfl rfl (fun K hK => ?_)
    simp only [Act.put, List.setIfInBounds_toArray, List.set_cons_zero, List.set_cons_succ] at hK
    go_simp
    have g7 := grown_trans g6 gh
    have bt7 := box_grown gh bt6 (by omega)
    have ba7 := box_grown gh ba6 (by omega)
    have z7 : W.heap.size + 3 <= w7.heap.size := by omega
    refine hK _ _ kKeep ?_
    (try simp only [Act.put, List.setIfInBounds_toArray, List.set_cons_zero, List.set_cons_succ])
    refine mix_nil ?_
    go_wp2_with fail
    go_ret
    have p7 : Past W w7 := Grown.past g7
    have NA7 := na.grow p7
    have NW7 := hin.2.1.grow p7
    have NI7 := hin.2.2.grow p7
    obtain ⟨mn, C, hmn, hC, hL, hl2, mn1, mn8⟩ := conv_len h HO.out
    rw [hmn] at d3
    exact ⟨_, rfl, is_weighed (mn := mn) (C := C) h (Or.inl HO.out) y0 y1 (fun _ => 0) NA7 NW7 NI7 (box_grown gh d1 (by omega)) (by omega) (box_grown gh d2 (by omega)) (by omega) (box_grown gh d3 (by omega)) (by omega) (box_grown gh d4 (by omega)) (by omega) enters_from0 (fun c w => from0_any c w) d5 (by omega) rfl d6 (by omega) hC hL hl2 (lens1 h HO.out).2.2 mn1 mn8 (fun c _ _ => by omega) (fun x c _ _ _ _ => by rw [num1 HO.out, hmn, Int.toNat_natCast]), g7⟩
end
section
variable {n : NodeD} {vs : List ValD} {a b : ViewD} {m : Int × Int × Int} {y : Int} {vi vw vb lv sa sb : Value} {W : World}
set_option maxHeartbeats 4000000 in
theorem maker_2 (h : MakeOk n vs a b m) (ho : n.op = 2) (y0 : 0 <= y) (y1 : y < m.1) (hin : NodeIn W n vi vw vb) (na : IsNums .i8 W sa a.xs) (nb : IsNums .i8 W sb b.xs) :
    Calls Tryz.prog 86 #[.agg #[.int .i64 n.op, vi, .int .i64 n.k, .int .i64 n.stride, .int .i64 n.pad, .int .i64 n.out, .int .i64 n.mul, .int .i64 n.shift, .int .i64 n.zero, .int .i64 n.th, .int .i64 n.tw, .int .i64 n.tc, vw, vb, lv, .int .i64 m.1, .int .i64 m.2.1, .int .i64 m.2.2], .agg #[.int .i64 a.v.h, .int .i64 a.v.w, .int .i64 a.v.c, .int .i64 a.v.z, .int .i64 a.base, .int .i64 a.many, sa], .agg #[.int .i64 b.v.h, .int .i64 b.v.w, .int .i64 b.v.c, .int .i64 b.v.z, .int .i64 b.base, .int .i64 b.many, sb]] W (MakerPost n a b m y W) := by
  have c1 : (n.op == 1) = false := by rw [ho]; decide
  have c2 : (n.op == 2) = true := by rw [ho]; decide
  have HO := Lib.hid ho
  clear ho
  go_enter Tryz.func86, Tryz.ntmps86
  go_upto_region 1 with fail
  refine opq (fun w' => (Bx w' (W.heap.size) #[.int .i64 n.op, vi, .int .i64 n.k, .int .i64 n.stride, .int .i64 n.pad, .int .i64 n.out, .int .i64 n.mul, .int .i64 n.shift, .int .i64 n.zero, .int .i64 n.th, .int .i64 n.tw, .int .i64 n.tc, vw, vb, lv, .int .i64 m.1, .int .i64 m.2.1, .int .i64 m.2.2]) /\ (Bx w' (W.heap.size + 1) #[.int .i64 a.v.h, .int .i64 a.v.w, .int .i64 a.v.c, .int .i64 a.v.z, .int .i64 a.base, .int .i64 a.many, sa]) /\ (Bx w' (W.heap.size + 2) #[.int .i64 b.v.h, .int .i64 b.v.w, .int .i64 b.v.c, .int .i64 b.v.z, .int .i64 b.base, .int .i64 b.many, sb]) /\ Grown W w' /\ W.heap.size + 3 <= w'.heap.size) kLaid ?_
  rintro W1 ⟨bt, ba, bb, g1, z1⟩
  have NA := Lib.hid (na.grow (Grown.past g1))
  have NB := Lib.hid (nb.grow (Grown.past g1))
  have NW := Lib.hid (hin.2.1.grow (Grown.past g1))
  have NI := Lib.hid (hin.2.2.grow (Grown.past g1))
  go_upto_region 5 with fail
  refine wp_region_mix [3, 4, 5] (fun w' => (Bx w' (W.heap.size) #[.int .i64 n.op, vi, .int .i64 n.k, .int .i64 n.stride, .int .i64 n.pad, .int .i64 n.out, .int .i64 n.mul, .int .i64 n.shift, .int .i64 n.zero, .int .i64 n.th, .int .i64 n.tw, .int .i64 n.tc, vw, vb, lv, .int .i64 m.1, .int .i64 m.2.1, .int .i64 m.2.2]) /\ (Bx w' (W.heap.size + 1) #[.int .i64 a.v.h, .int .i64 a.v.w, .int .i64 a.v.c, .int .i64 a.v.z, .int .i64 a.base, .int .i64 a.many, sa]) /\ Grown W w' /\ W.heap.size + 3 <= w'.heap.size) [(23, ?va23), (24, ?va24), (25, ?va25)] [23, 24, 25] (by kernel_rfl) (by kernel_rfl) rfl (by kernel_rfl) ⟨bt, ba, g1, z1⟩ (fun w h => h) ?alla ?fina
  case alla =>
    simp only [fillA, Act.put, fU1, fU2, fU3]
    iterate 6 (first | refine forced rfl ?_ | (refine reads_load rfl 77 (.tmp 3) rfl (W.heap.size) #[.int .i64 n.op, vi, .int .i64 n.k, .int .i64 n.stride, .int .i64 n.pad, .int .i64 n.out, .int .i64 n.mul, .int .i64 n.shift, .int .i64 n.zero, .int .i64 n.th, .int .i64 n.tw, .int .i64 n.tc, vw, vb, lv, .int .i64 m.1, .int .i64 m.2.1, .int .i64 m.2.2] rfl (fun w h => by (try go_split_ands); assumption) Tryz.underlying77 rfl T18 (by simp only [Act.put, List.setIfInBounds_toArray, List.set_cons_zero, List.set_cons_succ] <;> rfl) ?_) | (refine reads_load rfl 105 (.tmp 4) rfl (W.heap.size + 1) #[.int .i64 a.v.h, .int .i64 a.v.w, .int .i64 a.v.c, .int .i64 a.v.z, .int .i64 a.base, .int .i64 a.many, sa] rfl (fun w h => by (try go_split_ands); assumption) Tryz.underlying105 rfl W7 (by simp only [Act.put, List.setIfInBounds_toArray, List.set_cons_zero, List.set_cons_succ] <;> rfl) ?_) | (refine reads (fun w hw K hK => ?_) ?_; focus ((have hS := Lib.hid hw); go_split_ands; go_simp; (try simp only [Act.put, List.setIfInBounds_toArray, List.set_cons_zero, List.set_cons_succ]); exact hK)))
    exact True.intro
  case fina =>
    rintro w2 ⟨bt, ba, g2, z2⟩
    simp only [fillA, Act.put, fU1, fU2, fU3]
    refine mix_at 26 rfl rfl (fun K hK => ?_)
    simp only [Act.put, List.setIfInBounds_toArray, List.set_cons_zero, List.set_cons_succ] at hK
    go_simp
    refine (weighed_mk _ _ _ _ _ _ _ _ _ _ _ _).mono ?_; rintro e w6 ⟨rfl, d1, d2, d3, d4, gg, zz⟩
    refine hK _ _ kKeep ?_
    (try simp only [Act.put, List.setIfInBounds_toArray, List.set_cons_zero, List.set_cons_succ])
    refine mix_at 27 rfl rfl (fun K hK => ?_)
    simp only [Act.put, List.setIfInBounds_toArray, List.set_cons_zero, List.set_cons_succ] at hK
    go_simp
    refine (scaled_mk _ _ _ _ _ _ _ _ _).mono ?_; rintro e w7 ⟨rfl, d5, d6, gh, zh⟩
    have bt6 := box_grown gg bt (by omega)
    have ba6 := box_grown gg ba (by omega)
    have g6 := grown_trans g2 gg
    have z6 : W.heap.size + 3 <= w6.heap.size := by omega
    refine hK _ _ kKeep ?_
    (try simp only [Act.put, List.setIfInBounds_toArray, List.set_cons_zero, List.set_cons_succ])
    refine mix_at 6 rfl rfl (fun K hK => ?_)
    simp only [Act.put, List.setIfInBounds_toArray, List.set_cons_zero, List.set_cons_succ] at hK
    go_simp
    have g7 := grown_trans g6 gh
    have bt7 := box_grown gh bt6 (by omega)
    have ba7 := box_grown gh ba6 (by omega)
    have z7 : W.heap.size + 3 <= w7.heap.size := by omega
    refine hK _ _ kKeep ?_
    (try simp only [Act.put, List.setIfInBounds_toArray, List.set_cons_zero, List.set_cons_succ])
    refine mix_nil ?_
    go_wp2_with fail
    go_ret
    have p7 : Past W w7 := Grown.past g7
    have NA7 := na.grow p7
    have NW7 := hin.2.1.grow p7
    have NI7 := hin.2.2.grow p7
    obtain ⟨C, hC, hL, hl2⟩ := depth_len h HO.out
    obtain ⟨_, _, _, _, _, m6⟩ := h.m16
    exact ⟨_, rfl, is_weighed (mn := 1) (C := C) h (Or.inr HO.out) y0 y1 (fun c => c) NA7 NW7 NI7 (box_grown gh d1 (by omega)) (by omega) (box_grown gh d2 (by omega)) (by omega) (box_grown gh d3 (by omega)) (by omega) (box_grown gh d4 (by omega)) (by omega) enters_fromC (fun c w => fromC_any c w) d5 (by omega) rfl d6 (by omega) hC hL hl2 (lens2 h HO.out).2.2 (by omega) (by omega) (fun c c0 c1 => by omega) (fun x c _ _ _ _ => num2 HO.out a b m y x c), g7⟩
end
section
variable {n : NodeD} {vs : List ValD} {a b : ViewD} {m : Int × Int × Int} {y : Int} {vi vw vb lv sa sb : Value} {W : World}
set_option maxHeartbeats 4000000 in
theorem maker_3 (h : MakeOk n vs a b m) (ho : n.op = 3) (y0 : 0 <= y) (y1 : y < m.1) (hin : NodeIn W n vi vw vb) (na : IsNums .i8 W sa a.xs) (nb : IsNums .i8 W sb b.xs) :
    Calls Tryz.prog 86 #[.agg #[.int .i64 n.op, vi, .int .i64 n.k, .int .i64 n.stride, .int .i64 n.pad, .int .i64 n.out, .int .i64 n.mul, .int .i64 n.shift, .int .i64 n.zero, .int .i64 n.th, .int .i64 n.tw, .int .i64 n.tc, vw, vb, lv, .int .i64 m.1, .int .i64 m.2.1, .int .i64 m.2.2], .agg #[.int .i64 a.v.h, .int .i64 a.v.w, .int .i64 a.v.c, .int .i64 a.v.z, .int .i64 a.base, .int .i64 a.many, sa], .agg #[.int .i64 b.v.h, .int .i64 b.v.w, .int .i64 b.v.c, .int .i64 b.v.z, .int .i64 b.base, .int .i64 b.many, sb]] W (MakerPost n a b m y W) := by
  have c1 : (n.op == 1) = false := by rw [ho]; decide
  have c2 : (n.op == 2) = false := by rw [ho]; decide
  have c3 : (n.op == 3) = true := by rw [ho]; decide
  have HO := Lib.hid ho
  clear ho
  go_enter Tryz.func86, Tryz.ntmps86
  go_upto_region 1 with fail
  refine opq (fun w' => (Bx w' (W.heap.size) #[.int .i64 n.op, vi, .int .i64 n.k, .int .i64 n.stride, .int .i64 n.pad, .int .i64 n.out, .int .i64 n.mul, .int .i64 n.shift, .int .i64 n.zero, .int .i64 n.th, .int .i64 n.tw, .int .i64 n.tc, vw, vb, lv, .int .i64 m.1, .int .i64 m.2.1, .int .i64 m.2.2]) /\ (Bx w' (W.heap.size + 1) #[.int .i64 a.v.h, .int .i64 a.v.w, .int .i64 a.v.c, .int .i64 a.v.z, .int .i64 a.base, .int .i64 a.many, sa]) /\ (Bx w' (W.heap.size + 2) #[.int .i64 b.v.h, .int .i64 b.v.w, .int .i64 b.v.c, .int .i64 b.v.z, .int .i64 b.base, .int .i64 b.many, sb]) /\ Grown W w' /\ W.heap.size + 3 <= w'.heap.size) kLaid ?_
  rintro W1 ⟨bt, ba, bb, g1, z1⟩
  have NA := Lib.hid (na.grow (Grown.past g1))
  have NB := Lib.hid (nb.grow (Grown.past g1))
  have NW := Lib.hid (hin.2.1.grow (Grown.past g1))
  have NI := Lib.hid (hin.2.2.grow (Grown.past g1))
  go_upto_region 7 with fail
  refine wp_region_mix [3, 4, 5] (fun w' => (Bx w' (W.heap.size) #[.int .i64 n.op, vi, .int .i64 n.k, .int .i64 n.stride, .int .i64 n.pad, .int .i64 n.out, .int .i64 n.mul, .int .i64 n.shift, .int .i64 n.zero, .int .i64 n.th, .int .i64 n.tw, .int .i64 n.tc, vw, vb, lv, .int .i64 m.1, .int .i64 m.2.1, .int .i64 m.2.2]) /\ (Bx w' (W.heap.size + 1) #[.int .i64 a.v.h, .int .i64 a.v.w, .int .i64 a.v.c, .int .i64 a.v.z, .int .i64 a.base, .int .i64 a.many, sa]) /\ Grown W w' /\ W.heap.size + 3 <= w'.heap.size) [(30, ?va30), (31, ?va31), (32, ?va32)] [30, 31, 32] (by kernel_rfl) (by kernel_rfl) rfl (by kernel_rfl) ⟨bt, ba, g1, z1⟩ (fun w h => h) ?alla ?fina
  case alla =>
    simp only [fillA, Act.put, fU1, fU2, fU3]
    iterate 6 (first | refine forced rfl ?_ | (refine reads_load rfl 77 (.tmp 3) rfl (W.heap.size) #[.int .i64 n.op, vi, .int .i64 n.k, .int .i64 n.stride, .int .i64 n.pad, .int .i64 n.out, .int .i64 n.mul, .int .i64 n.shift, .int .i64 n.zero, .int .i64 n.th, .int .i64 n.tw, .int .i64 n.tc, vw, vb, lv, .int .i64 m.1, .int .i64 m.2.1, .int .i64 m.2.2] rfl (fun w h => by (try go_split_ands); assumption) Tryz.underlying77 rfl T18 (by simp only [Act.put, List.setIfInBounds_toArray, List.set_cons_zero, List.set_cons_succ] <;> rfl) ?_) | (refine reads_load rfl 105 (.tmp 4) rfl (W.heap.size + 1) #[.int .i64 a.v.h, .int .i64 a.v.w, .int .i64 a.v.c, .int .i64 a.v.z, .int .i64 a.base, .int .i64 a.many, sa] rfl (fun w h => by (try go_split_ands); assumption) Tryz.underlying105 rfl W7 (by simp only [Act.put, List.setIfInBounds_toArray, List.set_cons_zero, List.set_cons_succ] <;> rfl) ?_) | (refine reads (fun w hw K hK => ?_) ?_; focus ((have hS := Lib.hid hw); go_split_ands; go_simp; (try simp only [Act.put, List.setIfInBounds_toArray, List.set_cons_zero, List.set_cons_succ]); exact hK)))
    exact True.intro
  case fina =>
    rintro w2 ⟨bt, ba, g2, z2⟩
    simp only [fillA, Act.put, fU1, fU2, fU3]
    refine mix_at 33 rfl rfl (fun K hK => ?_)
    simp only [Act.put, List.setIfInBounds_toArray, List.set_cons_zero, List.set_cons_succ] at hK
    go_simp
    refine (whole_mk _ _ _ _ _ _ _ _ _).mono ?_; rintro e w6 ⟨rfl, d1, d2, gg, zz⟩
    refine hK _ _ kKeep ?_
    (try simp only [Act.put, List.setIfInBounds_toArray, List.set_cons_zero, List.set_cons_succ])
    refine mix_at 34 rfl rfl (fun K hK => ?_)
    simp only [Act.put, List.setIfInBounds_toArray, List.set_cons_zero, List.set_cons_succ] at hK
    go_simp
    refine (scaled_mk _ _ _ _ _ _ _ _ _).mono ?_; rintro e w7 ⟨rfl, d5, d6, gh, zh⟩
    have bt6 := box_grown gg bt (by omega)
    have ba6 := box_grown gg ba (by omega)
    have g6 := grown_trans g2 gg
    have z6 : W.heap.size + 3 <= w6.heap.size := by omega
    refine hK _ _ kKeep ?_
    (try simp only [Act.put, List.setIfInBounds_toArray, List.set_cons_zero, List.set_cons_succ])
    refine mix_at 6 rfl rfl (fun K hK => ?_)
    simp only [Act.put, List.setIfInBounds_toArray, List.set_cons_zero, List.set_cons_succ] at hK
    go_simp
    have g7 := grown_trans g6 gh
    have bt7 := box_grown gh bt6 (by omega)
    have ba7 := box_grown gh ba6 (by omega)
    have z7 : W.heap.size + 3 <= w7.heap.size := by omega
    refine hK _ _ kKeep ?_
    (try simp only [Act.put, List.setIfInBounds_toArray, List.set_cons_zero, List.set_cons_succ])
    refine mix_nil ?_
    go_wp2_with fail
    go_ret
    have p7 : Past W w7 := Grown.past g7
    have NA7 := na.grow p7
    have NW7 := hin.2.1.grow p7
    have NI7 := hin.2.2.grow p7
    exact ⟨_, rfl, is_full h HO.out NA7 NW7 NI7 (box_grown gh d1 (by omega)) (by omega) (box_grown gh d2 (by omega)) (by omega) d5 (by omega) rfl d6 (by omega), g7⟩
end
end Go.Proofs.YtliijchcpooplaaGreat
