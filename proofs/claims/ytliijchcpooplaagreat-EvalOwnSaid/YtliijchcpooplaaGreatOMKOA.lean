/- kern: maker, op by op. kern: maker, op by op. kern: maker, op by op. -/
import Derived.Test.YtliijchcpooplaaGreatOMFix
import Derived.Test.YtliijchcpooplaaGreatOMKR
namespace Go.Proofs.YtliijchcpooplaaGreat
open Go.ChangeShapes Go.WideShapes Go.ChangeAt Go.RowKit
set_option maxRecDepth 20000
set_option linter.unusedVariables false
section
variable {n : NodeD} {vs : List ValD} {a b : ViewD} {m : Int × Int × Int} {y : Int} {vi vw vb lv sa sb : Value} {W : World}
set_option maxHeartbeats 4000000 in
theorem maker_8 (h : MakeOk n vs a b m) (ho : n.op = 8) (y0 : 0 <= y) (y1 : y < m.1) (hin : NodeIn W n vi vw vb) (na : IsNums .i8 W sa a.xs) (nb : IsNums .i8 W sb b.xs) :
    Calls Tryz.prog 86 #[.agg #[.int .i64 n.op, vi, .int .i64 n.k, .int .i64 n.stride, .int .i64 n.pad, .int .i64 n.out, .int .i64 n.mul, .int .i64 n.shift, .int .i64 n.zero, .int .i64 n.th, .int .i64 n.tw, .int .i64 n.tc, vw, vb, lv, .int .i64 m.1, .int .i64 m.2.1, .int .i64 m.2.2], .agg #[.int .i64 a.v.h, .int .i64 a.v.w, .int .i64 a.v.c, .int .i64 a.v.z, .int .i64 a.base, .int .i64 a.many, sa], .agg #[.int .i64 b.v.h, .int .i64 b.v.w, .int .i64 b.v.c, .int .i64 b.v.z, .int .i64 b.base, .int .i64 b.many, sb]] W (MakerPost n a b m y W) := by
  have c1 : (n.op == 1) = false := by rw [ho]; decide
  have c2 : (n.op == 2) = false := by rw [ho]; decide
  have c3 : (n.op == 3) = false := by rw [ho]; decide
  have c4 : (n.op == 4) = false := by rw [ho]; decide
  have c5 : (n.op == 5) = false := by rw [ho]; decide
  have c6 : (n.op == 6) = false := by rw [ho]; decide
  have c7 : (n.op == 7) = false := by rw [ho]; decide
  have c8 : (n.op == 8) = true := by rw [ho]; decide
  have HO := Lib.hid ho
  clear ho
  go_enter Tryz.func86, Tryz.ntmps86
  go_upto_region 1 with fail
  refine opq (fun w' => (Bx w' (W.heap.size) #[.int .i64 n.op, vi, .int .i64 n.k, .int .i64 n.stride, .int .i64 n.pad, .int .i64 n.out, .int .i64 n.mul, .int .i64 n.shift, .int .i64 n.zero, .int .i64 n.th, .int .i64 n.tw, .int .i64 n.tc, vw, vb, lv, .int .i64 m.1, .int .i64 m.2.1, .int .i64 m.2.2]) /\ (Bx w' (W.heap.size + 1) #[.int .i64 a.v.h, .int .i64 a.v.w, .int .i64 a.v.c, .int .i64 a.v.z, .int .i64 a.base, .int .i64 a.many, sa]) /\ (Bx w' (W.heap.size + 2) #[.int .i64 b.v.h, .int .i64 b.v.w, .int .i64 b.v.c, .int .i64 b.v.z, .int .i64 b.base, .int .i64 b.many, sb]) /\ Grown W w' /\ W.heap.size + 3 <= w'.heap.size) kLaid ?_
  rintro W1 ⟨bt, ba, bb, g1, z1⟩
  have NA := Lib.hid (na.grow (Grown.past g1))
  have NB := Lib.hid (nb.grow (Grown.past g1))
  have NW := Lib.hid (hin.2.1.grow (Grown.past g1))
  have NI := Lib.hid (hin.2.2.grow (Grown.past g1))
  clear na nb hin
  go_wp2_with fail
  go_ret
  exact ⟨_, rfl, is_relu h HO.out NA.out bt (by omega) ba (by omega), g1⟩
set_option maxHeartbeats 4000000 in
theorem maker_9 (h : MakeOk n vs a b m) (ho : n.op = 9) (y0 : 0 <= y) (y1 : y < m.1) (hin : NodeIn W n vi vw vb) (na : IsNums .i8 W sa a.xs) (nb : IsNums .i8 W sb b.xs) :
    Calls Tryz.prog 86 #[.agg #[.int .i64 n.op, vi, .int .i64 n.k, .int .i64 n.stride, .int .i64 n.pad, .int .i64 n.out, .int .i64 n.mul, .int .i64 n.shift, .int .i64 n.zero, .int .i64 n.th, .int .i64 n.tw, .int .i64 n.tc, vw, vb, lv, .int .i64 m.1, .int .i64 m.2.1, .int .i64 m.2.2], .agg #[.int .i64 a.v.h, .int .i64 a.v.w, .int .i64 a.v.c, .int .i64 a.v.z, .int .i64 a.base, .int .i64 a.many, sa], .agg #[.int .i64 b.v.h, .int .i64 b.v.w, .int .i64 b.v.c, .int .i64 b.v.z, .int .i64 b.base, .int .i64 b.many, sb]] W (MakerPost n a b m y W) := by
  have c1 : (n.op == 1) = false := by rw [ho]; decide
  have c2 : (n.op == 2) = false := by rw [ho]; decide
  have c3 : (n.op == 3) = false := by rw [ho]; decide
  have c4 : (n.op == 4) = false := by rw [ho]; decide
  have c5 : (n.op == 5) = false := by rw [ho]; decide
  have c6 : (n.op == 6) = false := by rw [ho]; decide
  have c7 : (n.op == 7) = false := by rw [ho]; decide
  have c8 : (n.op == 8) = false := by rw [ho]; decide
  have c9 : (n.op == 9) = true := by rw [ho]; decide
  have HO := Lib.hid ho
  clear ho
  go_enter Tryz.func86, Tryz.ntmps86
  go_upto_region 1 with fail
  refine opq (fun w' => (Bx w' (W.heap.size) #[.int .i64 n.op, vi, .int .i64 n.k, .int .i64 n.stride, .int .i64 n.pad, .int .i64 n.out, .int .i64 n.mul, .int .i64 n.shift, .int .i64 n.zero, .int .i64 n.th, .int .i64 n.tw, .int .i64 n.tc, vw, vb, lv, .int .i64 m.1, .int .i64 m.2.1, .int .i64 m.2.2]) /\ (Bx w' (W.heap.size + 1) #[.int .i64 a.v.h, .int .i64 a.v.w, .int .i64 a.v.c, .int .i64 a.v.z, .int .i64 a.base, .int .i64 a.many, sa]) /\ (Bx w' (W.heap.size + 2) #[.int .i64 b.v.h, .int .i64 b.v.w, .int .i64 b.v.c, .int .i64 b.v.z, .int .i64 b.base, .int .i64 b.many, sb]) /\ Grown W w' /\ W.heap.size + 3 <= w'.heap.size) kLaid ?_
  rintro W1 ⟨bt, ba, bb, g1, z1⟩
  have NA := Lib.hid (na.grow (Grown.past g1))
  have NB := Lib.hid (nb.grow (Grown.past g1))
  have NW := Lib.hid (hin.2.1.grow (Grown.past g1))
  have NI := Lib.hid (hin.2.2.grow (Grown.past g1))
  clear na nb hin
  go_wp2_with fail
  go_ret
  exact ⟨_, rfl, is_pad h HO.out y0 y1 NA.out bt (by omega) ba (by omega), g1⟩
set_option maxHeartbeats 4000000 in
theorem maker_4 (h : MakeOk n vs a b m) (ho : n.op = 4) (y0 : 0 <= y) (y1 : y < m.1) (hin : NodeIn W n vi vw vb) (na : IsNums .i8 W sa a.xs) (nb : IsNums .i8 W sb b.xs) :
    Calls Tryz.prog 86 #[.agg #[.int .i64 n.op, vi, .int .i64 n.k, .int .i64 n.stride, .int .i64 n.pad, .int .i64 n.out, .int .i64 n.mul, .int .i64 n.shift, .int .i64 n.zero, .int .i64 n.th, .int .i64 n.tw, .int .i64 n.tc, vw, vb, lv, .int .i64 m.1, .int .i64 m.2.1, .int .i64 m.2.2], .agg #[.int .i64 a.v.h, .int .i64 a.v.w, .int .i64 a.v.c, .int .i64 a.v.z, .int .i64 a.base, .int .i64 a.many, sa], .agg #[.int .i64 b.v.h, .int .i64 b.v.w, .int .i64 b.v.c, .int .i64 b.v.z, .int .i64 b.base, .int .i64 b.many, sb]] W (MakerPost n a b m y W) := by
  have c1 : (n.op == 1) = false := by rw [ho]; decide
  have c2 : (n.op == 2) = false := by rw [ho]; decide
  have c3 : (n.op == 3) = false := by rw [ho]; decide
  have c4 : (n.op == 4) = true := by rw [ho]; decide
  have HO := Lib.hid ho
  clear ho
  go_enter Tryz.func86, Tryz.ntmps86
  go_upto_region 1 with fail
  refine opq (fun w' => (Bx w' (W.heap.size) #[.int .i64 n.op, vi, .int .i64 n.k, .int .i64 n.stride, .int .i64 n.pad, .int .i64 n.out, .int .i64 n.mul, .int .i64 n.shift, .int .i64 n.zero, .int .i64 n.th, .int .i64 n.tw, .int .i64 n.tc, vw, vb, lv, .int .i64 m.1, .int .i64 m.2.1, .int .i64 m.2.2]) /\ (Bx w' (W.heap.size + 1) #[.int .i64 a.v.h, .int .i64 a.v.w, .int .i64 a.v.c, .int .i64 a.v.z, .int .i64 a.base, .int .i64 a.many, sa]) /\ (Bx w' (W.heap.size + 2) #[.int .i64 b.v.h, .int .i64 b.v.w, .int .i64 b.v.c, .int .i64 b.v.z, .int .i64 b.base, .int .i64 b.many, sb]) /\ Grown W w' /\ W.heap.size + 3 <= w'.heap.size) kLaid ?_
  rintro W1 ⟨bt, ba, bb, g1, z1⟩
  have NA := Lib.hid (na.grow (Grown.past g1))
  have NB := Lib.hid (nb.grow (Grown.past g1))
  have NW := Lib.hid (hin.2.1.grow (Grown.past g1))
  have NI := Lib.hid (hin.2.2.grow (Grown.past g1))
  clear na nb hin
  go_wp2_with ((refine wpList_load_box rfl 77 (.tmp 3) rfl W.heap.size #[.int .i64 n.op, vi, .int .i64 n.k, .int .i64 n.stride, .int .i64 n.pad, .int .i64 n.out, .int .i64 n.mul, .int .i64 n.shift, .int .i64 n.zero, .int .i64 n.th, .int .i64 n.tw, .int .i64 n.tc, vw, vb, lv, .int .i64 m.1, .int .i64 m.2.1, .int .i64 m.2.2] rfl bt Tryz.underlying77 rfl T18 ?_))
  refine (greatest_mk _ _ _ _ _ _ _ _ _).mono ?_
  rintro e w2 ⟨rfl, d1, d2, g2, z2⟩
  go_wp2_with fail
  go_ret
  exact ⟨_, rfl, is_great h HO.out y0 y1 (NA.out.grow (Grown.past g2)) d1 (by omega) d2 (by omega), grown_trans g1 g2⟩
end
section
variable {n : NodeD} {vs : List ValD} {a b : ViewD} {m : Int × Int × Int} {y : Int} {vi vw vb lv sa sb : Value} {W : World}
set_option maxHeartbeats 4000000 in
theorem maker_5 (h : MakeOk n vs a b m) (ho : n.op = 5) (y0 : 0 <= y) (y1 : y < m.1) (hin : NodeIn W n vi vw vb) (na : IsNums .i8 W sa a.xs) (nb : IsNums .i8 W sb b.xs) :
    Calls Tryz.prog 86 #[.agg #[.int .i64 n.op, vi, .int .i64 n.k, .int .i64 n.stride, .int .i64 n.pad, .int .i64 n.out, .int .i64 n.mul, .int .i64 n.shift, .int .i64 n.zero, .int .i64 n.th, .int .i64 n.tw, .int .i64 n.tc, vw, vb, lv, .int .i64 m.1, .int .i64 m.2.1, .int .i64 m.2.2], .agg #[.int .i64 a.v.h, .int .i64 a.v.w, .int .i64 a.v.c, .int .i64 a.v.z, .int .i64 a.base, .int .i64 a.many, sa], .agg #[.int .i64 b.v.h, .int .i64 b.v.w, .int .i64 b.v.c, .int .i64 b.v.z, .int .i64 b.base, .int .i64 b.many, sb]] W (MakerPost n a b m y W) := by
  have c1 : (n.op == 1) = false := by rw [ho]; decide
  have c2 : (n.op == 2) = false := by rw [ho]; decide
  have c3 : (n.op == 3) = false := by rw [ho]; decide
  have c4 : (n.op == 4) = false := by rw [ho]; decide
  have c5 : (n.op == 5) = true := by rw [ho]; decide
  have HO := Lib.hid ho
  clear ho
  go_enter Tryz.func86, Tryz.ntmps86
  go_upto_region 1 with fail
  refine opq (fun w' => (Bx w' (W.heap.size) #[.int .i64 n.op, vi, .int .i64 n.k, .int .i64 n.stride, .int .i64 n.pad, .int .i64 n.out, .int .i64 n.mul, .int .i64 n.shift, .int .i64 n.zero, .int .i64 n.th, .int .i64 n.tw, .int .i64 n.tc, vw, vb, lv, .int .i64 m.1, .int .i64 m.2.1, .int .i64 m.2.2]) /\ (Bx w' (W.heap.size + 1) #[.int .i64 a.v.h, .int .i64 a.v.w, .int .i64 a.v.c, .int .i64 a.v.z, .int .i64 a.base, .int .i64 a.many, sa]) /\ (Bx w' (W.heap.size + 2) #[.int .i64 b.v.h, .int .i64 b.v.w, .int .i64 b.v.c, .int .i64 b.v.z, .int .i64 b.base, .int .i64 b.many, sb]) /\ Grown W w' /\ W.heap.size + 3 <= w'.heap.size) kLaid ?_
  rintro W1 ⟨bt, ba, bb, g1, z1⟩
  have NA := Lib.hid (na.grow (Grown.past g1))
  have NB := Lib.hid (nb.grow (Grown.past g1))
  have NW := Lib.hid (hin.2.1.grow (Grown.past g1))
  have NI := Lib.hid (hin.2.2.grow (Grown.past g1))
  clear na nb hin
  go_wp2_with ((refine wpList_load_box rfl 77 (.tmp 3) rfl W.heap.size #[.int .i64 n.op, vi, .int .i64 n.k, .int .i64 n.stride, .int .i64 n.pad, .int .i64 n.out, .int .i64 n.mul, .int .i64 n.shift, .int .i64 n.zero, .int .i64 n.th, .int .i64 n.tw, .int .i64 n.tc, vw, vb, lv, .int .i64 m.1, .int .i64 m.2.1, .int .i64 m.2.2] rfl bt Tryz.underlying77 rfl T18 ?_))
  refine (mean_mk _ _ _ _ _ _ _ _ _).mono ?_
  rintro e w2 ⟨rfl, d1, d2, g2, z2⟩
  go_wp2_with fail
  go_ret
  exact ⟨_, rfl, is_mean h HO.out y0 y1 (NA.out.grow (Grown.past g2)) d1 (by omega) d2 (by omega), grown_trans g1 g2⟩
set_option maxHeartbeats 4000000 in
theorem maker_6 (h : MakeOk n vs a b m) (ho : n.op = 6) (y0 : 0 <= y) (y1 : y < m.1) (hin : NodeIn W n vi vw vb) (na : IsNums .i8 W sa a.xs) (nb : IsNums .i8 W sb b.xs) :
    Calls Tryz.prog 86 #[.agg #[.int .i64 n.op, vi, .int .i64 n.k, .int .i64 n.stride, .int .i64 n.pad, .int .i64 n.out, .int .i64 n.mul, .int .i64 n.shift, .int .i64 n.zero, .int .i64 n.th, .int .i64 n.tw, .int .i64 n.tc, vw, vb, lv, .int .i64 m.1, .int .i64 m.2.1, .int .i64 m.2.2], .agg #[.int .i64 a.v.h, .int .i64 a.v.w, .int .i64 a.v.c, .int .i64 a.v.z, .int .i64 a.base, .int .i64 a.many, sa], .agg #[.int .i64 b.v.h, .int .i64 b.v.w, .int .i64 b.v.c, .int .i64 b.v.z, .int .i64 b.base, .int .i64 b.many, sb]] W (MakerPost n a b m y W) := by
  have c1 : (n.op == 1) = false := by rw [ho]; decide
  have c2 : (n.op == 2) = false := by rw [ho]; decide
  have c3 : (n.op == 3) = false := by rw [ho]; decide
  have c4 : (n.op == 4) = false := by rw [ho]; decide
  have c5 : (n.op == 5) = false := by rw [ho]; decide
  have c6 : (n.op == 6) = true := by rw [ho]; decide
  have HO := Lib.hid ho
  clear ho
  go_enter Tryz.func86, Tryz.ntmps86
  go_upto_region 1 with fail
  refine opq (fun w' => (Bx w' (W.heap.size) #[.int .i64 n.op, vi, .int .i64 n.k, .int .i64 n.stride, .int .i64 n.pad, .int .i64 n.out, .int .i64 n.mul, .int .i64 n.shift, .int .i64 n.zero, .int .i64 n.th, .int .i64 n.tw, .int .i64 n.tc, vw, vb, lv, .int .i64 m.1, .int .i64 m.2.1, .int .i64 m.2.2]) /\ (Bx w' (W.heap.size + 1) #[.int .i64 a.v.h, .int .i64 a.v.w, .int .i64 a.v.c, .int .i64 a.v.z, .int .i64 a.base, .int .i64 a.many, sa]) /\ (Bx w' (W.heap.size + 2) #[.int .i64 b.v.h, .int .i64 b.v.w, .int .i64 b.v.c, .int .i64 b.v.z, .int .i64 b.base, .int .i64 b.many, sb]) /\ Grown W w' /\ W.heap.size + 3 <= w'.heap.size) kLaid ?_
  rintro W1 ⟨bt, ba, bb, g1, z1⟩
  have NA := Lib.hid (na.grow (Grown.past g1))
  have NB := Lib.hid (nb.grow (Grown.past g1))
  have NW := Lib.hid (hin.2.1.grow (Grown.past g1))
  have NI := Lib.hid (hin.2.2.grow (Grown.past g1))
  clear na nb hin
  go_wp2_with ((refine wpList_load_box rfl 77 (.tmp 3) rfl W.heap.size #[.int .i64 n.op, vi, .int .i64 n.k, .int .i64 n.stride, .int .i64 n.pad, .int .i64 n.out, .int .i64 n.mul, .int .i64 n.shift, .int .i64 n.zero, .int .i64 n.th, .int .i64 n.tw, .int .i64 n.tc, vw, vb, lv, .int .i64 m.1, .int .i64 m.2.1, .int .i64 m.2.2] rfl bt Tryz.underlying77 rfl T18 ?_))
  refine (scaled_mk _ _ _ _ _ _ _ _ _).mono ?_
  rintro e w2 ⟨rfl, d1, d2, g2, z2⟩
  go_wp2_with fail
  go_ret
  exact ⟨_, rfl, is_add h HO.out (NA.out.grow (Grown.past g2)) (NB.out.grow (Grown.past g2)) (box_grown g2 ba (by omega)) (by have := g2.2.2; omega) (box_grown g2 bb (by omega)) (by have := g2.2.2; omega) d1 (by omega) rfl d2 (by omega), grown_trans g1 g2⟩
set_option maxHeartbeats 4000000 in
theorem maker_7 (h : MakeOk n vs a b m) (ho : n.op = 7) (y0 : 0 <= y) (y1 : y < m.1) (hin : NodeIn W n vi vw vb) (na : IsNums .i8 W sa a.xs) (nb : IsNums .i8 W sb b.xs) :
    Calls Tryz.prog 86 #[.agg #[.int .i64 n.op, vi, .int .i64 n.k, .int .i64 n.stride, .int .i64 n.pad, .int .i64 n.out, .int .i64 n.mul, .int .i64 n.shift, .int .i64 n.zero, .int .i64 n.th, .int .i64 n.tw, .int .i64 n.tc, vw, vb, lv, .int .i64 m.1, .int .i64 m.2.1, .int .i64 m.2.2], .agg #[.int .i64 a.v.h, .int .i64 a.v.w, .int .i64 a.v.c, .int .i64 a.v.z, .int .i64 a.base, .int .i64 a.many, sa], .agg #[.int .i64 b.v.h, .int .i64 b.v.w, .int .i64 b.v.c, .int .i64 b.v.z, .int .i64 b.base, .int .i64 b.many, sb]] W (MakerPost n a b m y W) := by
  have c1 : (n.op == 1) = false := by rw [ho]; decide
  have c2 : (n.op == 2) = false := by rw [ho]; decide
  have c3 : (n.op == 3) = false := by rw [ho]; decide
  have c4 : (n.op == 4) = false := by rw [ho]; decide
  have c5 : (n.op == 5) = false := by rw [ho]; decide
  have c6 : (n.op == 6) = false := by rw [ho]; decide
  have c7 : (n.op == 7) = true := by rw [ho]; decide
  have HO := Lib.hid ho
  clear ho
  go_enter Tryz.func86, Tryz.ntmps86
  go_upto_region 1 with fail
  refine opq (fun w' => (Bx w' (W.heap.size) #[.int .i64 n.op, vi, .int .i64 n.k, .int .i64 n.stride, .int .i64 n.pad, .int .i64 n.out, .int .i64 n.mul, .int .i64 n.shift, .int .i64 n.zero, .int .i64 n.th, .int .i64 n.tw, .int .i64 n.tc, vw, vb, lv, .int .i64 m.1, .int .i64 m.2.1, .int .i64 m.2.2]) /\ (Bx w' (W.heap.size + 1) #[.int .i64 a.v.h, .int .i64 a.v.w, .int .i64 a.v.c, .int .i64 a.v.z, .int .i64 a.base, .int .i64 a.many, sa]) /\ (Bx w' (W.heap.size + 2) #[.int .i64 b.v.h, .int .i64 b.v.w, .int .i64 b.v.c, .int .i64 b.v.z, .int .i64 b.base, .int .i64 b.many, sb]) /\ Grown W w' /\ W.heap.size + 3 <= w'.heap.size) kLaid ?_
  rintro W1 ⟨bt, ba, bb, g1, z1⟩
  have NA := Lib.hid (na.grow (Grown.past g1))
  have NB := Lib.hid (nb.grow (Grown.past g1))
  have NW := Lib.hid (hin.2.1.grow (Grown.past g1))
  have NI := Lib.hid (hin.2.2.grow (Grown.past g1))
  clear na nb hin
  go_wp2_with ((refine wpList_load_box rfl 77 (.tmp 3) rfl W.heap.size #[.int .i64 n.op, vi, .int .i64 n.k, .int .i64 n.stride, .int .i64 n.pad, .int .i64 n.out, .int .i64 n.mul, .int .i64 n.shift, .int .i64 n.zero, .int .i64 n.th, .int .i64 n.tw, .int .i64 n.tc, vw, vb, lv, .int .i64 m.1, .int .i64 m.2.1, .int .i64 m.2.2] rfl bt Tryz.underlying77 rfl T18 ?_))
  refine (scaled_mk _ _ _ _ _ _ _ _ _).mono ?_
  rintro e w2 ⟨rfl, d1, d2, g2, z2⟩
  go_wp2_with fail
  go_ret
  exact ⟨_, rfl, is_mul h HO.out (NA.out.grow (Grown.past g2)) (NB.out.grow (Grown.past g2)) (box_grown g2 ba (by omega)) (by have := g2.2.2; omega) (box_grown g2 bb (by omega)) (by have := g2.2.2; omega) d1 (by omega) rfl d2 (by omega), grown_trans g1 g2⟩
end
section
variable {n : NodeD} {vs : List ValD} {a b : ViewD} {m : Int × Int × Int} {y : Int} {vi vw vb lv sa sb : Value} {W : World}
set_option maxHeartbeats 4000000 in
theorem maker_10 (h : MakeOk n vs a b m) (ho : n.op = 10) (y0 : 0 <= y) (y1 : y < m.1) (hin : NodeIn W n vi vw vb) (na : IsNums .i8 W sa a.xs) (nb : IsNums .i8 W sb b.xs) :
    Calls Tryz.prog 86 #[.agg #[.int .i64 n.op, vi, .int .i64 n.k, .int .i64 n.stride, .int .i64 n.pad, .int .i64 n.out, .int .i64 n.mul, .int .i64 n.shift, .int .i64 n.zero, .int .i64 n.th, .int .i64 n.tw, .int .i64 n.tc, vw, vb, lv, .int .i64 m.1, .int .i64 m.2.1, .int .i64 m.2.2], .agg #[.int .i64 a.v.h, .int .i64 a.v.w, .int .i64 a.v.c, .int .i64 a.v.z, .int .i64 a.base, .int .i64 a.many, sa], .agg #[.int .i64 b.v.h, .int .i64 b.v.w, .int .i64 b.v.c, .int .i64 b.v.z, .int .i64 b.base, .int .i64 b.many, sb]] W (MakerPost n a b m y W) := by
  have c1 : (n.op == 1) = false := by rw [ho]; decide
  have c2 : (n.op == 2) = false := by rw [ho]; decide
  have c3 : (n.op == 3) = false := by rw [ho]; decide
  have c4 : (n.op == 4) = false := by rw [ho]; decide
  have c5 : (n.op == 5) = false := by rw [ho]; decide
  have c6 : (n.op == 6) = false := by rw [ho]; decide
  have c7 : (n.op == 7) = false := by rw [ho]; decide
  have c8 : (n.op == 8) = false := by rw [ho]; decide
  have c9 : (n.op == 9) = false := by rw [ho]; decide
  have c10 : (n.op == 10) = true := by rw [ho]; decide
  have HO := Lib.hid ho
  clear ho
  go_enter Tryz.func86, Tryz.ntmps86
  go_upto_region 1 with fail
  refine opq (fun w' => (Bx w' (W.heap.size) #[.int .i64 n.op, vi, .int .i64 n.k, .int .i64 n.stride, .int .i64 n.pad, .int .i64 n.out, .int .i64 n.mul, .int .i64 n.shift, .int .i64 n.zero, .int .i64 n.th, .int .i64 n.tw, .int .i64 n.tc, vw, vb, lv, .int .i64 m.1, .int .i64 m.2.1, .int .i64 m.2.2]) /\ (Bx w' (W.heap.size + 1) #[.int .i64 a.v.h, .int .i64 a.v.w, .int .i64 a.v.c, .int .i64 a.v.z, .int .i64 a.base, .int .i64 a.many, sa]) /\ (Bx w' (W.heap.size + 2) #[.int .i64 b.v.h, .int .i64 b.v.w, .int .i64 b.v.c, .int .i64 b.v.z, .int .i64 b.base, .int .i64 b.many, sb]) /\ Grown W w' /\ W.heap.size + 3 <= w'.heap.size) kLaid ?_
  rintro W1 ⟨bt, ba, bb, g1, z1⟩
  have NA := Lib.hid (na.grow (Grown.past g1))
  have NB := Lib.hid (nb.grow (Grown.past g1))
  have NW := Lib.hid (hin.2.1.grow (Grown.past g1))
  have NI := Lib.hid (hin.2.2.grow (Grown.past g1))
  clear na nb hin
  go_wp2_with fail
  refine (stacked_mk _ _ _ _ _).mono ?_
  rintro e w2 ⟨rfl, d1, d2, g2, z2⟩
  go_wp2_with fail
  go_ret
  exact ⟨_, rfl, is_concat h HO.out (NA.out.grow (Grown.past g2)) (NB.out.grow (Grown.past g2)) d1 (by omega) d2 (by omega), grown_trans g1 g2⟩
set_option maxHeartbeats 4000000 in
theorem maker_11 (h : MakeOk n vs a b m) (ho : n.op = 11) (y0 : 0 <= y) (y1 : y < m.1) (hin : NodeIn W n vi vw vb) (na : IsNums .i8 W sa a.xs) (nb : IsNums .i8 W sb b.xs) :
    Calls Tryz.prog 86 #[.agg #[.int .i64 n.op, vi, .int .i64 n.k, .int .i64 n.stride, .int .i64 n.pad, .int .i64 n.out, .int .i64 n.mul, .int .i64 n.shift, .int .i64 n.zero, .int .i64 n.th, .int .i64 n.tw, .int .i64 n.tc, vw, vb, lv, .int .i64 m.1, .int .i64 m.2.1, .int .i64 m.2.2], .agg #[.int .i64 a.v.h, .int .i64 a.v.w, .int .i64 a.v.c, .int .i64 a.v.z, .int .i64 a.base, .int .i64 a.many, sa], .agg #[.int .i64 b.v.h, .int .i64 b.v.w, .int .i64 b.v.c, .int .i64 b.v.z, .int .i64 b.base, .int .i64 b.many, sb]] W (MakerPost n a b m y W) := by
  have c1 : (n.op == 1) = false := by rw [ho]; decide
  have c2 : (n.op == 2) = false := by rw [ho]; decide
  have c3 : (n.op == 3) = false := by rw [ho]; decide
  have c4 : (n.op == 4) = false := by rw [ho]; decide
  have c5 : (n.op == 5) = false := by rw [ho]; decide
  have c6 : (n.op == 6) = false := by rw [ho]; decide
  have c7 : (n.op == 7) = false := by rw [ho]; decide
  have c8 : (n.op == 8) = false := by rw [ho]; decide
  have c9 : (n.op == 9) = false := by rw [ho]; decide
  have c10 : (n.op == 10) = false := by rw [ho]; decide
  have c11 : (n.op == 11) = true := by rw [ho]; decide
  have HO := Lib.hid ho
  clear ho
  go_enter Tryz.func86, Tryz.ntmps86
  go_upto_region 1 with fail
  refine opq (fun w' => (Bx w' (W.heap.size) #[.int .i64 n.op, vi, .int .i64 n.k, .int .i64 n.stride, .int .i64 n.pad, .int .i64 n.out, .int .i64 n.mul, .int .i64 n.shift, .int .i64 n.zero, .int .i64 n.th, .int .i64 n.tw, .int .i64 n.tc, vw, vb, lv, .int .i64 m.1, .int .i64 m.2.1, .int .i64 m.2.2]) /\ (Bx w' (W.heap.size + 1) #[.int .i64 a.v.h, .int .i64 a.v.w, .int .i64 a.v.c, .int .i64 a.v.z, .int .i64 a.base, .int .i64 a.many, sa]) /\ (Bx w' (W.heap.size + 2) #[.int .i64 b.v.h, .int .i64 b.v.w, .int .i64 b.v.c, .int .i64 b.v.z, .int .i64 b.base, .int .i64 b.many, sb]) /\ Grown W w' /\ W.heap.size + 3 <= w'.heap.size) kLaid ?_
  rintro W1 ⟨bt, ba, bb, g1, z1⟩
  have NA := Lib.hid (na.grow (Grown.past g1))
  have NB := Lib.hid (nb.grow (Grown.past g1))
  have NW := Lib.hid (hin.2.1.grow (Grown.past g1))
  have NI := Lib.hid (hin.2.2.grow (Grown.past g1))
  clear na nb hin
  go_wp2_with fail
  go_ret
  exact ⟨_, rfl, is_reshape h HO.out y0 y1 NA.out bt (by omega) ba (by omega), g1⟩
set_option maxHeartbeats 4000000 in
theorem maker_12 (h : MakeOk n vs a b m) (ho : n.op = 12) (y0 : 0 <= y) (y1 : y < m.1) (hin : NodeIn W n vi vw vb) (na : IsNums .i8 W sa a.xs) (nb : IsNums .i8 W sb b.xs) :
    Calls Tryz.prog 86 #[.agg #[.int .i64 n.op, vi, .int .i64 n.k, .int .i64 n.stride, .int .i64 n.pad, .int .i64 n.out, .int .i64 n.mul, .int .i64 n.shift, .int .i64 n.zero, .int .i64 n.th, .int .i64 n.tw, .int .i64 n.tc, vw, vb, lv, .int .i64 m.1, .int .i64 m.2.1, .int .i64 m.2.2], .agg #[.int .i64 a.v.h, .int .i64 a.v.w, .int .i64 a.v.c, .int .i64 a.v.z, .int .i64 a.base, .int .i64 a.many, sa], .agg #[.int .i64 b.v.h, .int .i64 b.v.w, .int .i64 b.v.c, .int .i64 b.v.z, .int .i64 b.base, .int .i64 b.many, sb]] W (MakerPost n a b m y W) := by
  have c1 : (n.op == 1) = false := by rw [ho]; decide
  have c2 : (n.op == 2) = false := by rw [ho]; decide
  have c3 : (n.op == 3) = false := by rw [ho]; decide
  have c4 : (n.op == 4) = false := by rw [ho]; decide
  have c5 : (n.op == 5) = false := by rw [ho]; decide
  have c6 : (n.op == 6) = false := by rw [ho]; decide
  have c7 : (n.op == 7) = false := by rw [ho]; decide
  have c8 : (n.op == 8) = false := by rw [ho]; decide
  have c9 : (n.op == 9) = false := by rw [ho]; decide
  have c10 : (n.op == 10) = false := by rw [ho]; decide
  have c11 : (n.op == 11) = false := by rw [ho]; decide
  have HO := Lib.hid ho
  clear ho
  go_enter Tryz.func86, Tryz.ntmps86
  go_upto_region 1 with fail
  refine opq (fun w' => (Bx w' (W.heap.size) #[.int .i64 n.op, vi, .int .i64 n.k, .int .i64 n.stride, .int .i64 n.pad, .int .i64 n.out, .int .i64 n.mul, .int .i64 n.shift, .int .i64 n.zero, .int .i64 n.th, .int .i64 n.tw, .int .i64 n.tc, vw, vb, lv, .int .i64 m.1, .int .i64 m.2.1, .int .i64 m.2.2]) /\ (Bx w' (W.heap.size + 1) #[.int .i64 a.v.h, .int .i64 a.v.w, .int .i64 a.v.c, .int .i64 a.v.z, .int .i64 a.base, .int .i64 a.many, sa]) /\ (Bx w' (W.heap.size + 2) #[.int .i64 b.v.h, .int .i64 b.v.w, .int .i64 b.v.c, .int .i64 b.v.z, .int .i64 b.base, .int .i64 b.many, sb]) /\ Grown W w' /\ W.heap.size + 3 <= w'.heap.size) kLaid ?_
  rintro W1 ⟨bt, ba, bb, g1, z1⟩
  have NA := Lib.hid (na.grow (Grown.past g1))
  have NB := Lib.hid (nb.grow (Grown.past g1))
  have NW := Lib.hid (hin.2.1.grow (Grown.past g1))
  have NI := Lib.hid (hin.2.2.grow (Grown.past g1))
  clear na nb hin
  go_wp2_with fail
  go_ret
  exact ⟨_, rfl, is_table h HO.out NA.out NW.out bt (by omega) ba (by omega), g1⟩
end
end Go.Proofs.YtliijchcpooplaaGreat
