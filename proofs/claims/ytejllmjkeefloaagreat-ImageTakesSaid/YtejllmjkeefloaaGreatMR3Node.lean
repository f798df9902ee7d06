/- The reference of layer 3: SameNode. -/
import Derived.Test.YtejllmjkeefloaaGreatMI1
namespace Go.Proofs.YtejllmjkeefloaaGreat
open Go.ChangeShapes Go.WideShapes Go.ChangeAt Go.RowKit
set_option maxRecDepth 100000
set_option linter.unusedVariables false
theorem two_boxes {w w1:World}{la lb:List Value}{t u:TypeId}(g:Grown ((w.alloc (.cells ⟨la⟩ t)).alloc (.cells ⟨lb⟩ u)) w1):(∀ j,w1.cell? ⟨w.heap.size,j,none⟩=la[j]?)/\(∀ j,w1.cell? ⟨w.heap.size+1,j,none⟩=lb[j]?):=by
 constructor
 ·intro j;rw [grown_cell g (by simp;omega),World.cell?_alloc_past _ _ _ (by simp)];have:=heap_alloc_new w (.cells ⟨la⟩ t);unfold World.cell?;simp only [this];simp
 ·intro j;rw [grown_cell g (by simp)];have:=heap_alloc2_new w (.cells ⟨la⟩ t) (.cells ⟨lb⟩ u);unfold World.cell?;simp only [this];simp
set_option maxRecDepth 4000 in
set_option maxHeartbeats 1000000 in
theorem sn_ins (w:World)(a b:NodeD)(A1 A2 A3 B1 B2 B3:Option Addr)(l1 c1 l2 c2 l3 c3 m1 d1 m2 d2 m3 d3:Nat)(hi:IsNums .i64 w (.slice A1 l1 c1) a.ins)(hi':IsNums .i64 w (.slice B1 m1 d1) b.ins)(E:Hid (a.ins≠b.ins)) :
  Calls Tryz.prog 53 #[.agg (nC a (.slice A1 l1 c1) (.slice A2 l2 c2) (.slice A3 l3 c3)),.agg (nC b (.slice B1 m1 d1) (.slice B2 m2 d2) (.slice B3 m3 d3))] w fun e w'=>e=.returned (.bool false)/\Grown w w':=by
 go_enter Tryz.func53,Tryz.ntmps53;go_wp2_with fail;refine(ints_any _ _ _ _ _ false (hi.grow (((Past.refl w).alloc _).alloc _)) (hi'.grow (((Past.refl w).alloc _).alloc _)) (LH ⟨fun h=>(by cases h),fun h=>absurd h E.out⟩)).mono ?_;rintro e w1 ⟨rfl,g1⟩;go_wp2_with fail;go_ret;exact⟨rfl,grown_trans (by go_grown) g1⟩
set_option maxRecDepth 4000 in
set_option maxHeartbeats 1000000 in
theorem sn_op (w:World)(a b:NodeD)(A1 A2 A3 B1 B2 B3:Option Addr)(l1 c1 l2 c2 l3 c3 m1 d1 m2 d2 m3 d3:Nat)(hi:IsNums .i64 w (.slice A1 l1 c1) a.ins)(hi':IsNums .i64 w (.slice B1 m1 d1) b.ins)(E:Hid (a.ins=b.ins))(h0:Hid (a.op≠b.op)) :
  Calls Tryz.prog 53 #[.agg (nC a (.slice A1 l1 c1) (.slice A2 l2 c2) (.slice A3 l3 c3)),.agg (nC b (.slice B1 m1 d1) (.slice B2 m2 d2) (.slice B3 m3 d3))] w fun e w'=>e=.returned (.bool false)/\Grown w w':=by
 have tt0:(a.op==b.op)=false:=by simpa using h0.out
 go_enter Tryz.func53,Tryz.ntmps53;go_wp2_with fail;refine(ints_any _ _ _ _ _ true (hi.grow (((Past.refl w).alloc _).alloc _)) (hi'.grow (((Past.refl w).alloc _).alloc _)) (LH ⟨fun _=>E.out,fun _=>rfl⟩)).mono ?_;rintro e w1 ⟨rfl,g1⟩;have F:=two_boxes g1;have x0:w1.cell? ⟨w.heap.size,0,none⟩=some (.int .i64 a.op):=F.1 0;have y0:w1.cell? ⟨w.heap.size+1,0,none⟩=some (.int .i64 b.op):=F.2 0;clear F;go_wp2_with fail;go_ret;exact⟨rfl,grown_trans (by go_grown) g1⟩
set_option maxRecDepth 4000 in
set_option maxHeartbeats 1000000 in
theorem sn_k (w:World)(a b:NodeD)(A1 A2 A3 B1 B2 B3:Option Addr)(l1 c1 l2 c2 l3 c3 m1 d1 m2 d2 m3 d3:Nat)(hi:IsNums .i64 w (.slice A1 l1 c1) a.ins)(hi':IsNums .i64 w (.slice B1 m1 d1) b.ins)(E:Hid (a.ins=b.ins))(h0:Hid (a.op=b.op))(h1:Hid (a.k≠b.k)) :
  Calls Tryz.prog 53 #[.agg (nC a (.slice A1 l1 c1) (.slice A2 l2 c2) (.slice A3 l3 c3)),.agg (nC b (.slice B1 m1 d1) (.slice B2 m2 d2) (.slice B3 m3 d3))] w fun e w'=>e=.returned (.bool false)/\Grown w w':=by
 have tt0:(a.op==b.op)=true:=by simpa using h0.out
 have tt1:(a.k==b.k)=false:=by simpa using h1.out
 go_enter Tryz.func53,Tryz.ntmps53;go_wp2_with fail;refine(ints_any _ _ _ _ _ true (hi.grow (((Past.refl w).alloc _).alloc _)) (hi'.grow (((Past.refl w).alloc _).alloc _)) (LH ⟨fun _=>E.out,fun _=>rfl⟩)).mono ?_;rintro e w1 ⟨rfl,g1⟩;have F:=two_boxes g1;have x0:w1.cell? ⟨w.heap.size,0,none⟩=some (.int .i64 a.op):=F.1 0;have y0:w1.cell? ⟨w.heap.size+1,0,none⟩=some (.int .i64 b.op):=F.2 0;have x2:w1.cell? ⟨w.heap.size,2,none⟩=some (.int .i64 a.k):=F.1 2;have y2:w1.cell? ⟨w.heap.size+1,2,none⟩=some (.int .i64 b.k):=F.2 2;clear F;go_wp2_with fail;go_ret;exact⟨rfl,grown_trans (by go_grown) g1⟩
set_option maxRecDepth 4000 in
set_option maxHeartbeats 1000000 in
theorem sn_stride (w:World)(a b:NodeD)(A1 A2 A3 B1 B2 B3:Option Addr)(l1 c1 l2 c2 l3 c3 m1 d1 m2 d2 m3 d3:Nat)(hi:IsNums .i64 w (.slice A1 l1 c1) a.ins)(hi':IsNums .i64 w (.slice B1 m1 d1) b.ins)(E:Hid (a.ins=b.ins))(h0:Hid (a.op=b.op))(h1:Hid (a.k=b.k))(h2:Hid (a.stride≠b.stride)) :
  Calls Tryz.prog 53 #[.agg (nC a (.slice A1 l1 c1) (.slice A2 l2 c2) (.slice A3 l3 c3)),.agg (nC b (.slice B1 m1 d1) (.slice B2 m2 d2) (.slice B3 m3 d3))] w fun e w'=>e=.returned (.bool false)/\Grown w w':=by
 have tt0:(a.op==b.op)=true:=by simpa using h0.out
 have tt1:(a.k==b.k)=true:=by simpa using h1.out
 have tt2:(a.stride==b.stride)=false:=by simpa using h2.out
 go_enter Tryz.func53,Tryz.ntmps53;go_wp2_with fail;refine(ints_any _ _ _ _ _ true (hi.grow (((Past.refl w).alloc _).alloc _)) (hi'.grow (((Past.refl w).alloc _).alloc _)) (LH ⟨fun _=>E.out,fun _=>rfl⟩)).mono ?_;rintro e w1 ⟨rfl,g1⟩;have F:=two_boxes g1;have x0:w1.cell? ⟨w.heap.size,0,none⟩=some (.int .i64 a.op):=F.1 0;have y0:w1.cell? ⟨w.heap.size+1,0,none⟩=some (.int .i64 b.op):=F.2 0;have x2:w1.cell? ⟨w.heap.size,2,none⟩=some (.int .i64 a.k):=F.1 2;have y2:w1.cell? ⟨w.heap.size+1,2,none⟩=some (.int .i64 b.k):=F.2 2;have x3:w1.cell? ⟨w.heap.size,3,none⟩=some (.int .i64 a.stride):=F.1 3;have y3:w1.cell? ⟨w.heap.size+1,3,none⟩=some (.int .i64 b.stride):=F.2 3;clear F;go_wp2_with fail;go_ret;exact⟨rfl,grown_trans (by go_grown) g1⟩
set_option maxRecDepth 4000 in
set_option maxHeartbeats 1000000 in
theorem sn_pad (w:World)(a b:NodeD)(A1 A2 A3 B1 B2 B3:Option Addr)(l1 c1 l2 c2 l3 c3 m1 d1 m2 d2 m3 d3:Nat)(hi:IsNums .i64 w (.slice A1 l1 c1) a.ins)(hi':IsNums .i64 w (.slice B1 m1 d1) b.ins)(E:Hid (a.ins=b.ins))(h0:Hid (a.op=b.op))(h1:Hid (a.k=b.k))(h2:Hid (a.stride=b.stride))(h3:Hid (a.pad≠b.pad)) :
  Calls Tryz.prog 53 #[.agg (nC a (.slice A1 l1 c1) (.slice A2 l2 c2) (.slice A3 l3 c3)),.agg (nC b (.slice B1 m1 d1) (.slice B2 m2 d2) (.slice B3 m3 d3))] w fun e w'=>e=.returned (.bool false)/\Grown w w':=by
 have tt0:(a.op==b.op)=true:=by simpa using h0.out
 have tt1:(a.k==b.k)=true:=by simpa using h1.out
 have tt2:(a.stride==b.stride)=true:=by simpa using h2.out
 have tt3:(a.pad==b.pad)=false:=by simpa using h3.out
 go_enter Tryz.func53,Tryz.ntmps53;go_wp2_with fail;refine(ints_any _ _ _ _ _ true (hi.grow (((Past.refl w).alloc _).alloc _)) (hi'.grow (((Past.refl w).alloc _).alloc _)) (LH ⟨fun _=>E.out,fun _=>rfl⟩)).mono ?_;rintro e w1 ⟨rfl,g1⟩;have F:=two_boxes g1;have x0:w1.cell? ⟨w.heap.size,0,none⟩=some (.int .i64 a.op):=F.1 0;have y0:w1.cell? ⟨w.heap.size+1,0,none⟩=some (.int .i64 b.op):=F.2 0;have x2:w1.cell? ⟨w.heap.size,2,none⟩=some (.int .i64 a.k):=F.1 2;have y2:w1.cell? ⟨w.heap.size+1,2,none⟩=some (.int .i64 b.k):=F.2 2;have x3:w1.cell? ⟨w.heap.size,3,none⟩=some (.int .i64 a.stride):=F.1 3;have y3:w1.cell? ⟨w.heap.size+1,3,none⟩=some (.int .i64 b.stride):=F.2 3;have x4:w1.cell? ⟨w.heap.size,4,none⟩=some (.int .i64 a.pad):=F.1 4;have y4:w1.cell? ⟨w.heap.size+1,4,none⟩=some (.int .i64 b.pad):=F.2 4;clear F;go_wp2_with fail;go_ret;exact⟨rfl,grown_trans (by go_grown) g1⟩
set_option maxRecDepth 4000 in
set_option maxHeartbeats 1000000 in
theorem sn_out (w:World)(a b:NodeD)(A1 A2 A3 B1 B2 B3:Option Addr)(l1 c1 l2 c2 l3 c3 m1 d1 m2 d2 m3 d3:Nat)(hi:IsNums .i64 w (.slice A1 l1 c1) a.ins)(hi':IsNums .i64 w (.slice B1 m1 d1) b.ins)(E:Hid (a.ins=b.ins))(h0:Hid (a.op=b.op))(h1:Hid (a.k=b.k))(h2:Hid (a.stride=b.stride))(h3:Hid (a.pad=b.pad))(h4:Hid (a.out≠b.out)) :
  Calls Tryz.prog 53 #[.agg (nC a (.slice A1 l1 c1) (.slice A2 l2 c2) (.slice A3 l3 c3)),.agg (nC b (.slice B1 m1 d1) (.slice B2 m2 d2) (.slice B3 m3 d3))] w fun e w'=>e=.returned (.bool false)/\Grown w w':=by
 have tt0:(a.op==b.op)=true:=by simpa using h0.out
 have tt1:(a.k==b.k)=true:=by simpa using h1.out
 have tt2:(a.stride==b.stride)=true:=by simpa using h2.out
 have tt3:(a.pad==b.pad)=true:=by simpa using h3.out
 have tt4:(a.out==b.out)=false:=by simpa using h4.out
 go_enter Tryz.func53,Tryz.ntmps53;go_wp2_with fail;refine(ints_any _ _ _ _ _ true (hi.grow (((Past.refl w).alloc _).alloc _)) (hi'.grow (((Past.refl w).alloc _).alloc _)) (LH ⟨fun _=>E.out,fun _=>rfl⟩)).mono ?_;rintro e w1 ⟨rfl,g1⟩;have F:=two_boxes g1;have x0:w1.cell? ⟨w.heap.size,0,none⟩=some (.int .i64 a.op):=F.1 0;have y0:w1.cell? ⟨w.heap.size+1,0,none⟩=some (.int .i64 b.op):=F.2 0;have x2:w1.cell? ⟨w.heap.size,2,none⟩=some (.int .i64 a.k):=F.1 2;have y2:w1.cell? ⟨w.heap.size+1,2,none⟩=some (.int .i64 b.k):=F.2 2;have x3:w1.cell? ⟨w.heap.size,3,none⟩=some (.int .i64 a.stride):=F.1 3;have y3:w1.cell? ⟨w.heap.size+1,3,none⟩=some (.int .i64 b.stride):=F.2 3;have x4:w1.cell? ⟨w.heap.size,4,none⟩=some (.int .i64 a.pad):=F.1 4;have y4:w1.cell? ⟨w.heap.size+1,4,none⟩=some (.int .i64 b.pad):=F.2 4;have x5:w1.cell? ⟨w.heap.size,5,none⟩=some (.int .i64 a.out):=F.1 5;have y5:w1.cell? ⟨w.heap.size+1,5,none⟩=some (.int .i64 b.out):=F.2 5;clear F;go_wp2_with fail;go_ret;exact⟨rfl,grown_trans (by go_grown) g1⟩
set_option maxRecDepth 4000 in
set_option maxHeartbeats 1000000 in
theorem sn_mul (w:World)(a b:NodeD)(A1 A2 A3 B1 B2 B3:Option Addr)(l1 c1 l2 c2 l3 c3 m1 d1 m2 d2 m3 d3:Nat)(hi:IsNums .i64 w (.slice A1 l1 c1) a.ins)(hi':IsNums .i64 w (.slice B1 m1 d1) b.ins)(E:Hid (a.ins=b.ins))(h0:Hid (a.op=b.op))(h1:Hid (a.k=b.k))(h2:Hid (a.stride=b.stride))(h3:Hid (a.pad=b.pad))(h4:Hid (a.out=b.out))(h5:Hid (a.mul≠b.mul)) :
  Calls Tryz.prog 53 #[.agg (nC a (.slice A1 l1 c1) (.slice A2 l2 c2) (.slice A3 l3 c3)),.agg (nC b (.slice B1 m1 d1) (.slice B2 m2 d2) (.slice B3 m3 d3))] w fun e w'=>e=.returned (.bool false)/\Grown w w':=by
 have tt0:(a.op==b.op)=true:=by simpa using h0.out
 have tt1:(a.k==b.k)=true:=by simpa using h1.out
 have tt2:(a.stride==b.stride)=true:=by simpa using h2.out
 have tt3:(a.pad==b.pad)=true:=by simpa using h3.out
 have tt4:(a.out==b.out)=true:=by simpa using h4.out
 have tt5:(a.mul==b.mul)=false:=by simpa using h5.out
 go_enter Tryz.func53,Tryz.ntmps53;go_wp2_with fail;refine(ints_any _ _ _ _ _ true (hi.grow (((Past.refl w).alloc _).alloc _)) (hi'.grow (((Past.refl w).alloc _).alloc _)) (LH ⟨fun _=>E.out,fun _=>rfl⟩)).mono ?_;rintro e w1 ⟨rfl,g1⟩;have F:=two_boxes g1;have x0:w1.cell? ⟨w.heap.size,0,none⟩=some (.int .i64 a.op):=F.1 0;have y0:w1.cell? ⟨w.heap.size+1,0,none⟩=some (.int .i64 b.op):=F.2 0;have x2:w1.cell? ⟨w.heap.size,2,none⟩=some (.int .i64 a.k):=F.1 2;have y2:w1.cell? ⟨w.heap.size+1,2,none⟩=some (.int .i64 b.k):=F.2 2;have x3:w1.cell? ⟨w.heap.size,3,none⟩=some (.int .i64 a.stride):=F.1 3;have y3:w1.cell? ⟨w.heap.size+1,3,none⟩=some (.int .i64 b.stride):=F.2 3;have x4:w1.cell? ⟨w.heap.size,4,none⟩=some (.int .i64 a.pad):=F.1 4;have y4:w1.cell? ⟨w.heap.size+1,4,none⟩=some (.int .i64 b.pad):=F.2 4;have x5:w1.cell? ⟨w.heap.size,5,none⟩=some (.int .i64 a.out):=F.1 5;have y5:w1.cell? ⟨w.heap.size+1,5,none⟩=some (.int .i64 b.out):=F.2 5;have x6:w1.cell? ⟨w.heap.size,6,none⟩=some (.int .i64 a.mul):=F.1 6;have y6:w1.cell? ⟨w.heap.size+1,6,none⟩=some (.int .i64 b.mul):=F.2 6;clear F;go_wp2_with fail;go_ret;exact⟨rfl,grown_trans (by go_grown) g1⟩
set_option maxRecDepth 4000 in
set_option maxHeartbeats 1000000 in
theorem sn_shift (w:World)(a b:NodeD)(A1 A2 A3 B1 B2 B3:Option Addr)(l1 c1 l2 c2 l3 c3 m1 d1 m2 d2 m3 d3:Nat)(hi:IsNums .i64 w (.slice A1 l1 c1) a.ins)(hi':IsNums .i64 w (.slice B1 m1 d1) b.ins)(E:Hid (a.ins=b.ins))(h0:Hid (a.op=b.op))(h1:Hid (a.k=b.k))(h2:Hid (a.stride=b.stride))(h3:Hid (a.pad=b.pad))(h4:Hid (a.out=b.out))(h5:Hid (a.mul=b.mul))(h6:Hid (a.shift≠b.shift)) :
  Calls Tryz.prog 53 #[.agg (nC a (.slice A1 l1 c1) (.slice A2 l2 c2) (.slice A3 l3 c3)),.agg (nC b (.slice B1 m1 d1) (.slice B2 m2 d2) (.slice B3 m3 d3))] w fun e w'=>e=.returned (.bool false)/\Grown w w':=by
 have tt0:(a.op==b.op)=true:=by simpa using h0.out
 have tt1:(a.k==b.k)=true:=by simpa using h1.out
 have tt2:(a.stride==b.stride)=true:=by simpa using h2.out
 have tt3:(a.pad==b.pad)=true:=by simpa using h3.out
 have tt4:(a.out==b.out)=true:=by simpa using h4.out
 have tt5:(a.mul==b.mul)=true:=by simpa using h5.out
 have tt6:(a.shift==b.shift)=false:=by simpa using h6.out
 go_enter Tryz.func53,Tryz.ntmps53;go_wp2_with fail;refine(ints_any _ _ _ _ _ true (hi.grow (((Past.refl w).alloc _).alloc _)) (hi'.grow (((Past.refl w).alloc _).alloc _)) (LH ⟨fun _=>E.out,fun _=>rfl⟩)).mono ?_;rintro e w1 ⟨rfl,g1⟩;have F:=two_boxes g1;have x0:w1.cell? ⟨w.heap.size,0,none⟩=some (.int .i64 a.op):=F.1 0;have y0:w1.cell? ⟨w.heap.size+1,0,none⟩=some (.int .i64 b.op):=F.2 0;have x2:w1.cell? ⟨w.heap.size,2,none⟩=some (.int .i64 a.k):=F.1 2;have y2:w1.cell? ⟨w.heap.size+1,2,none⟩=some (.int .i64 b.k):=F.2 2;have x3:w1.cell? ⟨w.heap.size,3,none⟩=some (.int .i64 a.stride):=F.1 3;have y3:w1.cell? ⟨w.heap.size+1,3,none⟩=some (.int .i64 b.stride):=F.2 3;have x4:w1.cell? ⟨w.heap.size,4,none⟩=some (.int .i64 a.pad):=F.1 4;have y4:w1.cell? ⟨w.heap.size+1,4,none⟩=some (.int .i64 b.pad):=F.2 4;have x5:w1.cell? ⟨w.heap.size,5,none⟩=some (.int .i64 a.out):=F.1 5;have y5:w1.cell? ⟨w.heap.size+1,5,none⟩=some (.int .i64 b.out):=F.2 5;have x6:w1.cell? ⟨w.heap.size,6,none⟩=some (.int .i64 a.mul):=F.1 6;have y6:w1.cell? ⟨w.heap.size+1,6,none⟩=some (.int .i64 b.mul):=F.2 6;have x7:w1.cell? ⟨w.heap.size,7,none⟩=some (.int .i64 a.shift):=F.1 7;have y7:w1.cell? ⟨w.heap.size+1,7,none⟩=some (.int .i64 b.shift):=F.2 7;clear F;go_wp2_with fail;go_ret;exact⟨rfl,grown_trans (by go_grown) g1⟩
set_option maxRecDepth 4000 in
set_option maxHeartbeats 1000000 in
theorem sn_zero (w:World)(a b:NodeD)(A1 A2 A3 B1 B2 B3:Option Addr)(l1 c1 l2 c2 l3 c3 m1 d1 m2 d2 m3 d3:Nat)(hi:IsNums .i64 w (.slice A1 l1 c1) a.ins)(hi':IsNums .i64 w (.slice B1 m1 d1) b.ins)(E:Hid (a.ins=b.ins))(h0:Hid (a.op=b.op))(h1:Hid (a.k=b.k))(h2:Hid (a.stride=b.stride))(h3:Hid (a.pad=b.pad))(h4:Hid (a.out=b.out))(h5:Hid (a.mul=b.mul))(h6:Hid (a.shift=b.shift))(h7:Hid (a.zero≠b.zero)) :
  Calls Tryz.prog 53 #[.agg (nC a (.slice A1 l1 c1) (.slice A2 l2 c2) (.slice A3 l3 c3)),.agg (nC b (.slice B1 m1 d1) (.slice B2 m2 d2) (.slice B3 m3 d3))] w fun e w'=>e=.returned (.bool false)/\Grown w w':=by
 have tt0:(a.op==b.op)=true:=by simpa using h0.out
 have tt1:(a.k==b.k)=true:=by simpa using h1.out
 have tt2:(a.stride==b.stride)=true:=by simpa using h2.out
 have tt3:(a.pad==b.pad)=true:=by simpa using h3.out
 have tt4:(a.out==b.out)=true:=by simpa using h4.out
 have tt5:(a.mul==b.mul)=true:=by simpa using h5.out
 have tt6:(a.shift==b.shift)=true:=by simpa using h6.out
 have tt7:(a.zero==b.zero)=false:=by simpa using h7.out
 go_enter Tryz.func53,Tryz.ntmps53;go_wp2_with fail;refine(ints_any _ _ _ _ _ true (hi.grow (((Past.refl w).alloc _).alloc _)) (hi'.grow (((Past.refl w).alloc _).alloc _)) (LH ⟨fun _=>E.out,fun _=>rfl⟩)).mono ?_;rintro e w1 ⟨rfl,g1⟩;have F:=two_boxes g1;have x0:w1.cell? ⟨w.heap.size,0,none⟩=some (.int .i64 a.op):=F.1 0;have y0:w1.cell? ⟨w.heap.size+1,0,none⟩=some (.int .i64 b.op):=F.2 0;have x2:w1.cell? ⟨w.heap.size,2,none⟩=some (.int .i64 a.k):=F.1 2;have y2:w1.cell? ⟨w.heap.size+1,2,none⟩=some (.int .i64 b.k):=F.2 2;have x3:w1.cell? ⟨w.heap.size,3,none⟩=some (.int .i64 a.stride):=F.1 3;have y3:w1.cell? ⟨w.heap.size+1,3,none⟩=some (.int .i64 b.stride):=F.2 3;have x4:w1.cell? ⟨w.heap.size,4,none⟩=some (.int .i64 a.pad):=F.1 4;have y4:w1.cell? ⟨w.heap.size+1,4,none⟩=some (.int .i64 b.pad):=F.2 4;have x5:w1.cell? ⟨w.heap.size,5,none⟩=some (.int .i64 a.out):=F.1 5;have y5:w1.cell? ⟨w.heap.size+1,5,none⟩=some (.int .i64 b.out):=F.2 5;have x6:w1.cell? ⟨w.heap.size,6,none⟩=some (.int .i64 a.mul):=F.1 6;have y6:w1.cell? ⟨w.heap.size+1,6,none⟩=some (.int .i64 b.mul):=F.2 6;have x7:w1.cell? ⟨w.heap.size,7,none⟩=some (.int .i64 a.shift):=F.1 7;have y7:w1.cell? ⟨w.heap.size+1,7,none⟩=some (.int .i64 b.shift):=F.2 7;have x8:w1.cell? ⟨w.heap.size,8,none⟩=some (.int .i64 a.zero):=F.1 8;have y8:w1.cell? ⟨w.heap.size+1,8,none⟩=some (.int .i64 b.zero):=F.2 8;clear F;go_wp2_with fail;go_ret;exact⟨rfl,grown_trans (by go_grown) g1⟩
set_option maxRecDepth 4000 in
set_option maxHeartbeats 1000000 in
theorem sn_th (w:World)(a b:NodeD)(A1 A2 A3 B1 B2 B3:Option Addr)(l1 c1 l2 c2 l3 c3 m1 d1 m2 d2 m3 d3:Nat)(hi:IsNums .i64 w (.slice A1 l1 c1) a.ins)(hi':IsNums .i64 w (.slice B1 m1 d1) b.ins)(E:Hid (a.ins=b.ins))(h0:Hid (a.op=b.op))(h1:Hid (a.k=b.k))(h2:Hid (a.stride=b.stride))(h3:Hid (a.pad=b.pad))(h4:Hid (a.out=b.out))(h5:Hid (a.mul=b.mul))(h6:Hid (a.shift=b.shift))(h7:Hid (a.zero=b.zero))(h8:Hid (a.th≠b.th)) :
  Calls Tryz.prog 53 #[.agg (nC a (.slice A1 l1 c1) (.slice A2 l2 c2) (.slice A3 l3 c3)),.agg (nC b (.slice B1 m1 d1) (.slice B2 m2 d2) (.slice B3 m3 d3))] w fun e w'=>e=.returned (.bool false)/\Grown w w':=by
 have tt0:(a.op==b.op)=true:=by simpa using h0.out
 have tt1:(a.k==b.k)=true:=by simpa using h1.out
 have tt2:(a.stride==b.stride)=true:=by simpa using h2.out
 have tt3:(a.pad==b.pad)=true:=by simpa using h3.out
 have tt4:(a.out==b.out)=true:=by simpa using h4.out
 have tt5:(a.mul==b.mul)=true:=by simpa using h5.out
 have tt6:(a.shift==b.shift)=true:=by simpa using h6.out
 have tt7:(a.zero==b.zero)=true:=by simpa using h7.out
 go_enter Tryz.func53,Tryz.ntmps53;go_wp2_with fail;refine(ints_any _ _ _ _ _ true (hi.grow (((Past.refl w).alloc _).alloc _)) (hi'.grow (((Past.refl w).alloc _).alloc _)) (LH ⟨fun _=>E.out,fun _=>rfl⟩)).mono ?_;rintro e w1 ⟨rfl,g1⟩;have F:=two_boxes g1;have x0:w1.cell? ⟨w.heap.size,0,none⟩=some (.int .i64 a.op):=F.1 0;have y0:w1.cell? ⟨w.heap.size+1,0,none⟩=some (.int .i64 b.op):=F.2 0;have x2:w1.cell? ⟨w.heap.size,2,none⟩=some (.int .i64 a.k):=F.1 2;have y2:w1.cell? ⟨w.heap.size+1,2,none⟩=some (.int .i64 b.k):=F.2 2;have x3:w1.cell? ⟨w.heap.size,3,none⟩=some (.int .i64 a.stride):=F.1 3;have y3:w1.cell? ⟨w.heap.size+1,3,none⟩=some (.int .i64 b.stride):=F.2 3;have x4:w1.cell? ⟨w.heap.size,4,none⟩=some (.int .i64 a.pad):=F.1 4;have y4:w1.cell? ⟨w.heap.size+1,4,none⟩=some (.int .i64 b.pad):=F.2 4;have x5:w1.cell? ⟨w.heap.size,5,none⟩=some (.int .i64 a.out):=F.1 5;have y5:w1.cell? ⟨w.heap.size+1,5,none⟩=some (.int .i64 b.out):=F.2 5;have x6:w1.cell? ⟨w.heap.size,6,none⟩=some (.int .i64 a.mul):=F.1 6;have y6:w1.cell? ⟨w.heap.size+1,6,none⟩=some (.int .i64 b.mul):=F.2 6;have x7:w1.cell? ⟨w.heap.size,7,none⟩=some (.int .i64 a.shift):=F.1 7;have y7:w1.cell? ⟨w.heap.size+1,7,none⟩=some (.int .i64 b.shift):=F.2 7;have x8:w1.cell? ⟨w.heap.size,8,none⟩=some (.int .i64 a.zero):=F.1 8;have y8:w1.cell? ⟨w.heap.size+1,8,none⟩=some (.int .i64 b.zero):=F.2 8;have x9:w1.cell? ⟨w.heap.size,9,none⟩=some (.int .i64 a.th):=F.1 9;have y9:w1.cell? ⟨w.heap.size+1,9,none⟩=some (.int .i64 b.th):=F.2 9;have x10:w1.cell? ⟨w.heap.size,10,none⟩=some (.int .i64 a.tw):=F.1 10;have y10:w1.cell? ⟨w.heap.size+1,10,none⟩=some (.int .i64 b.tw):=F.2 10;have x11:w1.cell? ⟨w.heap.size,11,none⟩=some (.int .i64 a.tc):=F.1 11;have y11:w1.cell? ⟨w.heap.size+1,11,none⟩=some (.int .i64 b.tc):=F.2 11;clear F;have k8:=h8.out;go_wp2_with fail;go_ret;exact⟨rfl,grown_trans (by go_grown) g1⟩
set_option maxRecDepth 4000 in
set_option maxHeartbeats 1000000 in
theorem sn_tw (w:World)(a b:NodeD)(A1 A2 A3 B1 B2 B3:Option Addr)(l1 c1 l2 c2 l3 c3 m1 d1 m2 d2 m3 d3:Nat)(hi:IsNums .i64 w (.slice A1 l1 c1) a.ins)(hi':IsNums .i64 w (.slice B1 m1 d1) b.ins)(E:Hid (a.ins=b.ins))(h0:Hid (a.op=b.op))(h1:Hid (a.k=b.k))(h2:Hid (a.stride=b.stride))(h3:Hid (a.pad=b.pad))(h4:Hid (a.out=b.out))(h5:Hid (a.mul=b.mul))(h6:Hid (a.shift=b.shift))(h7:Hid (a.zero=b.zero))(h8:Hid (a.th=b.th))(h9:Hid (a.tw≠b.tw)) :
  Calls Tryz.prog 53 #[.agg (nC a (.slice A1 l1 c1) (.slice A2 l2 c2) (.slice A3 l3 c3)),.agg (nC b (.slice B1 m1 d1) (.slice B2 m2 d2) (.slice B3 m3 d3))] w fun e w'=>e=.returned (.bool false)/\Grown w w':=by
 have tt0:(a.op==b.op)=true:=by simpa using h0.out
 have tt1:(a.k==b.k)=true:=by simpa using h1.out
 have tt2:(a.stride==b.stride)=true:=by simpa using h2.out
 have tt3:(a.pad==b.pad)=true:=by simpa using h3.out
 have tt4:(a.out==b.out)=true:=by simpa using h4.out
 have tt5:(a.mul==b.mul)=true:=by simpa using h5.out
 have tt6:(a.shift==b.shift)=true:=by simpa using h6.out
 have tt7:(a.zero==b.zero)=true:=by simpa using h7.out
 go_enter Tryz.func53,Tryz.ntmps53;go_wp2_with fail;refine(ints_any _ _ _ _ _ true (hi.grow (((Past.refl w).alloc _).alloc _)) (hi'.grow (((Past.refl w).alloc _).alloc _)) (LH ⟨fun _=>E.out,fun _=>rfl⟩)).mono ?_;rintro e w1 ⟨rfl,g1⟩;have F:=two_boxes g1;have x0:w1.cell? ⟨w.heap.size,0,none⟩=some (.int .i64 a.op):=F.1 0;have y0:w1.cell? ⟨w.heap.size+1,0,none⟩=some (.int .i64 b.op):=F.2 0;have x2:w1.cell? ⟨w.heap.size,2,none⟩=some (.int .i64 a.k):=F.1 2;have y2:w1.cell? ⟨w.heap.size+1,2,none⟩=some (.int .i64 b.k):=F.2 2;have x3:w1.cell? ⟨w.heap.size,3,none⟩=some (.int .i64 a.stride):=F.1 3;have y3:w1.cell? ⟨w.heap.size+1,3,none⟩=some (.int .i64 b.stride):=F.2 3;have x4:w1.cell? ⟨w.heap.size,4,none⟩=some (.int .i64 a.pad):=F.1 4;have y4:w1.cell? ⟨w.heap.size+1,4,none⟩=some (.int .i64 b.pad):=F.2 4;have x5:w1.cell? ⟨w.heap.size,5,none⟩=some (.int .i64 a.out):=F.1 5;have y5:w1.cell? ⟨w.heap.size+1,5,none⟩=some (.int .i64 b.out):=F.2 5;have x6:w1.cell? ⟨w.heap.size,6,none⟩=some (.int .i64 a.mul):=F.1 6;have y6:w1.cell? ⟨w.heap.size+1,6,none⟩=some (.int .i64 b.mul):=F.2 6;have x7:w1.cell? ⟨w.heap.size,7,none⟩=some (.int .i64 a.shift):=F.1 7;have y7:w1.cell? ⟨w.heap.size+1,7,none⟩=some (.int .i64 b.shift):=F.2 7;have x8:w1.cell? ⟨w.heap.size,8,none⟩=some (.int .i64 a.zero):=F.1 8;have y8:w1.cell? ⟨w.heap.size+1,8,none⟩=some (.int .i64 b.zero):=F.2 8;have x9:w1.cell? ⟨w.heap.size,9,none⟩=some (.int .i64 a.th):=F.1 9;have y9:w1.cell? ⟨w.heap.size+1,9,none⟩=some (.int .i64 b.th):=F.2 9;have x10:w1.cell? ⟨w.heap.size,10,none⟩=some (.int .i64 a.tw):=F.1 10;have y10:w1.cell? ⟨w.heap.size+1,10,none⟩=some (.int .i64 b.tw):=F.2 10;have x11:w1.cell? ⟨w.heap.size,11,none⟩=some (.int .i64 a.tc):=F.1 11;have y11:w1.cell? ⟨w.heap.size+1,11,none⟩=some (.int .i64 b.tc):=F.2 11;clear F;have k8:=h8.out;have k9:=h9.out;go_wp2_with fail;go_ret;exact⟨rfl,grown_trans (by go_grown) g1⟩
set_option maxRecDepth 4000 in
set_option maxHeartbeats 1000000 in
theorem sn_tc (w:World)(a b:NodeD)(A1 A2 A3 B1 B2 B3:Option Addr)(l1 c1 l2 c2 l3 c3 m1 d1 m2 d2 m3 d3:Nat)(hi:IsNums .i64 w (.slice A1 l1 c1) a.ins)(hi':IsNums .i64 w (.slice B1 m1 d1) b.ins)(E:Hid (a.ins=b.ins))(h0:Hid (a.op=b.op))(h1:Hid (a.k=b.k))(h2:Hid (a.stride=b.stride))(h3:Hid (a.pad=b.pad))(h4:Hid (a.out=b.out))(h5:Hid (a.mul=b.mul))(h6:Hid (a.shift=b.shift))(h7:Hid (a.zero=b.zero))(h8:Hid (a.th=b.th))(h9:Hid (a.tw=b.tw))(h10:Hid (a.tc≠b.tc)) :
  Calls Tryz.prog 53 #[.agg (nC a (.slice A1 l1 c1) (.slice A2 l2 c2) (.slice A3 l3 c3)),.agg (nC b (.slice B1 m1 d1) (.slice B2 m2 d2) (.slice B3 m3 d3))] w fun e w'=>e=.returned (.bool false)/\Grown w w':=by
 have tt0:(a.op==b.op)=true:=by simpa using h0.out
 have tt1:(a.k==b.k)=true:=by simpa using h1.out
 have tt2:(a.stride==b.stride)=true:=by simpa using h2.out
 have tt3:(a.pad==b.pad)=true:=by simpa using h3.out
 have tt4:(a.out==b.out)=true:=by simpa using h4.out
 have tt5:(a.mul==b.mul)=true:=by simpa using h5.out
 have tt6:(a.shift==b.shift)=true:=by simpa using h6.out
 have tt7:(a.zero==b.zero)=true:=by simpa using h7.out
 go_enter Tryz.func53,Tryz.ntmps53;go_wp2_with fail;refine(ints_any _ _ _ _ _ true (hi.grow (((Past.refl w).alloc _).alloc _)) (hi'.grow (((Past.refl w).alloc _).alloc _)) (LH ⟨fun _=>E.out,fun _=>rfl⟩)).mono ?_;rintro e w1 ⟨rfl,g1⟩;have F:=two_boxes g1;have x0:w1.cell? ⟨w.heap.size,0,none⟩=some (.int .i64 a.op):=F.1 0;have y0:w1.cell? ⟨w.heap.size+1,0,none⟩=some (.int .i64 b.op):=F.2 0;have x2:w1.cell? ⟨w.heap.size,2,none⟩=some (.int .i64 a.k):=F.1 2;have y2:w1.cell? ⟨w.heap.size+1,2,none⟩=some (.int .i64 b.k):=F.2 2;have x3:w1.cell? ⟨w.heap.size,3,none⟩=some (.int .i64 a.stride):=F.1 3;have y3:w1.cell? ⟨w.heap.size+1,3,none⟩=some (.int .i64 b.stride):=F.2 3;have x4:w1.cell? ⟨w.heap.size,4,none⟩=some (.int .i64 a.pad):=F.1 4;have y4:w1.cell? ⟨w.heap.size+1,4,none⟩=some (.int .i64 b.pad):=F.2 4;have x5:w1.cell? ⟨w.heap.size,5,none⟩=some (.int .i64 a.out):=F.1 5;have y5:w1.cell? ⟨w.heap.size+1,5,none⟩=some (.int .i64 b.out):=F.2 5;have x6:w1.cell? ⟨w.heap.size,6,none⟩=some (.int .i64 a.mul):=F.1 6;have y6:w1.cell? ⟨w.heap.size+1,6,none⟩=some (.int .i64 b.mul):=F.2 6;have x7:w1.cell? ⟨w.heap.size,7,none⟩=some (.int .i64 a.shift):=F.1 7;have y7:w1.cell? ⟨w.heap.size+1,7,none⟩=some (.int .i64 b.shift):=F.2 7;have x8:w1.cell? ⟨w.heap.size,8,none⟩=some (.int .i64 a.zero):=F.1 8;have y8:w1.cell? ⟨w.heap.size+1,8,none⟩=some (.int .i64 b.zero):=F.2 8;have x9:w1.cell? ⟨w.heap.size,9,none⟩=some (.int .i64 a.th):=F.1 9;have y9:w1.cell? ⟨w.heap.size+1,9,none⟩=some (.int .i64 b.th):=F.2 9;have x10:w1.cell? ⟨w.heap.size,10,none⟩=some (.int .i64 a.tw):=F.1 10;have y10:w1.cell? ⟨w.heap.size+1,10,none⟩=some (.int .i64 b.tw):=F.2 10;have x11:w1.cell? ⟨w.heap.size,11,none⟩=some (.int .i64 a.tc):=F.1 11;have y11:w1.cell? ⟨w.heap.size+1,11,none⟩=some (.int .i64 b.tc):=F.2 11;clear F;have k8:=h8.out;have k9:=h9.out;have k10:=h10.out;go_wp2_with fail;go_ret;exact⟨rfl,grown_trans (by go_grown) g1⟩
set_option maxRecDepth 4000 in
set_option maxHeartbeats 1000000 in
theorem sn_lw (w:World)(a b:NodeD)(A1 A2 A3 B1 B2 B3:Option Addr)(l1 c1 l2 c2 l3 c3 m1 d1 m2 d2 m3 d3:Nat)(hi:IsNums .i64 w (.slice A1 l1 c1) a.ins)(hi':IsNums .i64 w (.slice B1 m1 d1) b.ins)(E:Hid (a.ins=b.ins))(h0:Hid (a.op=b.op))(h1:Hid (a.k=b.k))(h2:Hid (a.stride=b.stride))(h3:Hid (a.pad=b.pad))(h4:Hid (a.out=b.out))(h5:Hid (a.mul=b.mul))(h6:Hid (a.shift=b.shift))(h7:Hid (a.zero=b.zero))(h8:Hid (a.th=b.th))(h9:Hid (a.tw=b.tw))(h10:Hid (a.tc=b.tc))(h11:Hid (l2≠m2)) :
  Calls Tryz.prog 53 #[.agg (nC a (.slice A1 l1 c1) (.slice A2 l2 c2) (.slice A3 l3 c3)),.agg (nC b (.slice B1 m1 d1) (.slice B2 m2 d2) (.slice B3 m3 d3))] w fun e w'=>e=.returned (.bool false)/\Grown w w':=by
 have tt0:(a.op==b.op)=true:=by simpa using h0.out
 have tt1:(a.k==b.k)=true:=by simpa using h1.out
 have tt2:(a.stride==b.stride)=true:=by simpa using h2.out
 have tt3:(a.pad==b.pad)=true:=by simpa using h3.out
 have tt4:(a.out==b.out)=true:=by simpa using h4.out
 have tt5:(a.mul==b.mul)=true:=by simpa using h5.out
 have tt6:(a.shift==b.shift)=true:=by simpa using h6.out
 have tt7:(a.zero==b.zero)=true:=by simpa using h7.out
 have tt11:((l2:Int)==(m2:Int))=false:=by simp only [beq_eq_false_iff_ne,ne_eq];have:=h11.out;omega
 go_enter Tryz.func53,Tryz.ntmps53;go_wp2_with fail;refine(ints_any _ _ _ _ _ true (hi.grow (((Past.refl w).alloc _).alloc _)) (hi'.grow (((Past.refl w).alloc _).alloc _)) (LH ⟨fun _=>E.out,fun _=>rfl⟩)).mono ?_;rintro e w1 ⟨rfl,g1⟩;have F:=two_boxes g1;have x0:w1.cell? ⟨w.heap.size,0,none⟩=some (.int .i64 a.op):=F.1 0;have y0:w1.cell? ⟨w.heap.size+1,0,none⟩=some (.int .i64 b.op):=F.2 0;have x2:w1.cell? ⟨w.heap.size,2,none⟩=some (.int .i64 a.k):=F.1 2;have y2:w1.cell? ⟨w.heap.size+1,2,none⟩=some (.int .i64 b.k):=F.2 2;have x3:w1.cell? ⟨w.heap.size,3,none⟩=some (.int .i64 a.stride):=F.1 3;have y3:w1.cell? ⟨w.heap.size+1,3,none⟩=some (.int .i64 b.stride):=F.2 3;have x4:w1.cell? ⟨w.heap.size,4,none⟩=some (.int .i64 a.pad):=F.1 4;have y4:w1.cell? ⟨w.heap.size+1,4,none⟩=some (.int .i64 b.pad):=F.2 4;have x5:w1.cell? ⟨w.heap.size,5,none⟩=some (.int .i64 a.out):=F.1 5;have y5:w1.cell? ⟨w.heap.size+1,5,none⟩=some (.int .i64 b.out):=F.2 5;have x6:w1.cell? ⟨w.heap.size,6,none⟩=some (.int .i64 a.mul):=F.1 6;have y6:w1.cell? ⟨w.heap.size+1,6,none⟩=some (.int .i64 b.mul):=F.2 6;have x7:w1.cell? ⟨w.heap.size,7,none⟩=some (.int .i64 a.shift):=F.1 7;have y7:w1.cell? ⟨w.heap.size+1,7,none⟩=some (.int .i64 b.shift):=F.2 7;have x8:w1.cell? ⟨w.heap.size,8,none⟩=some (.int .i64 a.zero):=F.1 8;have y8:w1.cell? ⟨w.heap.size+1,8,none⟩=some (.int .i64 b.zero):=F.2 8;have x9:w1.cell? ⟨w.heap.size,9,none⟩=some (.int .i64 a.th):=F.1 9;have y9:w1.cell? ⟨w.heap.size+1,9,none⟩=some (.int .i64 b.th):=F.2 9;have x10:w1.cell? ⟨w.heap.size,10,none⟩=some (.int .i64 a.tw):=F.1 10;have y10:w1.cell? ⟨w.heap.size+1,10,none⟩=some (.int .i64 b.tw):=F.2 10;have x11:w1.cell? ⟨w.heap.size,11,none⟩=some (.int .i64 a.tc):=F.1 11;have y11:w1.cell? ⟨w.heap.size+1,11,none⟩=some (.int .i64 b.tc):=F.2 11;have x12:w1.cell? ⟨w.heap.size,12,none⟩=some (.slice A2 l2 c2):=F.1 12;have y12:w1.cell? ⟨w.heap.size+1,12,none⟩=some (.slice B2 m2 d2):=F.2 12;have x13:w1.cell? ⟨w.heap.size,13,none⟩=some (.slice A3 l3 c3):=F.1 13;have y13:w1.cell? ⟨w.heap.size+1,13,none⟩=some (.slice B3 m3 d3):=F.2 13;clear F;have k8:=h8.out;have k9:=h9.out;have k10:=h10.out;go_wp2_with fail
 all_goals
  go_ret;exact⟨rfl,grown_trans (by go_grown) g1⟩
set_option maxRecDepth 4000 in
set_option maxHeartbeats 1000000 in
theorem sn_lb (w:World)(a b:NodeD)(A1 A2 A3 B1 B2 B3:Option Addr)(l1 c1 l2 c2 l3 c3 m1 d1 m2 d2 m3 d3:Nat)(hi:IsNums .i64 w (.slice A1 l1 c1) a.ins)(hi':IsNums .i64 w (.slice B1 m1 d1) b.ins)(E:Hid (a.ins=b.ins))(h0:Hid (a.op=b.op))(h1:Hid (a.k=b.k))(h2:Hid (a.stride=b.stride))(h3:Hid (a.pad=b.pad))(h4:Hid (a.out=b.out))(h5:Hid (a.mul=b.mul))(h6:Hid (a.shift=b.shift))(h7:Hid (a.zero=b.zero))(h8:Hid (a.th=b.th))(h9:Hid (a.tw=b.tw))(h10:Hid (a.tc=b.tc))(h11:Hid (l2=m2))(h12:Hid (l3≠m3)) :
  Calls Tryz.prog 53 #[.agg (nC a (.slice A1 l1 c1) (.slice A2 l2 c2) (.slice A3 l3 c3)),.agg (nC b (.slice B1 m1 d1) (.slice B2 m2 d2) (.slice B3 m3 d3))] w fun e w'=>e=.returned (.bool false)/\Grown w w':=by
 have tt0:(a.op==b.op)=true:=by simpa using h0.out
 have tt1:(a.k==b.k)=true:=by simpa using h1.out
 have tt2:(a.stride==b.stride)=true:=by simpa using h2.out
 have tt3:(a.pad==b.pad)=true:=by simpa using h3.out
 have tt4:(a.out==b.out)=true:=by simpa using h4.out
 have tt5:(a.mul==b.mul)=true:=by simpa using h5.out
 have tt6:(a.shift==b.shift)=true:=by simpa using h6.out
 have tt7:(a.zero==b.zero)=true:=by simpa using h7.out
 have tt11:((l2:Int)==(m2:Int))=true:=by simp only [beq_iff_eq];have:=h11.out;omega
 have tt12:((l3:Int)==(m3:Int))=false:=by simp only [beq_eq_false_iff_ne,ne_eq];have:=h12.out;omega
 go_enter Tryz.func53,Tryz.ntmps53;go_wp2_with fail;refine(ints_any _ _ _ _ _ true (hi.grow (((Past.refl w).alloc _).alloc _)) (hi'.grow (((Past.refl w).alloc _).alloc _)) (LH ⟨fun _=>E.out,fun _=>rfl⟩)).mono ?_;rintro e w1 ⟨rfl,g1⟩;have F:=two_boxes g1;have x0:w1.cell? ⟨w.heap.size,0,none⟩=some (.int .i64 a.op):=F.1 0;have y0:w1.cell? ⟨w.heap.size+1,0,none⟩=some (.int .i64 b.op):=F.2 0;have x2:w1.cell? ⟨w.heap.size,2,none⟩=some (.int .i64 a.k):=F.1 2;have y2:w1.cell? ⟨w.heap.size+1,2,none⟩=some (.int .i64 b.k):=F.2 2;have x3:w1.cell? ⟨w.heap.size,3,none⟩=some (.int .i64 a.stride):=F.1 3;have y3:w1.cell? ⟨w.heap.size+1,3,none⟩=some (.int .i64 b.stride):=F.2 3;have x4:w1.cell? ⟨w.heap.size,4,none⟩=some (.int .i64 a.pad):=F.1 4;have y4:w1.cell? ⟨w.heap.size+1,4,none⟩=some (.int .i64 b.pad):=F.2 4;have x5:w1.cell? ⟨w.heap.size,5,none⟩=some (.int .i64 a.out):=F.1 5;have y5:w1.cell? ⟨w.heap.size+1,5,none⟩=some (.int .i64 b.out):=F.2 5;have x6:w1.cell? ⟨w.heap.size,6,none⟩=some (.int .i64 a.mul):=F.1 6;have y6:w1.cell? ⟨w.heap.size+1,6,none⟩=some (.int .i64 b.mul):=F.2 6;have x7:w1.cell? ⟨w.heap.size,7,none⟩=some (.int .i64 a.shift):=F.1 7;have y7:w1.cell? ⟨w.heap.size+1,7,none⟩=some (.int .i64 b.shift):=F.2 7;have x8:w1.cell? ⟨w.heap.size,8,none⟩=some (.int .i64 a.zero):=F.1 8;have y8:w1.cell? ⟨w.heap.size+1,8,none⟩=some (.int .i64 b.zero):=F.2 8;have x9:w1.cell? ⟨w.heap.size,9,none⟩=some (.int .i64 a.th):=F.1 9;have y9:w1.cell? ⟨w.heap.size+1,9,none⟩=some (.int .i64 b.th):=F.2 9;have x10:w1.cell? ⟨w.heap.size,10,none⟩=some (.int .i64 a.tw):=F.1 10;have y10:w1.cell? ⟨w.heap.size+1,10,none⟩=some (.int .i64 b.tw):=F.2 10;have x11:w1.cell? ⟨w.heap.size,11,none⟩=some (.int .i64 a.tc):=F.1 11;have y11:w1.cell? ⟨w.heap.size+1,11,none⟩=some (.int .i64 b.tc):=F.2 11;have x12:w1.cell? ⟨w.heap.size,12,none⟩=some (.slice A2 l2 c2):=F.1 12;have y12:w1.cell? ⟨w.heap.size+1,12,none⟩=some (.slice B2 m2 d2):=F.2 12;have x13:w1.cell? ⟨w.heap.size,13,none⟩=some (.slice A3 l3 c3):=F.1 13;have y13:w1.cell? ⟨w.heap.size+1,13,none⟩=some (.slice B3 m3 d3):=F.2 13;clear F;have k8:=h8.out;have k9:=h9.out;have k10:=h10.out;go_wp2_with fail
 all_goals
  go_ret;exact⟨rfl,grown_trans (by go_grown) g1⟩
set_option maxRecDepth 4000 in
set_option maxHeartbeats 4000000 in
theorem sn_main (w:World)(a b:NodeD)(A1 A2 A3 B1 B2 B3:Option Addr)(l1 c1 l2 c2 l3 c3 m1 d1 m2 d2 m3 d3:Nat)(hi:IsNums .i64 w (.slice A1 l1 c1) a.ins)(hi':IsNums .i64 w (.slice B1 m1 d1) b.ins)(E:Hid (a.ins=b.ins))(h0:Hid (a.op=b.op))(h1:Hid (a.k=b.k))(h2:Hid (a.stride=b.stride))(h3:Hid (a.pad=b.pad))(h4:Hid (a.out=b.out))(h5:Hid (a.mul=b.mul))(h6:Hid (a.shift=b.shift))(h7:Hid (a.zero=b.zero))(h8:Hid (a.th=b.th))(h9:Hid (a.tw=b.tw))(h10:Hid (a.tc=b.tc))(h11:Hid (l2=m2))(h12:Hid (l3=m3))(t:Bool)(hw:IsNums .i8 w (.slice A2 l2 c2) a.ws)(hw':IsNums .i8 w (.slice B2 m2 d2) b.ws)(hb:IsNums .i32 w (.slice A3 l3 c3) a.bs)(hb':IsNums .i32 w (.slice B3 m3 d3) b.bs)(HT:Hid (t=true↔a.ws=b.ws/\a.bs=b.bs)) :
  Calls Tryz.prog 53 #[.agg (nC a (.slice A1 l1 c1) (.slice A2 l2 c2) (.slice A3 l3 c3)),.agg (nC b (.slice B1 m1 d1) (.slice B2 m2 d2) (.slice B3 m3 d3))] w fun e w'=>e=.returned (.bool t)/\Grown w w':=by
 have tt0:(a.op==b.op)=true:=by simpa using h0.out
 have tt1:(a.k==b.k)=true:=by simpa using h1.out
 have tt2:(a.stride==b.stride)=true:=by simpa using h2.out
 have tt3:(a.pad==b.pad)=true:=by simpa using h3.out
 have tt4:(a.out==b.out)=true:=by simpa using h4.out
 have tt5:(a.mul==b.mul)=true:=by simpa using h5.out
 have tt6:(a.shift==b.shift)=true:=by simpa using h6.out
 have tt7:(a.zero==b.zero)=true:=by simpa using h7.out
 have tt11:((l2:Int)==(m2:Int))=true:=by simp only [beq_iff_eq];have:=h11.out;omega
 have tt12:((l3:Int)==(m3:Int))=true:=by simp only [beq_iff_eq];have:=h12.out;omega
 go_enter Tryz.func53,Tryz.ntmps53;go_wp2_with fail;refine(ints_any _ _ _ _ _ true (hi.grow (((Past.refl w).alloc _).alloc _)) (hi'.grow (((Past.refl w).alloc _).alloc _)) (LH ⟨fun _=>E.out,fun _=>rfl⟩)).mono ?_;rintro e w1 ⟨rfl,g1⟩;have F:=two_boxes g1;have x0:w1.cell? ⟨w.heap.size,0,none⟩=some (.int .i64 a.op):=F.1 0;have y0:w1.cell? ⟨w.heap.size+1,0,none⟩=some (.int .i64 b.op):=F.2 0;have x2:w1.cell? ⟨w.heap.size,2,none⟩=some (.int .i64 a.k):=F.1 2;have y2:w1.cell? ⟨w.heap.size+1,2,none⟩=some (.int .i64 b.k):=F.2 2;have x3:w1.cell? ⟨w.heap.size,3,none⟩=some (.int .i64 a.stride):=F.1 3;have y3:w1.cell? ⟨w.heap.size+1,3,none⟩=some (.int .i64 b.stride):=F.2 3;have x4:w1.cell? ⟨w.heap.size,4,none⟩=some (.int .i64 a.pad):=F.1 4;have y4:w1.cell? ⟨w.heap.size+1,4,none⟩=some (.int .i64 b.pad):=F.2 4;have x5:w1.cell? ⟨w.heap.size,5,none⟩=some (.int .i64 a.out):=F.1 5;have y5:w1.cell? ⟨w.heap.size+1,5,none⟩=some (.int .i64 b.out):=F.2 5;have x6:w1.cell? ⟨w.heap.size,6,none⟩=some (.int .i64 a.mul):=F.1 6;have y6:w1.cell? ⟨w.heap.size+1,6,none⟩=some (.int .i64 b.mul):=F.2 6;have x7:w1.cell? ⟨w.heap.size,7,none⟩=some (.int .i64 a.shift):=F.1 7;have y7:w1.cell? ⟨w.heap.size+1,7,none⟩=some (.int .i64 b.shift):=F.2 7;have x8:w1.cell? ⟨w.heap.size,8,none⟩=some (.int .i64 a.zero):=F.1 8;have y8:w1.cell? ⟨w.heap.size+1,8,none⟩=some (.int .i64 b.zero):=F.2 8;have x9:w1.cell? ⟨w.heap.size,9,none⟩=some (.int .i64 a.th):=F.1 9;have y9:w1.cell? ⟨w.heap.size+1,9,none⟩=some (.int .i64 b.th):=F.2 9;have x10:w1.cell? ⟨w.heap.size,10,none⟩=some (.int .i64 a.tw):=F.1 10;have y10:w1.cell? ⟨w.heap.size+1,10,none⟩=some (.int .i64 b.tw):=F.2 10;have x11:w1.cell? ⟨w.heap.size,11,none⟩=some (.int .i64 a.tc):=F.1 11;have y11:w1.cell? ⟨w.heap.size+1,11,none⟩=some (.int .i64 b.tc):=F.2 11;have x12:w1.cell? ⟨w.heap.size,12,none⟩=some (.slice A2 l2 c2):=F.1 12;have y12:w1.cell? ⟨w.heap.size+1,12,none⟩=some (.slice B2 m2 d2):=F.2 12;have x13:w1.cell? ⟨w.heap.size,13,none⟩=some (.slice A3 l3 c3):=F.1 13;have y13:w1.cell? ⟨w.heap.size+1,13,none⟩=some (.slice B3 m3 d3):=F.2 13;clear F;obtain⟨X2,ca,eA,a1,a2,a3,a4,a5⟩:=hw;obtain⟨Y2,cb,eB,b1,b2,b3,b4,b5⟩:=hw';obtain⟨X3,cc,eC,c1',c2',c3',c4',c5'⟩:=hb;obtain⟨Y3,cd,eD,d1',d2',d3',d4',d5'⟩:=hb';simp only [Value.slice.injEq] at eA eB eC eD;obtain⟨rfl,rfl,rfl⟩:=eA;obtain⟨rfl,rfl,rfl⟩:=eB;obtain⟨rfl,rfl,rfl⟩:=eC;obtain⟨rfl,rfl,rfl⟩:=eD;have k8:=h8.out;have k9:=h9.out;have k10:=h10.out;have sz:w.heap.size+1<w1.heap.size:=by have:=g1.2.2;simp at this;omega
 have sz0:w.heap.size<w1.heap.size:=by omega
 have gW:Grown w w1:=grown_trans (by go_grown) g1;have L2:a.ws.length=b.ws.length:=h11.out;have L3:a.bs.length=b.bs.length:=h12.out;go_wp2_with fail;have hm:maxLen<=9223372036854775807:=by decide
 have n1:a.ws.length<=9223372036854775807:=by omega
 have n2:b.ws.length<=9223372036854775807:=by omega
 have n3:a.bs.length<=9223372036854775807:=by omega
 have n4:b.bs.length<=9223372036854775807:=by omega
 clear hm;go_loopw [6] (fun i wr=>∃ k:Nat,k<=a.ws.length/\i=.int .i64 k/\Hid (∀ j,j<k->a.ws.getD j 0=b.ws.getD j 0)/\Grown w1 wr) (fun i _=>a.ws.length-(intOf i).toNat)
 case atStart=>exact⟨0,by omega,rfl,LH (fun j h=>by omega),Grown.refl _⟩
 case round =>
  obtain⟨k1,hk,rfl,hx,hg⟩:=hrel;have z0:=(grown_cell hg (p:=⟨w.heap.size,12,none⟩) sz0).trans x12;have z1:=(grown_cell hg (p:=⟨w.heap.size+1,12,none⟩) sz).trans y12;by_cases l:k1<a.ws.length
  ·obtain⟨p,o,rfl,hp,hc⟩:=a5 (by omega);obtain⟨p',o',rfl,hp',hc'⟩:=b5 (by omega);have gr:=grown_trans gW hg;have v1:=(grown_cell gr (p:=⟨p,o+k1,none⟩) hp).trans (hc k1 l);have v2:=(grown_cell gr (p:=⟨p',o'+k1,none⟩) hp').trans (hc' k1 (by omega));obtain⟨x,hxx⟩:∃ x,a.ws.getD k1 0=x:=⟨_,rfl⟩
   obtain⟨y,hyy⟩:∃ y,b.ws.getD k1 0=y:=⟨_,rfl⟩
   rw [hxx] at v1;rw [hyy] at v2;have i1:(0:Int)<=(k1:Int):=by omega
   have i2:(k1:Int)<(a.ws.length:Int):=by omega
   have i3:(k1:Int)<(b.ws.length:Int):=by omega
   by_cases q:x=y
   ·have E2:Hid (∀ j,j<k1+1->a.ws.getD j 0=b.ws.getD j 0):=LH (fun j h=>by
     by_cases c:j=k1
     ·subst c;rw [hxx,hyy,q]
     ·exact hx.out j (by omega))
    clear hc hc' hxx hyy;subst q;go_wp2_with fail;go_region;go_wp2_with fail;go_roundw
    case rel=>exact⟨k1+1,by omega,by go_num,E2,hg.drew⟩
    case measure=>simp [intOf];omega
   ·have T:t=false:=by
     cases t with
     | false=>rfl
     | true=>exact absurd (by rw [<- hxx,<- hyy,(HT.out.1 rfl).1]) q
    subst T;have e1:(x==y)=false:=by simpa using q
    clear hc hc' hxx hyy;go_wp2_with fail;go_region;go_wp2_with fail;go_ret;exact⟨rfl,gr.drew⟩
  ·have full1:a.ws=b.ws:=(getD_ext L2).2 (fun j h=>hx.out j (by omega));have F2:=LH full1;clear full1;go_wp2_with fail;go_loopw [7] (fun i wr'=>∃ k:Nat,k<=a.bs.length/\i=.int .i64 k/\Hid (∀ j,j<k->a.bs.getD j 0=b.bs.getD j 0)/\Grown w1 wr') (fun i _=>a.bs.length-(intOf i).toNat)
   case atStart=>exact⟨0,by omega,rfl,LH (fun j h=>by omega),hg⟩
   case round =>
    clear hg hx hk l z0 z1;obtain⟨k2,hk,rfl,hx,hg⟩:=hrel;have z0:=(grown_cell hg (p:=⟨w.heap.size,13,none⟩) sz0).trans x13;have z1:=(grown_cell hg (p:=⟨w.heap.size+1,13,none⟩) sz).trans y13;by_cases l:k2<a.bs.length
    ·obtain⟨p,o,rfl,hp,hc⟩:=c5' (by omega);obtain⟨p',o',rfl,hp',hc'⟩:=d5' (by omega);have gr:=grown_trans gW hg;have v1:=(grown_cell gr (p:=⟨p,o+k2,none⟩) hp).trans (hc k2 l);have v2:=(grown_cell gr (p:=⟨p',o'+k2,none⟩) hp').trans (hc' k2 (by omega));obtain⟨x,hxx⟩:∃ x,a.bs.getD k2 0=x:=⟨_,rfl⟩
     obtain⟨y,hyy⟩:∃ y,b.bs.getD k2 0=y:=⟨_,rfl⟩
     rw [hxx] at v1;rw [hyy] at v2;have i1:(0:Int)<=(k2:Int):=by omega
     have i2:(k2:Int)<(a.bs.length:Int):=by omega
     have i3:(k2:Int)<(b.bs.length:Int):=by omega
     by_cases q:x=y
     ·have E2:Hid (∀ j,j<k2+1->a.bs.getD j 0=b.bs.getD j 0):=LH (fun j h=>by
       by_cases c:j=k2
       ·subst c;rw [hxx,hyy,q]
       ·exact hx.out j (by omega))
      clear hc hc' hxx hyy;subst q;go_wp2_with fail;go_region;go_wp2_with fail;go_roundw
      case rel=>exact⟨k2+1,by omega,by go_num,E2,hg.drew⟩
      case measure=>simp [intOf];omega
     ·have T:t=false:=by
       cases t with
       | false=>rfl
       | true=>exact absurd (by rw [<- hxx,<- hyy,(HT.out.1 rfl).2]) q
      subst T;have e1:(x==y)=false:=by simpa using q
      clear hc hc' hxx hyy;go_wp2_with fail;go_region;go_wp2_with fail;go_ret;exact⟨rfl,gr.drew⟩
    ·have full2:a.bs=b.bs:=(getD_ext L3).2 (fun j h=>hx.out j (by omega));have T:t=true:=HT.out.2 ⟨F2.out,full2⟩;subst T;go_wp2_with fail;go_ret;exact⟨rfl,grown_trans gW hg⟩
theorem node_eq (a b:NodeD):a=b↔a.op=b.op/\a.ins=b.ins/\a.k=b.k/\a.stride=b.stride/\a.pad=b.pad/\a.out=b.out/\a.mul=b.mul/\a.shift=b.shift/\a.zero=b.zero/\a.th=b.th/\a.tw=b.tw/\a.tc=b.tc/\a.ws=b.ws/\a.bs=b.bs:=by
 cases a;cases b;simp only [NodeD.mk.injEq]
theorem nums_slice {k:IntKind}{w:World}{v:Value}{xs:List Int}(h:IsNums k w v xs):∃ (A:Option Addr)(c:Nat),v=.slice A xs.length c:=by
 obtain⟨A,c,h1,_⟩:=h;exact⟨A,c,h1⟩
theorem same_node_any (w:World)(v u:Value)(a b:NodeD)(t:Bool)(hv:IsNode w v a)(hu:IsNode w u b)(ht:Hid (t=true↔a=b)):Calls Tryz.prog 53 #[v,u] w fun e w'=>e=.returned (.bool t)/\Grown w w':=by
 obtain⟨v1,v2,v3,rfl,⟨h1,h2,h3⟩,_⟩:=hv;obtain⟨u1,u2,u3,rfl,⟨k1,k2,k3⟩,_⟩:=hu;obtain⟨A1,c1,rfl⟩:=nums_slice h1;obtain⟨A2,c2,rfl⟩:=nums_slice h2;obtain⟨A3,c3,rfl⟩:=nums_slice h3;obtain⟨B1,d1,rfl⟩:=nums_slice k1;obtain⟨B2,d2,rfl⟩:=nums_slice k2;obtain⟨B3,d3,rfl⟩:=nums_slice k3;have EQ:=ht.out;rw [node_eq] at EQ;have no:∀ {p:Prop},(a=b->p)->¬ p->t=false:=fun f g=>by
  cases t with
  | false=>rfl
  | true=>exact absurd (f (ht.out.1 rfl)) g
 by_cases e:a.ins=b.ins
 rotate_left 1
 ·rw [no (fun h=>by rw [h]) e];exact sn_ins w a b A1 A2 A3 B1 B2 B3 a.ins.length c1 a.ws.length c2 a.bs.length c3 b.ins.length d1 b.ws.length d2 b.bs.length d3 h1 k1 (LH e)
 by_cases e0:a.op=b.op
 rotate_left 1
 ·rw [no (fun h=>by rw [h]) e0];exact sn_op w a b A1 A2 A3 B1 B2 B3 a.ins.length c1 a.ws.length c2 a.bs.length c3 b.ins.length d1 b.ws.length d2 b.bs.length d3 h1 k1 (LH e) (LH e0)
 by_cases e1:a.k=b.k
 rotate_left 1
 ·rw [no (fun h=>by rw [h]) e1];exact sn_k w a b A1 A2 A3 B1 B2 B3 a.ins.length c1 a.ws.length c2 a.bs.length c3 b.ins.length d1 b.ws.length d2 b.bs.length d3 h1 k1 (LH e) (LH e0) (LH e1)
 by_cases e2:a.stride=b.stride
 rotate_left 1
 ·rw [no (fun h=>by rw [h]) e2];exact sn_stride w a b A1 A2 A3 B1 B2 B3 a.ins.length c1 a.ws.length c2 a.bs.length c3 b.ins.length d1 b.ws.length d2 b.bs.length d3 h1 k1 (LH e) (LH e0) (LH e1) (LH e2)
 by_cases e3:a.pad=b.pad
 rotate_left 1
 ·rw [no (fun h=>by rw [h]) e3];exact sn_pad w a b A1 A2 A3 B1 B2 B3 a.ins.length c1 a.ws.length c2 a.bs.length c3 b.ins.length d1 b.ws.length d2 b.bs.length d3 h1 k1 (LH e) (LH e0) (LH e1) (LH e2) (LH e3)
 by_cases e4:a.out=b.out
 rotate_left 1
 ·rw [no (fun h=>by rw [h]) e4];exact sn_out w a b A1 A2 A3 B1 B2 B3 a.ins.length c1 a.ws.length c2 a.bs.length c3 b.ins.length d1 b.ws.length d2 b.bs.length d3 h1 k1 (LH e) (LH e0) (LH e1) (LH e2) (LH e3) (LH e4)
 by_cases e5:a.mul=b.mul
 rotate_left 1
 ·rw [no (fun h=>by rw [h]) e5];exact sn_mul w a b A1 A2 A3 B1 B2 B3 a.ins.length c1 a.ws.length c2 a.bs.length c3 b.ins.length d1 b.ws.length d2 b.bs.length d3 h1 k1 (LH e) (LH e0) (LH e1) (LH e2) (LH e3) (LH e4) (LH e5)
 by_cases e6:a.shift=b.shift
 rotate_left 1
 ·rw [no (fun h=>by rw [h]) e6];exact sn_shift w a b A1 A2 A3 B1 B2 B3 a.ins.length c1 a.ws.length c2 a.bs.length c3 b.ins.length d1 b.ws.length d2 b.bs.length d3 h1 k1 (LH e) (LH e0) (LH e1) (LH e2) (LH e3) (LH e4) (LH e5) (LH e6)
 by_cases e7:a.zero=b.zero
 rotate_left 1
 ·rw [no (fun h=>by rw [h]) e7];exact sn_zero w a b A1 A2 A3 B1 B2 B3 a.ins.length c1 a.ws.length c2 a.bs.length c3 b.ins.length d1 b.ws.length d2 b.bs.length d3 h1 k1 (LH e) (LH e0) (LH e1) (LH e2) (LH e3) (LH e4) (LH e5) (LH e6) (LH e7)
 by_cases e8:a.th=b.th
 rotate_left 1
 ·rw [no (fun h=>by rw [h]) e8];exact sn_th w a b A1 A2 A3 B1 B2 B3 a.ins.length c1 a.ws.length c2 a.bs.length c3 b.ins.length d1 b.ws.length d2 b.bs.length d3 h1 k1 (LH e) (LH e0) (LH e1) (LH e2) (LH e3) (LH e4) (LH e5) (LH e6) (LH e7) (LH e8)
 by_cases e9:a.tw=b.tw
 rotate_left 1
 ·rw [no (fun h=>by rw [h]) e9];exact sn_tw w a b A1 A2 A3 B1 B2 B3 a.ins.length c1 a.ws.length c2 a.bs.length c3 b.ins.length d1 b.ws.length d2 b.bs.length d3 h1 k1 (LH e) (LH e0) (LH e1) (LH e2) (LH e3) (LH e4) (LH e5) (LH e6) (LH e7) (LH e8) (LH e9)
 by_cases e10:a.tc=b.tc
 rotate_left 1
 ·rw [no (fun h=>by rw [h]) e10];exact sn_tc w a b A1 A2 A3 B1 B2 B3 a.ins.length c1 a.ws.length c2 a.bs.length c3 b.ins.length d1 b.ws.length d2 b.bs.length d3 h1 k1 (LH e) (LH e0) (LH e1) (LH e2) (LH e3) (LH e4) (LH e5) (LH e6) (LH e7) (LH e8) (LH e9) (LH e10)
 by_cases e11:a.ws.length=b.ws.length
 rotate_left 1
 ·rw [no (fun h=>by rw [h]) e11];exact sn_lw w a b A1 A2 A3 B1 B2 B3 a.ins.length c1 a.ws.length c2 a.bs.length c3 b.ins.length d1 b.ws.length d2 b.bs.length d3 h1 k1 (LH e) (LH e0) (LH e1) (LH e2) (LH e3) (LH e4) (LH e5) (LH e6) (LH e7) (LH e8) (LH e9) (LH e10) (LH e11)
 by_cases e12:a.bs.length=b.bs.length
 rotate_left 1
 ·rw [no (fun h=>by rw [h]) e12];exact sn_lb w a b A1 A2 A3 B1 B2 B3 a.ins.length c1 a.ws.length c2 a.bs.length c3 b.ins.length d1 b.ws.length d2 b.bs.length d3 h1 k1 (LH e) (LH e0) (LH e1) (LH e2) (LH e3) (LH e4) (LH e5) (LH e6) (LH e7) (LH e8) (LH e9) (LH e10) (LH e11) (LH e12)
 exact sn_main w a b A1 A2 A3 B1 B2 B3 a.ins.length c1 a.ws.length c2 a.bs.length c3 b.ins.length d1 b.ws.length d2 b.bs.length d3 h1 k1 (LH e) (LH e0) (LH e1) (LH e2) (LH e3) (LH e4) (LH e5) (LH e6) (LH e7) (LH e8) (LH e9) (LH e10) (LH e11) (LH e12) t h2 k2 h3 k3 (LH (by rw [EQ];simp [e,e0,e1,e2,e3,e4,e5,e6,e7,e8,e9,e10]))
end Go.Proofs.YtejllmjkeefloaaGreat
