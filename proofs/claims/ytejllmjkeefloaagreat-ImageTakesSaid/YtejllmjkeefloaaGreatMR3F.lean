/- The reference of layer 3 in numbers: its node, made and many are P3.1's. The reference of layer 3: Value. -/
import Derived.Test.YtejllmjkeefloaaGreatMR3B
import Derived.Test.YtejllmjkeefloaaGreatMR3C
import Derived.Test.YtejllmjkeefloaaGreatMC2
namespace Go.Proofs.YtejllmjkeefloaaGreat
open Go.ChangeShapes Go.WideShapes Go.ChangeAt Go.RowKit
set_option maxRecDepth 20000
set_option linter.unusedVariables false
theorem op_cases {o:Int}(h:hasOp o):o=1\/o=2\/o=3\/o=4\/o=5\/o=6\/o=7\/o=8\/o=9\/o=10\/o=11\/o=12:=by
 unfold hasOp at h;omega
theorem vals_node {o:Int}(h:hasOp o):(opD o).vals=nodeW o:=by
 rcases op_cases h with rfl|rfl|rfl|rfl|rfl|rfl|rfl|rfl|rfl|rfl|rfl|rfl <;> rfl
theorem keeps_node {o:Int}(h:hasOp o):(opD o).keeps=true↔o=4\/o=5\/o=8\/o=9\/o=10\/o=11:=by
 rcases op_cases h with rfl|rfl|rfl|rfl|rfl|rfl|rfl|rfl|rfl|rfl|rfl|rfl <;> simp [opD]
theorem set_node {n:NodeD}(h:hasOp n.op):setP (opD n.op) n↔nodeK n/\nodeP n/\nodeO n/\nodeT n:=by
 unfold setP nodeK nodeP nodeO nodeT;rcases op_cases h with e|e|e|e|e|e|e|e|e|e|e|e <;> rw [e] <;> simp [opD] <;> omega
theorem takes_node {n:NodeD}{vs:List ValD}:(hasOp n.op/\takesP (opD n.op) n vs)↔((1<=n.op/\n.op<=12)/\(vs.length:Int)=nodeW n.op/\nodeK n/\nodeP n/\nodeO n/\nodeT n/\nodeS n)/\∀ j,j<vs.length->¬ ((n.op=4\/n.op=5\/n.op=8\/n.op=9\/n.op=10\/n.op=11)/\(vs.getD j default).z≠n.zero):=by
 constructor
 ·rintro⟨h,h1,h2,h3,h4⟩;rw [vals_node h] at h1;rw [set_node h] at h4;exact⟨⟨h,h1,h4.1,h4.2.1,h4.2.2.1,h4.2.2.2,h3⟩,fun j hj k=>h2 j hj ⟨(keeps_node h).mpr k.1,k.2⟩⟩
 ·rintro⟨⟨h,h1,h2,h3,h4,h5,h6⟩,h7⟩;exact⟨h,by rw [vals_node h];exact h1,fun j hj k=>h7 j hj ⟨(keeps_node h).mp k.1,k.2⟩,h6,(set_node h).mpr ⟨h2,h3,h4,h5⟩⟩
theorem two_of {vs:List ValD}(h:vs.length=2):∃ x y,vs=[x,y]:=by
 match vs,h with
 | [x,y],_=>exact⟨x,y,rfl⟩
theorem one_of {vs:List ValD}(h:vs.length=1):∃ x,vs=[x]:=by
 match vs,h with
 | [x],_=>exact⟨x,rfl⟩
theorem alike_made {x y:ValD}:alikeS [x,y]=if y.h=x.h/\y.w=x.w/\y.c=x.c then (x.h,x.w,x.c) else (0,0,0):=by
 by_cases c:y.h=x.h/\y.w=x.w/\y.c=x.c
 ·rw [if_pos c,alike_two ⟨c.1.symm,c.2.1.symm,c.2.2.symm⟩]
 ·rw [if_neg c,alike_not (fun k=>c ⟨k.1.symm,k.2.1.symm,k.2.2.symm⟩)]
theorem alike_one {x:ValD}:alikeS [x]=(x.h,x.w,x.c):=by
 unfold alikeS;rw [if_pos]
 ·rfl
 ·exact below_one (p:=fun j=>shD ([x].getD j default)=shD ([x].getD 0 default)) rfl
theorem made_any (n:NodeD)(vi vw vb lv:Value)(vs:List ValD)(W:World)(hv:IsVals W lv vs)(ho:hasOp n.op)(hl:(vs.length:Int)=nodeW n.op)(hm:∀ j,j<vs.length->mayV (vs.getD j default))(s:Int×Int×Int)(hs:madeS n vs=s) :
  Calls Tryz.prog 109 #[.agg (nC n vi vw vb),lv] W fun e w'=>e=.returned (.agg #[.int .i64 s.1,.int .i64 s.2.1,.int .i64 s.2.2])/\Grown W w':=by
 obtain⟨A,cap,rfl,h1,_,_,_,h6⟩:=hv;have hp:0<vs.length:=by
  unfold nodeW at hl;split at hl <;> omega
 obtain⟨b,off,rfl,hb,hx⟩:=h6 hp;by_cases c2:n.op=6\/n.op=7\/n.op=10
 ·have l2:vs.length=2:=by
   unfold nodeW at hl;rw [if_pos c2] at hl;omega
  obtain⟨x,y,rfl⟩:=two_of l2;have x0:ValAt W b off x:=by simpa using hx 0 (by simp)
  have y0:ValAt W b (off+4) y:=by simpa using hx 1 (by simp)
  have mx:mayS x.h x.w x.c:=hm 0 (by simp);have my:mayS y.h y.w y.c:=hm 1 (by simp);rcases c2 with e|e|e
  ·refine made_6 n vi vw vb x y b off _ cap W (by simp) h1 hb x0 y0 (by simp [e]) (by simp [e]) (by simp [e]) (by simp [e]) (by simp [e]) (by simp [e]) s (LH ?_);rw [<- hs,<- alike_made];simp [madeS,e]
  ·refine made_7 n vi vw vb x y b off _ cap W (by simp) h1 hb x0 y0 (by simp [e]) (by simp [e]) (by simp [e]) (by simp [e]) (by simp [e]) (by simp [e]) (by simp [e]) s (LH ?_);rw [<- hs,<- alike_made];simp [madeS,e]
  ·refine made_10 n vi vw vb x y b off _ cap W (by simp) h1 hb x0 y0 (by simp [e]) (by simp [e]) (by simp [e]) (by simp [e]) (by simp [e]) (by simp [e]) (by simp [e]) (by simp [e]) (by simp [e]) mx my s (LH ?_);rw [<- hs];simp [madeS,e]
 ·have l1:vs.length=1:=by
   unfold nodeW at hl;rw [if_neg c2] at hl;omega
  obtain⟨x,rfl⟩:=one_of l1;have x0:ValAt W b off x:=by simpa using hx 0 (by simp)
  have mx:mayS x.h x.w x.c:=hm 0 (by simp);rcases op_cases ho with e|e|e|e|e|e|e|e|e|e|e|e
  ·have:=made_1 n vi vw vb x b off _ cap W (by simp) h1 hb x0 (by simp [e]) _ _ (LH rfl) (LH rfl);rw [<- hs];have k:madeS n [x]=(outI x.h n.k n.stride n.pad,outI x.w n.k n.stride n.pad,n.out):=by unfold madeS;rw [if_pos e];rfl
   rw [k];exact this
  ·have:=made_2 n vi vw vb x b off _ cap W (by simp) h1 hb x0 (by simp [e]) (by simp [e]) _ _ (LH rfl) (LH rfl);rw [<- hs];simpa [madeS,e] using this
  ·have:=made_3 n vi vw vb x b off _ cap W (by simp) h1 hb x0 (by simp [e]) (by simp [e]) (by simp [e]) (by simp [e]) (by simp [e]);rw [<- hs];simpa [madeS,e] using this
  ·have:=made_4 n vi vw vb x b off _ cap W (by simp) h1 hb x0 (by simp [e]) (by simp [e]) (by simp [e]) _ _ (LH rfl) (LH rfl);rw [<- hs];simpa [madeS,e] using this
  ·have:=made_5 n vi vw vb x b off _ cap W (by simp) h1 hb x0 (by simp [e]) (by simp [e]) (by simp [e]) (by simp [e]) _ _ (LH rfl) (LH rfl);rw [<- hs];simpa [madeS,e] using this
  ·exact absurd (.inl e) c2
  ·exact absurd (.inr (.inl e)) c2
  ·have:=made_0 n vi vw vb x b off _ cap W (by simp) h1 hb x0 (by simp [e]) (by simp [e]) (by simp [e]) (by simp [e]) (by simp [e]) (by simp [e]) (by simp [e]) (by simp [e]) (by simp [e]) (by simp [e]);rw [<- hs];simpa [madeS,e,alike_one] using this
  ·have:=made_9 n vi vw vb x b off _ cap W (by simp) h1 hb x0 (by simp [e]) (by simp [e]) (by simp [e]) (by simp [e]) (by simp [e]) (by simp [e]) (by simp [e]) (by simp [e]) mx;rw [<- hs];simpa [madeS,e] using this
  ·exact absurd (.inr (.inr e)) c2
  ·refine made_11 n vi vw vb x b off _ cap W (by simp) h1 hb x0 (by simp [e]) (by simp [e]) (by simp [e]) (by simp [e]) (by simp [e]) (by simp [e]) (by simp [e]) (by simp [e]) (by simp [e]) (by simp [e]) _ _ (LH rfl) (LH rfl) s (LH ?_);rw [<- hs];simp [madeS,e]
  ·have:=made_0 n vi vw vb x b off _ cap W (by simp) h1 hb x0 (by simp [e]) (by simp [e]) (by simp [e]) (by simp [e]) (by simp [e]) (by simp [e]) (by simp [e]) (by simp [e]) (by simp [e]) (by simp [e]);rw [<- hs];simpa [madeS,e,alike_one] using this
theorem size_bd {h w c:Int}(m:mayS h w c):1<=sizeI h w c/\sizeI h w c<=2048:=by
 unfold sizeI;rw [if_pos m];obtain⟨h1,h2,h3,h4,h5,h6⟩:=m;obtain⟨a1,a2⟩:=mul_bd h1 h2 h3 h4;obtain⟨a3,a4⟩:=mul_bd a1 a2 h5 h6;omega
theorem many_any (n:NodeD)(vi vw vb:Value)(vs:List ValD)(W:World)(hp:0<vs.length)(ho:hasOp n.op)(hk:nodeK n)(hu:nodeO n)(hm:∀ j,j<vs.length->mayV (vs.getD j default))(x:ValD)(hx:vs.getD 0 default=x)(a b:Int)(ha:wantS n x (madeS n vs).2.2=(a,b)) :
  Calls Tryz.prog 110 #[.agg (nC n vi vw vb),.agg #[.int .i64 x.h,.int .i64 x.w,.int .i64 x.c]] W fun e w'=>e=.returned (.tuple #[.int .i64 a,.int .i64 b])/\Grown W w':=by
 have mx:mayS x.h x.w x.c:=by rw [<- hx];exact hm 0 hp
 have ms:=size_bd mx;have mc:=mx;obtain⟨_,_,_,_,c1,c2⟩:=mc;by_cases e1:n.op=1
 ·unfold nodeK at hk;unfold nodeO at hu;rw [if_pos (by omega)] at hk hu;have:wantS n x (madeS n vs).2.2=(n.k*n.k*x.c*n.out,n.out):=by simp [wantS,madeS,e1]
  rw [this] at ha;obtain⟨rfl,rfl⟩:=Prod.mk.inj ha;exact many_1 n vi vw vb x W hk.1.1 hk.1.2 c1 c2 hu.1 hu.2 (by simp [e1])
 by_cases e2:n.op=2
 ·unfold nodeK at hk;rw [if_pos (by omega)] at hk;have:wantS n x (madeS n vs).2.2=(n.k*n.k*x.c,x.c):=by simp only [wantS,madeS,e2,hx];simp
  rw [this] at ha;obtain⟨rfl,rfl⟩:=Prod.mk.inj ha;exact many_2 n vi vw vb x W hk.1.1 hk.1.2 c1 c2 (by simp [e2]) (by simp [e2])
 by_cases e3:n.op=3
 ·unfold nodeO at hu;rw [if_pos (by omega)] at hu;have:wantS n x (madeS n vs).2.2=(sizeI x.h x.w x.c*n.out,n.out):=by simp [wantS,madeS,e3]
  rw [this] at ha;obtain⟨rfl,rfl⟩:=Prod.mk.inj ha;exact many_3 n vi vw vb x W _ (LH rfl) ms.1 ms.2 hu.1 hu.2 (by simp [e3]) (by simp [e3]) (by simp [e3])
 by_cases e4:n.op=12
 ·have:wantS n x (madeS n vs).2.2=(256,0):=by simp [wantS,e4]
  rw [this] at ha;obtain⟨rfl,rfl⟩:=Prod.mk.inj ha;exact many_12 n vi vw vb x W (by simp [e4]) (by simp [e4]) (by simp [e4]) (by simp [e4])
 ·have:wantS n x (madeS n vs).2.2=(0,0):=by simp [wantS,e1,e2,e3,e4]
  rw [this] at ha;obtain⟨rfl,rfl⟩:=Prod.mk.inj ha;exact many_0 n vi vw vb x W (by simp [e1]) (by simp [e2]) (by simp [e3]) (by simp [e4])
end Go.Proofs.YtejllmjkeefloaaGreat
namespace Go.Proofs.YtejllmjkeefloaaGreat
open Go.ChangeShapes Go.WideShapes Go.ChangeAt Go.RowKit
set_option maxRecDepth 20000
set_option linter.unusedVariables false
theorem wf_i32 {x:Int}(h:(Lit.int .i32 x).wf=true) : -2147483648<=x/\x<=2147483647:=by
 simpa [Lit.wf,IntKind.min,IntKind.max,IntKind.bits,IntKind.signed] using h
set_option maxHeartbeats 8000000 in
theorem rvalue_any (n : NodeD) (vi vw vb lv : Value) (vs : List ValD) (W : World) (hin : NodeIn W n vi vw vb) (hv : IsVals W lv vs) : Calls Tryz.prog 77 #[.agg (nC n vi vw vb), lv] W (ValuePost n vs W) := by
 have HV := LH hv
 have HB := LH hin.2.2
 obtain ⟨A1, c1, rfl, a1, a2, _, _, a5⟩ := hv
 obtain ⟨A2, c2, rfl, b1, b2, _, _, _⟩ := hin.2.1
 obtain ⟨A3, c3, rfl, d1, d2, _, d4, d5⟩ := hin.2.2
 have A5 := LH a5
 have D4 := LH d4
 have D5 := LH d5
 have k1 : vs.length ≤ 9223372036854775807 := by unfold maxLen at a2; omega
 have k2 : n.ws.length ≤ 9223372036854775807 := by unfold maxLen at b2; omega
 have k3 : n.bs.length ≤ 9223372036854775807 := by unfold maxLen at d2; omega
 clear a1 a2 a5 b1 b2 d1 d2 d4 d5 hin
 obtain ⟨tn, hn⟩ := bool_of (p := (1 ≤ n.op ∧ n.op ≤ 12) ∧ (vs.length : Int) = nodeW n.op ∧ nodeK n ∧ nodeP n ∧ nodeO n ∧ nodeT n ∧ nodeS n)
 have HN := LH hn
 obtain ⟨kp, hk⟩ := bool_of (p := n.op = 4 ∨ n.op = 5 ∨ n.op = 8 ∨ n.op = 9 ∨ n.op = 10 ∨ n.op = 11)
 have HK := LH hk
 clear hn hk
 go_enter Tryz.func77, Tryz.ntmps77
 go_upto_region 1 with fail
 refine opq (fun w' => (Bx w' W.heap.size (nC n vi (.slice A2 n.ws.length c2) (.slice A3 n.bs.length c3))) ∧ (Bx w' (W.heap.size + 1) #[.int .i64 0, .int .i64 0, .int .i64 0, .int .i64 0]) ∧ (Fr w' (W.heap.size + 1)) ∧ Grown W w' ∧ W.heap.size + 2 ≤ w'.heap.size) kLaid ?_
 rintro W1 ⟨b1, b2, f2, g1, s1⟩
 go_wp2_with fail
 refine (node_any n vi _ _ _ tn _ HN).mono ?_
 rintro e w2 ⟨rfl, g⟩
 obtain ⟨b3, b4, f3, g3, s3⟩ : (Bx w2 W.heap.size (nC n vi (.slice A2 n.ws.length c2) (.slice A3 n.bs.length c3))) ∧ (Bx w2 (W.heap.size + 1) #[.int .i64 0, .int .i64 0, .int .i64 0, .int .i64 0]) ∧ (Fr w2 (W.heap.size + 1)) ∧ Grown W w2 ∧ W.heap.size + 2 ≤ w2.heap.size := by (exact kKeep)
 clear b1 b2 f2 g1 s1 g
 cases tn with
 | false =>
  have Q : Hid (valueE n vs = 11) := LH (valueE_11 (fun h => by have := HN.out.mpr (takes_node.mp h).1; cases this))
  go_wp2_with fail
  exact bodyPost_ret (v := .tuple #[.agg #[.int .i64 0, .int .i64 0, .int .i64 0, .int .i64 0], .int .i64 11]) (by simp [results, Tryz.results77, go_sem, *]) rfl (value_err Q.out (by decide) kKeep)
 | true =>
  have NN : Hid ((1 ≤ n.op ∧ n.op ≤ 12) ∧ (vs.length : Int) = nodeW n.op ∧ nodeK n ∧ nodeP n ∧ nodeO n ∧ nodeT n ∧ nodeS n) := LH (HN.out.mp rfl)
  clear HN
  go_wp2_with fail
  go_loopw [6] (fun i wr => ∃ k : Nat, k ≤ vs.length ∧ i = .int .i64 k ∧ Hid (∀ j, j < k → ¬ (kp = true ∧ (vs.getD j default).z ≠ n.zero)) ∧ (Bx wr W.heap.size (nC n vi (.slice A2 n.ws.length c2) (.slice A3 n.bs.length c3))) ∧ (Bx wr (W.heap.size + 1) #[.int .i64 0, .int .i64 0, .int .i64 0, .int .i64 0]) ∧ (Fr wr (W.heap.size + 1)) ∧ Grown W wr ∧ W.heap.size + 2 ≤ wr.heap.size) (fun i _ => vs.length - (intOf i).toNat)
  case atStart => exact ⟨0, by omega, rfl, LH (fun j h => by omega), b3, b4, f3, g3, s3⟩
  case round =>
   clear b3 b4 f3 g3 s3
   obtain ⟨k, hk, rfl, hs, b3, b4, f3, g3, s3⟩ := hrel
   by_cases h : k < vs.length
   ·obtain ⟨lb, lo, rfl, hlb, hlc⟩ := A5.out (by omega)
    obtain ⟨y0, y1, y2, y3⟩ := (hlc k h).grow hlb (Grown.past g3)
    have hlb2 : lb < wr.heap.size := Nat.lt_of_lt_of_le hlb g3.2.2
    obtain ⟨x, hx⟩ : ∃ x, vs.getD k default = x := ⟨_, rfl⟩
    rw [hx] at y0 y1 y2 y3
    have HX := LH hx
    obtain ⟨tz, hz⟩ := bool_of (p := kp = true ∧ x.z ≠ n.zero)
    have HZ := LH hz
    have i1 : (0 : Int) ≤ (k : Int) := by omega
    have i2 : (k : Int) < (vs.length : Int) := by omega
    clear hlc hx hz y0 y1 y2
    go_upto_region 6 with fail
    go_cut [36] (fun c w' => c = .bool tz ∧ (Bx w' W.heap.size (nC n vi (.slice A2 n.ws.length c2) (.slice A3 n.bs.length c3))) ∧ (Bx w' (W.heap.size + 1) #[.int .i64 0, .int .i64 0, .int .i64 0, .int .i64 0]) ∧ (Fr w' (W.heap.size + 1)) ∧ Grown W w' ∧ W.heap.size + 2 ≤ w'.heap.size)
    case first =>
     cases kp with
     | false =>
      obtain rfl : tz = false := Bool.eq_false_iff.mpr (fun h => by have := (HZ.out.mp h).1; cases this)
      refine wp_region_fill (fun w' => (Bx w' W.heap.size (nC n vi (.slice A2 n.ws.length c2) (.slice A3 n.bs.length c3))) ∧ (Bx w' (W.heap.size + 1) #[.int .i64 0, .int .i64 0, .int .i64 0, .int .i64 0]) ∧ (Fr w' (W.heap.size + 1)) ∧ Grown W w' ∧ W.heap.size + 2 ≤ w'.heap.size ∧ lb + 1 ≤ w'.heap.size ∧ w'.cell? ⟨lb, lo + k * 4 + 3, none⟩ = some (.int .i64 x.z)) [(24, ?va24), (25, ?va25), (26, ?va26), (27, ?va27), (28, ?va28), (29, ?va29), (30, ?va30), (31, ?va31), (32, ?va32), (33, ?va33), (34, ?va34), (35, ?va35), (36, ?va36)] [24, 25, 26, 27, 28, 29, 30, 31, 32, 33, 34, 35, 36] (by kernel_rfl) (by kernel_rfl) rfl (by kernel_rfl) ⟨b3, b4, f3, g3, s3, hlb2, y3⟩ (fun w h => h) ?alla ?fina
      case alla =>
       simp only [fillA, Act.put, List.setIfInBounds_toArray, List.set_cons_zero, List.set_cons_succ]
       iterate 2 (refine owes_cons (fun w hw K hK => ?_) ?_; focus ((have hS := LH hw); go_split_ands; go_simp; (try go_frame); exact hK _ hS.out))
       refine owes_cons (fun w hw K hK => ?_) ?_
       ·have hS := LH hw
        go_split_ands
        go_simp
        refine (rkeeps_any n.op _ _ HK).mono ?_
        rintro e w6 ⟨rfl, gg⟩
        refine hK _ ?_
        (exact kKeep)
       iterate 10 (refine owes_cons (fun w hw K hK => ?_) ?_; focus ((have hS := LH hw); go_split_ands; go_simp; (try go_frame); exact hK _ hS.out))
       exact True.intro
      case fina =>
       rintro w9 ⟨b9, b10, f9, g9, s9, _⟩
       simp only [fillA, Act.put, List.setIfInBounds_toArray, List.set_cons_zero, List.set_cons_succ]
       go_wp2_with fail
       go_meet
       exact ⟨rfl, b9, b10, f9, g9, s9⟩
     | true =>
      cases ez : (x.z != n.zero) with
      | true =>
       obtain rfl : tz = true := HZ.out.mpr ⟨rfl, by simpa using ez⟩
       refine wp_region_fill (fun w' => (Bx w' W.heap.size (nC n vi (.slice A2 n.ws.length c2) (.slice A3 n.bs.length c3))) ∧ (Bx w' (W.heap.size + 1) #[.int .i64 0, .int .i64 0, .int .i64 0, .int .i64 0]) ∧ (Fr w' (W.heap.size + 1)) ∧ Grown W w' ∧ W.heap.size + 2 ≤ w'.heap.size ∧ lb + 1 ≤ w'.heap.size ∧ w'.cell? ⟨lb, lo + k * 4 + 3, none⟩ = some (.int .i64 x.z)) [(24, ?vb24), (25, ?vb25), (26, ?vb26), (27, ?vb27), (28, ?vb28), (29, ?vb29), (30, ?vb30), (31, ?vb31), (32, ?vb32), (33, ?vb33), (34, ?vb34), (35, ?vb35), (36, ?vb36)] [24, 25, 26, 27, 28, 29, 30, 31, 32, 33, 34, 35, 36] (by kernel_rfl) (by kernel_rfl) rfl (by kernel_rfl) ⟨b3, b4, f3, g3, s3, hlb2, y3⟩ (fun w h => h) ?allb ?finb
       case allb =>
        simp only [fillA, Act.put, List.setIfInBounds_toArray, List.set_cons_zero, List.set_cons_succ]
        iterate 2 (refine owes_cons (fun w hw K hK => ?_) ?_; focus ((have hS := LH hw); go_split_ands; go_simp; (try go_frame); exact hK _ hS.out))
        refine owes_cons (fun w hw K hK => ?_) ?_
        ·have hS := LH hw
         go_split_ands
         go_simp
         refine (rkeeps_any n.op _ _ HK).mono ?_
         rintro e w6 ⟨rfl, gg⟩
         refine hK _ ?_
         (exact kKeep)
        iterate 10 (refine owes_cons (fun w hw K hK => ?_) ?_; focus ((have hS := LH hw); go_split_ands; go_simp; (try go_frame); exact hK _ hS.out))
        exact True.intro
       case finb =>
        rintro w9 ⟨b9, b10, f9, g9, s9, _⟩
        simp only [fillA, Act.put, List.setIfInBounds_toArray, List.set_cons_zero, List.set_cons_succ]
        go_wp2_with fail
        go_meet
        exact ⟨rfl, b9, b10, f9, g9, s9⟩
      | false =>
       obtain rfl : tz = false := Bool.eq_false_iff.mpr (fun h => by have := (HZ.out.mp h).2; simp at ez; exact this ez)
       refine wp_region_fill (fun w' => (Bx w' W.heap.size (nC n vi (.slice A2 n.ws.length c2) (.slice A3 n.bs.length c3))) ∧ (Bx w' (W.heap.size + 1) #[.int .i64 0, .int .i64 0, .int .i64 0, .int .i64 0]) ∧ (Fr w' (W.heap.size + 1)) ∧ Grown W w' ∧ W.heap.size + 2 ≤ w'.heap.size ∧ lb + 1 ≤ w'.heap.size ∧ w'.cell? ⟨lb, lo + k * 4 + 3, none⟩ = some (.int .i64 x.z)) [(24, ?vc24), (25, ?vc25), (26, ?vc26), (27, ?vc27), (28, ?vc28), (29, ?vc29), (30, ?vc30), (31, ?vc31), (32, ?vc32), (33, ?vc33), (34, ?vc34), (35, ?vc35), (36, ?vc36)] [24, 25, 26, 27, 28, 29, 30, 31, 32, 33, 34, 35, 36] (by kernel_rfl) (by kernel_rfl) rfl (by kernel_rfl) ⟨b3, b4, f3, g3, s3, hlb2, y3⟩ (fun w h => h) ?allc ?finc
       case allc =>
        simp only [fillA, Act.put, List.setIfInBounds_toArray, List.set_cons_zero, List.set_cons_succ]
        iterate 2 (refine owes_cons (fun w hw K hK => ?_) ?_; focus ((have hS := LH hw); go_split_ands; go_simp; (try go_frame); exact hK _ hS.out))
        refine owes_cons (fun w hw K hK => ?_) ?_
        ·have hS := LH hw
         go_split_ands
         go_simp
         refine (rkeeps_any n.op _ _ HK).mono ?_
         rintro e w6 ⟨rfl, gg⟩
         refine hK _ ?_
         (exact kKeep)
        iterate 10 (refine owes_cons (fun w hw K hK => ?_) ?_; focus ((have hS := LH hw); go_split_ands; go_simp; (try go_frame); exact hK _ hS.out))
        exact True.intro
       case finc =>
        rintro w9 ⟨b9, b10, f9, g9, s9, _⟩
        simp only [fillA, Act.put, List.setIfInBounds_toArray, List.set_cons_zero, List.set_cons_succ]
        go_wp2_with fail
        go_meet
        exact ⟨rfl, b9, b10, f9, g9, s9⟩
    case rest =>
     obtain ⟨rfl, b5, b6, f4, g4, s4⟩ := hcut
     clear b3 b4 f3 g3 s3
     cases tz with
     | true =>
      have Q : Hid (valueE n vs = 11) := LH (valueE_11 (fun h' => by
       have k1 := HZ.out.mp (by trivial)
       exact (takes_node.mp h').2 k h ⟨HK.out.mp k1.1, by rw [HX.out]; exact k1.2⟩))
      go_wp2_with fail
      exact bodyPost_ret (v := .tuple #[.agg #[.int .i64 0, .int .i64 0, .int .i64 0, .int .i64 0], .int .i64 11]) (by simp [results, Tryz.results77, go_sem, *]) rfl (value_err Q.out (by decide) kKeep)
     | false =>
      go_wp2_with fail
      go_roundw
      case rel => exact ⟨k + 1, by omega, by go_num, LH (fun j hj => by
       by_cases c : j = k
       ·rw [c, HX.out]; exact fun f => by have := HZ.out.mpr f; cases this
       ·exact hs.out j (by omega)), b5, b6, f4, g4, s4⟩
      case measure => simp [intOf]; omega
   ·have ek : k = vs.length := by omega
    subst ek
    have TK : Hid (hasOp n.op ∧ takesP (opD n.op) n vs) := LH (takes_node.mpr ⟨NN.out, fun j hj f => hs.out j hj ⟨HK.out.mpr f.1, f.2⟩⟩)
    clear hs hk h HK
    go_wp2_with fail
    go_loopw [7] (fun i wr => ∃ k : Nat, k ≤ vs.length ∧ i = .int .i64 k ∧ Hid (∀ j, j < k → mayV (vs.getD j default)) ∧ (Bx wr W.heap.size (nC n vi (.slice A2 n.ws.length c2) (.slice A3 n.bs.length c3))) ∧ (Bx wr (W.heap.size + 1) #[.int .i64 0, .int .i64 0, .int .i64 0, .int .i64 0]) ∧ (Fr wr (W.heap.size + 1)) ∧ Grown W wr ∧ W.heap.size + 2 ≤ wr.heap.size) (fun i _ => vs.length - (intOf i).toNat)
    case atStart => exact ⟨0, by omega, rfl, LH (fun j h => by omega), b3, b4, f3, g3, s3⟩
    case round =>
     clear b3 b4 f3 g3 s3
     obtain ⟨k, hk, rfl, hs, b3, b4, f3, g3, s3⟩ := hrel
     by_cases h : k < vs.length
     ·obtain ⟨lb, lo, rfl, hlb, hlc⟩ := A5.out (by omega)
      obtain ⟨y0, y1, y2, y3⟩ := (hlc k h).grow hlb (Grown.past g3)
      obtain ⟨x, hx⟩ : ∃ x, vs.getD k default = x := ⟨_, rfl⟩
      rw [hx] at y0 y1 y2 y3
      have HX := LH hx
      have i1 : (0 : Int) ≤ (k : Int) := by omega
      have i2 : (k : Int) < (vs.length : Int) := by omega
      clear hlc hx y3
      by_cases m : mayV x
      ·have M := LH m
       clear m
       go_wp2_with fail
       refine (rmay_yes x.h x.w x.c _ M.out).mono ?_
       rintro e w5 ⟨rfl, g⟩
       obtain ⟨b5, b6, f4, g4, s4⟩ : (Bx w5 W.heap.size (nC n vi (.slice A2 n.ws.length c2) (.slice A3 n.bs.length c3))) ∧ (Bx w5 (W.heap.size + 1) #[.int .i64 0, .int .i64 0, .int .i64 0, .int .i64 0]) ∧ (Fr w5 (W.heap.size + 1)) ∧ Grown W w5 ∧ W.heap.size + 2 ≤ w5.heap.size := by (exact kKeep)
       clear b3 b4 f3 g3 s3 g y0 y1 y2
       go_wp2_with fail
       go_roundw
       case rel => exact ⟨k + 1, by omega, by go_num, LH (fun j hj => by
        by_cases c : j = k
        ·rw [c, HX.out]; exact M.out
        ·exact hs.out j (by omega)), b5, b6, f4, g4, s4⟩
       case measure => simp [intOf]; omega
      ·have Q : Hid (valueE n vs = 10) := LH (valueE_10 TK.out (fun f => m (by rw [← HX.out]; exact f k h)))
       have M := LH m
       clear m
       go_wp2_with fail
       refine (rmay_no x.h x.w x.c _ M.out).mono ?_
       rintro e w5 ⟨rfl, g⟩
       obtain ⟨b5, b6, f4, g4, s4⟩ : (Bx w5 W.heap.size (nC n vi (.slice A2 n.ws.length c2) (.slice A3 n.bs.length c3))) ∧ (Bx w5 (W.heap.size + 1) #[.int .i64 0, .int .i64 0, .int .i64 0, .int .i64 0]) ∧ (Fr w5 (W.heap.size + 1)) ∧ Grown W w5 ∧ W.heap.size + 2 ≤ w5.heap.size := by (exact kKeep)
       clear b3 b4 f3 g3 s3 g y0 y1 y2
       go_wp2_with fail
       exact bodyPost_ret (v := .tuple #[.agg #[.int .i64 0, .int .i64 0, .int .i64 0, .int .i64 0], .int .i64 10]) (by simp [results, Tryz.results77, go_sem, *]) rfl (value_err Q.out (by decide) kKeep)
     ·have ek : k = vs.length := by omega
      subst ek
      have MV : Hid (∀ j, j < vs.length → mayV (vs.getD j default)) := hs
      have l1 : 0 < vs.length := by
       have := NN.out.2.1
       unfold nodeW at this
       split at this <;> omega
      obtain ⟨lb, lo, rfl, hlb, hlc⟩ := A5.out l1
      obtain ⟨y0, y1, y2, y3⟩ := (hlc 0 l1).grow hlb (Grown.past g3)
      have hlb2 : lb + 1 ≤ wr.heap.size := Nat.lt_of_lt_of_le hlb g3.2.2
      obtain ⟨x, hx⟩ : ∃ x, vs.getD 0 default = x := ⟨_, rfl⟩
      rw [hx] at y0 y1 y2 y3
      obtain ⟨s, hs2⟩ : ∃ s, madeS n vs = s := ⟨_, rfl⟩
      obtain ⟨wa, wb, hab⟩ : ∃ wa wb, wantS n x (madeS n vs).2.2 = (wa, wb) := ⟨_, _, rfl⟩
      have MA := LH (fun w (g : Grown W w) => made_any n vi (.slice A2 n.ws.length c2) (.slice A3 n.bs.length c3) _ vs w (HV.out.grow (Grown.past g)) TK.out.1 NN.out.2.1 MV.out s hs2)
      have CA := LH (fun w => many_any n vi (.slice A2 n.ws.length c2) (.slice A3 n.bs.length c3) vs w l1 TK.out.1 NN.out.2.2.1 NN.out.2.2.2.2.1 MV.out x hx wa wb hab)
      have HS := LH hs2
      have HAB := LH hab
      have HX := LH hx
      have L1 := LH l1
      have i1 : (0 : Int) ≤ 0 := by omega
      have i2 : (0 : Int) < (vs.length : Int) := by omega
      clear hs hs2 hab hx hlc hk h y3
      simp only [Nat.zero_mul, Nat.add_zero] at y0 y1 y2
      go_wp2_with fail
      refine (MA.out _ g3).mono ?_
      rintro e w5 ⟨rfl, g⟩
      obtain ⟨b5, b6, f4, g4, s4, z0, z1, z2, z3⟩ : (Bx w5 W.heap.size (nC n vi (.slice A2 n.ws.length c2) (.slice A3 n.bs.length c3))) ∧ (Bx w5 (W.heap.size + 1) #[.int .i64 0, .int .i64 0, .int .i64 0, .int .i64 0]) ∧ (Fr w5 (W.heap.size + 1)) ∧ Grown W w5 ∧ W.heap.size + 2 ≤ w5.heap.size ∧ lb + 1 ≤ w5.heap.size ∧ w5.cell? ⟨lb, lo, none⟩ = some (.int .i64 x.h) ∧ w5.cell? ⟨lb, lo + 1, none⟩ = some (.int .i64 x.w) ∧ w5.cell? ⟨lb, lo + 2, none⟩ = some (.int .i64 x.c) := by (exact kKeep)
      clear b3 b4 f3 g3 s3 g y0 y1 y2 hlb2 MA
      obtain ⟨P8, hP⟩ : ∃ P8, w5.heap.size = P8 := ⟨_, rfl⟩
      go_upto_region 14 with fail
      refine opq (fun w' => ((Bx w' W.heap.size (nC n vi (.slice A2 n.ws.length c2) (.slice A3 n.bs.length c3))) ∧ (Bx w' (W.heap.size + 1) #[.int .i64 0, .int .i64 0, .int .i64 0, .int .i64 0]) ∧ (Fr w' (W.heap.size + 1)) ∧ Grown W w' ∧ W.heap.size + 2 ≤ w'.heap.size ∧ (Bx w' P8 #[.int .i64 s.1, .int .i64 s.2.1, .int .i64 s.2.2]) ∧ P8 + 1 ≤ w'.heap.size) ∧ lb + 1 ≤ w'.heap.size ∧ w'.cell? ⟨lb, lo, none⟩ = some (.int .i64 x.h) ∧ w'.cell? ⟨lb, lo + 1, none⟩ = some (.int .i64 x.w) ∧ w'.cell? ⟨lb, lo + 2, none⟩ = some (.int .i64 x.c)) (by
       subst hP
       (exact kKeep)) ?_
      rintro w6 ⟨⟨b3, b4, f3, g3, s3, b7, s7⟩, y0, y1, y2, y3⟩
      have q8 : W.heap.size + 2 ≤ P8 := by omega
      clear b5 b6 f4 g4 s4 z0 z1 z2 z3 hP
      have q9 : W.heap.size + 1 ≠ P8 := by omega
      by_cases m : mayT s
      ·have MS := LH m
       have RM := LH (fun w => rmay_yes s.1 s.2.1 s.2.2 w m)
       clear m
       go_upto_region 16 with (first | (go_at_call 75; with_reducible refine (RM.out _).mono ?_; rintro e w7 ⟨rfl, g⟩; obtain ⟨⟨t1, t2, t3, t4, t5, t6, t7⟩, u0, u1, u2, u3⟩ : ((Bx w7 W.heap.size (nC n vi (.slice A2 n.ws.length c2) (.slice A3 n.bs.length c3))) ∧ (Bx w7 (W.heap.size + 1) #[.int .i64 0, .int .i64 0, .int .i64 0, .int .i64 0]) ∧ (Fr w7 (W.heap.size + 1)) ∧ Grown W w7 ∧ W.heap.size + 2 ≤ w7.heap.size ∧ (Bx w7 P8 #[.int .i64 s.1, .int .i64 s.2.1, .int .i64 s.2.2]) ∧ P8 + 1 ≤ w7.heap.size) ∧ lb + 1 ≤ w7.heap.size ∧ w7.cell? ⟨lb, lo, none⟩ = some (.int .i64 x.h) ∧ w7.cell? ⟨lb, lo + 1, none⟩ = some (.int .i64 x.w) ∧ w7.cell? ⟨lb, lo + 2, none⟩ = some (.int .i64 x.c) := by (exact kKeep)))
       clear b3 b4 f3 g3 s3 b7 s7 y0 y1 y2 y3 g RM
       go_cut [9, 10] (fun c9 c10 w' => c9 = .int .i64 wa ∧ c10 = .int .i64 wb ∧ (Bx w' W.heap.size (nC n vi (.slice A2 n.ws.length c2) (.slice A3 n.bs.length c3))) ∧ (Bx w' (W.heap.size + 1) #[.int .i64 0, .int .i64 0, .int .i64 0, .int .i64 0]) ∧ (Fr w' (W.heap.size + 1)) ∧ Grown W w' ∧ W.heap.size + 2 ≤ w'.heap.size ∧ (Bx w' P8 #[.int .i64 s.1, .int .i64 s.2.1, .int .i64 s.2.2]) ∧ P8 + 1 ≤ w'.heap.size)
       case first =>
        go_region_held3 (fun w' => ((Bx w' W.heap.size (nC n vi (.slice A2 n.ws.length c2) (.slice A3 n.bs.length c3))) ∧ (Bx w' (W.heap.size + 1) #[.int .i64 0, .int .i64 0, .int .i64 0, .int .i64 0]) ∧ (Fr w' (W.heap.size + 1)) ∧ Grown W w' ∧ W.heap.size + 2 ≤ w'.heap.size ∧ (Bx w' P8 #[.int .i64 s.1, .int .i64 s.2.1, .int .i64 s.2.2]) ∧ P8 + 1 ≤ w'.heap.size) ∧ lb + 1 ≤ w'.heap.size ∧ w'.cell? ⟨lb, lo, none⟩ = some (.int .i64 x.h) ∧ w'.cell? ⟨lb, lo + 1, none⟩ = some (.int .i64 x.w) ∧ w'.cell? ⟨lb, lo + 2, none⟩ = some (.int .i64 x.c)) (exact kKeep)
         (first | ((with_reducible refine (CA.out _).mono ?_); rintro e w7 ⟨rfl, g⟩))
        all_goals
         go_wp2_with fail
         go_meet
         exact ⟨rfl, rfl, by (exact kKeep)⟩
       case rest =>
        obtain ⟨rfl, rfl, o1, o2, o3, o4, o5, o6, o7⟩ := hcut
        clear t1 t2 t3 t4 t5 t6 t7 u0 u1 u2 u3 CA
        have q1 := valueE_12 (n := n) (vs := vs) TK.out MV.out (HS.out.symm ▸ MS.out)
        have q0 := valueE_0 (n := n) (vs := vs) TK.out MV.out (HS.out.symm ▸ MS.out)
        have QE : Hid (lensP n vs ↔ ((n.ws.length : Int) = wa ∧ (n.bs.length : Int) = wb ∧ ∀ j, j < n.bs.length → nearB (n.bs.getD j 0))) := LH (by unfold lensP; rw [HX.out, HAB.out])
        have Q1 := LH q1
        have Q0 := LH q0
        clear q1 q0
        cases e1 : ((n.ws.length : Int) == wa) with
        | false =>
         have e1' : ((n.ws.length : Int) != wa) = true := by simp [bne, e1]
         have Q := LH (Q1.out (fun l => by have := (QE.out.mp l).1; rw [this] at e1; simp at e1))
         go_wp2_with fail
         exact bodyPost_ret (v := .tuple #[.agg #[.int .i64 0, .int .i64 0, .int .i64 0, .int .i64 0], .int .i64 12]) (by simp [results, Tryz.results77, go_sem, *]) rfl (value_err Q.out (by decide) kKeep)
        | true =>
         have e1' : ((n.ws.length : Int) != wa) = false := by simp [bne, e1]
         cases e2 : ((n.bs.length : Int) == wb) with
         | false =>
          have e2' : ((n.bs.length : Int) != wb) = true := by simp [bne, e2]
          have Q := LH (Q1.out (fun l => by have := (QE.out.mp l).2.1; rw [this] at e2; simp at e2))
          go_wp2_with fail
          exact bodyPost_ret (v := .tuple #[.agg #[.int .i64 0, .int .i64 0, .int .i64 0, .int .i64 0], .int .i64 12]) (by simp [results, Tryz.results77, go_sem, *]) rfl (value_err Q.out (by decide) kKeep)
         | true =>
          have e2' : ((n.bs.length : Int) != wb) = false := by simp [bne, e2]
          have QL : Hid ((∀ j, j < n.bs.length → nearB (n.bs.getD j 0)) ↔ lensP n vs) := LH (by
           rw [QE.out]
           exact ⟨fun h => ⟨by simpa using e1, by simpa using e2, h⟩, fun h => h.2.2⟩)
          clear e1 e2 QE
          go_wp2_with fail
          go_loopw [11] (fun i wr => ∃ k : Nat, k ≤ n.bs.length ∧ i = .int .i64 k ∧ Hid (∀ j, j < k → nearB (n.bs.getD j 0)) ∧ (Bx wr W.heap.size (nC n vi (.slice A2 n.ws.length c2) (.slice A3 n.bs.length c3))) ∧ (Bx wr (W.heap.size + 1) #[.int .i64 0, .int .i64 0, .int .i64 0, .int .i64 0]) ∧ (Fr wr (W.heap.size + 1)) ∧ Grown W wr ∧ W.heap.size + 2 ≤ wr.heap.size ∧ (Bx wr P8 #[.int .i64 s.1, .int .i64 s.2.1, .int .i64 s.2.2]) ∧ P8 + 1 ≤ wr.heap.size) (fun i _ => n.bs.length - (intOf i).toNat)
          case atStart => exact ⟨0, by omega, rfl, LH (fun j h => by omega), o1, o2, o3, o4, o5, o6, o7⟩
          case round =>
           clear o1 o2 o3 o4 o5 o6 o7
           obtain ⟨k, hk, rfl, hs, o1, o2, o3, o4, o5, o6, o7⟩ := hrel
           by_cases h : k < n.bs.length
           ·obtain ⟨bb, bo, rfl, hbb, hbc⟩ := D5.out (by omega)
            have y0 := cell_grown o4 (hbc k h) hbb
            obtain ⟨y, hy⟩ : ∃ y, n.bs.getD k 0 = y := ⟨_, rfl⟩
            have hyw := wf_i32 (D4.out y (by rw [← hy]; simp [List.getD, h]))
            rw [hy] at y0
            obtain ⟨hy1, hy2⟩ := hyw
            obtain ⟨tb, htb⟩ := bool_of (p := -16777216 ≤ y ∧ y ≤ 16777216)
            have HTB := LH htb
            have HY := LH hy
            have i3 : (0 : Int) ≤ (k : Int) := by omega
            have i4 : (k : Int) < (n.bs.length : Int) := by omega
            clear hbc htb hy
            go_wp2_with fail
            refine (rin_any y (-16777216) 16777216 tb _ HTB).mono ?_
            rintro e w9 ⟨rfl, g⟩
            obtain ⟨r1, r2, r3, r4, r5, r6, r7⟩ : (Bx w9 W.heap.size (nC n vi (.slice A2 n.ws.length c2) (.slice (some ⟨bb, bo, none⟩) n.bs.length c3))) ∧ (Bx w9 (W.heap.size + 1) #[.int .i64 0, .int .i64 0, .int .i64 0, .int .i64 0]) ∧ (Fr w9 (W.heap.size + 1)) ∧ Grown W w9 ∧ W.heap.size + 2 ≤ w9.heap.size ∧ (Bx w9 P8 #[.int .i64 s.1, .int .i64 s.2.1, .int .i64 s.2.2]) ∧ P8 + 1 ≤ w9.heap.size := by (exact kKeep)
            clear o1 o2 o3 o4 o5 o6 o7 g y0
            cases tb with
            | true =>
             go_wp2_with fail
             go_roundw
             case rel => exact ⟨k + 1, by omega, by go_num, LH (fun j hj => by
              by_cases c : j = k
              ·rw [c, HY.out]; exact HTB.out.mp (by trivial)
              ·exact hs.out j (by omega)), r1, r2, r3, r4, r5, r6, r7⟩
             case measure => simp [intOf]; omega
            | false =>
             have Q := LH (Q1.out (fun l => by
              have := HTB.out.mpr (by have := (QL.out.mpr l) k h; rw [HY.out] at this; exact this)
              cases this))
             go_wp2_with fail
             exact bodyPost_ret (v := .tuple #[.agg #[.int .i64 0, .int .i64 0, .int .i64 0, .int .i64 0], .int .i64 12]) (by simp [results, Tryz.results77, go_sem, *]) rfl (value_err Q.out (by decide) kKeep)
           ·have ek : k = n.bs.length := by omega
            subst ek
            have q := Q0.out (QL.out.mp hs.out)
            have fin : Hid (ValuePost n vs W = fun e w' => e = .returned (.tuple #[.agg #[.int .i64 s.1, .int .i64 s.2.1, .int .i64 s.2.2, .int .i64 n.zero], .int .i64 0]) ∧ Grown W w') := LH (by
             unfold ValuePost; rw [valueV_ok q, q, HS.out])
            clear q hk h hs
            go_wp2_with fail
            exact bodyPost_ret (v := .tuple #[.agg #[.int .i64 s.1, .int .i64 s.2.1, .int .i64 s.2.2, .int .i64 n.zero], .int .i64 0]) (by simp [results, Tryz.results77, go_sem, *]) rfl (by rw [fin.out]; exact ⟨rfl, by (exact kKeep)⟩)
      ·have Q : Hid (valueE n vs = 10) := LH (valueE_10' TK.out MV.out (by rw [HS.out]; exact m))
       have RM := LH (fun w => rmay_no s.1 s.2.1 s.2.2 w m)
       clear m
       go_wp2_with (first | (go_at_call 75; with_reducible refine (RM.out _).mono ?_; rintro e w7 ⟨rfl, g⟩; obtain ⟨t1, t2, t3, t4, t5, t6, t7⟩ : (Bx w7 W.heap.size (nC n vi (.slice A2 n.ws.length c2) (.slice A3 n.bs.length c3))) ∧ (Bx w7 (W.heap.size + 1) #[.int .i64 0, .int .i64 0, .int .i64 0, .int .i64 0]) ∧ (Fr w7 (W.heap.size + 1)) ∧ Grown W w7 ∧ W.heap.size + 2 ≤ w7.heap.size ∧ (Bx w7 P8 #[.int .i64 s.1, .int .i64 s.2.1, .int .i64 s.2.2]) ∧ P8 + 1 ≤ w7.heap.size := by (exact kKeep)))
       exact bodyPost_ret (v := .tuple #[.agg #[.int .i64 0, .int .i64 0, .int .i64 0, .int .i64 0], .int .i64 10]) (by simp [results, Tryz.results77, go_sem, *]) rfl (value_err Q.out (by decide) kKeep)
end Go.Proofs.YtejllmjkeefloaaGreat
