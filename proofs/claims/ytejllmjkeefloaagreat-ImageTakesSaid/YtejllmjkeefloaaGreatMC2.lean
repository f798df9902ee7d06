/- The reader of an image: a place off the front. The reference's Same. The reference's Same: an image and the same one. The reference of layer 3: many. The reference of layer 4: the reader; signed, shape. -/
import Derived.Deep.DeepCutAuto
import Derived.Test.YtejllmjkeefloaaGreatMC1
import Derived.Test.YtejllmjkeefloaaGreatME0
import Derived.Test.YtejllmjkeefloaaGreatMR3Node
namespace Go.Proofs.YtejllmjkeefloaaGreat
open Go.ChangeShapes Go.WideShapes Go.ChangeAt Go.RowKit
set_option maxRecDepth 20000
set_option linter.unusedVariables false
set_option linter.unusedSimpArgs false
theorem or_place (a b:Int) (a0:0<=a) (a1:a<256) (b0:0<=b) (b1:b<256):bits .or .i64 (a*65536) (b*256)=(256*a+b)*256:=by
 obtain ⟨m,rfl⟩:∃ m:Nat,a=m:=⟨a.toNat,by omega⟩
 obtain ⟨d,rfl⟩:∃ m:Nat,b=m:=⟨b.toNat,by omega⟩
 have h2:(BitVec.ofInt 64 ((d:Int)*256)).toNat=d <<< 8:=by
  rw [BitVec.toNat_ofInt,Nat.shiftLeft_eq];omega
 have h3:(BitVec.ofInt 64 ((m:Int)*65536)).toNat=(m <<< 8) <<< 8:=by
  rw [BitVec.toNat_ofInt,Nat.shiftLeft_eq,Nat.shiftLeft_eq];omega
 show IntKind.i64.wrap ((BitVec.ofInt 64 ((m:Int)*65536) ||| BitVec.ofInt 64 ((d:Int)*256)).toNat:Int)=_;rw [BitVec.toNat_or,h2,h3,<- Nat.shiftLeft_or_distrib,<- Nat.shiftLeft_add_eq_or_of_lt (by omega),Nat.shiftLeft_eq,Nat.shiftLeft_eq,IntKind.wrap_i64];omega
theorem place_any (a b c:Int) (W:World) (ha:0≤a∧a<256) (hb:0≤b∧b<256) (hc:0≤c∧c<256):Calls Tryz.prog 33 #[.agg #[.int .u8 a,.int .u8 b,.int .u8 c]] W fun e w'=>e=.returned (.int .i64 (256*(256*a+b)+c))∧Past W w':=by
 have o1:=or_place a b ha.1 ha.2 hb.1 hb.2
 have o2:=or_byte (256*a+b) c (by omega) (by omega) hc.1 hc.2
 have v1:IntKind.i64.wrap (a*65536)=a*65536:=IntWalk.i64_in _ (by omega)
 have v2:IntKind.i64.wrap (b*256)=b*256:=IntWalk.i64_in _ (by omega)
 go_enter Tryz.func33,Tryz.ntmps33
 go_upto_region 1 with fail
 obtain ⟨Q,hQ⟩:∃ Q,W.heap.size=Q:=⟨_,rfl⟩
 refine opq (fun w'=>(Bx w' Q #[.int .u8 a,.int .u8 b,.int .u8 c])∧Past W w'∧Q+1≤w'.heap.size) (by
  subst hQ
  exact ⟨by (exact kKeep),by (exact kKeep),by (exact kKeep)⟩) ?_
 rintro w0 ⟨q0,p0,s0⟩
 try rw [hQ]
 go_wp2_with fail
 go_ret
 exact ⟨rfl,p0⟩
def TookM (l:List Int) (W:World) (e:Ending) (w':World):Prop :=
 (3≤l.length∧∃ a b c,(l.take 3=[a,b,c])∧e=.returned (.tuple #[.agg #[.int .u8 a,.int .u8 b,.int .u8 c],.int .i64 3,.int .i64 0])∧Past W w') ∨
 (l.length<3∧e=.returned (.tuple #[.agg #[.int .u8 0,.int .u8 0,.int .u8 0],.int .i64 0,.int .i64 2])∧Past W w')
set_option maxHeartbeats 4000000 in
theorem takeMark_any (v:Value) (l:List Int) (W:World) (h:IsNums .u8 W v l):Calls Tryz.prog 32 #[v] W (TookM l W):=by
 obtain ⟨A,cap,rfl,h1,h2,h3,h4,h5⟩:=h
 have hm:l.length≤9223372036854775807:=by unfold maxLen at h2;omega
 by_cases c:l.length<3
 ·clear h4 h5
  go_enter Tryz.func32,Tryz.ntmps32
  go_upto_region 1 with fail
  obtain ⟨Q,hQ⟩:∃ Q,W.heap.size=Q:=⟨_,rfl⟩
  refine opq (fun w'=>(Bx w' Q #[.int .u8 0,.int .u8 0,.int .u8 0])∧(Fr w' Q)∧Past W w'∧Q+1≤w'.heap.size) (by
   subst hQ
   exact ⟨by (exact kKeep),by (exact kKeep),by (exact kKeep),by (exact kKeep)⟩) ?_
  rintro w0 ⟨q0,f0,p0,s0⟩
  try rw [hQ]
  go_wp2_with fail
  have b4:=box_set3 (y0:=.int .u8 0) (y1:=.int .u8 0) (y2:=.int .u8 0) q0
  have p4:Past W (((w0.setCell ⟨Q,0,none⟩ (.int .u8 0)).setCell ⟨Q,1,none⟩ (.int .u8 0)).setCell ⟨Q,2,none⟩ (.int .u8 0)):=((p0.setCell (p:=⟨Q,0,none⟩) (by simp only;omega) _).setCell (p:=⟨Q,1,none⟩) (by simp only;omega) _).setCell (p:=⟨Q,2,none⟩) (by simp only;omega) _
  clear q0 p0
  generalize (((w0.setCell ⟨Q,0,none⟩ (.int .u8 0)).setCell ⟨Q,1,none⟩ (.int .u8 0)).setCell ⟨Q,2,none⟩ (.int .u8 0))=w9 at *
  exact bodyPost_ret (v:=.tuple #[.agg #[.int .u8 0,.int .u8 0,.int .u8 0],.int .i64 0,.int .i64 2]) (by simp [results,Tryz.results32,go_sem,b4]) rfl (.inr ⟨c,rfl,p4⟩)
 ·obtain ⟨b,off,rfl,hb,hc⟩:=h5 (by omega)
  have z0:=hc 0 (by omega)
  have z1:=hc 1 (by omega)
  have z2:=hc 2 (by omega)
  rw [Nat.add_zero] at z0
  obtain ⟨a0,e0⟩:∃ x,l.getD 0 0=x:=⟨_,rfl⟩
  obtain ⟨a1,e1⟩:∃ x,l.getD 1 0=x:=⟨_,rfl⟩
  obtain ⟨a2,e2⟩:∃ x,l.getD 2 0=x:=⟨_,rfl⟩
  rw [e0] at z0
  rw [e1] at z1
  rw [e2] at z2
  have ET:l.take 3=[a0,a1,a2]:=by
   match l,c with
   | [],c=>simp at c
   | [_],c=>simp at c
   | [_,_],c=>simp at c
   | x :: y :: z :: r,_ =>
    simp only [List.getD_cons_zero,List.getD_cons_succ] at e0 e1 e2
    simp [e0,e1,e2]
  have HT:=LH ET
  have d1:decide ((l.length:Int)<3)=false:=by simp;omega
  have k0:(0:Int)<(l.length:Int):=by omega
  have k1:(1:Int)<(l.length:Int):=by omega
  have k2:(2:Int)<(l.length:Int):=by omega
  have k3:3≤l.length:=by omega
  clear h4 h5 hc e0 e1 e2 ET h3
  go_enter Tryz.func32,Tryz.ntmps32
  go_upto_region 1 with fail
  obtain ⟨Q,hQ⟩:∃ Q,W.heap.size=Q:=⟨_,rfl⟩
  refine opq (fun w'=>(Bx w' Q #[.int .u8 0,.int .u8 0,.int .u8 0])∧(Fr w' Q)∧w'.cell? ⟨b,off,none⟩=some (.int .u8 a0)∧w'.cell? ⟨b,off+1,none⟩=some (.int .u8 a1)∧w'.cell? ⟨b,off+2,none⟩=some (.int .u8 a2)∧Past W w'∧Q+1≤w'.heap.size) (by
   subst hQ
   exact ⟨by (exact kKeep),by (exact kKeep),by (exact kKeep),by (exact kKeep),by (exact kKeep),by (exact kKeep),by (exact kKeep)⟩) ?_
  rintro w0 ⟨q0,f0,z0,z1,z2,p0,s0⟩
  try rw [hQ]
  go_upto_region 3 with fail
  go_region
  all_goals
   have b4:=box_drew (box_set3 (y0:=.int .u8 a0) (y1:=.int .u8 a1) (y2:=.int .u8 a2) q0)
   have p4:Past W (((w0.setCell ⟨Q,0,none⟩ (.int .u8 a0)).setCell ⟨Q,1,none⟩ (.int .u8 a1)).setCell ⟨Q,2,none⟩ (.int .u8 a2)).drew:=(((p0.setCell (p:=⟨Q,0,none⟩) (by simp only;omega) _).setCell (p:=⟨Q,1,none⟩) (by simp only;omega) _).setCell (p:=⟨Q,2,none⟩) (by simp only;omega) _).drew
   clear q0 p0 z0 z1 z2
   generalize (((w0.setCell ⟨Q,0,none⟩ (.int .u8 a0)).setCell ⟨Q,1,none⟩ (.int .u8 a1)).setCell ⟨Q,2,none⟩ (.int .u8 a2)).drew=w9 at *
   go_wp2_with fail
   exact bodyPost_ret (v:=.tuple #[.agg #[.int .u8 a0,.int .u8 a1,.int .u8 a2],.int .i64 3,.int .i64 0]) (by simp [results,Tryz.results32,go_sem,b4]) rfl (.inl ⟨k3,a0,a1,a2,HT.out,rfl,p4⟩)
end Go.Proofs.YtejllmjkeefloaaGreat
namespace Go.Proofs.YtejllmjkeefloaaGreat
open Go.ChangeShapes Go.WideShapes Go.ChangeAt Go.RowKit
set_option maxRecDepth 20000
set_option linter.unusedVariables false
set_option maxHeartbeats 8000000 in
theorem rsame_any (a b:GraphD)(va vb:Value)(t:Bool)(W:World)(ha:IsGraph W va a)(hb:IsGraph W vb b)(ht:t=true↔a=b):Calls Tryz.prog 20 #[va,vb] W fun e w'=>e=.returned (.bool t)/\Grown W w':=by
 obtain⟨iv,nv,ov,rfl,hi,hn,ho⟩:=ha;obtain⟨iu,nu,ou,rfl,hi',hn',ho'⟩:=hb;rw [graph_eq] at ht;have HT:=LH ht;clear ht;have HI:=LH hi;have HN:=LH hn;have HO:=LH ho;have HI':=LH hi';have HN':=LH hn';have HO':=LH ho';obtain⟨A1,c1,rfl,_,_,_,_,_⟩:=hi;obtain⟨A2,c2,rfl,_,n2,_,n4,n5⟩:=hn;obtain⟨A3,c3,rfl,_,_,_,_,_⟩:=ho;obtain⟨B1,d1,rfl,_,_,_,_,_⟩:=hi';obtain⟨B2,d2,rfl,_,m2,_,m4,m5⟩:=hn';obtain⟨B3,d3,rfl,_,_,_,_,_⟩:=ho';have N4:=LH n4;have N5:=LH n5;have M4:=LH m4;have M5:=LH m5;have l1:a.nodes.length<=9223372036854775807:=by unfold maxLen at n2;omega
 have l2:b.nodes.length<=9223372036854775807:=by unfold maxLen at m2;omega
 clear n2 n4 n5 m2 m4 m5;obtain⟨t1,ht1⟩:=bool_any (a.ins=b.ins);obtain⟨t3,ht3⟩:=bool_any (a.outs=b.outs);have H1:=LH ht1;have H3:=LH ht3;have C1:=LH (fun w (g:Grown W w)=>vals_any w _ _ a.ins b.ins t1 (HI.out.grow (Grown.past g)) (HI'.out.grow (Grown.past g)) H1);have C3:=LH (fun w (g:Grown W w)=>ints_any w _ _ a.outs b.outs t3 (HO.out.grow (Grown.past g)) (HO'.out.grow (Grown.past g)) H3);clear ht1 ht3;go_enter Tryz.func20,Tryz.ntmps20;go_upto_region 1 with fail;refine opq (fun w'=>(Bx w' W.heap.size #[.slice A1 a.ins.length c1,.slice A2 a.nodes.length c2,.slice A3 a.outs.length c3])/\(Bx w' (W.heap.size+1) #[.slice B1 b.ins.length d1,.slice B2 b.nodes.length d2,.slice B3 b.outs.length d3])/\Grown W w'/\W.heap.size+2<=w'.heap.size) ?_ ?_
 ·(exact kKeep)
 rintro w1 ⟨b1,b2,g1,s1⟩;go_wp2_with fail;refine(C1.out _ g1).mono ?_;rintro e w2 ⟨rfl,g⟩;obtain⟨b3,b4,g2,s2⟩:(Bx w2 W.heap.size #[.slice A1 a.ins.length c1,.slice A2 a.nodes.length c2,.slice A3 a.outs.length c3])/\(Bx w2 (W.heap.size+1) #[.slice B1 b.ins.length d1,.slice B2 b.nodes.length d2,.slice B3 b.outs.length d3])/\Grown W w2/\W.heap.size+2<=w2.heap.size:=by(exact kKeep)
 clear b1 b2 g1 s1 g;go_wp2_with fail;refine(C3.out _ g2).mono ?_;rintro e w3 ⟨rfl,g⟩;obtain⟨b5,b6,g3,s3⟩:(Bx w3 W.heap.size #[.slice A1 a.ins.length c1,.slice A2 a.nodes.length c2,.slice A3 a.outs.length c3])/\(Bx w3 (W.heap.size+1) #[.slice B1 b.ins.length d1,.slice B2 b.nodes.length d2,.slice B3 b.outs.length d3])/\Grown W w3/\W.heap.size+2<=w3.heap.size:=by(exact kKeep)
 clear b3 b4 g2 s2 g C1 C3;cases t1 with
 | false =>
  obtain rfl:t=false:=Bool.eq_false_iff.mpr (fun h=>by have:=H1.out.mpr (HT.out.mp h).1;cases this);go_wp2_with fail;go_ret;exact⟨rfl,g3⟩
 | true =>
  cases t3 with
  | false =>
   obtain rfl:t=false:=Bool.eq_false_iff.mpr (fun h=>by have:=H3.out.mpr (HT.out.mp h).2.2;cases this);go_wp2_with fail;go_ret;exact⟨rfl,g3⟩
  | true =>
   cases e0:((a.nodes.length:Int)==(b.nodes.length:Int)) with
   | false =>
    have e9:((a.nodes.length:Int)!=(b.nodes.length:Int))=true:=by simp [bne,e0]
    obtain rfl:t=false:=Bool.eq_false_iff.mpr (fun h=>by
     have:=congrArg List.length (HT.out.mp h).2.1;rw [this] at e0;simp at e0)
    go_wp2_with fail;go_ret;exact⟨rfl,g3⟩
   | true =>
    have hl:a.nodes.length=b.nodes.length:=by have:=beq_iff_eq.mp e0;omega
    have HE:=nodes_ext hl;obtain⟨len,hlen⟩:∃ n,a.nodes.length=n:=⟨_,rfl⟩
    have hlen':b.nodes.length=len:=by omega
    rw [hlen] at l1 HE;simp only [hlen] at b5;simp only [hlen'] at b6;simp only [hlen,hlen'];have HE:=LH HE;have HX:=LH hlen;have HY:=LH hlen';clear hlen hlen' hl l2 e0;have e9:((len:Int)!=(len:Int))=false:=by simp
    go_wp2_with fail;go_loopw [7,8] (fun i _ wr=>∃ k:Nat,k<=len/\i=.int .i64 k/\Hid (∀ j,j<k->a.nodes.getD j default=b.nodes.getD j default)/\(Bx wr W.heap.size #[.slice A1 a.ins.length c1,.slice A2 len c2,.slice A3 a.outs.length c3])/\(Bx wr (W.heap.size+1) #[.slice B1 b.ins.length d1,.slice B2 len d2,.slice B3 b.outs.length d3])/\Grown W wr/\W.heap.size+2<=wr.heap.size) (fun i _ _=>len-(intOf i).toNat)
    case atStart=>exact⟨0,by omega,rfl,LH (fun j h=>by omega),b5,b6,g3,s3⟩
    case round =>
     clear b5 b6 g3 s3;obtain⟨k,hk,rfl,hx,b5,b6,g3,s3⟩:=hrel;by_cases l:k<len
     ·obtain⟨p,of1,rfl,hp,hc⟩:=N5.out (by rw [HX.out];omega);obtain⟨p',of2,rfl,hp',hc'⟩:=M5.out (by rw [HY.out];omega);obtain⟨vi,vw,vb,hin,hcell⟩:=(hc k (by rw [HX.out];exact l)).grow hp (Grown.past g3);obtain⟨ui,uw,ub,hin',hcell'⟩:=(hc' k (by rw [HY.out];exact l)).grow hp' (Grown.past g3);obtain⟨x,ha⟩:∃ x,a.nodes.getD k default=x:=⟨_,rfl⟩
      obtain⟨y,hb⟩:∃ y,b.nodes.getD k default=y:=⟨_,rfl⟩
      have ma:NodeWf x:=N4.out x (by rw [<- ha];simp [List.getD,show k<a.nodes.length by rw [HX.out];exact l]);have mb:NodeWf y:=M4.out y (by rw [<- hb];simp [List.getD,show k<b.nodes.length by rw [HY.out];exact l]);rw [ha] at hin hcell;rw [hb] at hin' hcell';obtain⟨Xi,xi,rfl⟩:=nums_slice hin.1;obtain⟨Xw,xw,rfl⟩:=nums_slice hin.2.1;obtain⟨Xb,xb,rfl⟩:=nums_slice hin.2.2;obtain⟨Yi,yi,rfl⟩:=nums_slice hin'.1;obtain⟨Yw,yw,rfl⟩:=nums_slice hin'.2.1;obtain⟨Yb,yb,rfl⟩:=nums_slice hin'.2.2;have x0:=hcell 0 (by omega);have x1:=hcell 1 (by omega);have x2:=hcell 2 (by omega);have x3:=hcell 3 (by omega);have x4:=hcell 4 (by omega);have x5:=hcell 5 (by omega);have x6:=hcell 6 (by omega);have x7:=hcell 7 (by omega);have x8:=hcell 8 (by omega);have x9:=hcell 9 (by omega);have x10:=hcell 10 (by omega);have x11:=hcell 11 (by omega);have x12:=hcell 12 (by omega);have x13:=hcell 13 (by omega);have y0:=hcell' 0 (by omega);have y1:=hcell' 1 (by omega);have y2:=hcell' 2 (by omega);have y3:=hcell' 3 (by omega);have y4:=hcell' 4 (by omega);have y5:=hcell' 5 (by omega);have y6:=hcell' 6 (by omega);have y7:=hcell' 7 (by omega);have y8:=hcell' 8 (by omega);have y9:=hcell' 9 (by omega);have y10:=hcell' 10 (by omega);have y11:=hcell' 11 (by omega);have y12:=hcell' 12 (by omega);have y13:=hcell' 13 (by omega);simp only [nodeCells,List.getElem?_cons_zero,List.getElem?_cons_succ,Nat.add_zero] at x0 x1 x2 x3 x4 x5 x6 x7 x8 x9 x10 x11 x12 x13 y0 y1 y2 y3 y4 y5 y6 y7 y8 y9 y10 y11 y12 y13;obtain⟨tk,htk⟩:=bool_any (x=y);have HK:=LH htk;have HA:=LH ha;have HB:=LH hb;have CN:=LH (fun w (q:Past wr w)=>same_node_any w (.agg (nC x (.slice Xi x.ins.length xi) (.slice Xw x.ws.length xw) (.slice Xb x.bs.length xb))) (.agg (nC y (.slice Yi y.ins.length yi) (.slice Yw y.ws.length yw) (.slice Yb y.bs.length yb))) x y tk ⟨_,_,_,rfl,hin.grow q,ma⟩ ⟨_,_,_,rfl,hin'.grow q,mb⟩ HK);have i1:(0:Int)<=(k:Int):=by omega
      have i2:(k:Int)<(len:Int):=by omega
      have q1:p+1<=wr.heap.size:=Nat.lt_of_lt_of_le hp g3.2.2;have q2:p'+1<=wr.heap.size:=Nat.lt_of_lt_of_le hp' g3.2.2;clear hin hin' hcell hcell' hc hc' htk ha hb ma mb;go_upto_region 8 with fail;refine wp_region_fill (fun w'=>(Bx w' W.heap.size #[.slice A1 a.ins.length c1,.slice (some ⟨p,of1,none⟩) len c2,.slice A3 a.outs.length c3])/\(Bx w' (W.heap.size+1) #[.slice B1 b.ins.length d1,.slice (some ⟨p',of2,none⟩) len d2,.slice B3 b.outs.length d3])/\Grown W w'/\W.heap.size+2<=w'.heap.size/\Past wr w'/\p+1<=w'.heap.size/\p'+1<=w'.heap.size/\w'.cell? ⟨p,of1+k*14,none⟩=some (.int .i64 x.op)/\w'.cell? ⟨p,of1+k*14+1,none⟩=some (.slice Xi x.ins.length xi)/\w'.cell? ⟨p,of1+k*14+2,none⟩=some (.int .i64 x.k)/\w'.cell? ⟨p,of1+k*14+3,none⟩=some (.int .i64 x.stride)/\w'.cell? ⟨p,of1+k*14+4,none⟩=some (.int .i64 x.pad)/\w'.cell? ⟨p,of1+k*14+5,none⟩=some (.int .i64 x.out)/\w'.cell? ⟨p,of1+k*14+6,none⟩=some (.int .i64 x.mul)/\w'.cell? ⟨p,of1+k*14+7,none⟩=some (.int .i64 x.shift)/\w'.cell? ⟨p,of1+k*14+8,none⟩=some (.int .i64 x.zero)/\w'.cell? ⟨p,of1+k*14+9,none⟩=some (.int .i64 x.th)/\w'.cell? ⟨p,of1+k*14+10,none⟩=some (.int .i64 x.tw)/\w'.cell? ⟨p,of1+k*14+11,none⟩=some (.int .i64 x.tc)/\w'.cell? ⟨p,of1+k*14+12,none⟩=some (.slice Xw x.ws.length xw)/\w'.cell? ⟨p,of1+k*14+13,none⟩=some (.slice Xb x.bs.length xb)/\w'.cell? ⟨p',of2+k*14,none⟩=some (.int .i64 y.op)/\w'.cell? ⟨p',of2+k*14+1,none⟩=some (.slice Yi y.ins.length yi)/\w'.cell? ⟨p',of2+k*14+2,none⟩=some (.int .i64 y.k)/\w'.cell? ⟨p',of2+k*14+3,none⟩=some (.int .i64 y.stride)/\w'.cell? ⟨p',of2+k*14+4,none⟩=some (.int .i64 y.pad)/\w'.cell? ⟨p',of2+k*14+5,none⟩=some (.int .i64 y.out)/\w'.cell? ⟨p',of2+k*14+6,none⟩=some (.int .i64 y.mul)/\w'.cell? ⟨p',of2+k*14+7,none⟩=some (.int .i64 y.shift)/\w'.cell? ⟨p',of2+k*14+8,none⟩=some (.int .i64 y.zero)/\w'.cell? ⟨p',of2+k*14+9,none⟩=some (.int .i64 y.th)/\w'.cell? ⟨p',of2+k*14+10,none⟩=some (.int .i64 y.tw)/\w'.cell? ⟨p',of2+k*14+11,none⟩=some (.int .i64 y.tc)/\w'.cell? ⟨p',of2+k*14+12,none⟩=some (.slice Yw y.ws.length yw)/\w'.cell? ⟨p',of2+k*14+13,none⟩=some (.slice Yb y.bs.length yb)) [(41,?v41),(42,?v42),(43,?v43),(44,?v44),(45,?v45),(46,?v46),(47,?v47),(48,?v48),(49,?v49),(50,?v50),(51,?v51),(8,?v8)] [41,42,43,44,45,46,47,48,49,50,51,8] (by kernel_rfl) (by kernel_rfl) rfl (by kernel_rfl) ⟨b5,b6,g3,s3,Past.refl _,q1,q2,x0,x1,x2,x3,x4,x5,x6,x7,x8,x9,x10,x11,x12,x13,y0,y1,y2,y3,y4,y5,y6,y7,y8,y9,y10,y11,y12,y13⟩ (fun w h=>h) ?all ?fin
      case all =>
       simp only [fillA,Act.put,List.setIfInBounds_toArray,List.set_cons_zero,List.set_cons_succ];iterate 10 (refine owes_cons (fun w hw K hK=>?_) ?_;focus ((have hS:=LH hw);go_split_ands;go_simp;(try go_frame);exact hK _ hS.out))
       refine owes_cons (fun w hw K hK=>?_) ?_
       ·have hS:=LH hw;go_split_ands;go_simp;refine(CN.out _ (by(try go_split_ands);assumption)).mono ?_;rintro e w6 ⟨rfl,gg⟩;refine hK _ ?_;have gp:=Grown.past gg;(exact kKeep)
       iterate 1 (refine owes_cons (fun w hw K hK=>?_) ?_;focus ((have hS:=LH hw);go_split_ands;go_simp;(try go_frame);exact hK _ hS.out))
       exact True.intro
      case fin =>
       rintro w9 ⟨b7,b8,g4,s4,_⟩;simp only [fillA,Act.put,List.setIfInBounds_toArray,List.set_cons_zero,List.set_cons_succ];cases tk with
       | true =>
        have E:Hid (∀ j,j<k+1->a.nodes.getD j default=b.nodes.getD j default):=LH (fun j h=>by
         by_cases c:j=k
         ·rw [c,HA.out,HB.out,HK.out.mp rfl]
         ·exact hx.out j (by omega))
        go_wp2_with fail;go_roundw
        case rel=>exact⟨k+1,by omega,by go_num,E,b7,b8,g4,s4⟩
        case measure=>simp [intOf];omega
       | false =>
        obtain rfl:t=false:=Bool.eq_false_iff.mpr (fun h=>by
         have:=(HE.out.mp (HT.out.mp h).2.1) k l;rw [HA.out,HB.out] at this;have:=HK.out.mpr this;cases this)
        go_wp2_with fail;go_ret;exact⟨rfl,g4⟩
     ·have T:t=true:=HT.out.mpr ⟨H1.out.mp (by trivial),HE.out.mpr (fun j h=>hx.out j (by omega)),H3.out.mp (by trivial)⟩;subst T;go_wp2_with fail;go_ret;exact⟨rfl,g3⟩
end Go.Proofs.YtejllmjkeefloaaGreat
namespace Go.Proofs.YtejllmjkeefloaaGreat
open Go.ChangeShapes Go.WideShapes Go.ChangeAt Go.RowKit
set_option maxRecDepth 20000
set_option linter.unusedVariables false
set_option linter.unusedSimpArgs false
theorem rInts_any (w:World)(v u:Value)(xs ys:List Int)(t:Bool)(hv:IsNums .i64 w v xs)(hu:IsNums .i64 w u ys)(ht:Hid (t=true↔xs=ys)) :
  Calls Tryz.prog 21 #[v,u] w fun e w'=>e=.returned (.bool t)/\Past w w':=by
 go_enter Tryz.func21,Tryz.ntmps21;go_wp2_with (go_at_call 52;refine(ints_any _ _ _ _ _ _ hv hu ht).mono ?_;rintro e w1 ⟨rfl,g1⟩);go_ret;exact⟨rfl,Grown.past g1⟩
set_option maxHeartbeats 4000000 in
theorem rsameI_yes (a:ImgD) (va vb:Value) (W:World) (ha:IsImg W va a) (hb:IsImg W vb a):Calls Tryz.prog 8 #[va,vb] W fun e w'=>e=.returned (.bool true)∧Past W w':=by
 obtain ⟨A1,c1,A2,c2,A3,c3,A4,c4,A5,c5,A6,c6,A7,c7,rfl,hga,hpa,ha0,ha1,ha2⟩:=ha.form
 obtain ⟨B1,d1,B2,d2,B3,d3,B4,d4,B5,d5,B6,d6,B7,d7,rfl,hgb,hpb,hb0,hb1,hb2⟩:=hb.form
 have HA0:=LH ha0
 have HA1:=LH ha1
 have HA2:=LH ha2
 have HB0:=LH hb0
 have HB1:=LH hb1
 have HB2:=LH hb2
 have SG:=LH (fun w (p:Past W w)=>rsame_any a.g a.g _ _ true w (hga.grow p) (hgb.grow p) ⟨fun _=>rfl,fun _=>rfl⟩)
 have SPI:=LH (fun w (p:Past W w)=>rInts_any w _ _ a.pl a.pl true (hpa.grow p) (hpb.grow p) (LH ⟨fun _=>rfl,fun _=>rfl⟩))
 clear ha hb hga hgb hpa hpb ha0 ha1 ha2 hb0 hb1 hb2
 go_enter Tryz.func8,Tryz.ntmps8
 go_upto_region 1 with fail
 obtain ⟨Q,hQ⟩:∃ Q,W.heap.size=Q:=⟨_,rfl⟩
 refine opq (fun w'=>(Bx w' Q #[.slice A1 a.g.ins.length c1,.slice A2 a.g.nodes.length c2,.slice A3 a.g.outs.length c3,.slice A4 a.pl.length c4,.slice A5 a.s0.length c5,.slice A6 a.s1.length c6,.slice A7 a.s2.length c7])∧(Bx w' (Q+1) #[.slice B1 a.g.ins.length d1,.slice B2 a.g.nodes.length d2,.slice B3 a.g.outs.length d3,.slice B4 a.pl.length d4,.slice B5 a.s0.length d5,.slice B6 a.s1.length d6,.slice B7 a.s2.length d7])∧Past W w'∧Q+2≤w'.heap.size) (by
  subst hQ
  exact ⟨by (exact kKeep),by (exact kKeep),by (exact kKeep),by simp⟩) ?_
 rintro w2 ⟨qa2,qb2,p2,s2⟩
 try rw [hQ]
 try simp only [World.size_alloc,hQ]
 go_upto_region 2 with (go_at_call 20;refine (SG.out _ p2).mono ?_;rintro e w3 ⟨rfl,g3⟩)
 have pp3:=Grown.past g3
 have qa3:=box_past pp3 qa2 (by omega)
 have qb3:=box_past pp3 qb2 (by omega)
 have p3:=p2.trans pp3
 have s3:Q+2≤w3.heap.size:=by have:=pp3.2.2.1;omega
 clear qa2 qb2 p2 s2 g3 pp3
 go_upto_region 3 with (go_at_call 21;refine (SPI.out _ p3).mono ?_;rintro e w4 ⟨rfl,pp4⟩)
 have qa4:=box_past pp4 qa3 (by omega)
 have qb4:=box_past pp4 qb3 (by omega)
 have p4:=p3.trans pp4
 have s4:Q+2≤w4.heap.size:=by have:=pp4.2.2.1;omega
 clear qa3 qb3 p3 s3 pp4
 go_wp2_with fail
 go_loopw [7,8] (fun j _ wr=>True∧((j=.int .i64 0∧Past w4 wr)∨(j=.int .i64 1∧Past w4 wr)∨(j=.int .i64 2∧Past w4 wr)∨(j=.int .i64 3∧Past w4 wr))) (fun j _ _=>3-(intOf j).toNat)
 case atStart=>exact ⟨trivial,.inl ⟨rfl,Past.refl _⟩⟩
 case round =>
  obtain ⟨_,H⟩:=hrel
  rcases H with ⟨rfl,hp⟩|⟨rfl,hp⟩|⟨rfl,hp⟩|⟨rfl,hp⟩
  all_goals
   have qa:=box_past hp qa4 (by omega)
   have qb:=box_past hp qb4 (by omega)
   have pr:=p4.trans hp
   have sr:Q+2≤wr.heap.size:=by have:=hp.2.2.1;omega
  ·have SE:=LH (fun w (p:Past wr w)=>Q8.same_any _ _ a.s0 a.s0 w ((HA0.out.grow pr).grow p) ((HB0.out.grow pr).grow p))
   rw [show decide (a.s0=a.s0)=true by simp] at SE
   have ca:wr.cell? ⟨Q,4,none⟩=some (.slice A5 a.s0.length c5):=qa 4
   have cb:wr.cell? ⟨Q+1,4,none⟩=some (.slice B5 a.s0.length d5):=qb 4
   have g0:=Past.refl wr
   go_upto_region 8 with fail
   refine wp_region_fill (fun w'=>w'.cell? ⟨Q,4,none⟩=some (.slice A5 a.s0.length c5)∧w'.cell? ⟨Q+1,4,none⟩=some (.slice B5 a.s0.length d5)∧Past wr w'∧Q+2≤w'.heap.size) [(29,?vt029),(30,?vt030),(31,?vt031),(32,?vt032),(33,?vt033),(34,?vt034),(35,?vt035),(36,?vt036),(37,?vt037),(8,?vt08)] [29,30,31,32,33,34,35,36,37,8] (by kernel_rfl) (by kernel_rfl) rfl (by kernel_rfl) ⟨ca,cb,g0,sr⟩ (fun w h=>h) ?allt0 ?fint0
   case allt0 =>
    simp only [fillA,Act.put,List.setIfInBounds_toArray,List.set_cons_zero,List.set_cons_succ]
    iterate 10 (refine owes_cons (fun w hw K hK=>?_) ?_;focus ((have hS:=LH hw);go_split_ands;go_simp;(try go_frame);first|exact hK _ hS.out|(((go_at_call 12;with_reducible refine (SE.out _ (by assumption)).mono ?_;rintro e w1 ⟨rfl,g1⟩));refine hK _ ?_;(exact kKeep))))
    exact True.intro
   case fint0 =>
    rintro w9 ⟨_,_,g9,_⟩
    simp only [fillA,Act.put,List.setIfInBounds_toArray,List.set_cons_zero,List.set_cons_succ]
    have p9:=hp.trans g9
    clear ca cb g0 qa qb
    go_wp2_with fail
    go_roundw
    case rel=>exact ⟨trivial,.inr (.inl ⟨rfl,p9⟩)⟩
    case measure=>simp [intOf]
  ·have SE:=LH (fun w (p:Past wr w)=>Q8.same_any _ _ a.s1 a.s1 w ((HA1.out.grow pr).grow p) ((HB1.out.grow pr).grow p))
   rw [show decide (a.s1=a.s1)=true by simp] at SE
   have ca:wr.cell? ⟨Q,5,none⟩=some (.slice A6 a.s1.length c6):=qa 5
   have cb:wr.cell? ⟨Q+1,5,none⟩=some (.slice B6 a.s1.length d6):=qb 5
   have g0:=Past.refl wr
   go_upto_region 8 with fail
   refine wp_region_fill (fun w'=>w'.cell? ⟨Q,5,none⟩=some (.slice A6 a.s1.length c6)∧w'.cell? ⟨Q+1,5,none⟩=some (.slice B6 a.s1.length d6)∧Past wr w'∧Q+2≤w'.heap.size) [(29,?vt129),(30,?vt130),(31,?vt131),(32,?vt132),(33,?vt133),(34,?vt134),(35,?vt135),(36,?vt136),(37,?vt137),(8,?vt18)] [29,30,31,32,33,34,35,36,37,8] (by kernel_rfl) (by kernel_rfl) rfl (by kernel_rfl) ⟨ca,cb,g0,sr⟩ (fun w h=>h) ?allt1 ?fint1
   case allt1 =>
    simp only [fillA,Act.put,List.setIfInBounds_toArray,List.set_cons_zero,List.set_cons_succ]
    iterate 10 (refine owes_cons (fun w hw K hK=>?_) ?_;focus ((have hS:=LH hw);go_split_ands;go_simp;(try go_frame);first|exact hK _ hS.out|(((go_at_call 12;with_reducible refine (SE.out _ (by assumption)).mono ?_;rintro e w1 ⟨rfl,g1⟩));refine hK _ ?_;(exact kKeep))))
    exact True.intro
   case fint1 =>
    rintro w9 ⟨_,_,g9,_⟩
    simp only [fillA,Act.put,List.setIfInBounds_toArray,List.set_cons_zero,List.set_cons_succ]
    have p9:=hp.trans g9
    clear ca cb g0 qa qb
    go_wp2_with fail
    go_roundw
    case rel=>exact ⟨trivial,.inr (.inr (.inl ⟨rfl,p9⟩))⟩
    case measure=>simp [intOf]
  ·have SE:=LH (fun w (p:Past wr w)=>Q8.same_any _ _ a.s2 a.s2 w ((HA2.out.grow pr).grow p) ((HB2.out.grow pr).grow p))
   rw [show decide (a.s2=a.s2)=true by simp] at SE
   have ca:wr.cell? ⟨Q,6,none⟩=some (.slice A7 a.s2.length c7):=qa 6
   have cb:wr.cell? ⟨Q+1,6,none⟩=some (.slice B7 a.s2.length d7):=qb 6
   have g0:=Past.refl wr
   go_upto_region 8 with fail
   refine wp_region_fill (fun w'=>w'.cell? ⟨Q,6,none⟩=some (.slice A7 a.s2.length c7)∧w'.cell? ⟨Q+1,6,none⟩=some (.slice B7 a.s2.length d7)∧Past wr w'∧Q+2≤w'.heap.size) [(29,?vt229),(30,?vt230),(31,?vt231),(32,?vt232),(33,?vt233),(34,?vt234),(35,?vt235),(36,?vt236),(37,?vt237),(8,?vt28)] [29,30,31,32,33,34,35,36,37,8] (by kernel_rfl) (by kernel_rfl) rfl (by kernel_rfl) ⟨ca,cb,g0,sr⟩ (fun w h=>h) ?allt2 ?fint2
   case allt2 =>
    simp only [fillA,Act.put,List.setIfInBounds_toArray,List.set_cons_zero,List.set_cons_succ]
    iterate 10 (refine owes_cons (fun w hw K hK=>?_) ?_;focus ((have hS:=LH hw);go_split_ands;go_simp;(try go_frame);first|exact hK _ hS.out|(((go_at_call 12;with_reducible refine (SE.out _ (by assumption)).mono ?_;rintro e w1 ⟨rfl,g1⟩));refine hK _ ?_;(exact kKeep))))
    exact True.intro
   case fint2 =>
    rintro w9 ⟨_,_,g9,_⟩
    simp only [fillA,Act.put,List.setIfInBounds_toArray,List.set_cons_zero,List.set_cons_succ]
    have p9:=hp.trans g9
    clear ca cb g0 qa qb
    go_wp2_with fail
    go_roundw
    case rel=>exact ⟨trivial,.inr (.inr (.inr ⟨rfl,p9⟩))⟩
    case measure=>simp [intOf]
  ·go_wp2_with fail
   go_ret
   exact ⟨rfl,pr⟩
end Go.Proofs.YtejllmjkeefloaaGreat
namespace Go.Proofs.YtejllmjkeefloaaGreat
open Go.ChangeShapes Go.WideShapes Go.ChangeAt Go.RowKit
set_option maxRecDepth 20000
set_option linter.unusedVariables false
set_option maxHeartbeats 4000000 in
theorem many_1 (n:NodeD)(vi vw vb:Value)(x:ValD)(W:World)(k1:1<=n.k)(k2:n.k<=3)(c1:1<=x.c)(c2:x.c<=8)(o1:1<=n.out)(o2:n.out<=8)(d1:(n.op==1)=true) :
  Calls Tryz.prog 110 #[.agg (nC n vi vw vb),.agg #[.int .i64 x.h,.int .i64 x.w,.int .i64 x.c]] W fun e w'=>e=.returned (.tuple #[.int .i64 (n.k*n.k*x.c*n.out),.int .i64 n.out])/\Grown W w':=by
 obtain⟨m1,m2⟩:=mul_bd k1 k2 k1 k2;obtain⟨m3,m4⟩:=mul_bd m1 m2 c1 c2;obtain⟨m5,m6⟩:=mul_bd m3 m4 o1 o2;have e0:IntKind.i64.wrap (n.k*n.k)=n.k*n.k:=IntWalk.i64_in _ (by omega);have e1:IntKind.i64.wrap (n.k*n.k*x.c)=n.k*n.k*x.c:=IntWalk.i64_in _ (by omega);have e2:IntKind.i64.wrap (n.k*n.k*x.c*n.out)=n.k*n.k*x.c*n.out:=IntWalk.i64_in _ (by omega);clear m1 m2 m3 m4 m5 m6;go_enter Tryz.func110,Tryz.ntmps110;go_upto_region 1 with fail;refine opq (fun w'=>(Bx w' W.heap.size (nC n vi vw vb))/\(Bx w' (W.heap.size+1) #[.int .i64 x.h,.int .i64 x.w,.int .i64 x.c])/\Grown W w') kLaid ?_;rintro W1 ⟨b1,b2,g1⟩;go_upto_region 3 with fail;go_quiet (fail);go_wp2_with fail;go_ret2;exact⟨rfl,by(exact kKeep)⟩
set_option maxHeartbeats 4000000 in
theorem many_2 (n:NodeD)(vi vw vb:Value)(x:ValD)(W:World)(k1:1<=n.k)(k2:n.k<=3)(c1:1<=x.c)(c2:x.c<=8)(d1:(n.op==1)=false)(d2:(n.op==2)=true) :
  Calls Tryz.prog 110 #[.agg (nC n vi vw vb),.agg #[.int .i64 x.h,.int .i64 x.w,.int .i64 x.c]] W fun e w'=>e=.returned (.tuple #[.int .i64 (n.k*n.k*x.c),.int .i64 x.c])/\Grown W w':=by
 obtain⟨m1,m2⟩:=mul_bd k1 k2 k1 k2;obtain⟨m3,m4⟩:=mul_bd m1 m2 c1 c2;have e0:IntKind.i64.wrap (n.k*n.k)=n.k*n.k:=IntWalk.i64_in _ (by omega);have e1:IntKind.i64.wrap (n.k*n.k*x.c)=n.k*n.k*x.c:=IntWalk.i64_in _ (by omega);clear m1 m2 m3 m4;go_enter Tryz.func110,Tryz.ntmps110;go_upto_region 1 with fail;refine opq (fun w'=>(Bx w' W.heap.size (nC n vi vw vb))/\(Bx w' (W.heap.size+1) #[.int .i64 x.h,.int .i64 x.w,.int .i64 x.c])/\Grown W w') kLaid ?_;rintro W1 ⟨b1,b2,g1⟩;go_upto_region 5 with fail;go_quiet (fail);go_wp2_with fail;go_ret2;exact⟨rfl,by(exact kKeep)⟩
set_option maxHeartbeats 4000000 in
theorem many_3 (n:NodeD)(vi vw vb:Value)(x:ValD)(W:World)(q:Int)(hq:Hid (q=sizeI x.h x.w x.c))(q1:1<=q)(q2:q<=2048)(o1:1<=n.out)(o2:n.out<=8)(d1:(n.op==1)=false)(d2:(n.op==2)=false)(d3:(n.op==3)=true) :
  Calls Tryz.prog 110 #[.agg (nC n vi vw vb),.agg #[.int .i64 x.h,.int .i64 x.w,.int .i64 x.c]] W fun e w'=>e=.returned (.tuple #[.int .i64 (q*n.out),.int .i64 n.out])/\Grown W w':=by
 obtain⟨m5,m6⟩:=mul_bd q1 q2 o1 o2;have e2:IntKind.i64.wrap (q*n.out)=q*n.out:=IntWalk.i64_in _ (by omega);clear m5 m6;go_enter Tryz.func110,Tryz.ntmps110;go_upto_region 1 with fail;refine opq (fun w'=>(Bx w' W.heap.size (nC n vi vw vb))/\(Bx w' (W.heap.size+1) #[.int .i64 x.h,.int .i64 x.w,.int .i64 x.c])/\Grown W w'/\W.heap.size+2<=w'.heap.size) kLaid ?_;rintro W1 ⟨b1,b2,g1,z1⟩;go_upto_region 7 with fail;go_region_held3 (fun w'=>(Bx w' W.heap.size (nC n vi vw vb))/\(Bx w' (W.heap.size+1) #[.int .i64 x.h,.int .i64 x.w,.int .i64 x.c])/\Grown W w'/\W.heap.size+2<=w'.heap.size) (exact kKeep) (first|(go_at_call 49;with_reducible refine(rsize_any x.h x.w x.c q _ hq).mono ?_;rintro e w1 ⟨rfl,g⟩))
 all_goals
  go_wp2_with fail;go_split_ands;go_ret2;exact⟨rfl,by(exact kKeep)⟩
set_option maxHeartbeats 4000000 in
theorem many_12 (n:NodeD)(vi vw vb:Value)(x:ValD)(W:World)(d1:(n.op==1)=false)(d2:(n.op==2)=false)(d3:(n.op==3)=false)(d12:(n.op==12)=true) :
  Calls Tryz.prog 110 #[.agg (nC n vi vw vb),.agg #[.int .i64 x.h,.int .i64 x.w,.int .i64 x.c]] W fun e w'=>e=.returned (.tuple #[.int .i64 256,.int .i64 0])/\Grown W w':=by
 go_enter Tryz.func110,Tryz.ntmps110;go_upto_region 1 with fail;refine opq (fun w'=>(Bx w' W.heap.size (nC n vi vw vb))/\(Bx w' (W.heap.size+1) #[.int .i64 x.h,.int .i64 x.w,.int .i64 x.c])/\Grown W w') kLaid ?_;rintro W1 ⟨b1,b2,g1⟩;go_wp2_with fail;go_ret2;exact⟨rfl,by(exact kKeep)⟩
set_option maxHeartbeats 4000000 in
theorem many_0 (n:NodeD)(vi vw vb:Value)(x:ValD)(W:World)(d1:(n.op==1)=false)(d2:(n.op==2)=false)(d3:(n.op==3)=false)(d12:(n.op==12)=false) :
  Calls Tryz.prog 110 #[.agg (nC n vi vw vb),.agg #[.int .i64 x.h,.int .i64 x.w,.int .i64 x.c]] W fun e w'=>e=.returned (.tuple #[.int .i64 0,.int .i64 0])/\Grown W w':=by
 go_enter Tryz.func110,Tryz.ntmps110;go_upto_region 1 with fail;refine opq (fun w'=>(Bx w' W.heap.size (nC n vi vw vb))/\(Bx w' (W.heap.size+1) #[.int .i64 x.h,.int .i64 x.w,.int .i64 x.c])/\Grown W w') kLaid ?_;rintro W1 ⟨b1,b2,g1⟩;go_wp2_with fail;go_ret2;exact⟨rfl,by(exact kKeep)⟩
end Go.Proofs.YtejllmjkeefloaaGreat
namespace Go.Proofs.YtejllmjkeefloaaGreat
open Go.ChangeShapes Go.WideShapes Go.ChangeAt Go.RowKit
set_option maxRecDepth 20000
set_option linter.unusedVariables false
set_option linter.unusedSimpArgs false
theorem QRd.lt {w:World}{B P cap:Nat}{A:Option Addr}{b:List Int}{s:Rd}(h:QRd w B P A cap b s):P<w.heap.size:=by
 obtain⟨k,bad,h,_⟩:=h;exact h.2.2.2.2.2.2
theorem QRd.bytes {w:World}{B P cap:Nat}{A:Option Addr}{b:List Int}{s:Rd}(h:QRd w B P A cap b s):bytesP s.rest:=by
 obtain⟨k,bad,h,rfl⟩:=h;unfold leftOf;cases bad
 ·exact fun c hc=>h.2.2.1.bytesP c (List.mem_of_mem_drop hc)
 ·exact fun c hc=>by simp at hc
theorem QRd.keep {w w':World}{B P Q cap:Nat}{A:Option Addr}{b:List Int}{s:Rd}(h:QRd w B P A cap b s)(g:Keep Q w w')(hQ:P<Q):QRd w' B P A cap b s:=by
 obtain⟨k,bad,h,e⟩:=h;exact⟨k,bad,h.keep g hQ,e⟩
theorem QRd.past {w w':World}{B P cap:Nat}{A:Option Addr}{b:List Int}{s:Rd}(h:QRd w B P A cap b s)(g:Past w w'):QRd w' B P A cap b s:=by
 obtain⟨k,bad,h,e⟩:=h;exact⟨k,bad,h.past g,e⟩
theorem QRd.alloc {w:World}{B P cap:Nat}{A:Option Addr}{b:List Int}{s:Rd}(h:QRd w B P A cap b s)(x:Obj):QRd (w.alloc x) B P A cap b s:=h.past ((Past.refl w).alloc x)
theorem QRd.set {w:World}{B P Q o cap:Nat}{A:Option Addr}{b:List Int}{s:Rd}{u:Value}(h:QRd w B P A cap b s)(hQ:P<Q):QRd (w.setCell ⟨Q,o,none⟩ u) B P A cap b s:=h.keep ((Keep.refl Q w).set _ _) hQ
theorem QRd.grownBy {w w':World}{B P cap:Nat}{A:Option Addr}{b:List Int}{s:Rd}{row:Option Nat}(h:QRd w B P A cap b s)(g:w.grownBy w' row)(hr:∀ k,row=some k->P<k):QRd w' B P A cap b s:=by
 obtain⟨k,bad,⟨h1,h2,⟨c1,c2,c3,c4⟩,h4,h5,h6,h7⟩,e⟩:=h;have key:∀ i,i<=P->w'.heap[i]? = w.heap[i]?:=fun i hi=>g.block i (by omega) (fun e=>by have:=hr i e.symm;omega)
 refine⟨k,bad,⟨fun o=>(World.cell?_of_block (a:=⟨P,o,none⟩) (key P (Nat.le_refl _))).trans (h1 o),fun o=>(World.frozen?_of_block (a:=⟨P,o,none⟩) (key P (Nat.le_refl _))).trans (h2 o),⟨c1,c2,c3,fun hp=>?_⟩,h4,h5,h6,Nat.lt_of_lt_of_le h7 g.size⟩,e⟩;obtain⟨bb,off,e,hb,hc⟩:=c4 hp;exact⟨bb,off,e,hb,fun i hi=>(World.cell?_of_block (a:=⟨bb,off+i,none⟩) (key bb (by omega))).trans (hc i hi)⟩
theorem qnum_rd (wd:Nat)(h1:1<=wd)(h4:wd<=4)(B P cap:Nat)(A:Option Addr)(b:List Int)(s:Rd)(W:World)(hr:QRd W B P A cap b s) :
  Calls Tryz.prog 38 #[.pointer (some ⟨P,0,none⟩),.int .i64 (wd:Int)] W (QPost (.int .i64 (numR wd s).1) B P A cap b (numR wd s).2 W):=by
 obtain⟨k,bad,h,rfl⟩:=hr;exact qnum_any wd h1 h4 B P A cap b k bad W h
theorem wrap8_lo {x:Int}(h0:0<=x)(h1:x<128):IntKind.i8.wrap x=x:=by simp only [IntKind.wrap,IntKind.bits,IntKind.signed];simp;split <;> omega
theorem wrap8_hi {x:Int}(h0:128<=x)(h1:x<256):IntKind.i8.wrap x=x-256:=by simp only [IntKind.wrap,IntKind.bits,IntKind.signed];simp;split <;> omega
theorem wrap32_lo {x:Int}(h0:0<=x)(h1:x<2147483648):IntKind.i32.wrap x=x:=by simp only [IntKind.wrap,IntKind.bits,IntKind.signed];simp;split <;> omega
theorem wrap32_hi {x:Int}(h0:2147483648<=x)(h1:x<4294967296):IntKind.i32.wrap x=x-4294967296:=by simp only [IntKind.wrap,IntKind.bits,IntKind.signed];simp;split <;> omega
theorem qsmall_rd (B P cap:Nat)(A:Option Addr)(b:List Int)(s:Rd)(W:World)(hr:QRd W B P A cap b s) :
  Calls Tryz.prog 40 #[.pointer (some ⟨P,0,none⟩),.int .i64 1] W (QPost (.int .i64 (smallR s).1) B P A cap b (smallR s).2 W):=by
 have C:=LH (qnum_rd 1 (by omega) (by omega) B P cap A b s W hr);have bd:=numR_bd 1 s hr.bytes;obtain⟨x,hx⟩:∃ x,numR 1 s=x:=⟨_,rfl⟩
 have e:smallR s=(IntKind.i8.wrap x.1,x.2):=by unfold smallR;rw [hx]
 rw [e];rw [hx] at C bd;clear hr e hx;obtain⟨x,t⟩:=x;simp only [Int.reducePow] at bd C ⊢;obtain⟨b0,b1⟩:=bd;by_cases h:128<=x
 ·rw [wrap8_hi h b1];go_enter Tryz.func40,Tryz.ntmps40;go_wp2_with fail;refine C.out.mono ?_;rintro e w1 ⟨rfl,r1,k1⟩;have R:=LH r1;have K:=LH k1;clear r1 k1 C;go_wp2_with fail;go_ret;exact⟨rfl,R.out,K.out⟩
 ·rw [wrap8_lo b0 (by omega)];go_enter Tryz.func40,Tryz.ntmps40;go_wp2_with fail;refine C.out.mono ?_;rintro e w1 ⟨rfl,r1,k1⟩;have R:=LH r1;have K:=LH k1;clear r1 k1 C;go_wp2_with fail;go_ret;exact⟨rfl,R.out,K.out⟩
theorem qwide_rd (B P cap:Nat)(A:Option Addr)(b:List Int)(s:Rd)(W:World)(hr:QRd W B P A cap b s) :
  Calls Tryz.prog 40 #[.pointer (some ⟨P,0,none⟩),.int .i64 4] W (QPost (.int .i64 (wideR s).1) B P A cap b (wideR s).2 W):=by
 have C:=LH (qnum_rd 4 (by omega) (by omega) B P cap A b s W hr);have bd:=numR_bd 4 s hr.bytes;obtain⟨x,hx⟩:∃ x,numR 4 s=x:=⟨_,rfl⟩
 have e:wideR s=(IntKind.i32.wrap x.1,x.2):=by unfold wideR;rw [hx]
 rw [e];rw [hx] at C bd;clear hr e hx;obtain⟨x,t⟩:=x;simp only [Int.reducePow] at bd C ⊢;obtain⟨b0,b1⟩:=bd;by_cases h:2147483648<=x
 ·rw [wrap32_hi h b1];go_enter Tryz.func40,Tryz.ntmps40;go_wp2_with fail;refine C.out.mono ?_;rintro e w1 ⟨rfl,r1,k1⟩;have R:=LH r1;have K:=LH k1;clear r1 k1 C;go_wp2_with fail;go_ret;exact⟨rfl,R.out,K.out⟩
 ·rw [wrap32_lo b0 (by omega)];go_enter Tryz.func40,Tryz.ntmps40;go_wp2_with fail;refine C.out.mono ?_;rintro e w1 ⟨rfl,r1,k1⟩;have R:=LH r1;have K:=LH k1;clear r1 k1 C;go_wp2_with fail;go_ret;exact⟨rfl,R.out,K.out⟩
set_option maxHeartbeats 1000000 in
theorem qshape_rd (B P cap:Nat) (A:Option Addr) (b:List Int) (s:Rd) (W:World) (hr:QRd W B P A cap b s):Calls Tryz.prog 39 #[.pointer (some ⟨P,0,none⟩)] W (QPost (.agg #[.int .i64 (shapeR s).1.1,.int .i64 (shapeR s).1.2.1,.int .i64 (shapeR s).1.2.2]) B P A cap b (shapeR s).2 W):=by
 have C:=LH (fun s w (k:QRd w B P A cap b s)=>qnum_rd 1 (by omega) (by omega) B P cap A b s w k)
 obtain ⟨x,hx⟩:∃ x,numR 1 s=x:=⟨_,rfl⟩
 obtain ⟨y,hy⟩:∃ y,numR 1 x.2=y:=⟨_,rfl⟩
 obtain ⟨z,hz⟩:∃ z,numR 1 y.2=z:=⟨_,rfl⟩
 have e:shapeR s=((x.1,y.1,z.1),z.2):=by simp only [shapeR,hx,hy,hz]
 rw [e]
 have hPW:P<W.heap.size:=hr.lt
 have HR:=LH hr
 have HX:=LH hx
 have HY:=LH hy
 have HZ:=LH hz
 clear hr e hx hy hz
 go_enter Tryz.func39,Tryz.ntmps39
 go_upto_region 1 with fail
 obtain ⟨Q,hQ⟩:∃ Q,W.heap.size=Q:=⟨_,rfl⟩
 refine opq (fun w'=>(Bx w' Q #[.int .i64 0,.int .i64 0,.int .i64 0])∧(Fr w' Q)∧QRd w' B P A cap b s∧Keep P W w'∧Q+1≤w'.heap.size) (by subst hQ;exact ⟨box_new rfl,free_alloc (free_new (Nat.le_refl _)),HR.out.alloc _,Keep.of_past ((Past.refl W).alloc _),by simp⟩) ?_
 rintro w0 ⟨b0,f0,r0,k0,s0⟩
 try rw [hQ]
 have R0:=LH r0
 have K0:=LH k0
 clear r0 k0
 go_wp2_with fail
 refine (C.out _ _ R0.out).mono ?_
 rintro e w1 ⟨rfl,r1,k1⟩
 rw [HX.out] at r1
 simp only [HX.out]
 have b1:=box_keep k1 b0 (by omega) (by omega)
 have f1:=free_keep k1 f0 (by omega) (by omega)
 have s1:Q+1≤w1.heap.size:=by have:=k1.2.2.1;omega
 have R1:=LH r1
 have K1:=LH (K0.out.trans k1)
 clear b0 f0 s0 r1 k1 R0 K0
 go_wp2_with fail
 refine (C.out _ _ R1.out).mono ?_
 rintro e w2 ⟨rfl,r2,k2⟩
 rw [HY.out] at r2
 simp only [HY.out]
 have b2:=box_keep k2 b1 (by omega) (by omega)
 have f2:=free_keep k2 f1 (by omega) (by omega)
 have s2:Q+1≤w2.heap.size:=by have:=k2.2.2.1;omega
 have R2:=LH r2
 have K2:=LH (K1.out.trans k2)
 clear b1 f1 s1 r2 k2 R1 K1
 go_wp2_with fail
 refine (C.out _ _ R2.out).mono ?_
 rintro e w3 ⟨rfl,r3,k3⟩
 rw [HZ.out] at r3
 simp only [HZ.out]
 have b3:=box_keep k3 b2 (by omega) (by omega)
 have f3:=free_keep k3 f2 (by omega) (by omega)
 have R3:=LH r3
 have K3:=LH (K2.out.trans k3)
 clear b2 f2 s2 r3 k3 R2 K2 C
 go_wp2_with fail
 have b4:=box_set3 (y0:=.int .i64 x.1) (y1:=.int .i64 y.1) (y2:=.int .i64 z.1) b3
 have R4:=LH (((R3.out.set (Q:=Q) (o:=0) (u:=.int .i64 x.1) (by omega)).set (Q:=Q) (o:=1) (u:=.int .i64 y.1) (by omega)).set (Q:=Q) (o:=2) (u:=.int .i64 z.1) (by omega))
 have K4:=LH (((K3.out.setNew (Q:=Q) (o:=0) (u:=.int .i64 x.1) (by omega)).setNew (Q:=Q) (o:=1) (u:=.int .i64 y.1) (by omega)).setNew (Q:=Q) (o:=2) (u:=.int .i64 z.1) (by omega))
 clear b3 f3 R3 K3
 generalize (((w3.setCell { block:=Q,off:=0 } (Value.int IntKind.i64 x.1)).setCell { block:=Q,off:=1 } (Value.int IntKind.i64 y.1)).setCell { block:=Q,off:=2 } (Value.int IntKind.i64 z.1))=w4 at *
 exact bodyPost_ret (v:=.agg #[.int .i64 x.1,.int .i64 y.1,.int .i64 z.1]) (by simp [results,Tryz.results39,go_sem,b4]) rfl ⟨rfl,R4.out,K4.out⟩
end Go.Proofs.YtejllmjkeefloaaGreat
