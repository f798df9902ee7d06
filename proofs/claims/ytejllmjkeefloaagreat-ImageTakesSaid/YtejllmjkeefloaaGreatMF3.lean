/- The reference's Take of an image. -/
import Derived.Deep.DeepCutAuto
import Derived.Test.YtejllmjkeefloaaGreatMC4
import Derived.Test.YtejllmjkeefloaaGreatMF2
import Derived.Test.YtejllmjkeefloaaGreatMT8
namespace Go.Proofs.YtejllmjkeefloaaGreat
open Go.ChangeShapes Go.WideShapes Go.ChangeAt Go.RowKit
set_option maxRecDepth 20000
set_option linter.unusedVariables false
set_option linter.unusedSimpArgs false
theorem graph_yes {b:List Int}(T:TookP b):gR ⟨b,false⟩=((graphR ⟨b,false⟩).1,⟨(graphR ⟨b,false⟩).2.rest,false⟩):=by
 unfold gR partR graphT;rw [if_pos T]
theorem graph_no {b:List Int}(T:¬ TookP b):(gR ⟨b,false⟩).2.short=true:=by
 unfold gR partR graphT;rw [if_neg T]
theorem mR_keep:∀ s:Rd,s.short=true->(mR s).2.short=true:=fun s h=>partR_short h
theorem sR_keep:∀ s:Rd,s.short=true->(sR s).2.short=true:=fun s h=>partR_short h
theorem imgR_2 (s:Rd):(imgR s).2=(sR (sR (sR (pR s).2).2).2).2:=by unfold imgR;rfl
theorem short_p {s:Rd}(h:(pR s).2.short=true):(imgR s).2.short=true:=by
 rw [imgR_2];exact sR_keep _ (sR_keep _ (sR_keep _ h))
theorem short_g {s:Rd}(h:(gR s).2.short=true):(imgR s).2.short=true:=short_p (by unfold pR;exact manyR_short mR_keep _ _ _ h)
theorem places_no {n:Nat}{acc:List Int}{b:List Int}(hn:0<n)(h:b.length<3):(manyR mR n acc ⟨b,false⟩).2.short=true:=by
 obtain⟨m,rfl⟩:∃ m,n=m+1:=⟨n-1,by omega⟩
 show(manyR mR m (acc++[(mR ⟨b,false⟩).1]) (mR ⟨b,false⟩).2).2.short=true;refine manyR_short mR_keep _ _ _ ?_;rw [mR_no h]
theorem places_next {n:Nat} {acc b:List Int} {k:Nat} (hk:k+3<=b.length) (hn:0<n):manyR mR n acc ⟨b.drop k,false⟩=manyR mR (n-1) (acc++[(b.getD k 0*256+b.getD (k+1) 0)*256+b.getD (k+2) 0]) ⟨b.drop (k+3),false⟩:=by
 obtain ⟨m,rfl⟩:∃ m,n=m+1:=⟨n-1,by omega⟩
 show manyR mR m (acc++[(mR ⟨b.drop k,false⟩).1]) (mR ⟨b.drop k,false⟩).2=_;have e:(b.drop k).take 3=[b.getD k 0,b.getD (k+1) 0,b.getD (k+2) 0]:=by
  refine List.ext_getElem (by simp;omega) (fun j h1 h2=>?_);have hj:j<3:=by simpa using h2
  rw [List.getElem_take,List.getElem_drop];rcases (show j=0\/j=1\/j=2 by omega) with rfl|rfl|rfl
  ·simp [List.getD,show k<b.length by omega]
  ·simp [List.getD,show k+1<b.length by omega]
  ·simp [List.getD,show k+2<b.length by omega]
 rw [mR_yes (x:=b.getD k 0) (y:=b.getD (k+1) 0) (z:=b.getD (k+2) 0) (by simp;omega) e];simp only [List.drop_drop,Nat.add_sub_cancel];rw [show 256*(256*b.getD k 0+b.getD (k+1) 0)+b.getD (k+2) 0=(b.getD k 0*256+b.getD (k+1) 0)*256+b.getD (k+2) 0 by omega]
theorem nums_dropF {k:IntKind} {w:World} {b off len cap:Nat} {xs:List Int} (m:Nat) (hm:m<=xs.length) (h:IsNums k w (.slice (some ⟨b,off,none⟩) len cap) xs):IsNums k w (.slice (some ⟨b,off+m,none⟩) (len-m) (cap-m)) (xs.drop m):=by
 obtain ⟨A',cap',e,h2,h3,h4,h5,h6⟩:=h;simp only [Value.slice.injEq] at e;obtain ⟨rfl,rfl,rfl⟩:=e;refine ⟨_,cap-m,by rw [List.length_drop],by rw [List.length_drop];omega,by omega,(fun h=>by cases h),fun x hx=>h5 x (List.mem_of_mem_drop hx),fun hp=>?_⟩;rw [List.length_drop] at hp;obtain ⟨b',off',e,hb,hc⟩:=h6 (by omega);simp only [Option.some.injEq,Addr.mk.injEq,and_true] at e;obtain ⟨rfl,rfl⟩:=e;refine ⟨b,off+m,rfl,hb,fun i hi=>?_⟩;rw [List.length_drop] at hi;rw [Nat.add_assoc,hc (m+i) (by omega)];simp [List.getD]
theorem sR_some {b:List Int}{l:List (List Int)}{r:List Int}(h:Q8.takeD b=some (l,r)):sR ⟨b,false⟩=(l,⟨r,false⟩):=by unfold sR partR;rw [h]
theorem sR_none {b:List Int}(h:Q8.takeD b=none):(sR ⟨b,false⟩).2.short=true:=by unfold sR partR;rw [h]
theorem took_put8 {b:List Int}(hb:bytesP b){l:List (List Int)}{r:List Int}(h:Q8.takeD b=some (l,r)):Q8.putE l=0/\r=b.drop (Q8.takeN b)/\Q8.takeN b<=b.length:=by
 obtain⟨k1,k2,k3⟩:=Q8.takeD_back hb h;obtain⟨t1,t2,t3⟩:=Q8.take_some h;have e:b.length=(Q8.putB l).length+r.length:=by
  conv=>lhs;rw [k3]
  rw [List.length_append]
 refine⟨(Q8.put_ok k2 (fun c hc=>(k1 c hc).2)).2,?_,by omega⟩;rw [t2,show b.length-r.length=(Q8.putB l).length by omega];conv=>rhs;rw [k3]
 exact List.drop_left.symm
def StrmPost (ol:List Int) (L n:Nat) (w:World) (e:Ending) (w':World):Prop :=
 (∃ A c tn l,e=.returned (.tuple #[.slice A (List.length l) c,.int .i64 ((tn:Nat):Int),.int .i64 0])∧Q8.IsCmds w' (.slice A l.length c) l∧Hid (n+tn≤L∧sR ⟨ol.drop n,false⟩=(l,⟨ol.drop (n+tn),false⟩)∧Q8.putE l=0)∧Past w w') ∨
 (∃ A c,e=.returned (.tuple #[.slice A 0 c,.int .i64 0,.int .i64 2])∧Hid ((sR ⟨ol.drop n,false⟩).2.short=true)∧Past w w')
theorem strm_any {w:World}{L n:Nat}{ol:List Int}{v:Value}(hb:bytesP ol)(hL:ol.length=L)(hn:n<=L)(h100:L<=100000)(hv:IsNums .u8 w v (ol.drop n)) :
  Calls Tryz.prog 18 #[v] w (StrmPost ol L n w):=by
 have hd:(ol.drop n).length=L-n:=by rw [List.length_drop,hL]
 refine(Q8.rTake_any _ (ol.drop n) w hv (by rw [hd];omega)).mono ?_;intro e w' H;unfold Q8.RTakePost at H;obtain⟨u,he,ic,pp⟩:=H;rcases hT:Q8.takeD (ol.drop n) with _|⟨l,r⟩
 ·obtain⟨t1,t2,t3⟩:=Q8.take_none hT;rw [t2,t3] at he;rw [t1] at ic;obtain⟨A,c,rfl,_,_,_⟩:=ic.form;exact .inr ⟨A,c,he,LH (sR_none hT),pp⟩
 ·obtain⟨t1,t2,t3⟩:=Q8.take_some hT;obtain⟨k1,k2,k3⟩:=took_put8 (fun c hc=>hb c (List.mem_of_mem_drop hc)) hT;rw [t3] at he;rw [t1] at ic;obtain⟨A,c,rfl,_,_,_⟩:=ic.form;obtain⟨tn,htn⟩:∃ x,Q8.takeN (ol.drop n)=x:=⟨_,rfl⟩
  rw [htn] at he k2 k3;refine .inl ⟨A,c,tn,l,he,ic,LH ⟨by rw [hd] at k3;omega,?_,k1⟩,pp⟩;rw [sR_some hT,k2,List.drop_drop]
theorem strm_call {w:World}{ob oo co L n:Nat}{ol:List Int}(hb:bytesP ol)(hL:ol.length=L)(hn:n<=L)(h100:L<=100000)(h:IsNums .u8 w (.slice (some ⟨ob,oo,none⟩) L co) ol) :
  Calls Tryz.prog 18 #[.slice (some ⟨ob,oo+n,none⟩) (L-n) (co-n)] w (StrmPost ol L n w) :=
 strm_any hb hL hn h100 (nums_dropF n (by rw [hL];exact hn) h)
theorem strm_call0 {w:World}{ob oo co L n:Nat}{ol:List Int}(hb:bytesP ol)(hL:ol.length=L)(hn:n<=L)(h100:L<=100000)(hc:L<=co)(h0:co-n=0) :
  Calls Tryz.prog 18 #[.slice (some ⟨ob,oo,none⟩) (L-n) 0] w (StrmPost ol L n w):=by
 have e:ol.drop n=[]:=List.drop_eq_nil_of_le (by omega);refine strm_any hb hL hn h100 ?_;rw [e,show L-n=0 by omega];exact⟨_,0,rfl,Nat.le_refl _,Nat.zero_le _,(fun h=>by cases h),by simp,by simp⟩
theorem box_lowD {w w':World} {row:Option Nat} {k:Nat} {cs:Array Value} (g:w.grownBy w' row) (hk:k<w.heap.size) (hn:some k≠row) (h:(Bx w k cs)):(Bx w' k cs):=fun o=>(World.cell?_of_block (a:=⟨k,o,none⟩) (g.block k hk hn)).trans (h o)
theorem free_lowD {w w':World} {row:Option Nat} {k:Nat} (g:w.grownBy w' row) (hk:k<w.heap.size) (hn:some k≠row) (h:(Fr w k)):(Fr w' k):=fun o=>(World.frozen?_of_block (a:=⟨k,o,none⟩) (g.block k hk hn)).trans (h o)
theorem infoF:∃ i,Tryz.prog.info? 3=some i/\i.zero=some (.int .i64 0)/\i.size=1/\i.bytes=8:=by
 have h:(Tryz.prog.info? 3).map (fun i=>(i.zero,i.size,i.bytes))=some (some (.int .i64 0),1,8):=by kernel_rfl
 obtain⟨i,hi,hb⟩:=Option.map_eq_some_iff.1 h;simp only [Prod.mk.injEq] at hb;exact⟨i,hi,hb⟩
theorem one_new (w:World)(y:Value)(t:TypeId)(j:Nat)(u:Value)(hu:[y][j]? = some u):(w.alloc (.cells #[y] t)).cell? ((⟨w.heap.size,0,none⟩:Addr).add j)=some u:=by
 rw [add_plain];have hj:j=0:=by
  by_cases c:j=0
  ·exact c
  ·rw [List.getElem?_eq_none (by simp;omega)] at hu;cases hu
 subst hj;rw [box_new rfl,<- hu];rfl
theorem own_set7 {w:World} {M n:Nat} {v u:Value} {acc:List Int} {y:Int} (h:w.ownsRow (M+1) 3 1 v (acc.length+1) (acc.map (Value.int .i64)++[.int .i64 y])) (hn:acc.length=n):OwnI .i64 3 (w.setCell ⟨M,3,none⟩ u) (M+1) v (acc++[y]):=by
 unfold OwnI;have:=ownsRow_setCell_below h (a:=⟨M,3,none⟩) (show M<M+1 by omega) u;simpa using this
theorem byte_at {l:List Int}(h:bytesP l)(k:Nat):0<=l.getD k 0/\l.getD k 0<=255:=by
 by_cases c:k<l.length
 ·have e:l.getD k 0=l[k]:=by simp [List.getD,c]
  have:=h _ (List.getElem_mem c);rw [e];omega
 ·have e:l.getD k 0=0:=by simp [List.getD,c]
  rw [e];omega
set_option maxHeartbeats 16000000 in
theorem rtakeI_any (ns:List Nat) (v:Value) (W:World) (h:IsNums .u8 W v (Q7.ints ns)) (hb:Q7.Bytes ns) (hl:ns.length≤100000):Calls Tryz.prog 7 #[v] W (TakeI ns W):=by
 have OP:=LH (fun w (p:Past W w)=>Q7.ropen_any ns v w (h.grow p) hb (by omega))
 unfold Q7.OpenPost at OP
 obtain ⟨Av,cv,rfl,_,_,_,_,_⟩:=h
 rw [Q7.ints_len] at OP ⊢
 have OB:=LH (opened_bytes hb)
 have OL:=LH (opened_len ns)
 obtain ⟨ol,hol⟩:∃ x,openedI ns=x:=⟨_,rfl⟩
 have HOL:=LH hol
 rw [hol] at OB OL
 rw [show Q7.ints (ns.take (ns.length-4))=ol from hol] at OP
 clear hol
 obtain ⟨Q,hQ⟩:∃ Q,W.heap.size=Q:=⟨_,rfl⟩
 go_enter Tryz.func7,Tryz.ntmps7
 go_upto_region 1 with fail
 refine opq (fun w'=>(Bx w' Q #[.slice none 0 0,.slice none 0 0,.slice none 0 0,.slice none 0 0,.slice none 0 0,.slice none 0 0,.slice none 0 0])∧(Fr w' Q)∧Past W w'∧Q+1≤w'.heap.size) (by
  subst hQ
  exact ⟨by (exact kKeep),by (exact kKeep),by (exact kKeep),by simp⟩) ?_
 rintro w0 ⟨q0,f0,p0,z0⟩
 try rw [hQ]
 go_wp2_with fail
 refine (OP.out _ p0).mono ?_
 rintro e w1 H
 rcases H with ⟨o1,o2,ov,rfl,on,pp1⟩|⟨hT,rfl,pp1⟩
 rotate_left
 ·have q1:=box_past pp1 q0 (by omega)
  have f1:=free_past pp1 f0 (by omega)
  have p1:=p0.trans pp1
  have NT:Hid (¬ TookI ns):=LH (fun f=>hT f.1)
  clear q0 f0 p0 z0 pp1 OP hT
  go_wp2_with fail
  have q9:=box_set7 q1 (y0:=.slice none 0 0) (y1:=.slice none 0 0) (y2:=.slice none 0 0) (y3:=.slice none 0 0) (y4:=.slice none 0 0) (y5:=.slice none 0 0) (y6:=.slice none 0 0)
  have p9:=past7 (B:=Q) (y0:=.slice none 0 0) (y1:=.slice none 0 0) (y2:=.slice none 0 0) (y3:=.slice none 0 0) (y4:=.slice none 0 0) (y5:=.slice none 0 0) (y6:=.slice none 0 0) p1 (by omega)
  clear q1
  generalize (((((((w1.setCell ⟨Q,0,none⟩ (.slice none 0 0)).setCell ⟨Q,1,none⟩ (.slice none 0 0)).setCell ⟨Q,2,none⟩ (.slice none 0 0)).setCell ⟨Q,3,none⟩ (.slice none 0 0)).setCell ⟨Q,4,none⟩ (.slice none 0 0)).setCell ⟨Q,5,none⟩ (.slice none 0 0)).setCell ⟨Q,6,none⟩ (.slice none 0 0))=w9 at *
  exact bodyPost_ret (v:=.tuple #[.agg #[.slice none 0 0,.slice none 0 0,.slice none 0 0,.slice none 0 0,.slice none 0 0,.slice none 0 0,.slice none 0 0],.int .i64 2]) (by simp [results,Tryz.results7,go_sem,q9]) rfl (.inr ⟨NT.out,rfl,p9⟩)
 have q1:=box_past pp1 q0 (by omega)
 have f1:=free_past pp1 f0 (by omega)
 have p1:=p0.trans pp1
 have z1:Q+1≤w1.heap.size:=by have:=pp1.2.2.1;omega
 have ON:=LH on
 have TT:=LH (And.intro o1 o2)
 obtain ⟨Ao,co,rfl,_,cm,cn,_,k5⟩:=on
 have HK5:=LH k5
 have HCN:=LH cn
 obtain ⟨L,hL⟩:∃ n,ol.length=n:=⟨_,rfl⟩
 have HLO:=LH hL
 rw [hL]
 rw [hL] at ON
 have lb:L≤100000:=by have:=OL.out;omega
 have TK:=LH (fun w (p:Past w1 w)=>qtake_any _ ol w (ON.out.grow p) (by rw [hL];exact lb))
 unfold TakePost at TK
 rw [hL] at TK
 clear q0 f0 p0 z0 pp1 OP o1 o2 k5 hL cn cm
 go_wp2_with fail
 refine (TK.out _ (Past.refl _)).mono ?_
 rintro e w2 H
 rcases H with ⟨hT,gv,rfl,ig,pp2⟩|⟨hT,rfl,pp2⟩
 rotate_left
 ·have q2:=box_past pp2 q1 (by omega)
  have f2:=free_past pp2 f1 (by omega)
  have p2:=p1.trans pp2
  have NT:Hid (¬ TookI ns):=LH (fun f=>by have:=f.2.1;rw [HOL.out,short_g (graph_no hT)] at this;cases this)
  have z2:Q+1≤w2.heap.size:=by have:=pp2.2.2.1;omega
  clear q1 f1 p1 z1 pp2 TK hT
  go_upto_region 5 with fail
  refine opq (fun w'=>(Bx w' Q #[.slice none 0 0,.slice none 0 0,.slice none 0 0,.slice none 0 0,.slice none 0 0,.slice none 0 0,.slice none 0 0])∧(Fr w' Q)∧Past W w') (by
   exact ⟨by (exact kKeep),by (exact kKeep),by (exact kKeep)⟩) ?_
  rintro w3 ⟨q3,f3,p3⟩
  clear q2 f2 p2 z2
  go_wp2_with fail
  have q9:=box_set7 q3 (y0:=.slice none 0 0) (y1:=.slice none 0 0) (y2:=.slice none 0 0) (y3:=.slice none 0 0) (y4:=.slice none 0 0) (y5:=.slice none 0 0) (y6:=.slice none 0 0)
  have p9:=past7 (B:=Q) (y0:=.slice none 0 0) (y1:=.slice none 0 0) (y2:=.slice none 0 0) (y3:=.slice none 0 0) (y4:=.slice none 0 0) (y5:=.slice none 0 0) (y6:=.slice none 0 0) p3 (by omega)
  clear q3
  generalize (((((((w3.setCell ⟨Q,0,none⟩ (.slice none 0 0)).setCell ⟨Q,1,none⟩ (.slice none 0 0)).setCell ⟨Q,2,none⟩ (.slice none 0 0)).setCell ⟨Q,3,none⟩ (.slice none 0 0)).setCell ⟨Q,4,none⟩ (.slice none 0 0)).setCell ⟨Q,5,none⟩ (.slice none 0 0)).setCell ⟨Q,6,none⟩ (.slice none 0 0))=w9 at *
  exact bodyPost_ret (v:=.tuple #[.agg #[.slice none 0 0,.slice none 0 0,.slice none 0 0,.slice none 0 0,.slice none 0 0,.slice none 0 0,.slice none 0 0],.int .i64 2]) (by simp [results,Tryz.results7,go_sem,q9]) rfl (.inr ⟨NT.out,rfl,p9⟩)
 have q2:=box_past pp2 q1 (by omega)
 have f2:=free_past pp2 f1 (by omega)
 have p2:=p1.trans pp2
 have z2:Q+1≤w2.heap.size:=by have:=pp2.2.2.1;omega
 have GY:=graph_yes hT
 have PT:=put_took OB.out hT
 have VE:=LH hT.2
 clear q1 f1 p1 z1 TK
 obtain ⟨gr,hgr⟩:∃ x,graphR ⟨ol,false⟩=x:=⟨_,rfl⟩
 rw [hgr] at GY PT ig
 have VE2:Hid (valuesE gr.1=0):=LH (by rw [← hgr];exact VE.out)
 try rw [hgr]
 clear VE hT hgr
 obtain ⟨g,r0⟩:=gr
 simp only at GY PT ig VE2
 have CU:Hid (Cut g):=LH (by have:=gR_cut ⟨ol,false⟩ OB.out;rw [GY] at this;exact this)
 have GYh:=LH GY
 have MF:=LH (makes_facts VE2.out).1
 have BG:=LH (begins_ok (values_ok VE2.out).1).1
 have HR:Hid (r0.rest.length≤L∧ol.drop (L-r0.rest.length)=r0.rest):=LH (by
  have e1:ol.length=(graphB g).length+r0.rest.length:=by
   conv=>lhs;rw [PT.1]
   rw [List.length_append]
  have e2:=HLO.out
  refine ⟨by omega,?_⟩
  rw [show L-r0.rest.length=(graphB g).length by omega]
  conv=>lhs;rw [PT.1]
  exact List.drop_left)
 have HPOS:Hid (0<L):=LH (by
  have e1:ol.length=(graphB g).length+r0.rest.length:=by
   conv=>lhs;rw [PT.1]
   rw [List.length_append]
  have e2:=HLO.out
  have:=graphB_len g
  omega)
 clear GY PT
 have IG:=LH ig
 obtain ⟨iv,nv,ov2,rfl,_,_,_⟩:=id ig
 obtain ⟨A1,c1,A2,c2,A3,c3,rfl,rfl,rfl⟩:=graph_form ig
 clear ig
 obtain ⟨LI,hLI⟩:∃ n,g.ins.length=n:=⟨_,rfl⟩
 obtain ⟨LN,hLN⟩:∃ n,g.nodes.length=n:=⟨_,rfl⟩
 obtain ⟨LO,hLO⟩:∃ n,g.outs.length=n:=⟨_,rfl⟩
 have HLL:=LH (And.intro hLI (And.intro hLN hLO))
 have b1:LI≤4:=by have:=BG.out.2.1;omega
 have b2:LN≤12:=by have:=BG.out.2.2.1;omega
 rw [hLI,hLN,hLO] at IG ⊢
 clear hLI hLN hLO
 obtain ⟨n0,hn0⟩:∃ n,L-r0.rest.length=n:=⟨_,rfl⟩
 have HN0:=LH hn0
 have en:(L:Int)-(r0.rest.length:Int)=(n0:Int):=by have:=HR.out.1;omega
 have n0L:n0≤L:=by omega
 rw [en]
 clear hn0 en
 obtain ⟨N,hN⟩:∃ n,LI+LN=n:=⟨_,rfl⟩
 obtain ⟨Gb,hG⟩:∃ n,w2.heap.size=n:=⟨_,rfl⟩
 go_upto_region 5 with fail
 refine opq (fun w'=>(Bx w' Q #[.slice none 0 0,.slice none 0 0,.slice none 0 0,.slice none 0 0,.slice none 0 0,.slice none 0 0,.slice none 0 0])∧(Fr w' Q)∧(Bx w' Gb #[.slice A1 LI c1,.slice A2 LN c2,.slice A3 LO c3])∧Past W w'∧Past w2 w'∧Gb+1≤w'.heap.size) (by
  subst hG
  exact ⟨by (exact kKeep),by (exact kKeep),by (exact kKeep),by (exact kKeep),by (exact kKeep),by simp⟩) ?_
 rintro w3 ⟨q3,f3,bg3,p3,pp3,z3⟩
 try rw [hG]
 have hQG:Q+1≤Gb:=by omega
 clear q2 f2 p2 z2 hG
 obtain ⟨M,hM⟩:∃ n,w3.heap.size=n:=⟨_,rfl⟩
 go_upto_region 8 with fail
 refine opq (fun w'=>(Bx w' M #[.slice A1 LI c1,.slice A2 LN c2,.slice A3 LO c3,.slice none 0 0,.slice none 0 0,.slice none 0 0,.slice none 0 0])∧(Fr w' M)∧Past w3 w'∧M+1≤w'.heap.size) (by
  subst hM
  exact ⟨by (exact kKeep),by (exact kKeep),by (exact kKeep),by simp⟩) ?_
 rintro w4 ⟨bm4,fm4,p4,z4⟩
 try rw [hM]
 have hGM:Gb+1≤M:=by omega
 have hM3:w3.heap.size≤M:=by omega
 obtain ⟨w5,rfl⟩:∃ w5,w5=w3:=⟨_,rfl⟩
 have ON5:=LH ((ON.out.grow pp2).grow pp3)
 have IG5:=LH (IG.out.grow pp3)
 clear ON IG HK5
 obtain ⟨ob,oo,rfl,hob5,hbc⟩:∃ b off,Ao=some ⟨b,off,none⟩∧b<w5.heap.size∧∀ i,i<L→w5.cell? ⟨b,off+i,none⟩=some (.int .u8 (ol.getD i 0)):=by
  obtain ⟨A',cap',e',_,_,_,_,k6⟩:=ON5.out
  simp only [Value.slice.injEq] at e'
  obtain ⟨rfl,e2,rfl⟩:=e'
  rw [← e2] at k6
  exact k6 HPOS.out
 have HBC:=LH hbc
 clear hbc
 have lco:L≤co∧co≤9223372036854775807:=by
  obtain ⟨_,_,e,k1,k2,_⟩:=ON5.out
  simp only [Value.slice.injEq,true_and] at e
  obtain ⟨e1,e2⟩:=e
  unfold maxLen at k2
  omega
 obtain ⟨lco1,lco2⟩:=lco
 obtain ⟨i0,hi0,hz0,hz1,hz2⟩:=infoF
 have I1:=LH hi0
 have I2:=LH hz0
 have I3:=LH hz1
 have I4:=LH hz2
 clear hi0 hz0 hz1 hz2
 have P0:Hid (pR ⟨ol,false⟩=manyR mR (N-0) [] ⟨ol.drop n0,false⟩):=LH (by
  unfold pR
  rw [GYh.out]
  simp only
  have e1:=MF.out
  have e3:=HLL.out
  rw [e1,Nat.sub_zero,show g.ins.length+g.nodes.length=N by omega,← HN0.out,HR.out.2])
 go_wp2_with fail
 go_loopw [6,8] (fun x6 x8 wr=>∃ k n:Nat,∃ (v:Value) (acc:List Int),k≤N∧n≤L∧x8=.int .i64 k∧x6=.int .i64 n∧Hid (OwnI .i64 3 wr (M+1) v acc)∧Hid (pR ⟨ol,false⟩=manyR mR (N-k) acc ⟨ol.drop n,false⟩)∧(Bx wr M #[.slice A1 LI c1,.slice A2 LN c2,.slice A3 LO c3,v,.slice none 0 0,.slice none 0 0,.slice none 0 0])∧(Fr wr M)∧Past w5 wr∧M+1≤wr.heap.size∧Hid (acc.length=k∧∀ x∈acc,0≤x∧x<16777216)) (fun _ x8 _=>N-(intOf x8).toNat)
 case atStart=>exact ⟨0,n0,.slice none 0 0,[],by omega,n0L,rfl,rfl,LH ⟨rfl,.inl ⟨rfl,rfl⟩⟩,P0,bm4,fm4,p4,z4,LH ⟨rfl,by simp⟩⟩
 case round =>
  obtain ⟨k,n,v,acc,hk,hn,rfl,rfl,OW,PR,bm,fm,pr,sm,HAL⟩:=hrel
  clear bm4 fm4 p4 z4 P0
  have bg:=box_past pr bg3 (by omega)
  have i1:(0:Int)≤(k:Int):=by omega
  have i2:(0:Int)≤(n:Int):=by omega
  by_cases ck:k<N
  ·have d1:decide ((k:Int)<(LI:Int)+(LN:Int))=true:=by simp;omega
   by_cases cn:n+3≤L
   ·have d2:decide ((L:Int)<(n:Int)+3)=false:=by simp;omega
    obtain ⟨X,hX⟩:∃ x,ol.getD n 0=x:=⟨_,rfl⟩
    obtain ⟨Y1,hY1⟩:∃ x,ol.getD (n+1) 0=x:=⟨_,rfl⟩
    obtain ⟨Z1,hZ1⟩:∃ x,ol.getD (n+2) 0=x:=⟨_,rfl⟩
    have bX:=byte_at OB.out n
    have bY:=byte_at OB.out (n+1)
    have bZ:=byte_at OB.out (n+2)
    have C0:=HBC.out n (by omega)
    have C1:=HBC.out (n+1) (by omega)
    have C2:=HBC.out (n+2) (by omega)
    rw [hX] at bX C0
    rw [hY1] at bY C1
    rw [hZ1] at bZ C2
    have hob:ob<wr.heap.size:=Nat.lt_of_lt_of_le hob5 pr.2.2.1
    have kc0:=(pr.cell (p:=⟨ob,oo+n,none⟩) hob5).trans C0
    have kc1:=(pr.cell (p:=⟨ob,oo+(n+1),none⟩) hob5).trans C1
    have kc2:=(pr.cell (p:=⟨ob,oo+(n+2),none⟩) hob5).trans C2
    replace C0:=LH C0
    replace C1:=LH C1
    replace C2:=LH C2
    obtain ⟨Y,hY⟩:∃ y,(X*256+Y1)*256+Z1=y:=⟨_,rfl⟩
    have HYY:Hid (Y=(ol.getD n 0*256+ol.getD (n+1) 0)*256+ol.getD (n+2) 0):=LH (by rw [hX,hY1,hZ1,hY])
    have wX:IntKind.i64.wrap X=X:=by rw [IntKind.wrap_i64];omega
    have wY:IntKind.i64.wrap Y1=Y1:=by rw [IntKind.wrap_i64];omega
    have wZ:IntKind.i64.wrap Z1=Z1:=by rw [IntKind.wrap_i64];omega
    have v0:IntKind.i64.wrap (X*256)=X*256:=by rw [IntKind.wrap_i64];omega
    have v1:IntKind.i64.wrap (X*256+Y1)=X*256+Y1:=by rw [IntKind.wrap_i64];omega
    have v2:IntKind.i64.wrap ((X*256+Y1)*256)=(X*256+Y1)*256:=by rw [IntKind.wrap_i64];omega
    have v3:IntKind.i64.wrap ((X*256+Y1)*256+Z1)=Y:=by rw [IntKind.wrap_i64];omega
    have v4:IntKind.i64.wrap ((n:Int)+1)=(n:Int)+1:=by rw [IntKind.wrap_i64];omega
    have v5:IntKind.i64.wrap ((n:Int)+2)=(n:Int)+2:=by rw [IntKind.wrap_i64];omega
    clear hX hY1 hZ1
    have YR:Hid (∀ x∈acc++[Y],0≤x∧x<16777216):=LH (fun x hx=>by
     rcases List.mem_append.1 hx with h'|h'
     ·exact HAL.out.2 x h'
     ·rw [List.mem_singleton.1 h',← hY];omega)
    have HY:=LH hY
    clear hY
    have tn1:((n:Int)+1).toNat=n+1:=by omega
    have tn2:((n:Int)+2).toNat=n+2:=by omega
    have j0:(n:Int)<(L:Int):=by omega
    have j1:(n:Int)+1<(L:Int):=by omega
    have j2:(n:Int)+2<(L:Int):=by omega
    go_upto_region 13 with fail
    refine wp_region_lastn 26 _ rfl (by kernel_rfl) (by kernel_rfl) ?zm
    case zm =>
     simp only [List.take_succ_cons,List.take_zero]
     refine any_mixd [23,24] (fun w'=>(Bx w' M #[.slice A1 LI c1,.slice A2 LN c2,.slice A3 LO c3,v,.slice none 0 0,.slice none 0 0,.slice none 0 0])∧w'.cell? ⟨ob,oo+n,none⟩=some (.int .u8 X)∧w'.cell? ⟨ob,oo+(n+1),none⟩=some (.int .u8 Y1)∧w'.cell? ⟨ob,oo+(n+2),none⟩=some (.int .u8 Z1)) [(51,?vm51),(52,?vm52),(53,?vm53),(54,?vm54),(55,?vm55),(56,?vm56),(57,?vm57),(58,?vm58),(59,?vm59),(60,?vm60),(61,?vm61),(62,?vm62),(63,?vm63),(64,?vm64),(65,?vm65),(66,?vm66),(67,?vm67),(68,?vm68),(69,?vm69),(70,?vm70),(71,?vm71),(72,?vm72),(73,?vm73),(76,?vm76)] [51,52,53,54,55,56,57,58,59,60,61,62,63,64,65,66,67,68,69,70,71,72,73,76] (by kernel_rfl) rfl (by kernel_rfl) ⟨bm,kc0,kc1,kc2⟩ (fun w h=>h) ?allm ?finm
     case allm =>
      simp only [fillA,Act.put,List.setIfInBounds_toArray,List.set_cons_zero,List.set_cons_succ]
      iterate 26 (first|refine forced rfl ?_|(refine reads (fun w hw K hK=>?_) ?_;focus ((have hS:=LH hw);go_split_ands;go_simp;(try go_frame);exact hK)))
      exact True.intro
     case finm =>
      simp only [fillA,Act.put,List.setIfInBounds_toArray,List.set_cons_zero,List.set_cons_succ]
      refine mix_at 74 rfl rfl (fun K hK=>?_)
      simp only [Act.put,List.setIfInBounds_toArray,List.set_cons_zero,List.set_cons_succ] at hK
      go_simp
      have x4:=box_old (x:=.cells #[.int .i64 Y] 3) bm (show M<wr.heap.size by exact sm)
      have c04:=cell_alloc (x:=.cells #[.int .i64 Y] 3) kc0 (show ob<wr.heap.size by exact hob)
      have c14:=cell_alloc (x:=.cells #[.int .i64 Y] 3) kc1 (show ob<wr.heap.size by exact hob)
      have c24:=cell_alloc (x:=.cells #[.int .i64 Y] 3) kc2 (show ob<wr.heap.size by exact hob)
      refine hK _ _ ⟨x4,c04,c14,c24⟩ ?_
      clear hK
      (try go_frame)
      refine mix_at 75 rfl rfl (fun K hK=>?_)
      simp only [Act.put,List.setIfInBounds_toArray,List.set_cons_zero,List.set_cons_succ] at hK
      refine wp_append_own _ (.tmp 52) (.tmp 74) 26 rfl (M+1) 3 i0 _ 1 8 Tryz.underlying26 I1.out I2.out I3.out I4.out rfl (by decide) v _ _ rfl (World.ownsRow.alloc OW.out _) ⟨wr.heap.size,0,none⟩ 1 1 [.int .i64 Y] rfl rfl (fun j u hu=>one_new wr _ 3 j u hu) (by simp [Value.oneCell']) ?c4 ?c5 ?c6 ?_
      case c4=>have:=HAL.out.1;unfold maxLen;omega
      case c5=>have:=HAL.out.1;omega
      case c6=>simp;omega
      intro v7 w7 hown7 hgrow _
      have HL7:=LH (fun k hk=>(World.ownsRow.lt OW.out k hk).1)
      obtain ⟨A7,c7,rfl,_,_⟩:=own_slice' hown7
      have g7:Past w5 w7:=((pr.alloc _).drew).grownBy hgrow (fun q hq=>by have:=HL7.out q hq;omega)
      have n2:some M≠v.ownBlock:=fun e=>by have:=HL7.out M e.symm;omega
      have x7:=box_lowD hgrow (show M<(wr.alloc (.cells #[.int .i64 Y] 3)).heap.size by simp;omega) n2 (box_drew x4)
      have f7:=free_lowD hgrow (show M<(wr.alloc (.cells #[.int .i64 Y] 3)).heap.size by simp;omega) n2 (free_drew (free_alloc fm))
      have s7:M+1≤w7.heap.size:=by
       have:=hgrow.size
       have h2:(wr.alloc (.cells #[.int .i64 Y] 3)).drew.heap.size=wr.heap.size+1:=by show (wr.alloc (.cells #[.int .i64 Y] 3)).heap.size=_;simp
       omega
      have e0:=(g7.cell (p:=⟨ob,oo+n,none⟩) hob5).trans C0.out
      have e1:=(g7.cell (p:=⟨ob,oo+(n+1),none⟩) hob5).trans C1.out
      have e2:=(g7.cell (p:=⟨ob,oo+(n+2),none⟩) hob5).trans C2.out
      have O7:=LH hown7
      refine hK _ _ ⟨x7,e0,e1,e2⟩ ?_
      clear hK hown7 hgrow x4 c04 c14 c24 bm fm sm HL7 n2
      (try go_frame)
      refine mix_nil ?_
      show Oper.wp _ _ _ _ _ _
      go_simp
      go_wp2_with fail
      go_roundw
      case rel=>exact ⟨k+1,n+3,_,acc++[Y],by omega,by omega,by go_num,by go_num,LH (own_set7 O7.out HAL.out.1),LH (by rw [PR.out,places_next (by rw [HLO.out];omega) (by omega),← HYY.out,Nat.sub_sub]),box_at x7 3 (by simp) _,free_set f7,g7.setCell (by simp only;omega) _,size_set s7,LH ⟨by rw [List.length_append,HAL.out.1];rfl,YR.out⟩⟩
      case measure=>simp [intOf];omega
   ·have d2:decide ((L:Int)<(n:Int)+3)=true:=by simp;omega
    have q6:=box_past pr q3 (by omega)
    have f6:=free_past pr f3 (by omega)
    have p6:=p3.trans pr
    have NT:Hid (¬ TookI ns):=LH (fun f=>by
     have:=f.2.1
     rw [HOL.out,short_p (by rw [PR.out];exact places_no (by omega) (by rw [List.length_drop,HLO.out];omega))] at this
     cases this)
    clear bm fm
    go_wp2_with fail
    have q9:=box_set7 q6 (y0:=.slice none 0 0) (y1:=.slice none 0 0) (y2:=.slice none 0 0) (y3:=.slice none 0 0) (y4:=.slice none 0 0) (y5:=.slice none 0 0) (y6:=.slice none 0 0)
    have p9:=past7 (B:=Q) (y0:=.slice none 0 0) (y1:=.slice none 0 0) (y2:=.slice none 0 0) (y3:=.slice none 0 0) (y4:=.slice none 0 0) (y5:=.slice none 0 0) (y6:=.slice none 0 0) p6 (by omega)
    clear q6
    generalize (((((((wr.setCell ⟨Q,0,none⟩ (.slice none 0 0)).setCell ⟨Q,1,none⟩ (.slice none 0 0)).setCell ⟨Q,2,none⟩ (.slice none 0 0)).setCell ⟨Q,3,none⟩ (.slice none 0 0)).setCell ⟨Q,4,none⟩ (.slice none 0 0)).setCell ⟨Q,5,none⟩ (.slice none 0 0)).setCell ⟨Q,6,none⟩ (.slice none 0 0))=w9 at *
    exact bodyPost_ret (v:=.tuple #[.agg #[.slice none 0 0,.slice none 0 0,.slice none 0 0,.slice none 0 0,.slice none 0 0,.slice none 0 0,.slice none 0 0],.int .i64 2]) (by simp [results,Tryz.results7,go_sem,q9]) rfl (.inr ⟨NT.out,rfl,p9⟩)
  ·obtain rfl:k=N:=by omega
   have d1:decide ((k:Int)<(LI:Int)+(LN:Int))=false:=by simp;omega
   obtain ⟨A4,c4,ev,_,_⟩:=own_slice' OW.out
   rw [HAL.out.1] at ev
   subst ev
   have NP0:Hid (IsNums .i64 wr (.slice A4 k c4) acc):=LH (nums_of_ownI (t:=3) OW.out (fun x hx=>by
    have:=HAL.out.2 x hx
    simp [Lit.wf,IntKind.min,IntKind.max,IntKind.bits,IntKind.signed]
    omega))
   have PE:Hid (pR ⟨ol,false⟩=(acc,⟨ol.drop n,false⟩)):=LH (by rw [PR.out,Nat.sub_self];rfl)
   clear PR OW
   obtain ⟨n1,rfl⟩:∃ n1,n1=n:=⟨_,rfl⟩
   go_wp2_with fail
   obtain ⟨w6,rfl⟩:∃ w6,w6=wr:=⟨_,rfl⟩
   have ZZ:=LH (And.intro hQ (And.intro hQG (And.intro hGM (And.intro hM3 (And.intro z3 lb)))))
   clear hN d1 hk ck b1 b2 n0L hM hQ hQG hGM hM3 z3 lb hl hob5 lco2
   go_loopw [6,9,10,11,12] (fun x6 x9 _ _ _ wr=>∃ n:Nat,n≤L∧x6=.int .i64 n∧Past w5 wr∧(Fr wr M)∧M+1≤wr.heap.size∧Hid (IsNums .i64 wr (.slice A4 k c4) acc)∧((x9=.int .i64 0∧(Bx wr M #[.slice A1 LI c1,.slice A2 LN c2,.slice A3 LO c3,.slice A4 k c4,.slice none 0 0,.slice none 0 0,.slice none 0 0])∧n=n1)∨(x9=.int .i64 1∧∃ (l0:List (List Int)) (A5:Option Addr) (c5:Nat),(Bx wr M #[.slice A1 LI c1,.slice A2 LN c2,.slice A3 LO c3,.slice A4 k c4,.slice A5 l0.length c5,.slice none 0 0,.slice none 0 0])∧Hid (Q8.IsCmds wr (.slice A5 l0.length c5) l0)∧Hid (sR ⟨ol.drop n1,false⟩=(l0,⟨ol.drop n,false⟩)∧Q8.putE l0=0))∨(x9=.int .i64 2∧∃ (l0:List (List Int)) (A5:Option Addr) (c5:Nat) (l1:List (List Int)) (A6:Option Addr) (c6:Nat),∃ (m1:Nat),(Bx wr M #[.slice A1 LI c1,.slice A2 LN c2,.slice A3 LO c3,.slice A4 k c4,.slice A5 l0.length c5,.slice A6 l1.length c6,.slice none 0 0])∧Hid (Q8.IsCmds wr (.slice A5 l0.length c5) l0)∧Hid (Q8.IsCmds wr (.slice A6 l1.length c6) l1)∧Hid (sR ⟨ol.drop n1,false⟩=(l0,⟨ol.drop m1,false⟩)∧Q8.putE l0=0∧sR ⟨ol.drop m1,false⟩=(l1,⟨ol.drop n,false⟩)∧Q8.putE l1=0))∨(x9=.int .i64 3∧∃ (l0:List (List Int)) (A5:Option Addr) (c5:Nat) (l1:List (List Int)) (A6:Option Addr) (c6:Nat) (l2:List (List Int)) (A7:Option Addr) (c7:Nat),∃ (m1:Nat) (m2:Nat),(Bx wr M #[.slice A1 LI c1,.slice A2 LN c2,.slice A3 LO c3,.slice A4 k c4,.slice A5 l0.length c5,.slice A6 l1.length c6,.slice A7 l2.length c7])∧Hid (Q8.IsCmds wr (.slice A5 l0.length c5) l0)∧Hid (Q8.IsCmds wr (.slice A6 l1.length c6) l1)∧Hid (Q8.IsCmds wr (.slice A7 l2.length c7) l2)∧Hid (sR ⟨ol.drop n1,false⟩=(l0,⟨ol.drop m1,false⟩)∧Q8.putE l0=0∧sR ⟨ol.drop m1,false⟩=(l1,⟨ol.drop m2,false⟩)∧Q8.putE l1=0∧sR ⟨ol.drop m2,false⟩=(l2,⟨ol.drop n,false⟩)∧Q8.putE l2=0)))) (fun _ x9 _ _ _ _=>3-(intOf x9).toNat)
   case atStart=>exact ⟨n1,hn,rfl,pr,fm,sm,NP0,.inl ⟨rfl,bm,rfl⟩⟩
   case round =>
    clear pr bm fm sm NP0
    obtain ⟨n,hn,rfl,pr,fm,sm,NP,H⟩:=hrel
    rcases H with ⟨rfl,bm,rfl⟩|⟨rfl,l0,A5,c5,bm,K0,SS⟩|⟨rfl,l0,A5,c5,l1,A6,c6,m1,bm,K0,K1,SS⟩|⟨rfl,l0,A5,c5,l1,A6,c6,l2,A7,c7,m1,m2,bm,K0,K1,K2,SS⟩
    ·have LC:=LH lco1
     have sl1:(0:Int)≤(n:Int):=by omega
     have sl2:(n:Int)≤(L:Int):=by omega
     by_cases hc:n=co
     ·obtain rfl:=hc
      have RT0:=LH (strm_call0 (w:=wr) (ob:=ob) (oo:=oo) (co:=n) (n:=n) OB.out HLO.out hn (by have:=ZZ.out;omega) LC.out (Nat.sub_self n))
      have RT1:=LH (show Calls Tryz.prog 18 #[.slice (some ⟨ob,oo,none⟩) 0 0] wr (StrmPost ol L n wr) by have h:=RT0.out;rwa [show L-n=0 by have:=LC.out;omega] at h)
      clear lco1
      go_wp2_with fail
      first|(with_reducible refine RT0.out.mono ?_)|(with_reducible refine RT1.out.mono ?_)
      clear RT0 RT1
      intro e w9 H
      unfold StrmPost at H
      rcases H with ⟨Au,cu,tn,l,rfl,ic,SF,pp⟩|⟨Au,cu,rfl,SN,pp⟩
      rotate_left
      ·have p9a:=pr.trans pp
       have q6:=box_past p9a q3 (by have:=ZZ.out;omega)
       have f6:=free_past p9a f3 (by have:=ZZ.out;omega)
       have p6:=p3.trans p9a
       have NT:Hid (¬ TookI ns):=LH (fun f=>by
        have:=f.2.1
        rw [HOL.out,imgR_2,PE.out] at this
        simp only at this
        rw [sR_keep _ (sR_keep _ SN.out)] at this
        cases this)
       clear bm fm
       go_wp2_with fail
       have q9:=box_set7 q6 (y0:=.slice none 0 0) (y1:=.slice none 0 0) (y2:=.slice none 0 0) (y3:=.slice none 0 0) (y4:=.slice none 0 0) (y5:=.slice none 0 0) (y6:=.slice none 0 0)
       have p9:=past7 (B:=Q) (y0:=.slice none 0 0) (y1:=.slice none 0 0) (y2:=.slice none 0 0) (y3:=.slice none 0 0) (y4:=.slice none 0 0) (y5:=.slice none 0 0) (y6:=.slice none 0 0) p6 (by have:=ZZ.out;omega)
       clear q6
       generalize (((((((w9.setCell ⟨Q,0,none⟩ (.slice none 0 0)).setCell ⟨Q,1,none⟩ (.slice none 0 0)).setCell ⟨Q,2,none⟩ (.slice none 0 0)).setCell ⟨Q,3,none⟩ (.slice none 0 0)).setCell ⟨Q,4,none⟩ (.slice none 0 0)).setCell ⟨Q,5,none⟩ (.slice none 0 0)).setCell ⟨Q,6,none⟩ (.slice none 0 0))=w8 at *
       exact bodyPost_ret (v:=.tuple #[.agg #[.slice none 0 0,.slice none 0 0,.slice none 0 0,.slice none 0 0,.slice none 0 0,.slice none 0 0,.slice none 0 0],.int .i64 2]) (by simp [results,Tryz.results7,go_sem,q9]) rfl (.inr ⟨NT.out,rfl,p9⟩)
      ·have ntL:n+tn≤L:=SF.out.1
       have wnt:IntKind.i64.wrap ((n:Int)+(tn:Int))=(n:Int)+(tn:Int):=by
        have:=ZZ.out
        rw [IntKind.wrap_i64]
        omega
       have IC9:=LH ic
       clear ic
       have bm9:=box_past pp bm (by omega)
       have fm9:=free_past pp fm (by omega)
       have p9a:=pr.trans pp
       have sm9:M+1≤w9.heap.size:=by have:=pp.2.2.1;omega
       have NP9:=LH (NP.out.grow pp)
       clear bm fm sm NP pr
       go_wp2_with fail
       have NI:NoInt w9 M:=noInt7 bm9
       have SV:Save M w9 (w9.setCell ⟨M,4,none⟩ (.slice Au l.length cu)):=(Save.refl M w9).set 4 _
       go_roundw
       case rel=>exact ⟨n+tn,ntL,by go_num,p9a.setCell (by have:=ZZ.out;simp only;omega) _,free_set fm9,size_set sm9,LH (nums_save NP9.out NI SV),.inr (.inl ⟨rfl,l,Au,cu,box_at bm9 4 (by simp) _,LH (cmds_save IC9.out NI SV),LH ⟨SF.out.2.1,SF.out.2.2⟩⟩)⟩
       case measure=>simp [intOf]
     ·have RT:=LH (strm_call (n:=n) OB.out HLO.out hn (by have:=ZZ.out;omega) (ON5.out.grow pr))
      have hc':¬ co=n:=fun e=>hc e.symm
      go_wp2_with fail
      with_reducible refine RT.out.mono ?_
      clear RT hc hc'
      intro e w9 H
      unfold StrmPost at H
      rcases H with ⟨Au,cu,tn,l,rfl,ic,SF,pp⟩|⟨Au,cu,rfl,SN,pp⟩
      rotate_left
      ·have p9a:=pr.trans pp
       have q6:=box_past p9a q3 (by have:=ZZ.out;omega)
       have f6:=free_past p9a f3 (by have:=ZZ.out;omega)
       have p6:=p3.trans p9a
       have NT:Hid (¬ TookI ns):=LH (fun f=>by
        have:=f.2.1
        rw [HOL.out,imgR_2,PE.out] at this
        simp only at this
        rw [sR_keep _ (sR_keep _ SN.out)] at this
        cases this)
       clear bm fm
       go_wp2_with fail
       have q9:=box_set7 q6 (y0:=.slice none 0 0) (y1:=.slice none 0 0) (y2:=.slice none 0 0) (y3:=.slice none 0 0) (y4:=.slice none 0 0) (y5:=.slice none 0 0) (y6:=.slice none 0 0)
       have p9:=past7 (B:=Q) (y0:=.slice none 0 0) (y1:=.slice none 0 0) (y2:=.slice none 0 0) (y3:=.slice none 0 0) (y4:=.slice none 0 0) (y5:=.slice none 0 0) (y6:=.slice none 0 0) p6 (by have:=ZZ.out;omega)
       clear q6
       generalize (((((((w9.setCell ⟨Q,0,none⟩ (.slice none 0 0)).setCell ⟨Q,1,none⟩ (.slice none 0 0)).setCell ⟨Q,2,none⟩ (.slice none 0 0)).setCell ⟨Q,3,none⟩ (.slice none 0 0)).setCell ⟨Q,4,none⟩ (.slice none 0 0)).setCell ⟨Q,5,none⟩ (.slice none 0 0)).setCell ⟨Q,6,none⟩ (.slice none 0 0))=w8 at *
       exact bodyPost_ret (v:=.tuple #[.agg #[.slice none 0 0,.slice none 0 0,.slice none 0 0,.slice none 0 0,.slice none 0 0,.slice none 0 0,.slice none 0 0],.int .i64 2]) (by simp [results,Tryz.results7,go_sem,q9]) rfl (.inr ⟨NT.out,rfl,p9⟩)
      ·have ntL:n+tn≤L:=SF.out.1
       have wnt:IntKind.i64.wrap ((n:Int)+(tn:Int))=(n:Int)+(tn:Int):=by
        have:=ZZ.out
        rw [IntKind.wrap_i64]
        omega
       have IC9:=LH ic
       clear ic
       have bm9:=box_past pp bm (by omega)
       have fm9:=free_past pp fm (by omega)
       have p9a:=pr.trans pp
       have sm9:M+1≤w9.heap.size:=by have:=pp.2.2.1;omega
       have NP9:=LH (NP.out.grow pp)
       clear bm fm sm NP pr
       go_wp2_with fail
       have NI:NoInt w9 M:=noInt7 bm9
       have SV:Save M w9 (w9.setCell ⟨M,4,none⟩ (.slice Au l.length cu)):=(Save.refl M w9).set 4 _
       go_roundw
       case rel=>exact ⟨n+tn,ntL,by go_num,p9a.setCell (by have:=ZZ.out;simp only;omega) _,free_set fm9,size_set sm9,LH (nums_save NP9.out NI SV),.inr (.inl ⟨rfl,l,Au,cu,box_at bm9 4 (by simp) _,LH (cmds_save IC9.out NI SV),LH ⟨SF.out.2.1,SF.out.2.2⟩⟩)⟩
       case measure=>simp [intOf]
    ·have LC:=LH lco1
     have sl1:(0:Int)≤(n:Int):=by omega
     have sl2:(n:Int)≤(L:Int):=by omega
     by_cases hc:n=co
     ·obtain rfl:=hc
      have RT0:=LH (strm_call0 (w:=wr) (ob:=ob) (oo:=oo) (co:=n) (n:=n) OB.out HLO.out hn (by have:=ZZ.out;omega) LC.out (Nat.sub_self n))
      have RT1:=LH (show Calls Tryz.prog 18 #[.slice (some ⟨ob,oo,none⟩) 0 0] wr (StrmPost ol L n wr) by have h:=RT0.out;rwa [show L-n=0 by have:=LC.out;omega] at h)
      clear lco1
      go_wp2_with fail
      first|(with_reducible refine RT0.out.mono ?_)|(with_reducible refine RT1.out.mono ?_)
      clear RT0 RT1
      intro e w9 H
      unfold StrmPost at H
      rcases H with ⟨Au,cu,tn,l,rfl,ic,SF,pp⟩|⟨Au,cu,rfl,SN,pp⟩
      rotate_left
      ·have p9a:=pr.trans pp
       have q6:=box_past p9a q3 (by have:=ZZ.out;omega)
       have f6:=free_past p9a f3 (by have:=ZZ.out;omega)
       have p6:=p3.trans p9a
       have NT:Hid (¬ TookI ns):=LH (fun f=>by
        have:=f.2.1
        rw [HOL.out,imgR_2,PE.out] at this
        simp only at this
        rw [SS.out.1] at this
        simp only at this
        rw [sR_keep _ SN.out] at this
        cases this)
       clear bm fm
       go_wp2_with fail
       have q9:=box_set7 q6 (y0:=.slice none 0 0) (y1:=.slice none 0 0) (y2:=.slice none 0 0) (y3:=.slice none 0 0) (y4:=.slice none 0 0) (y5:=.slice none 0 0) (y6:=.slice none 0 0)
       have p9:=past7 (B:=Q) (y0:=.slice none 0 0) (y1:=.slice none 0 0) (y2:=.slice none 0 0) (y3:=.slice none 0 0) (y4:=.slice none 0 0) (y5:=.slice none 0 0) (y6:=.slice none 0 0) p6 (by have:=ZZ.out;omega)
       clear q6
       generalize (((((((w9.setCell ⟨Q,0,none⟩ (.slice none 0 0)).setCell ⟨Q,1,none⟩ (.slice none 0 0)).setCell ⟨Q,2,none⟩ (.slice none 0 0)).setCell ⟨Q,3,none⟩ (.slice none 0 0)).setCell ⟨Q,4,none⟩ (.slice none 0 0)).setCell ⟨Q,5,none⟩ (.slice none 0 0)).setCell ⟨Q,6,none⟩ (.slice none 0 0))=w8 at *
       exact bodyPost_ret (v:=.tuple #[.agg #[.slice none 0 0,.slice none 0 0,.slice none 0 0,.slice none 0 0,.slice none 0 0,.slice none 0 0,.slice none 0 0],.int .i64 2]) (by simp [results,Tryz.results7,go_sem,q9]) rfl (.inr ⟨NT.out,rfl,p9⟩)
      ·have ntL:n+tn≤L:=SF.out.1
       have wnt:IntKind.i64.wrap ((n:Int)+(tn:Int))=(n:Int)+(tn:Int):=by
        have:=ZZ.out
        rw [IntKind.wrap_i64]
        omega
       have IC9:=LH ic
       clear ic
       have bm9:=box_past pp bm (by omega)
       have fm9:=free_past pp fm (by omega)
       have p9a:=pr.trans pp
       have sm9:M+1≤w9.heap.size:=by have:=pp.2.2.1;omega
       have NP9:=LH (NP.out.grow pp)
       have K05:=LH (K0.out.grow pp)
       clear bm fm sm NP pr
       go_wp2_with fail
       have NI:NoInt w9 M:=noInt7 bm9
       have SV:Save M w9 (w9.setCell ⟨M,5,none⟩ (.slice Au l.length cu)):=(Save.refl M w9).set 5 _
       have K09:=LH (cmds_save K05.out NI SV)
       go_roundw
       case rel=>exact ⟨n+tn,ntL,by go_num,p9a.setCell (by have:=ZZ.out;simp only;omega) _,free_set fm9,size_set sm9,LH (nums_save NP9.out NI SV),.inr (.inr (.inl ⟨rfl,l0,A5,c5,l,Au,cu,n,box_at bm9 5 (by simp) _,K09,LH (cmds_save IC9.out NI SV),LH ⟨SS.out.1,SS.out.2,SF.out.2.1,SF.out.2.2⟩⟩))⟩
       case measure=>simp [intOf]
     ·have RT:=LH (strm_call (n:=n) OB.out HLO.out hn (by have:=ZZ.out;omega) (ON5.out.grow pr))
      have hc':¬ co=n:=fun e=>hc e.symm
      go_wp2_with fail
      with_reducible refine RT.out.mono ?_
      clear RT hc hc'
      intro e w9 H
      unfold StrmPost at H
      rcases H with ⟨Au,cu,tn,l,rfl,ic,SF,pp⟩|⟨Au,cu,rfl,SN,pp⟩
      rotate_left
      ·have p9a:=pr.trans pp
       have q6:=box_past p9a q3 (by have:=ZZ.out;omega)
       have f6:=free_past p9a f3 (by have:=ZZ.out;omega)
       have p6:=p3.trans p9a
       have NT:Hid (¬ TookI ns):=LH (fun f=>by
        have:=f.2.1
        rw [HOL.out,imgR_2,PE.out] at this
        simp only at this
        rw [SS.out.1] at this
        simp only at this
        rw [sR_keep _ SN.out] at this
        cases this)
       clear bm fm
       go_wp2_with fail
       have q9:=box_set7 q6 (y0:=.slice none 0 0) (y1:=.slice none 0 0) (y2:=.slice none 0 0) (y3:=.slice none 0 0) (y4:=.slice none 0 0) (y5:=.slice none 0 0) (y6:=.slice none 0 0)
       have p9:=past7 (B:=Q) (y0:=.slice none 0 0) (y1:=.slice none 0 0) (y2:=.slice none 0 0) (y3:=.slice none 0 0) (y4:=.slice none 0 0) (y5:=.slice none 0 0) (y6:=.slice none 0 0) p6 (by have:=ZZ.out;omega)
       clear q6
       generalize (((((((w9.setCell ⟨Q,0,none⟩ (.slice none 0 0)).setCell ⟨Q,1,none⟩ (.slice none 0 0)).setCell ⟨Q,2,none⟩ (.slice none 0 0)).setCell ⟨Q,3,none⟩ (.slice none 0 0)).setCell ⟨Q,4,none⟩ (.slice none 0 0)).setCell ⟨Q,5,none⟩ (.slice none 0 0)).setCell ⟨Q,6,none⟩ (.slice none 0 0))=w8 at *
       exact bodyPost_ret (v:=.tuple #[.agg #[.slice none 0 0,.slice none 0 0,.slice none 0 0,.slice none 0 0,.slice none 0 0,.slice none 0 0,.slice none 0 0],.int .i64 2]) (by simp [results,Tryz.results7,go_sem,q9]) rfl (.inr ⟨NT.out,rfl,p9⟩)
      ·have ntL:n+tn≤L:=SF.out.1
       have wnt:IntKind.i64.wrap ((n:Int)+(tn:Int))=(n:Int)+(tn:Int):=by
        have:=ZZ.out
        rw [IntKind.wrap_i64]
        omega
       have IC9:=LH ic
       clear ic
       have bm9:=box_past pp bm (by omega)
       have fm9:=free_past pp fm (by omega)
       have p9a:=pr.trans pp
       have sm9:M+1≤w9.heap.size:=by have:=pp.2.2.1;omega
       have NP9:=LH (NP.out.grow pp)
       have K05:=LH (K0.out.grow pp)
       clear bm fm sm NP pr
       go_wp2_with fail
       have NI:NoInt w9 M:=noInt7 bm9
       have SV:Save M w9 (w9.setCell ⟨M,5,none⟩ (.slice Au l.length cu)):=(Save.refl M w9).set 5 _
       have K09:=LH (cmds_save K05.out NI SV)
       go_roundw
       case rel=>exact ⟨n+tn,ntL,by go_num,p9a.setCell (by have:=ZZ.out;simp only;omega) _,free_set fm9,size_set sm9,LH (nums_save NP9.out NI SV),.inr (.inr (.inl ⟨rfl,l0,A5,c5,l,Au,cu,n,box_at bm9 5 (by simp) _,K09,LH (cmds_save IC9.out NI SV),LH ⟨SS.out.1,SS.out.2,SF.out.2.1,SF.out.2.2⟩⟩))⟩
       case measure=>simp [intOf]
    ·have LC:=LH lco1
     have sl1:(0:Int)≤(n:Int):=by omega
     have sl2:(n:Int)≤(L:Int):=by omega
     by_cases hc:n=co
     ·obtain rfl:=hc
      have RT0:=LH (strm_call0 (w:=wr) (ob:=ob) (oo:=oo) (co:=n) (n:=n) OB.out HLO.out hn (by have:=ZZ.out;omega) LC.out (Nat.sub_self n))
      have RT1:=LH (show Calls Tryz.prog 18 #[.slice (some ⟨ob,oo,none⟩) 0 0] wr (StrmPost ol L n wr) by have h:=RT0.out;rwa [show L-n=0 by have:=LC.out;omega] at h)
      clear lco1
      go_wp2_with fail
      first|(with_reducible refine RT0.out.mono ?_)|(with_reducible refine RT1.out.mono ?_)
      clear RT0 RT1
      intro e w9 H
      unfold StrmPost at H
      rcases H with ⟨Au,cu,tn,l,rfl,ic,SF,pp⟩|⟨Au,cu,rfl,SN,pp⟩
      rotate_left
      ·have p9a:=pr.trans pp
       have q6:=box_past p9a q3 (by have:=ZZ.out;omega)
       have f6:=free_past p9a f3 (by have:=ZZ.out;omega)
       have p6:=p3.trans p9a
       have NT:Hid (¬ TookI ns):=LH (fun f=>by
        have:=f.2.1
        rw [HOL.out,imgR_2,PE.out] at this
        simp only at this
        rw [SS.out.1] at this
        simp only at this
        rw [SS.out.2.2.1] at this
        simp only at this
        rw [SN.out] at this
        cases this)
       clear bm fm
       go_wp2_with fail
       have q9:=box_set7 q6 (y0:=.slice none 0 0) (y1:=.slice none 0 0) (y2:=.slice none 0 0) (y3:=.slice none 0 0) (y4:=.slice none 0 0) (y5:=.slice none 0 0) (y6:=.slice none 0 0)
       have p9:=past7 (B:=Q) (y0:=.slice none 0 0) (y1:=.slice none 0 0) (y2:=.slice none 0 0) (y3:=.slice none 0 0) (y4:=.slice none 0 0) (y5:=.slice none 0 0) (y6:=.slice none 0 0) p6 (by have:=ZZ.out;omega)
       clear q6
       generalize (((((((w9.setCell ⟨Q,0,none⟩ (.slice none 0 0)).setCell ⟨Q,1,none⟩ (.slice none 0 0)).setCell ⟨Q,2,none⟩ (.slice none 0 0)).setCell ⟨Q,3,none⟩ (.slice none 0 0)).setCell ⟨Q,4,none⟩ (.slice none 0 0)).setCell ⟨Q,5,none⟩ (.slice none 0 0)).setCell ⟨Q,6,none⟩ (.slice none 0 0))=w8 at *
       exact bodyPost_ret (v:=.tuple #[.agg #[.slice none 0 0,.slice none 0 0,.slice none 0 0,.slice none 0 0,.slice none 0 0,.slice none 0 0,.slice none 0 0],.int .i64 2]) (by simp [results,Tryz.results7,go_sem,q9]) rfl (.inr ⟨NT.out,rfl,p9⟩)
      ·have ntL:n+tn≤L:=SF.out.1
       have wnt:IntKind.i64.wrap ((n:Int)+(tn:Int))=(n:Int)+(tn:Int):=by
        have:=ZZ.out
        rw [IntKind.wrap_i64]
        omega
       have IC9:=LH ic
       clear ic
       have bm9:=box_past pp bm (by omega)
       have fm9:=free_past pp fm (by omega)
       have p9a:=pr.trans pp
       have sm9:M+1≤w9.heap.size:=by have:=pp.2.2.1;omega
       have NP9:=LH (NP.out.grow pp)
       have K05:=LH (K0.out.grow pp)
       have K15:=LH (K1.out.grow pp)
       clear bm fm sm NP pr
       go_wp2_with fail
       have NI:NoInt w9 M:=noInt7 bm9
       have SV:Save M w9 (w9.setCell ⟨M,6,none⟩ (.slice Au l.length cu)):=(Save.refl M w9).set 6 _
       have K09:=LH (cmds_save K05.out NI SV)
       have K19:=LH (cmds_save K15.out NI SV)
       go_roundw
       case rel=>exact ⟨n+tn,ntL,by go_num,p9a.setCell (by have:=ZZ.out;simp only;omega) _,free_set fm9,size_set sm9,LH (nums_save NP9.out NI SV),.inr (.inr (.inr ⟨rfl,l0,A5,c5,l1,A6,c6,l,Au,cu,m1,n,box_at bm9 6 (by simp) _,K09,K19,LH (cmds_save IC9.out NI SV),LH ⟨SS.out.1,SS.out.2.1,SS.out.2.2.1,SS.out.2.2.2,SF.out.2.1,SF.out.2.2⟩⟩))⟩
       case measure=>simp [intOf]
     ·have RT:=LH (strm_call (n:=n) OB.out HLO.out hn (by have:=ZZ.out;omega) (ON5.out.grow pr))
      have hc':¬ co=n:=fun e=>hc e.symm
      go_wp2_with fail
      with_reducible refine RT.out.mono ?_
      clear RT hc hc'
      intro e w9 H
      unfold StrmPost at H
      rcases H with ⟨Au,cu,tn,l,rfl,ic,SF,pp⟩|⟨Au,cu,rfl,SN,pp⟩
      rotate_left
      ·have p9a:=pr.trans pp
       have q6:=box_past p9a q3 (by have:=ZZ.out;omega)
       have f6:=free_past p9a f3 (by have:=ZZ.out;omega)
       have p6:=p3.trans p9a
       have NT:Hid (¬ TookI ns):=LH (fun f=>by
        have:=f.2.1
        rw [HOL.out,imgR_2,PE.out] at this
        simp only at this
        rw [SS.out.1] at this
        simp only at this
        rw [SS.out.2.2.1] at this
        simp only at this
        rw [SN.out] at this
        cases this)
       clear bm fm
       go_wp2_with fail
       have q9:=box_set7 q6 (y0:=.slice none 0 0) (y1:=.slice none 0 0) (y2:=.slice none 0 0) (y3:=.slice none 0 0) (y4:=.slice none 0 0) (y5:=.slice none 0 0) (y6:=.slice none 0 0)
       have p9:=past7 (B:=Q) (y0:=.slice none 0 0) (y1:=.slice none 0 0) (y2:=.slice none 0 0) (y3:=.slice none 0 0) (y4:=.slice none 0 0) (y5:=.slice none 0 0) (y6:=.slice none 0 0) p6 (by have:=ZZ.out;omega)
       clear q6
       generalize (((((((w9.setCell ⟨Q,0,none⟩ (.slice none 0 0)).setCell ⟨Q,1,none⟩ (.slice none 0 0)).setCell ⟨Q,2,none⟩ (.slice none 0 0)).setCell ⟨Q,3,none⟩ (.slice none 0 0)).setCell ⟨Q,4,none⟩ (.slice none 0 0)).setCell ⟨Q,5,none⟩ (.slice none 0 0)).setCell ⟨Q,6,none⟩ (.slice none 0 0))=w8 at *
       exact bodyPost_ret (v:=.tuple #[.agg #[.slice none 0 0,.slice none 0 0,.slice none 0 0,.slice none 0 0,.slice none 0 0,.slice none 0 0,.slice none 0 0],.int .i64 2]) (by simp [results,Tryz.results7,go_sem,q9]) rfl (.inr ⟨NT.out,rfl,p9⟩)
      ·have ntL:n+tn≤L:=SF.out.1
       have wnt:IntKind.i64.wrap ((n:Int)+(tn:Int))=(n:Int)+(tn:Int):=by
        have:=ZZ.out
        rw [IntKind.wrap_i64]
        omega
       have IC9:=LH ic
       clear ic
       have bm9:=box_past pp bm (by omega)
       have fm9:=free_past pp fm (by omega)
       have p9a:=pr.trans pp
       have sm9:M+1≤w9.heap.size:=by have:=pp.2.2.1;omega
       have NP9:=LH (NP.out.grow pp)
       have K05:=LH (K0.out.grow pp)
       have K15:=LH (K1.out.grow pp)
       clear bm fm sm NP pr
       go_wp2_with fail
       have NI:NoInt w9 M:=noInt7 bm9
       have SV:Save M w9 (w9.setCell ⟨M,6,none⟩ (.slice Au l.length cu)):=(Save.refl M w9).set 6 _
       have K09:=LH (cmds_save K05.out NI SV)
       have K19:=LH (cmds_save K15.out NI SV)
       go_roundw
       case rel=>exact ⟨n+tn,ntL,by go_num,p9a.setCell (by have:=ZZ.out;simp only;omega) _,free_set fm9,size_set sm9,LH (nums_save NP9.out NI SV),.inr (.inr (.inr ⟨rfl,l0,A5,c5,l1,A6,c6,l,Au,cu,m1,n,box_at bm9 6 (by simp) _,K09,K19,LH (cmds_save IC9.out NI SV),LH ⟨SS.out.1,SS.out.2.1,SS.out.2.2.1,SS.out.2.2.2,SF.out.2.1,SF.out.2.2⟩⟩))⟩
       case measure=>simp [intOf]
    ·have IR:Hid (imgR ⟨ol,false⟩=(⟨g,acc,l0,l1,l2⟩,⟨ol.drop n,false⟩)):=LH (by
      unfold imgR
      rw [PE.out,GYh.out]
      simp only
      rw [SS.out.1]
      simp only
      rw [SS.out.2.2.1]
      simp only
      rw [SS.out.2.2.2.2.1])
     have q6:=box_past pr q3 (by have:=ZZ.out;omega)
     have f6:=free_past pr f3 (by have:=ZZ.out;omega)
     have p6:=p3.trans pr
     have IM:=LH (show IsImg wr (.agg #[.slice A1 LI c1,.slice A2 LN c2,.slice A3 LO c3,.slice A4 k c4,.slice A5 l0.length c5,.slice A6 l1.length c6,.slice A7 l2.length c7]) ⟨g,acc,l0,l1,l2⟩ from ⟨_,_,_,_,_,_,_,rfl,IG5.out.grow pr,NP.out,K0.out,K1.out,K2.out⟩)
     have bq:=LH (And.intro SS.out.2.1 (And.intro SS.out.2.2.2.1 SS.out.2.2.2.2.2))
     have SM:=LH sm
     clear SS PE NP K0 K1 K2 fm sm
     by_cases ce:n=L
     ·have e1:((n:Int)!=(L:Int))=false:=by simp;omega
      have HR0:Hid (ol.drop n=[]):=LH (List.drop_eq_nil_of_le (by rw [HLO.out];omega))
      obtain ⟨t,ht⟩:=bool_any (placedP g acc)
      have HT:=LH ht
      obtain ⟨R,hRR⟩:∃ R:Int,R=if t=true then 0 else 1:=⟨_,rfl⟩
      have MY:=LH (rmay_ok ⟨g,acc,l0,l1,l2⟩ _ t wr IM.out CU.out VE2.out bq.out.1 bq.out.2.1 bq.out.2.2 ht R (LH hRR))
      have HRR:=LH hRR
      clear ht hRR ce
      go_wp2_with (first|refine wpList_load_box rfl 32 (.tmp 7) rfl M _ rfl bm Tryz.underlying32 rfl (by kernel_rfl) ?_)
      refine MY.out.mono ?_
      rintro e w9 ⟨rfl,pp⟩
      have q7:=box_past pp q6 (by have:=ZZ.out;have:=pr.2.2.1;omega)
      have f7:=free_past pp f6 (by have:=ZZ.out;have:=pr.2.2.1;omega)
      have b7:=box_past pp bm (by have:=ZZ.out;have:=pr.2.2.1;have:=SM.out;omega)
      have p7:=p6.trans pp
      have IM7:=LH (IM.out.grow pp)
      clear q6 bm p6 pp IM MY
      cases t with
      | false =>
       obtain rfl:R=1:=by rw [HRR.out];rfl
       have NT:Hid (¬ TookI ns):=LH (fun f=>by
        have k:=f.2.2.2
        rw [HOL.out,IR.out] at k
        have:=HT.out.2 k
        cases this)
       clear b7 IM7
       go_wp2_with fail
       have q9:=box_set7 q7 (y0:=.slice none 0 0) (y1:=.slice none 0 0) (y2:=.slice none 0 0) (y3:=.slice none 0 0) (y4:=.slice none 0 0) (y5:=.slice none 0 0) (y6:=.slice none 0 0)
       have p9:=past7 (B:=Q) (y0:=.slice none 0 0) (y1:=.slice none 0 0) (y2:=.slice none 0 0) (y3:=.slice none 0 0) (y4:=.slice none 0 0) (y5:=.slice none 0 0) (y6:=.slice none 0 0) p7 (by have:=ZZ.out;omega)
       clear q7
       generalize (((((((w9.setCell ⟨Q,0,none⟩ (.slice none 0 0)).setCell ⟨Q,1,none⟩ (.slice none 0 0)).setCell ⟨Q,2,none⟩ (.slice none 0 0)).setCell ⟨Q,3,none⟩ (.slice none 0 0)).setCell ⟨Q,4,none⟩ (.slice none 0 0)).setCell ⟨Q,5,none⟩ (.slice none 0 0)).setCell ⟨Q,6,none⟩ (.slice none 0 0))=wz at *
       exact bodyPost_ret (v:=.tuple #[.agg #[.slice none 0 0,.slice none 0 0,.slice none 0 0,.slice none 0 0,.slice none 0 0,.slice none 0 0,.slice none 0 0],.int .i64 2]) (by simp [results,Tryz.results7,go_sem,q9]) rfl (.inr ⟨NT.out,rfl,p9⟩)
      | true =>
       obtain rfl:R=0:=by rw [HRR.out];rfl
       have YT:Hid (TookI ns):=LH (by
        unfold TookI
        rw [HOL.out,IR.out]
        exact ⟨TT.out,rfl,HR0.out,HT.out.1 rfl⟩)
       have IE:Hid ((imgR ⟨openedI ns,false⟩).1=⟨g,acc,l0,l1,l2⟩):=LH (by rw [HOL.out,IR.out])
       go_wp2_with (first|refine wpList_load_box rfl 32 (.tmp 7) rfl M _ rfl b7 Tryz.underlying32 rfl (by kernel_rfl) ?_)
       have q9:=box_set7 q7 (y0:=.slice A1 LI c1) (y1:=.slice A2 LN c2) (y2:=.slice A3 LO c3) (y3:=.slice A4 k c4) (y4:=.slice A5 l0.length c5) (y5:=.slice A6 l1.length c6) (y6:=.slice A7 l2.length c7)
       have p9:=past7 (B:=Q) (y0:=.slice A1 LI c1) (y1:=.slice A2 LN c2) (y2:=.slice A3 LO c3) (y3:=.slice A4 k c4) (y4:=.slice A5 l0.length c5) (y5:=.slice A6 l1.length c6) (y6:=.slice A7 l2.length c7) p7 (by have:=ZZ.out;omega)
       have IM9:=LH (img_save IM7.out (noInt7 q7) (save7 (y0:=.slice A1 LI c1) (y1:=.slice A2 LN c2) (y2:=.slice A3 LO c3) (y3:=.slice A4 k c4) (y4:=.slice A5 l0.length c5) (y5:=.slice A6 l1.length c6) (y6:=.slice A7 l2.length c7)))
       clear q7 b7 p7 IM7
       generalize (((((((w9.setCell ⟨Q,0,none⟩ (.slice A1 LI c1)).setCell ⟨Q,1,none⟩ (.slice A2 LN c2)).setCell ⟨Q,2,none⟩ (.slice A3 LO c3)).setCell ⟨Q,3,none⟩ (.slice A4 k c4)).setCell ⟨Q,4,none⟩ (.slice A5 l0.length c5)).setCell ⟨Q,5,none⟩ (.slice A6 l1.length c6)).setCell ⟨Q,6,none⟩ (.slice A7 l2.length c7))=wz at *
       exact bodyPost_ret (v:=.tuple #[.agg #[.slice A1 LI c1,.slice A2 LN c2,.slice A3 LO c3,.slice A4 k c4,.slice A5 l0.length c5,.slice A6 l1.length c6,.slice A7 l2.length c7],.int .i64 0]) (by simp [results,Tryz.results7,go_sem,q9]) rfl (.inl ⟨YT.out,_,rfl,by rw [IE.out];exact IM9.out,p9⟩)
     ·have e1:((n:Int)!=(L:Int))=true:=by simp;omega
      have NT:Hid (¬ TookI ns):=LH (fun f=>by
       have k:=f.2.2.1
       rw [HOL.out,IR.out] at k
       have e:=congrArg List.length k
       simp only [List.length_drop,List.length_nil,HLO.out] at e
       omega)
      clear bm IM
      go_wp2_with fail
      have q9:=box_set7 q6 (y0:=.slice none 0 0) (y1:=.slice none 0 0) (y2:=.slice none 0 0) (y3:=.slice none 0 0) (y4:=.slice none 0 0) (y5:=.slice none 0 0) (y6:=.slice none 0 0)
      have p9:=past7 (B:=Q) (y0:=.slice none 0 0) (y1:=.slice none 0 0) (y2:=.slice none 0 0) (y3:=.slice none 0 0) (y4:=.slice none 0 0) (y5:=.slice none 0 0) (y6:=.slice none 0 0) p6 (by have:=ZZ.out;omega)
      clear q6
      generalize (((((((wr.setCell ⟨Q,0,none⟩ (.slice none 0 0)).setCell ⟨Q,1,none⟩ (.slice none 0 0)).setCell ⟨Q,2,none⟩ (.slice none 0 0)).setCell ⟨Q,3,none⟩ (.slice none 0 0)).setCell ⟨Q,4,none⟩ (.slice none 0 0)).setCell ⟨Q,5,none⟩ (.slice none 0 0)).setCell ⟨Q,6,none⟩ (.slice none 0 0))=wz at *
      exact bodyPost_ret (v:=.tuple #[.agg #[.slice none 0 0,.slice none 0 0,.slice none 0 0,.slice none 0 0,.slice none 0 0,.slice none 0 0,.slice none 0 0],.int .i64 2]) (by simp [results,Tryz.results7,go_sem,q9]) rfl (.inr ⟨NT.out,rfl,p9⟩)
end Go.Proofs.YtejllmjkeefloaaGreat
