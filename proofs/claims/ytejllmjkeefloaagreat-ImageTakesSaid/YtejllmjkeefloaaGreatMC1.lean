/- The reader of an image: a graph off the front. -/
import Derived.Deep.DeepCutAuto
import Derived.Test.YtejllmjkeefloaaGreatMA1
namespace Go.Proofs.YtejllmjkeefloaaGreat
open Go.ChangeShapes Go.WideShapes Go.ChangeAt Go.RowKit
set_option maxRecDepth 20000
set_option linter.unusedVariables false
set_option linter.unusedSimpArgs false
def RdI (w:World)(B P:Nat)(s:Rd):Prop :=
 ∃ A cap,(Bx w P #[.slice A s.rest.length cap,.bool s.short])/\(Fr w P)/\IsNums .u8 w (.slice A s.rest.length cap) s.rest/\(0<s.rest.length->∀ ad,A=some ad->ad.block<B)/\B<=P/\P<w.heap.size
theorem nums_keep {k:IntKind}{w w':World}{B P len cap:Nat}{A:Option Addr}{l:List Int}(h:IsNums k w (.slice A len cap) l)(hA:0<l.length->∀ ad,A=some ad->ad.block<B)(hB:B<=P)(g:Keep P w w'):IsNums k w' (.slice A len cap) l:=by
 obtain⟨A',cap',e,h2,h3,h4,h5,h6⟩:=h;simp only [Value.slice.injEq] at e;obtain⟨rfl,rfl,rfl⟩:=e;refine⟨A,cap,rfl,h2,h3,h4,h5,fun hp=>?_⟩;obtain⟨b,off,e,hb,hc⟩:=h6 hp;have:=hA hp _ e;have hn:b≠P:=by simp only at this;omega
 exact⟨b,off,e,Nat.lt_of_lt_of_le hb g.2.2.1,fun i hi=>(g.cell hb hn).trans (hc i hi)⟩
theorem RdI.lt {w:World}{B P:Nat}{s:Rd}(h:RdI w B P s):P<w.heap.size:=h.choose_spec.choose_spec.2.2.2.2.2
theorem RdI.bytesP {w:World}{B P:Nat}{s:Rd}(h:RdI w B P s):bytesP s.rest:=by
 obtain⟨A,cap,_,_,⟨_,_,_,_,_,_,h5,_⟩,_⟩:=h;intro c hc;have:=wf_u8 (h5 c hc);omega
theorem RdI.past {w w':World}{B P:Nat}{s:Rd}(h:RdI w B P s)(g:Past w w'):RdI w' B P s:=by
 obtain⟨A,cap,h1,h2,h3,h4,h5,h6⟩:=h;exact⟨A,cap,box_past g h1 h6,free_past g h2 h6,h3.grow g,h4,h5,Nat.lt_of_lt_of_le h6 g.2.2.1⟩
theorem RdI.setNew {w:World}{B P Q o:Nat}{u:Value}{s:Rd}(h:RdI w B P s)(hQ:P<Q):RdI (w.setCell ⟨Q,o,none⟩ u) B P s:=by
 obtain⟨A,cap,h1,h2,h3,h4,h5,h6⟩:=h;refine⟨A,cap,box_set h1 (by show Q≠P;omega),free_set h2,?_,h4,h5,size_set h6⟩;refine nums_keep (P:=Q) h3 h4 (by omega) ((Keep.refl Q w).set _ _)
theorem bit_nums {w:World} {b off len cap n:Nat} {l:List Int} (h:IsNums .u8 w (.slice (some ⟨b,off,none⟩) len cap) l) (hn:n<=l.length) (hc:n<cap):IsNums .u8 w (.slice (some ⟨b,off+n,none⟩) (l.drop n).length (cap-n)) (l.drop n):=by
 obtain ⟨A',cap',e,h2,h3,h4,h5,h6⟩:=h;simp only [Value.slice.injEq] at e;obtain ⟨rfl,rfl,rfl⟩:=e;refine ⟨_,cap-n,rfl,by rw [List.length_drop];omega,by omega,(fun h=>by cases h),fun x hx=>h5 x (List.mem_of_mem_drop hx),fun hp=>?_⟩;rw [List.length_drop] at hp;obtain ⟨b',off',e,hb,hc⟩:=h6 (by omega);simp only [Option.some.injEq,Addr.mk.injEq,and_true] at e;obtain ⟨rfl,rfl⟩:=e;refine ⟨b,off+n,rfl,hb,fun i hi=>?_⟩;rw [List.length_drop] at hi;rw [Nat.add_assoc,hc (n+i) (by omega)];simp [List.getD]
theorem noInt2 {w:World}{B:Nat}{a:Option Addr}{l c:Nat}{t:Bool}(h:(Bx w B #[.slice a l c,.bool t])):NoInt w B:=by
 intro o k n;rw [h o];match o with
 | 0=>simp
 | 1=>simp
 | o+2=>simp
theorem RdI.mk {w:World}{B P:Nat}{A:Option Addr}{cap:Nat}{l:List Int}{t:Bool}(h1:(Bx w P #[.slice A l.length cap,.bool t]))(h2:(Fr w P))(h3:IsNums .u8 w (.slice A l.length cap) l)(h4:0<l.length->∀ ad,A=some ad->ad.block<B)(h5:B<=P)(h6:P<w.heap.size):RdI w B P ⟨l,t⟩:=⟨A,cap,h1,h2,h3,h4,h5,h6⟩
theorem none_nums {w:World}{A:Option Addr}{cap:Nat}(hm:cap<=maxLen)(hA:A=none->cap=0):IsNums .u8 w (.slice A 0 cap) []:=⟨A,cap,rfl,Nat.zero_le _,hm,hA,by simp,by simp⟩
theorem gR_yes {s:Rd}(T:TookP s.rest):gR s=((graphR ⟨s.rest,false⟩).1,⟨(graphR ⟨s.rest,false⟩).2.rest,s.short⟩):=by
 unfold gR partR graphT;rw [if_pos T]
theorem gR_no {s:Rd}(T:¬ TookP s.rest):gR s=(zeroG,⟨s.rest,true⟩):=by
 unfold gR partR graphT;rw [if_neg T]
theorem took_rest {b:List Int}(hb:bytesP b)(T:TookP b):(graphR ⟨b,false⟩).2.rest=b.drop (graphB (graphR ⟨b,false⟩).1).length/\3<=(graphB (graphR ⟨b,false⟩).1).length/\(graphB (graphR ⟨b,false⟩).1).length+(graphR ⟨b,false⟩).2.rest.length=b.length:=by
 obtain⟨e,_⟩:=put_took hb T;obtain⟨r,hr⟩:∃ r,graphR ⟨b,false⟩=r:=⟨_,rfl⟩
 rw [hr] at e ⊢;have g3:=graphB_len r.1;refine⟨?_,by omega,?_⟩
 ·rw [e,List.drop_left]
 ·rw [e,List.length_append]
theorem zero_graph (w:World):IsGraph w (.agg #[.slice none 0 0,.slice none 0 0,.slice none 0 0]) zeroG:=⟨_,_,_,rfl,⟨none,0,rfl,Nat.le_refl _,Nat.zero_le _,fun _=>rfl,by simp [zeroG],by simp [zeroG]⟩,⟨none,0,rfl,Nat.le_refl _,Nat.zero_le _,fun _=>rfl,by simp [zeroG],by simp [zeroG]⟩,⟨none,0,rfl,Nat.le_refl _,Nat.zero_le _,fun _=>rfl,by simp [zeroG],by simp [zeroG]⟩⟩
set_option maxHeartbeats 8000000 in
theorem partG_rd (B P:Nat) (s:Rd) (W:World) (hr:RdI W B P s) (hl:s.rest.length≤1000000):Calls Tryz.prog 28 #[.pointer (some ⟨P,0,none⟩),.func (.func 29) #[] #[]] W fun e w'=>∃ gv,e=.returned gv∧IsGraph w' gv (gR s).1∧RdI w' B P (gR s).2∧Keep P W w':=by
 have hE:∀ (xs:Array Value) (w:World),(callFunc 29 xs).run Tryz.prog w=.ok (.enter 29 xs) w:=fun xs w=>by kernel_rfl
 have hP:=hr.lt
 have BY:=LH hr.bytesP
 obtain ⟨A,cap,bx,fr,nu,ha,hB,_⟩:=hr
 have TK:=LH (fun w (p:Past W w)=>take_any _ s.rest w (nu.grow p) (by omega))
 unfold TakePost at TK
 have NU:=LH nu
 have HA:=LH ha
 have hm:s.rest.length≤9223372036854775807:=by omega
 have hcap:s.rest.length≤cap∧cap≤maxLen:=by
  obtain ⟨_,_,e,k1,k2,_⟩:=nu
  simp only [Value.slice.injEq,true_and] at e
  obtain ⟨rfl,rfl⟩:=e
  exact ⟨k1,k2⟩
 clear nu ha
 go_enter Tryz.func28,Tryz.ntmps28
 go_upto_region 1 with fail
 obtain ⟨Q,hQ⟩:∃ Q,W.heap.size=Q:=⟨_,rfl⟩
 refine opq (fun w'=>(Bx w' Q #[.slice none 0 0,.slice none 0 0,.slice none 0 0])∧(Fr w' Q)∧(Bx w' P #[.slice A s.rest.length cap,.bool s.short])∧(Fr w' P)∧Past W w'∧Q+1≤w'.heap.size) (by
  subst hQ
  exact ⟨by (exact kKeep),by (exact kKeep),by (exact kKeep),by (exact kKeep),by (exact kKeep),by simp⟩) ?_
 rintro w0 ⟨q0,f0,b0,g0,p0,s0⟩
 try rw [hQ]
 rw [hQ] at hP
 go_wp2_with fail
 refine (TK.out _ p0).mono ?_
 rintro e w1 H
 rcases H with ⟨hT,gv,rfl,ig,pp1⟩|⟨hT,rfl,pp1⟩
 ·obtain ⟨e1,e2,e3⟩:=took_rest BY.out hT
  have GY:=LH (gR_yes hT)
  obtain ⟨r,hr⟩:∃ x,graphR ⟨s.rest,false⟩=x:=⟨_,rfl⟩
  rw [hr] at e1 e2 e3 ig GY
  obtain ⟨n,hn⟩:∃ x,(graphB r.1).length=x:=⟨_,rfl⟩
  rw [hn] at e1 e2 e3
  have en:(s.rest.length:Int)-(r.2.rest.length:Int)=(n:Int):=by omega
  rw [hr,en]
  have hn1:3≤n:=e2
  have hn2:n≤s.rest.length:=by omega
  rw [e1] at GY
  have ig':=ig
  obtain ⟨iv,nv,ov,rfl,hi,hnn,ho⟩:=ig'
  obtain ⟨A1,c1,rfl,_,_,_,_,_⟩:=hi
  obtain ⟨A2,c2,rfl,_,_,_,_,_⟩:=hnn
  obtain ⟨A3,c3,rfl,_,_,_,_,_⟩:=ho
  clear hT hr hn e1 e2 e3 en
  obtain ⟨b,off,rfl⟩:∃ b off,A=some ⟨b,off,none⟩:=by
   obtain ⟨_,_,e,_,_,_,_,k⟩:=NU.out
   simp only [Value.slice.injEq,true_and] at e
   obtain ⟨rfl,rfl⟩:=e
   obtain ⟨b,off,e,_⟩:=k (by omega)
   exact ⟨b,off,e⟩
  have q1:=box_past pp1 q0 (by omega)
  have f1:=free_past pp1 f0 (by omega)
  have b1:=box_past pp1 b0 (by omega)
  have g1:=free_past pp1 g0 (by omega)
  have p1:=p0.trans pp1
  have s1:Q+1≤w1.heap.size:=by have:=pp1.2.2.1;omega
  have IG:=LH (ig)
  clear q0 f0 b0 g0 p0 s0 pp1 TK bx fr
  obtain ⟨L,hL⟩:∃ L,s.rest.drop n=L:=⟨_,rfl⟩
  obtain ⟨LL,hLL⟩:∃ m,L.length=m:=⟨_,rfl⟩
  have HL:=LH hL
  have HLL:=LH hLL
  clear hL hLL
  obtain ⟨X,hX⟩:∃ X,w1.heap.size=X:=⟨_,rfl⟩
  go_upto_region 2 with fail
  refine opq (fun w'=>(Bx w' Q #[.slice none 0 0,.slice none 0 0,.slice none 0 0])∧(Fr w' Q)∧(Bx w' X #[.slice A1 r.1.ins.length c1,.slice A2 r.1.nodes.length c2,.slice A3 r.1.outs.length c3])∧(Bx w' P #[.slice (some ⟨b,off,none⟩) s.rest.length cap,.bool s.short])∧(Fr w' P)∧Past W w'∧Past w1 w'∧X+1≤w'.heap.size) (by
   subst hX
   exact ⟨by (exact kKeep),by (exact kKeep),by (exact kKeep),by (exact kKeep),by (exact kKeep),by (exact kKeep),by (exact kKeep),by (exact kKeep)⟩) ?_
  rintro w2 ⟨q2,f2,x2,b2,g2,p2,pp2,s2⟩
  try rw [hX]
  have hQX:Q+1≤X:=by omega
  have IG2:=LH (IG.out.grow pp2)
  clear q1 f1 b1 g1 p1 s1 pp2 hX IG
  have GR2:Hid (IsNums .u8 w2 (.slice (some ⟨b,off,none⟩) s.rest.length cap) s.rest):=LH (NU.out.grow p2)
  clear NU
  have ng:=LH (noInt2 b2)
  go_cut [] (fun w'=>∃ A' cap',(Bx w' P #[.slice A' LL cap',.bool s.short])∧Hid (IsNums .u8 w' (.slice A' LL cap') L)∧(0<L.length→∀ ad,A'=some ad→ad.block<B)∧(Fr w' P)∧Hid (Keep P W w')∧Hid (IsGraph w' (.agg #[.slice A1 r.1.ins.length c1,.slice A2 r.1.nodes.length c2,.slice A3 r.1.outs.length c3]) r.1)∧X+1≤w'.heap.size∧(Bx w' Q #[.slice none 0 0,.slice none 0 0,.slice none 0 0])∧(Fr w' Q)∧(Bx w' X #[.slice A1 r.1.ins.length c1,.slice A2 r.1.nodes.length c2,.slice A3 r.1.outs.length c3]))
  case first =>
   go_wp2_with fail
   ·go_meet
    have hz:s.rest.drop n=[]:=List.drop_of_length_le (by omega)
    have hz2:s.rest.length-n=0:=by omega
    have hz3:L=[]:=by rw [← HL.out,hz]
    have hz4:LL=0:=by rw [← HLL.out,hz3];rfl
    rw [hz2,hz3,hz4]
    exact ⟨_,_,box2_set0 b2,LH (none_nums (by omega) (by intro h;cases h)),(fun h=>absurd h (by simp)),by (exact kKeep),LH ((Keep.of_past p2).set _ _),LH (graph_save IG2.out ng.out ((Save.refl P w2).set _ _)),by simpa [World.setCell] using s2,by (exact kKeep),by (exact kKeep),by (exact kKeep)⟩
   ·go_meet
    have kn:=bit_nums (n:=n) GR2.out hn2 (by omega)
    rw [HL.out,HLL.out] at kn
    have el:s.rest.length-n=LL:=by rw [← HLL.out,← HL.out,List.length_drop]
    rw [el]
    have h4:0<L.length→∀ ad,some (⟨b,off+n,none⟩:Addr)=some ad→ad.block<B:=fun h ad e=>by
     simp only [Option.some.injEq] at e
     subst e
     have hab:=HA.out (by rw [← HL.out,List.length_drop] at h;omega) ⟨b,off,none⟩ rfl
     exact hab
    exact ⟨_,_,box2_set0 b2,LH (nums_keep kn h4 hB ((Keep.refl P w2).set _ _)),h4,by (exact kKeep),LH ((Keep.of_past p2).set _ _),LH (graph_save IG2.out ng.out ((Save.refl P w2).set _ _)),by simpa [World.setCell] using s2,by (exact kKeep),by (exact kKeep),by (exact kKeep)⟩
  case rest =>
   clear b2 g2 p2 s2 IG2 GR2 q2 f2 x2 ng
   obtain ⟨A',cap',b2,NR,ha2,f9,K2,IG2,s2,q2,f2,x2⟩:=hcut
   have ng:=LH (noInt2 b2)
   obtain ⟨t,ht⟩:∃ t,s.short=t:=⟨_,rfl⟩
   rw [ht] at b2
   have HTT:=LH ht
   clear ht
   cases t
   ·go_upto_region 4 with fail
    refine opq (fun w'=>(Bx w' P #[.slice A' LL cap',.bool false])∧Hid (IsNums .u8 w' (.slice A' LL cap') L)∧(0<L.length→∀ ad,A'=some ad→ad.block<B)∧(Fr w' P)∧Hid (Keep P W w')∧Hid (IsGraph w' (.agg #[.slice A1 r.1.ins.length c1,.slice A2 r.1.nodes.length c2,.slice A3 r.1.outs.length c3]) r.1)∧X+1≤w'.heap.size∧(Bx w' Q #[.slice none 0 0,.slice none 0 0,.slice none 0 0])∧(Fr w' Q)∧(Bx w' X #[.slice A1 r.1.ins.length c1,.slice A2 r.1.nodes.length c2,.slice A3 r.1.outs.length c3])) ⟨box2_set1 b2,LH (nums_keep NR.out ha2 hB ((Keep.refl P wc).set _ _)),ha2,by (exact kKeep),LH (K2.out.set _ _),LH (graph_save IG2.out ng.out ((Save.refl P wc).set _ _)),by simpa [World.setCell] using s2,by (exact kKeep),by (exact kKeep),by (exact kKeep)⟩ ?_
    clear b2 NR ha2 f9 K2 IG2 s2 q2 f2 x2 ng
    rintro w4 ⟨b2,NR,ha2,f9,K2,IG2,s2,q2,f2,x2⟩
    have RD:RdI w4 B P ⟨L,false⟩:=RdI.mk (by rw [HLL.out];exact b2) f9 (by rw [HLL.out];exact NR.out) ha2 hB (by omega)
    have GE:=(show gR s=(r.1,⟨L,false⟩) by rw [GY.out,HL.out,HTT.out])
    go_wp2_with fail
    have b4:=box_set3 (y0:=.slice A1 r.1.ins.length c1) (y1:=.slice A2 r.1.nodes.length c2) (y2:=.slice A3 r.1.outs.length c3) q2
    have sg:=(((Save.refl Q w4).set 0 (.slice A1 r.1.ins.length c1)).set 1 (.slice A2 r.1.nodes.length c2)).set 2 (.slice A3 r.1.outs.length c3)
    have IG4:=LH (graph_save IG2.out (noInt_box q2) sg)
    have RD4:=((RD.setNew (o:=0) (u:=.slice A1 r.1.ins.length c1) hP).setNew (o:=1) (u:=.slice A2 r.1.nodes.length c2) hP).setNew (o:=2) (u:=.slice A3 r.1.outs.length c3) hP
    have K4:=((K2.out.setNew (Q:=Q) (o:=0) (u:=.slice A1 r.1.ins.length c1) (by omega)).setNew (Q:=Q) (o:=1) (u:=.slice A2 r.1.nodes.length c2) (by omega)).setNew (Q:=Q) (o:=2) (u:=.slice A3 r.1.outs.length c3) (by omega)
    clear b2 NR ha2 f9 K2 IG2 s2 q2 f2 x2 sg RD
    generalize (((w4.setCell ⟨Q,0,none⟩ (.slice A1 r.1.ins.length c1)).setCell ⟨Q,1,none⟩ (.slice A2 r.1.nodes.length c2)).setCell ⟨Q,2,none⟩ (.slice A3 r.1.outs.length c3))=w9 at *
    exact bodyPost_ret (v:=.agg #[.slice A1 r.1.ins.length c1,.slice A2 r.1.nodes.length c2,.slice A3 r.1.outs.length c3]) (by simp [results,Tryz.results28,go_sem,b4]) rfl ⟨_,rfl,by rw [GE];exact IG4.out,by rw [GE];exact RD4,K4⟩
   ·go_upto_region 4 with fail
    refine opq (fun w'=>(Bx w' P #[.slice A' LL cap',.bool true])∧Hid (IsNums .u8 w' (.slice A' LL cap') L)∧(0<L.length→∀ ad,A'=some ad→ad.block<B)∧(Fr w' P)∧Hid (Keep P W w')∧Hid (IsGraph w' (.agg #[.slice A1 r.1.ins.length c1,.slice A2 r.1.nodes.length c2,.slice A3 r.1.outs.length c3]) r.1)∧X+1≤w'.heap.size∧(Bx w' Q #[.slice none 0 0,.slice none 0 0,.slice none 0 0])∧(Fr w' Q)∧(Bx w' X #[.slice A1 r.1.ins.length c1,.slice A2 r.1.nodes.length c2,.slice A3 r.1.outs.length c3])) ⟨box2_set1 b2,LH (nums_keep NR.out ha2 hB ((Keep.refl P wc).set _ _)),ha2,by (exact kKeep),LH (K2.out.set _ _),LH (graph_save IG2.out ng.out ((Save.refl P wc).set _ _)),by simpa [World.setCell] using s2,by (exact kKeep),by (exact kKeep),by (exact kKeep)⟩ ?_
    clear b2 NR ha2 f9 K2 IG2 s2 q2 f2 x2 ng
    rintro w4 ⟨b2,NR,ha2,f9,K2,IG2,s2,q2,f2,x2⟩
    have RD:RdI w4 B P ⟨L,true⟩:=RdI.mk (by rw [HLL.out];exact b2) f9 (by rw [HLL.out];exact NR.out) ha2 hB (by omega)
    have GE:=(show gR s=(r.1,⟨L,true⟩) by rw [GY.out,HL.out,HTT.out])
    go_wp2_with fail
    have b4:=box_set3 (y0:=.slice A1 r.1.ins.length c1) (y1:=.slice A2 r.1.nodes.length c2) (y2:=.slice A3 r.1.outs.length c3) q2
    have sg:=(((Save.refl Q w4).set 0 (.slice A1 r.1.ins.length c1)).set 1 (.slice A2 r.1.nodes.length c2)).set 2 (.slice A3 r.1.outs.length c3)
    have IG4:=LH (graph_save IG2.out (noInt_box q2) sg)
    have RD4:=((RD.setNew (o:=0) (u:=.slice A1 r.1.ins.length c1) hP).setNew (o:=1) (u:=.slice A2 r.1.nodes.length c2) hP).setNew (o:=2) (u:=.slice A3 r.1.outs.length c3) hP
    have K4:=((K2.out.setNew (Q:=Q) (o:=0) (u:=.slice A1 r.1.ins.length c1) (by omega)).setNew (Q:=Q) (o:=1) (u:=.slice A2 r.1.nodes.length c2) (by omega)).setNew (Q:=Q) (o:=2) (u:=.slice A3 r.1.outs.length c3) (by omega)
    clear b2 NR ha2 f9 K2 IG2 s2 q2 f2 x2 sg RD
    generalize (((w4.setCell ⟨Q,0,none⟩ (.slice A1 r.1.ins.length c1)).setCell ⟨Q,1,none⟩ (.slice A2 r.1.nodes.length c2)).setCell ⟨Q,2,none⟩ (.slice A3 r.1.outs.length c3))=w9 at *
    exact bodyPost_ret (v:=.agg #[.slice A1 r.1.ins.length c1,.slice A2 r.1.nodes.length c2,.slice A3 r.1.outs.length c3]) (by simp [results,Tryz.results28,go_sem,b4]) rfl ⟨_,rfl,by rw [GE];exact IG4.out,by rw [GE];exact RD4,K4⟩
 ·have GY:=LH (gR_no hT)
  clear hT
  have q1:=box_past pp1 q0 (by omega)
  have f1:=free_past pp1 f0 (by omega)
  have b1:=box_past pp1 b0 (by omega)
  have g1:=free_past pp1 g0 (by omega)
  have p1:=p0.trans pp1
  have s1:Q+1≤w1.heap.size:=by have:=pp1.2.2.1;omega
  have IG:=LH (zero_graph w1)
  clear q0 f0 b0 g0 p0 s0 pp1 TK bx fr
  obtain ⟨L,hL⟩:∃ L,s.rest=L:=⟨_,rfl⟩
  have HAX:=HA.out
  rw [hL] at b1 NU BY hcap hm hl HAX
  rw [hL]
  obtain ⟨LL,hLL⟩:∃ m,L.length=m:=⟨_,rfl⟩
  rw [hLL] at b1 NU hcap hm hl
  rw [hLL]
  have HL:=LH hL
  have HLL:=LH hLL
  clear HA
  have HA:=LH HAX
  clear hLL hL HAX
  obtain ⟨X,hX⟩:∃ X,w1.heap.size=X:=⟨_,rfl⟩
  go_upto_region 2 with fail
  refine opq (fun w'=>(Bx w' Q #[.slice none 0 0,.slice none 0 0,.slice none 0 0])∧(Fr w' Q)∧(Bx w' X #[.slice none 0 0,.slice none 0 0,.slice none 0 0])∧(Bx w' P #[.slice A LL cap,.bool s.short])∧(Fr w' P)∧Past W w'∧Past w1 w'∧X+1≤w'.heap.size) (by
   subst hX
   exact ⟨by (exact kKeep),by (exact kKeep),by (exact kKeep),by (exact kKeep),by (exact kKeep),by (exact kKeep),by (exact kKeep),by (exact kKeep)⟩) ?_
  rintro w2 ⟨q2,f2,x2,b2,g2,p2,pp2,s2⟩
  try rw [hX]
  have hQX:Q+1≤X:=by omega
  have IG2:=LH (IG.out.grow pp2)
  clear q1 f1 b1 g1 p1 s1 pp2 hX IG
  have GR2:Hid (IsNums .u8 w2 (.slice A LL cap) L):=LH (NU.out.grow p2)
  clear NU
  have ng:=LH (noInt2 b2)
  go_cut [] (fun w'=>∃ A' cap',(Bx w' P #[.slice A' LL cap',.bool s.short])∧Hid (IsNums .u8 w' (.slice A' LL cap') L)∧(0<L.length→∀ ad,A'=some ad→ad.block<B)∧(Fr w' P)∧Hid (Keep P W w')∧Hid (IsGraph w' (.agg #[.slice none 0 0,.slice none 0 0,.slice none 0 0]) zeroG)∧X+1≤w'.heap.size∧(Bx w' Q #[.slice none 0 0,.slice none 0 0,.slice none 0 0])∧(Fr w' Q)∧(Bx w' X #[.slice none 0 0,.slice none 0 0,.slice none 0 0]))
  case first =>
   have nb:=nums_keep GR2.out HA.out hB ((Keep.refl P w2).set 0 (.slice A LL cap))
   cases A with
   | none =>
    go_wp2_with fail
    go_meet
    exact ⟨_,_,box2_set0 b2,LH nb,HA.out,by (exact kKeep),LH ((Keep.of_past p2).set _ _),LH (graph_save IG2.out ng.out ((Save.refl P w2).set _ _)),by simpa [World.setCell] using s2,by (exact kKeep),by (exact kKeep),by (exact kKeep)⟩
   | some ad =>
    obtain ⟨b,off,q⟩:=ad
    go_wp2_with fail
    go_meet
    exact ⟨_,_,box2_set0 b2,LH nb,HA.out,by (exact kKeep),LH ((Keep.of_past p2).set _ _),LH (graph_save IG2.out ng.out ((Save.refl P w2).set _ _)),by simpa [World.setCell] using s2,by (exact kKeep),by (exact kKeep),by (exact kKeep)⟩
  case rest =>
   clear b2 g2 p2 s2 IG2 GR2 q2 f2 x2 ng
   obtain ⟨A',cap',b2,NR,ha2,f9,K2,IG2,s2,q2,f2,x2⟩:=hcut
   have ng:=LH (noInt2 b2)
   obtain ⟨t,ht⟩:∃ t,s.short=t:=⟨_,rfl⟩
   rw [ht] at b2
   have HTT:=LH ht
   clear ht
   cases t
   ·go_upto_region 4 with fail
    refine opq (fun w'=>(Bx w' P #[.slice A' LL cap',.bool true])∧Hid (IsNums .u8 w' (.slice A' LL cap') L)∧(0<L.length→∀ ad,A'=some ad→ad.block<B)∧(Fr w' P)∧Hid (Keep P W w')∧Hid (IsGraph w' (.agg #[.slice none 0 0,.slice none 0 0,.slice none 0 0]) zeroG)∧X+1≤w'.heap.size∧(Bx w' Q #[.slice none 0 0,.slice none 0 0,.slice none 0 0])∧(Fr w' Q)∧(Bx w' X #[.slice none 0 0,.slice none 0 0,.slice none 0 0])) ⟨box2_set1 b2,LH (nums_keep NR.out ha2 hB ((Keep.refl P wc).set _ _)),ha2,by (exact kKeep),LH (K2.out.set _ _),LH (graph_save IG2.out ng.out ((Save.refl P wc).set _ _)),by simpa [World.setCell] using s2,by (exact kKeep),by (exact kKeep),by (exact kKeep)⟩ ?_
    clear b2 NR ha2 f9 K2 IG2 s2 q2 f2 x2 ng
    rintro w4 ⟨b2,NR,ha2,f9,K2,IG2,s2,q2,f2,x2⟩
    have RD:RdI w4 B P ⟨L,true⟩:=RdI.mk (by rw [HLL.out];exact b2) f9 (by rw [HLL.out];exact NR.out) ha2 hB (by omega)
    have GE:=(show gR s=(zeroG,⟨L,true⟩) by rw [GY.out,HL.out])
    go_wp2_with fail
    have b4:=box_set3 (y0:=.slice none 0 0) (y1:=.slice none 0 0) (y2:=.slice none 0 0) q2
    have sg:=(((Save.refl Q w4).set 0 (.slice none 0 0)).set 1 (.slice none 0 0)).set 2 (.slice none 0 0)
    have IG4:=LH (graph_save IG2.out (noInt_box q2) sg)
    have RD4:=((RD.setNew (o:=0) (u:=.slice none 0 0) hP).setNew (o:=1) (u:=.slice none 0 0) hP).setNew (o:=2) (u:=.slice none 0 0) hP
    have K4:=((K2.out.setNew (Q:=Q) (o:=0) (u:=.slice none 0 0) (by omega)).setNew (Q:=Q) (o:=1) (u:=.slice none 0 0) (by omega)).setNew (Q:=Q) (o:=2) (u:=.slice none 0 0) (by omega)
    clear b2 NR ha2 f9 K2 IG2 s2 q2 f2 x2 sg RD
    generalize (((w4.setCell ⟨Q,0,none⟩ (.slice none 0 0)).setCell ⟨Q,1,none⟩ (.slice none 0 0)).setCell ⟨Q,2,none⟩ (.slice none 0 0))=w9 at *
    exact bodyPost_ret (v:=.agg #[.slice none 0 0,.slice none 0 0,.slice none 0 0]) (by simp [results,Tryz.results28,go_sem,b4]) rfl ⟨_,rfl,by rw [GE];exact IG4.out,by rw [GE];exact RD4,K4⟩
   ·go_upto_region 4 with fail
    refine opq (fun w'=>(Bx w' P #[.slice A' LL cap',.bool true])∧Hid (IsNums .u8 w' (.slice A' LL cap') L)∧(0<L.length→∀ ad,A'=some ad→ad.block<B)∧(Fr w' P)∧Hid (Keep P W w')∧Hid (IsGraph w' (.agg #[.slice none 0 0,.slice none 0 0,.slice none 0 0]) zeroG)∧X+1≤w'.heap.size∧(Bx w' Q #[.slice none 0 0,.slice none 0 0,.slice none 0 0])∧(Fr w' Q)∧(Bx w' X #[.slice none 0 0,.slice none 0 0,.slice none 0 0])) ⟨box2_set1 b2,LH (nums_keep NR.out ha2 hB ((Keep.refl P wc).set _ _)),ha2,by (exact kKeep),LH (K2.out.set _ _),LH (graph_save IG2.out ng.out ((Save.refl P wc).set _ _)),by simpa [World.setCell] using s2,by (exact kKeep),by (exact kKeep),by (exact kKeep)⟩ ?_
    clear b2 NR ha2 f9 K2 IG2 s2 q2 f2 x2 ng
    rintro w4 ⟨b2,NR,ha2,f9,K2,IG2,s2,q2,f2,x2⟩
    have RD:RdI w4 B P ⟨L,true⟩:=RdI.mk (by rw [HLL.out];exact b2) f9 (by rw [HLL.out];exact NR.out) ha2 hB (by omega)
    have GE:=(show gR s=(zeroG,⟨L,true⟩) by rw [GY.out,HL.out])
    go_wp2_with fail
    have b4:=box_set3 (y0:=.slice none 0 0) (y1:=.slice none 0 0) (y2:=.slice none 0 0) q2
    have sg:=(((Save.refl Q w4).set 0 (.slice none 0 0)).set 1 (.slice none 0 0)).set 2 (.slice none 0 0)
    have IG4:=LH (graph_save IG2.out (noInt_box q2) sg)
    have RD4:=((RD.setNew (o:=0) (u:=.slice none 0 0) hP).setNew (o:=1) (u:=.slice none 0 0) hP).setNew (o:=2) (u:=.slice none 0 0) hP
    have K4:=((K2.out.setNew (Q:=Q) (o:=0) (u:=.slice none 0 0) (by omega)).setNew (Q:=Q) (o:=1) (u:=.slice none 0 0) (by omega)).setNew (Q:=Q) (o:=2) (u:=.slice none 0 0) (by omega)
    clear b2 NR ha2 f9 K2 IG2 s2 q2 f2 x2 sg RD
    generalize (((w4.setCell ⟨Q,0,none⟩ (.slice none 0 0)).setCell ⟨Q,1,none⟩ (.slice none 0 0)).setCell ⟨Q,2,none⟩ (.slice none 0 0))=w9 at *
    exact bodyPost_ret (v:=.agg #[.slice none 0 0,.slice none 0 0,.slice none 0 0]) (by simp [results,Tryz.results28,go_sem,b4]) rfl ⟨_,rfl,by rw [GE];exact IG4.out,by rw [GE];exact RD4,K4⟩
end Go.Proofs.YtejllmjkeefloaaGreat
