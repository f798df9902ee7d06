/- Images in memory that are stored into a box; their bytes. The reader of an image: a place off the front; a stream. -/
import Derived.Deep.DeepCutAuto
import Derived.Test.YtejllmjkeefloaaGreatMA7
import Derived.Test.YtejllmjkeefloaaGreatMA6
namespace Go.Proofs.YtejllmjkeefloaaGreat
open Go.ChangeShapes Go.WideShapes Go.ChangeAt Go.RowKit
set_option maxRecDepth 20000
set_option linter.unusedVariables false
set_option linter.unusedSimpArgs false
theorem cmds_save {B:Nat}{w w':World}{v:Value}{l:List (List Int)}(h:Q8.IsCmds w v l)(hN:NoInt w B)(g:Save B w w'):Q8.IsCmds w' v l:=by
 obtain⟨A,cap,e,h1,h2,h3,h4,h5⟩:=h;refine⟨A,cap,e,h1,h2,h3,h4,fun hp=>?_⟩;obtain⟨b,off,ea,hb,hc⟩:=h5 hp;have hne:b≠B:=by
  rintro rfl;have wc:=Q8.wfC_at h4 hp;have c0:=hc 0 hp 0;obtain⟨x,xs,hx⟩:∃ x xs,l.getD 0 []=x :: xs:=by
   cases q:l.getD 0 [] with
   | nil=>rw [q] at wc;exact absurd wc.1 (by simp)
   | cons x xs=>exact⟨x,xs,rfl⟩
  rw [hx] at c0;exact hN _ _ _ (c0 (.int .i64 x) rfl)
 exact⟨b,off,ea,Nat.lt_of_lt_of_le hb g.1,fun i hi j v hv=>(g.cell hb hne).trans (hc i hi j v hv)⟩
theorem img_save {B:Nat}{w w':World}{v:Value}{i:ImgD}(h:IsImg w v i)(hN:NoInt w B)(g:Save B w w'):IsImg w' v i:=by
 obtain⟨iv,nv,ov,pv,u0,u1,u2,rfl,a,b,c,d,e⟩:=h;exact⟨iv,nv,ov,pv,u0,u1,u2,rfl,graph_save a hN g,nums_save b hN g,cmds_save c hN g,cmds_save d hN g,cmds_save e hN g⟩
theorem save7 {w:World}{B:Nat}{y0 y1 y2 y3 y4 y5 y6:Value}:Save B w (((((((w.setCell ⟨B,0,none⟩ y0).setCell ⟨B,1,none⟩ y1).setCell ⟨B,2,none⟩ y2).setCell ⟨B,3,none⟩ y3).setCell ⟨B,4,none⟩ y4).setCell ⟨B,5,none⟩ y5).setCell ⟨B,6,none⟩ y6):=(((((((Save.refl B w).set 0 y0).set 1 y1).set 2 y2).set 3 y3).set 4 y4).set 5 y5).set 6 y6
theorem past7 {W w:World}{B:Nat}{y0 y1 y2 y3 y4 y5 y6:Value}(h:Past W w)(hB:W.heap.size<=B):Past W (((((((w.setCell ⟨B,0,none⟩ y0).setCell ⟨B,1,none⟩ y1).setCell ⟨B,2,none⟩ y2).setCell ⟨B,3,none⟩ y3).setCell ⟨B,4,none⟩ y4).setCell ⟨B,5,none⟩ y5).setCell ⟨B,6,none⟩ y6):=((((((h.setCell (p:=⟨B,0,none⟩) hB y0).setCell (p:=⟨B,1,none⟩) hB y1).setCell (p:=⟨B,2,none⟩) hB y2).setCell (p:=⟨B,3,none⟩) hB y3).setCell (p:=⟨B,4,none⟩) hB y4).setCell (p:=⟨B,5,none⟩) hB y5).setCell (p:=⟨B,6,none⟩) hB y6
end Go.Proofs.YtejllmjkeefloaaGreat
namespace Go.Proofs.YtejllmjkeefloaaGreat
open Go.ChangeShapes Go.WideShapes Go.ChangeAt Go.RowKit
set_option maxRecDepth 20000
set_option linter.unusedVariables false
set_option linter.unusedSimpArgs false
theorem mR_yes {s:Rd}{x y z:Int}(h:3<=s.rest.length)(e:s.rest.take 3=[x,y,z]):mR s=(256*(256*x+y)+z,⟨s.rest.drop 3,s.short⟩):=by
 unfold mR partR markT;rw [if_neg (by omega),e];simp [foldB]
theorem mR_no {s:Rd}(h:s.rest.length<3):mR s=(0,⟨s.rest,true⟩):=by
 unfold mR partR markT;rw [if_pos h]
set_option maxHeartbeats 8000000 in
theorem partM_rd (B P:Nat) (s:Rd) (W:World) (hr:RdI W B P s) (hl:s.rest.length≤1000000):Calls Tryz.prog 31 #[.pointer (some ⟨P,0,none⟩),.func (.func 32) #[] #[]] W fun e w'=>∃ x y z:Int,e=.returned (.agg #[.int .u8 x,.int .u8 y,.int .u8 z])∧(0≤x∧x<256)∧(0≤y∧y<256)∧(0≤z∧z<256)∧256*(256*x+y)+z=(mR s).1∧RdI w' B P (mR s).2∧Keep P W w':=by
 have hE:∀ (xs:Array Value) (w:World),(callFunc 32 xs).run Tryz.prog w=.ok (.enter 32 xs) w:=fun xs w=>by kernel_rfl
 have hP:=hr.lt
 have BY:=LH hr.bytesP
 obtain ⟨A,cap,bx,fr,nu,ha,hB,_⟩:=hr
 have TK:=LH (fun w (p:Past W w)=>takeMark_any _ s.rest w (nu.grow p))
 unfold TookM at TK
 have NU:=LH nu
 have HA:=LH ha
 have hm:s.rest.length≤9223372036854775807:=by omega
 have hcap:s.rest.length≤cap∧cap≤maxLen:=by
  obtain ⟨_,_,e,k1,k2,_⟩:=nu
  simp only [Value.slice.injEq,true_and] at e
  obtain ⟨rfl,rfl⟩:=e
  exact ⟨k1,k2⟩
 clear nu ha
 go_enter Tryz.func31,Tryz.ntmps31
 go_upto_region 1 with fail
 obtain ⟨Q,hQ⟩:∃ Q,W.heap.size=Q:=⟨_,rfl⟩
 refine opq (fun w'=>(Bx w' Q #[.int .u8 0,.int .u8 0,.int .u8 0])∧(Fr w' Q)∧(Bx w' P #[.slice A s.rest.length cap,.bool s.short])∧(Fr w' P)∧Past W w'∧Q+1≤w'.heap.size) (by
  subst hQ
  exact ⟨by (exact kKeep),by (exact kKeep),by (exact kKeep),by (exact kKeep),by (exact kKeep),by simp⟩) ?_
 rintro w0 ⟨q0,f0,b0,g0,p0,s0⟩
 try rw [hQ]
 rw [hQ] at hP
 go_wp2_with fail
 refine (TK.out _ p0).mono ?_
 rintro e w1 H
 rcases H with ⟨h3,x,y,z,ht3,rfl,pp1⟩|⟨h3,rfl,pp1⟩
 ·have ME:=mR_yes h3 ht3
  obtain ⟨n,hn⟩:∃ n:Nat,3=n:=⟨_,rfl⟩
  have en:(3:Int)=(n:Int):=by omega
  rw [en]
  rw [hn] at ME
  have hn2:n≤s.rest.length:=by omega
  have GY:=LH ME
  have HB:Hid ((0≤x∧x<256)∧(0≤y∧y<256)∧(0≤z∧z<256)):=LH (by
   have h:∀ c∈[x,y,z],0≤c∧c<256:=fun c hc=>BY.out c (List.mem_of_mem_take (by rw [ht3];exact hc))
   exact ⟨h x (by simp),h y (by simp),h z (by simp)⟩)
  clear ht3 en hn ME
  obtain ⟨b,off,rfl⟩:∃ b off,A=some ⟨b,off,none⟩:=by
   obtain ⟨_,_,e,_,_,_,_,k⟩:=NU.out
   simp only [Value.slice.injEq,true_and] at e
   obtain ⟨rfl,rfl⟩:=e
   obtain ⟨b,off,e,_⟩:=k (by omega)
   exact ⟨b,off,e⟩
  have q1:=box_past pp1 q0 (by omega)
  have f1:=free_past pp1 f0 (by omega)
  have b1:=box_past pp1 b0 (by omega)
  have g1:=free_past pp1 g0 (by omega)
  have p1:=p0.trans pp1
  have s1:Q+1≤w1.heap.size:=by have:=pp1.2.2.1;omega
  have IG:=LH (True.intro)
  clear q0 f0 b0 g0 p0 s0 pp1 TK bx fr
  obtain ⟨L,hL⟩:∃ L,s.rest.drop n=L:=⟨_,rfl⟩
  obtain ⟨LL,hLL⟩:∃ m,L.length=m:=⟨_,rfl⟩
  have HL:=LH hL
  have HLL:=LH hLL
  clear hL hLL
  obtain ⟨X,hX⟩:∃ X,w1.heap.size=X:=⟨_,rfl⟩
  go_upto_region 2 with fail
  refine opq (fun w'=>(Bx w' Q #[.int .u8 0,.int .u8 0,.int .u8 0])∧(Fr w' Q)∧(Bx w' X #[.int .u8 x,.int .u8 y,.int .u8 z])∧(Bx w' P #[.slice (some ⟨b,off,none⟩) s.rest.length cap,.bool s.short])∧(Fr w' P)∧Past W w'∧Past w1 w'∧X+1≤w'.heap.size) (by
   subst hX
   exact ⟨by (exact kKeep),by (exact kKeep),by (exact kKeep),by (exact kKeep),by (exact kKeep),by (exact kKeep),by (exact kKeep),by (exact kKeep)⟩) ?_
  rintro w2 ⟨q2,f2,x2,b2,g2,p2,pp2,s2⟩
  try rw [hX]
  have hQX:Q+1≤X:=by omega
  have IG2:=LH (True.intro)
  clear q1 f1 b1 g1 p1 s1 pp2 hX IG
  have GR2:Hid (IsNums .u8 w2 (.slice (some ⟨b,off,none⟩) s.rest.length cap) s.rest):=LH (NU.out.grow p2)
  clear NU
  have ng:=LH (noInt2 b2)
  go_cut [] (fun w'=>∃ A' cap',(Bx w' P #[.slice A' LL cap',.bool s.short])∧Hid (IsNums .u8 w' (.slice A' LL cap') L)∧(0<L.length→∀ ad,A'=some ad→ad.block<B)∧(Fr w' P)∧Hid (Keep P W w')∧Hid (True)∧X+1≤w'.heap.size∧(Bx w' Q #[.int .u8 0,.int .u8 0,.int .u8 0])∧(Fr w' Q)∧(Bx w' X #[.int .u8 x,.int .u8 y,.int .u8 z]))
  case first =>
   go_wp2_with fail
   ·go_meet
    have hz:s.rest.drop n=[]:=List.drop_of_length_le (by omega)
    have hz2:s.rest.length-n=0:=by omega
    have hz3:L=[]:=by rw [← HL.out,hz]
    have hz4:LL=0:=by rw [← HLL.out,hz3];rfl
    rw [hz2,hz3,hz4]
    exact ⟨_,_,box2_set0 b2,LH (none_nums (by omega) (by intro h;cases h)),(fun h=>absurd h (by simp)),by (exact kKeep),LH ((Keep.of_past p2).set _ _),LH True.intro,by simpa [World.setCell] using s2,by (exact kKeep),by (exact kKeep),by (exact kKeep)⟩
   ·go_meet
    have kn:=bit_nums (n:=n) GR2.out hn2 (by omega)
    rw [HL.out,HLL.out] at kn
    have el:s.rest.length-n=LL:=by rw [← HLL.out,← HL.out,List.length_drop]
    rw [el]
    have h4:0<L.length→∀ ad,some (⟨b,off+n,none⟩:Addr)=some ad→ad.block<B:=fun h ad e=>by
     simp only [Option.some.injEq] at e
     subst e
     have hab:=HA.out (by rw [← HL.out,List.length_drop] at h;omega) ⟨b,off,none⟩ rfl
     exact hab
    exact ⟨_,_,box2_set0 b2,LH (nums_keep kn h4 hB ((Keep.refl P w2).set _ _)),h4,by (exact kKeep),LH ((Keep.of_past p2).set _ _),LH True.intro,by simpa [World.setCell] using s2,by (exact kKeep),by (exact kKeep),by (exact kKeep)⟩
  case rest =>
   clear b2 g2 p2 s2 IG2 GR2 q2 f2 x2 ng
   obtain ⟨A',cap',b2,NR,ha2,f9,K2,IG2,s2,q2,f2,x2⟩:=hcut
   have ng:=LH (noInt2 b2)
   obtain ⟨t,ht⟩:∃ t,s.short=t:=⟨_,rfl⟩
   rw [ht] at b2
   have HTT:=LH ht
   clear ht
   cases t
   ·go_upto_region 4 with fail
    refine opq (fun w'=>(Bx w' P #[.slice A' LL cap',.bool false])∧Hid (IsNums .u8 w' (.slice A' LL cap') L)∧(0<L.length→∀ ad,A'=some ad→ad.block<B)∧(Fr w' P)∧Hid (Keep P W w')∧Hid (True)∧X+1≤w'.heap.size∧(Bx w' Q #[.int .u8 0,.int .u8 0,.int .u8 0])∧(Fr w' Q)∧(Bx w' X #[.int .u8 x,.int .u8 y,.int .u8 z])) ⟨box2_set1 b2,LH (nums_keep NR.out ha2 hB ((Keep.refl P wc).set _ _)),ha2,by (exact kKeep),LH (K2.out.set _ _),LH True.intro,by simpa [World.setCell] using s2,by (exact kKeep),by (exact kKeep),by (exact kKeep)⟩ ?_
    clear b2 NR ha2 f9 K2 IG2 s2 q2 f2 x2 ng
    rintro w4 ⟨b2,NR,ha2,f9,K2,IG2,s2,q2,f2,x2⟩
    have RD:RdI w4 B P ⟨L,false⟩:=RdI.mk (by rw [HLL.out];exact b2) f9 (by rw [HLL.out];exact NR.out) ha2 hB (by omega)
    have GE:=(show mR s=(256*(256*x+y)+z,⟨L,false⟩) by rw [GY.out,HL.out,HTT.out])
    go_wp2_with fail
    have b4:=box_set3 (y0:=.int .u8 x) (y1:=.int .u8 y) (y2:=.int .u8 z) q2
    have sg:=(((Save.refl Q w4).set 0 (.int .u8 x)).set 1 (.int .u8 y)).set 2 (.int .u8 z)
    have IG4:=LH True.intro
    have RD4:=((RD.setNew (o:=0) (u:=.int .u8 x) hP).setNew (o:=1) (u:=.int .u8 y) hP).setNew (o:=2) (u:=.int .u8 z) hP
    have K4:=((K2.out.setNew (Q:=Q) (o:=0) (u:=.int .u8 x) (by omega)).setNew (Q:=Q) (o:=1) (u:=.int .u8 y) (by omega)).setNew (Q:=Q) (o:=2) (u:=.int .u8 z) (by omega)
    clear b2 NR ha2 f9 K2 IG2 s2 q2 f2 x2 sg RD
    generalize (((w4.setCell ⟨Q,0,none⟩ (.int .u8 x)).setCell ⟨Q,1,none⟩ (.int .u8 y)).setCell ⟨Q,2,none⟩ (.int .u8 z))=w9 at *
    exact bodyPost_ret (v:=.agg #[.int .u8 x,.int .u8 y,.int .u8 z]) (by simp [results,Tryz.results31,go_sem,b4]) rfl ⟨x,y,z,rfl,HB.out.1,HB.out.2.1,HB.out.2.2,by rw [GE],by rw [GE];exact RD4,K4⟩
   ·go_upto_region 4 with fail
    refine opq (fun w'=>(Bx w' P #[.slice A' LL cap',.bool true])∧Hid (IsNums .u8 w' (.slice A' LL cap') L)∧(0<L.length→∀ ad,A'=some ad→ad.block<B)∧(Fr w' P)∧Hid (Keep P W w')∧Hid (True)∧X+1≤w'.heap.size∧(Bx w' Q #[.int .u8 0,.int .u8 0,.int .u8 0])∧(Fr w' Q)∧(Bx w' X #[.int .u8 x,.int .u8 y,.int .u8 z])) ⟨box2_set1 b2,LH (nums_keep NR.out ha2 hB ((Keep.refl P wc).set _ _)),ha2,by (exact kKeep),LH (K2.out.set _ _),LH True.intro,by simpa [World.setCell] using s2,by (exact kKeep),by (exact kKeep),by (exact kKeep)⟩ ?_
    clear b2 NR ha2 f9 K2 IG2 s2 q2 f2 x2 ng
    rintro w4 ⟨b2,NR,ha2,f9,K2,IG2,s2,q2,f2,x2⟩
    have RD:RdI w4 B P ⟨L,true⟩:=RdI.mk (by rw [HLL.out];exact b2) f9 (by rw [HLL.out];exact NR.out) ha2 hB (by omega)
    have GE:=(show mR s=(256*(256*x+y)+z,⟨L,true⟩) by rw [GY.out,HL.out,HTT.out])
    go_wp2_with fail
    have b4:=box_set3 (y0:=.int .u8 x) (y1:=.int .u8 y) (y2:=.int .u8 z) q2
    have sg:=(((Save.refl Q w4).set 0 (.int .u8 x)).set 1 (.int .u8 y)).set 2 (.int .u8 z)
    have IG4:=LH True.intro
    have RD4:=((RD.setNew (o:=0) (u:=.int .u8 x) hP).setNew (o:=1) (u:=.int .u8 y) hP).setNew (o:=2) (u:=.int .u8 z) hP
    have K4:=((K2.out.setNew (Q:=Q) (o:=0) (u:=.int .u8 x) (by omega)).setNew (Q:=Q) (o:=1) (u:=.int .u8 y) (by omega)).setNew (Q:=Q) (o:=2) (u:=.int .u8 z) (by omega)
    clear b2 NR ha2 f9 K2 IG2 s2 q2 f2 x2 sg RD
    generalize (((w4.setCell ⟨Q,0,none⟩ (.int .u8 x)).setCell ⟨Q,1,none⟩ (.int .u8 y)).setCell ⟨Q,2,none⟩ (.int .u8 z))=w9 at *
    exact bodyPost_ret (v:=.agg #[.int .u8 x,.int .u8 y,.int .u8 z]) (by simp [results,Tryz.results31,go_sem,b4]) rfl ⟨x,y,z,rfl,HB.out.1,HB.out.2.1,HB.out.2.2,by rw [GE],by rw [GE];exact RD4,K4⟩
 ·have GY:=LH (mR_no h3)
  clear h3
  have q1:=box_past pp1 q0 (by omega)
  have f1:=free_past pp1 f0 (by omega)
  have b1:=box_past pp1 b0 (by omega)
  have g1:=free_past pp1 g0 (by omega)
  have p1:=p0.trans pp1
  have s1:Q+1≤w1.heap.size:=by have:=pp1.2.2.1;omega
  have IG:=LH (True.intro)
  clear q0 f0 b0 g0 p0 s0 pp1 TK bx fr
  obtain ⟨L,hL⟩:∃ L,s.rest=L:=⟨_,rfl⟩
  have HAX:=HA.out
  rw [hL] at b1 NU BY hcap hm hl HAX
  rw [hL]
  obtain ⟨LL,hLL⟩:∃ m,L.length=m:=⟨_,rfl⟩
  rw [hLL] at b1 NU hcap hm hl
  rw [hLL]
  have HL:=LH hL
  have HLL:=LH hLL
  clear HA
  have HA:=LH HAX
  clear hLL hL HAX
  obtain ⟨X,hX⟩:∃ X,w1.heap.size=X:=⟨_,rfl⟩
  go_upto_region 2 with fail
  refine opq (fun w'=>(Bx w' Q #[.int .u8 0,.int .u8 0,.int .u8 0])∧(Fr w' Q)∧(Bx w' X #[.int .u8 0,.int .u8 0,.int .u8 0])∧(Bx w' P #[.slice A LL cap,.bool s.short])∧(Fr w' P)∧Past W w'∧Past w1 w'∧X+1≤w'.heap.size) (by
   subst hX
   exact ⟨by (exact kKeep),by (exact kKeep),by (exact kKeep),by (exact kKeep),by (exact kKeep),by (exact kKeep),by (exact kKeep),by (exact kKeep)⟩) ?_
  rintro w2 ⟨q2,f2,x2,b2,g2,p2,pp2,s2⟩
  try rw [hX]
  have hQX:Q+1≤X:=by omega
  have IG2:=LH (True.intro)
  clear q1 f1 b1 g1 p1 s1 pp2 hX IG
  have GR2:Hid (IsNums .u8 w2 (.slice A LL cap) L):=LH (NU.out.grow p2)
  clear NU
  have ng:=LH (noInt2 b2)
  go_cut [] (fun w'=>∃ A' cap',(Bx w' P #[.slice A' LL cap',.bool s.short])∧Hid (IsNums .u8 w' (.slice A' LL cap') L)∧(0<L.length→∀ ad,A'=some ad→ad.block<B)∧(Fr w' P)∧Hid (Keep P W w')∧Hid (True)∧X+1≤w'.heap.size∧(Bx w' Q #[.int .u8 0,.int .u8 0,.int .u8 0])∧(Fr w' Q)∧(Bx w' X #[.int .u8 0,.int .u8 0,.int .u8 0]))
  case first =>
   have nb:=nums_keep GR2.out HA.out hB ((Keep.refl P w2).set 0 (.slice A LL cap))
   cases A with
   | none =>
    go_wp2_with fail
    go_meet
    exact ⟨_,_,box2_set0 b2,LH nb,HA.out,by (exact kKeep),LH ((Keep.of_past p2).set _ _),LH True.intro,by simpa [World.setCell] using s2,by (exact kKeep),by (exact kKeep),by (exact kKeep)⟩
   | some ad =>
    obtain ⟨b,off,q⟩:=ad
    go_wp2_with fail
    go_meet
    exact ⟨_,_,box2_set0 b2,LH nb,HA.out,by (exact kKeep),LH ((Keep.of_past p2).set _ _),LH True.intro,by simpa [World.setCell] using s2,by (exact kKeep),by (exact kKeep),by (exact kKeep)⟩
  case rest =>
   clear b2 g2 p2 s2 IG2 GR2 q2 f2 x2 ng
   obtain ⟨A',cap',b2,NR,ha2,f9,K2,IG2,s2,q2,f2,x2⟩:=hcut
   have ng:=LH (noInt2 b2)
   obtain ⟨t,ht⟩:∃ t,s.short=t:=⟨_,rfl⟩
   rw [ht] at b2
   have HTT:=LH ht
   clear ht
   cases t
   ·go_upto_region 4 with fail
    refine opq (fun w'=>(Bx w' P #[.slice A' LL cap',.bool true])∧Hid (IsNums .u8 w' (.slice A' LL cap') L)∧(0<L.length→∀ ad,A'=some ad→ad.block<B)∧(Fr w' P)∧Hid (Keep P W w')∧Hid (True)∧X+1≤w'.heap.size∧(Bx w' Q #[.int .u8 0,.int .u8 0,.int .u8 0])∧(Fr w' Q)∧(Bx w' X #[.int .u8 0,.int .u8 0,.int .u8 0])) ⟨box2_set1 b2,LH (nums_keep NR.out ha2 hB ((Keep.refl P wc).set _ _)),ha2,by (exact kKeep),LH (K2.out.set _ _),LH True.intro,by simpa [World.setCell] using s2,by (exact kKeep),by (exact kKeep),by (exact kKeep)⟩ ?_
    clear b2 NR ha2 f9 K2 IG2 s2 q2 f2 x2 ng
    rintro w4 ⟨b2,NR,ha2,f9,K2,IG2,s2,q2,f2,x2⟩
    have RD:RdI w4 B P ⟨L,true⟩:=RdI.mk (by rw [HLL.out];exact b2) f9 (by rw [HLL.out];exact NR.out) ha2 hB (by omega)
    have GE:=(show mR s=(0,⟨L,true⟩) by rw [GY.out,HL.out])
    go_wp2_with fail
    have b4:=box_set3 (y0:=.int .u8 0) (y1:=.int .u8 0) (y2:=.int .u8 0) q2
    have sg:=(((Save.refl Q w4).set 0 (.int .u8 0)).set 1 (.int .u8 0)).set 2 (.int .u8 0)
    have IG4:=LH True.intro
    have RD4:=((RD.setNew (o:=0) (u:=.int .u8 0) hP).setNew (o:=1) (u:=.int .u8 0) hP).setNew (o:=2) (u:=.int .u8 0) hP
    have K4:=((K2.out.setNew (Q:=Q) (o:=0) (u:=.int .u8 0) (by omega)).setNew (Q:=Q) (o:=1) (u:=.int .u8 0) (by omega)).setNew (Q:=Q) (o:=2) (u:=.int .u8 0) (by omega)
    clear b2 NR ha2 f9 K2 IG2 s2 q2 f2 x2 sg RD
    generalize (((w4.setCell ⟨Q,0,none⟩ (.int .u8 0)).setCell ⟨Q,1,none⟩ (.int .u8 0)).setCell ⟨Q,2,none⟩ (.int .u8 0))=w9 at *
    exact bodyPost_ret (v:=.agg #[.int .u8 0,.int .u8 0,.int .u8 0]) (by simp [results,Tryz.results31,go_sem,b4]) rfl ⟨0,0,0,rfl,by omega,by omega,by omega,by rw [GE];rfl,by rw [GE];exact RD4,K4⟩
   ·go_upto_region 4 with fail
    refine opq (fun w'=>(Bx w' P #[.slice A' LL cap',.bool true])∧Hid (IsNums .u8 w' (.slice A' LL cap') L)∧(0<L.length→∀ ad,A'=some ad→ad.block<B)∧(Fr w' P)∧Hid (Keep P W w')∧Hid (True)∧X+1≤w'.heap.size∧(Bx w' Q #[.int .u8 0,.int .u8 0,.int .u8 0])∧(Fr w' Q)∧(Bx w' X #[.int .u8 0,.int .u8 0,.int .u8 0])) ⟨box2_set1 b2,LH (nums_keep NR.out ha2 hB ((Keep.refl P wc).set _ _)),ha2,by (exact kKeep),LH (K2.out.set _ _),LH True.intro,by simpa [World.setCell] using s2,by (exact kKeep),by (exact kKeep),by (exact kKeep)⟩ ?_
    clear b2 NR ha2 f9 K2 IG2 s2 q2 f2 x2 ng
    rintro w4 ⟨b2,NR,ha2,f9,K2,IG2,s2,q2,f2,x2⟩
    have RD:RdI w4 B P ⟨L,true⟩:=RdI.mk (by rw [HLL.out];exact b2) f9 (by rw [HLL.out];exact NR.out) ha2 hB (by omega)
    have GE:=(show mR s=(0,⟨L,true⟩) by rw [GY.out,HL.out])
    go_wp2_with fail
    have b4:=box_set3 (y0:=.int .u8 0) (y1:=.int .u8 0) (y2:=.int .u8 0) q2
    have sg:=(((Save.refl Q w4).set 0 (.int .u8 0)).set 1 (.int .u8 0)).set 2 (.int .u8 0)
    have IG4:=LH True.intro
    have RD4:=((RD.setNew (o:=0) (u:=.int .u8 0) hP).setNew (o:=1) (u:=.int .u8 0) hP).setNew (o:=2) (u:=.int .u8 0) hP
    have K4:=((K2.out.setNew (Q:=Q) (o:=0) (u:=.int .u8 0) (by omega)).setNew (Q:=Q) (o:=1) (u:=.int .u8 0) (by omega)).setNew (Q:=Q) (o:=2) (u:=.int .u8 0) (by omega)
    clear b2 NR ha2 f9 K2 IG2 s2 q2 f2 x2 sg RD
    generalize (((w4.setCell ⟨Q,0,none⟩ (.int .u8 0)).setCell ⟨Q,1,none⟩ (.int .u8 0)).setCell ⟨Q,2,none⟩ (.int .u8 0))=w9 at *
    exact bodyPost_ret (v:=.agg #[.int .u8 0,.int .u8 0,.int .u8 0]) (by simp [results,Tryz.results31,go_sem,b4]) rfl ⟨0,0,0,rfl,by omega,by omega,by omega,by rw [GE];rfl,by rw [GE];exact RD4,K4⟩
set_option maxHeartbeats 8000000 in
theorem partS_rd (B P:Nat) (s:Rd) (W:World) (hr:RdI W B P s) (hl:s.rest.length≤1000000):Calls Tryz.prog 34 #[.pointer (some ⟨P,0,none⟩),.func (.func 35) #[] #[]] W fun e w'=>∃ sv,e=.returned sv∧Q8.IsCmds w' sv (sR s).1∧RdI w' B P (sR s).2∧Keep P W w':=by
 have hE:∀ (xs:Array Value) (w:World),(callFunc 35 xs).run Tryz.prog w=.ok (.enter 35 xs) w:=fun xs w=>by kernel_rfl
 have hP:=hr.lt
 have BY:=LH hr.bytesP
 obtain ⟨A,cap,bx,fr,nu,ha,hB,_⟩:=hr
 have TK:=LH (fun w (p:Past W w)=>Q8.take_any _ s.rest w (nu.grow p))
 unfold Q8.TakePost at TK
 have NU:=LH nu
 have HA:=LH ha
 have hm:s.rest.length≤9223372036854775807:=by omega
 have hcap:s.rest.length≤cap∧cap≤maxLen:=by
  obtain ⟨_,_,e,k1,k2,_⟩:=nu
  simp only [Value.slice.injEq,true_and] at e
  obtain ⟨rfl,rfl⟩:=e
  exact ⟨k1,k2⟩
 clear nu ha
 go_enter Tryz.func34,Tryz.ntmps34
 go_upto_region 1 with fail
 obtain ⟨Q,hQ⟩:∃ Q,W.heap.size=Q:=⟨_,rfl⟩
 refine opq (fun w'=>(Bx w' P #[.slice A s.rest.length cap,.bool s.short])∧(Fr w' P)∧Past W w'∧Q≤w'.heap.size) (by
  subst hQ
  exact ⟨by (exact kKeep),by (exact kKeep),by (exact kKeep),by omega⟩) ?_
 rintro w0 ⟨b0,g0,p0,s0⟩
 try rw [hQ]
 rw [hQ] at hP
 go_wp2_with fail
 refine (TK.out _ p0).mono ?_
 rintro e w1 ⟨sv,rfl,own,pp1⟩
 rcases hT:Q8.takeD s.rest with _|⟨l,r⟩
 ·obtain ⟨t1,t2,t3⟩:=Q8.take_none hT
  rw [t1] at own
  rw [t2,t3]
  have GY:Hid (sR s=([],⟨s.rest,true⟩)):=LH (by unfold sR partR;rw [hT])
  have ig:=own.cmds
  obtain ⟨Av,cv,rfl,_,_⟩:=own_slice' own.1
  clear own hT t1 t2 t3
  have b1:=box_past pp1 b0 (by omega)
  have g1:=free_past pp1 g0 (by omega)
  have p1:=p0.trans pp1
  have s1:Q≤w1.heap.size:=by have:=pp1.2.2.1;omega
  have IG:=LH (ig)
  clear b0 g0 p0 s0 pp1 TK bx fr
  obtain ⟨L,hL⟩:∃ L,s.rest=L:=⟨_,rfl⟩
  have HAX:=HA.out
  rw [hL] at b1 NU BY hcap hm hl HAX
  rw [hL]
  obtain ⟨LL,hLL⟩:∃ m,L.length=m:=⟨_,rfl⟩
  rw [hLL] at b1 NU hcap hm hl
  rw [hLL]
  have HL:=LH hL
  have HLL:=LH hLL
  clear HA
  have HA:=LH HAX
  clear hLL hL HAX
  go_upto_region 2 with fail
  obtain ⟨w2,q2,b2,g2,p2,s2,IG2⟩:∃ w2,w1=w2∧(Bx w2 P #[.slice A LL cap,.bool s.short])∧(Fr w2 P)∧Past W w2∧P+1≤w2.heap.size∧Hid (Q8.IsCmds w2 (.slice Av ([]:List (List Int)).length cv) []):=⟨w1,rfl,b1,g1,p1,by omega,IG⟩
  subst q2
  clear b1 g1 p1 s1 IG
  have GR2:Hid (IsNums .u8 w1 (.slice A LL cap) L):=LH (NU.out.grow p2)
  clear NU
  have ng:=LH (noInt2 b2)
  go_cut [] (fun w'=>∃ A' cap',(Bx w' P #[.slice A' LL cap',.bool s.short])∧Hid (IsNums .u8 w' (.slice A' LL cap') L)∧(0<L.length→∀ ad,A'=some ad→ad.block<B)∧(Fr w' P)∧Hid (Keep P W w')∧Hid (Q8.IsCmds w' (.slice Av ([]:List (List Int)).length cv) [])∧P+1≤w'.heap.size)
  case first =>
   have nb:=nums_keep GR2.out HA.out hB ((Keep.refl P w1).set 0 (.slice A LL cap))
   cases A with
   | none =>
    go_wp2_with fail
    go_meet
    exact ⟨_,_,box2_set0 b2,LH nb,HA.out,by (exact kKeep),LH ((Keep.of_past p2).set _ _),LH (cmds_save IG2.out ng.out ((Save.refl P w1).set _ _)),by simpa [World.setCell] using s2⟩
   | some ad =>
    obtain ⟨b,off,q⟩:=ad
    go_wp2_with fail
    go_meet
    exact ⟨_,_,box2_set0 b2,LH nb,HA.out,by (exact kKeep),LH ((Keep.of_past p2).set _ _),LH (cmds_save IG2.out ng.out ((Save.refl P w1).set _ _)),by simpa [World.setCell] using s2⟩
  case rest =>
   clear b2 g2 p2 s2 IG2 GR2  ng
   obtain ⟨A',cap',b2,NR,ha2,f9,K2,IG2,s2⟩:=hcut
   have ng:=LH (noInt2 b2)
   obtain ⟨t,ht⟩:∃ t,s.short=t:=⟨_,rfl⟩
   rw [ht] at b2
   have HTT:=LH ht
   clear ht
   cases t
   ·go_upto_region 4 with fail
    refine opq (fun w'=>(Bx w' P #[.slice A' LL cap',.bool true])∧Hid (IsNums .u8 w' (.slice A' LL cap') L)∧(0<L.length→∀ ad,A'=some ad→ad.block<B)∧(Fr w' P)∧Hid (Keep P W w')∧Hid (Q8.IsCmds w' (.slice Av ([]:List (List Int)).length cv) [])∧P+1≤w'.heap.size) ⟨box2_set1 b2,LH (nums_keep NR.out ha2 hB ((Keep.refl P wc).set _ _)),ha2,by (exact kKeep),LH (K2.out.set _ _),LH (cmds_save IG2.out ng.out ((Save.refl P wc).set _ _)),by simpa [World.setCell] using s2⟩ ?_
    clear b2 NR ha2 f9 K2 IG2 s2 ng
    rintro w4 ⟨b2,NR,ha2,f9,K2,IG2,s2⟩
    have RD:RdI w4 B P ⟨L,true⟩:=RdI.mk (by rw [HLL.out];exact b2) f9 (by rw [HLL.out];exact NR.out) ha2 hB (by omega)
    have GE:=(show sR s=([],⟨L,true⟩) by rw [GY.out,HL.out])
    have IG4:=IG2
    have RD4:=RD
    have K4:=K2.out
    clear b2 NR ha2 f9 K2 IG2 s2 RD
    go_wp2_with fail
    go_ret
    exact ⟨_,rfl,by rw [GE];exact IG4.out,by rw [GE];exact RD4,K4⟩
   ·go_upto_region 4 with fail
    refine opq (fun w'=>(Bx w' P #[.slice A' LL cap',.bool true])∧Hid (IsNums .u8 w' (.slice A' LL cap') L)∧(0<L.length→∀ ad,A'=some ad→ad.block<B)∧(Fr w' P)∧Hid (Keep P W w')∧Hid (Q8.IsCmds w' (.slice Av ([]:List (List Int)).length cv) [])∧P+1≤w'.heap.size) ⟨box2_set1 b2,LH (nums_keep NR.out ha2 hB ((Keep.refl P wc).set _ _)),ha2,by (exact kKeep),LH (K2.out.set _ _),LH (cmds_save IG2.out ng.out ((Save.refl P wc).set _ _)),by simpa [World.setCell] using s2⟩ ?_
    clear b2 NR ha2 f9 K2 IG2 s2 ng
    rintro w4 ⟨b2,NR,ha2,f9,K2,IG2,s2⟩
    have RD:RdI w4 B P ⟨L,true⟩:=RdI.mk (by rw [HLL.out];exact b2) f9 (by rw [HLL.out];exact NR.out) ha2 hB (by omega)
    have GE:=(show sR s=([],⟨L,true⟩) by rw [GY.out,HL.out])
    have IG4:=IG2
    have RD4:=RD
    have K4:=K2.out
    clear b2 NR ha2 f9 K2 IG2 s2 RD
    go_wp2_with fail
    go_ret
    exact ⟨_,rfl,by rw [GE];exact IG4.out,by rw [GE];exact RD4,K4⟩
 ·obtain ⟨t1,t2,t3⟩:=Q8.take_some hT
  rw [t1] at own
  rw [t2,t3]
  obtain ⟨k1,k2,k3⟩:=Q8.takeD_back BY.out hT
  have GY0:sR s=(l,⟨r,s.short⟩):=by unfold sR partR;rw [hT]
  have k4:2≤(Q8.putB l).length:=by unfold Q8.putB;rw [List.length_append,Q8.numB_len];omega
  have k5:s.rest.length=(Q8.putB l).length+r.length:=by rw [k3,List.length_append]
  have k6:r=s.rest.drop (Q8.putB l).length:=by rw [k3,List.drop_left]
  obtain ⟨n,hn⟩:∃ n,s.rest.length-r.length=n:=⟨_,rfl⟩
  rw [hn]
  have k7:(Q8.putB l).length=n:=by omega
  rw [k6,k7] at GY0
  have hn2:n≤s.rest.length:=by omega
  have hn1:2≤n:=by omega
  have GY:=LH GY0
  have ig:=own.cmds
  obtain ⟨Av,cv,rfl,_,_⟩:=own_slice' own.1
  clear own hT t1 t2 t3 k1 k2 k3 k4 k5 k6 hn k7 GY0
  obtain ⟨b,off,rfl⟩:∃ b off,A=some ⟨b,off,none⟩:=by
   obtain ⟨_,_,e,_,_,_,_,k⟩:=NU.out
   simp only [Value.slice.injEq,true_and] at e
   obtain ⟨rfl,rfl⟩:=e
   obtain ⟨b,off,e,_⟩:=k (by omega)
   exact ⟨b,off,e⟩
  have b1:=box_past pp1 b0 (by omega)
  have g1:=free_past pp1 g0 (by omega)
  have p1:=p0.trans pp1
  have s1:Q≤w1.heap.size:=by have:=pp1.2.2.1;omega
  have IG:=LH (ig)
  clear b0 g0 p0 s0 pp1 TK bx fr
  obtain ⟨L,hL⟩:∃ L,s.rest.drop n=L:=⟨_,rfl⟩
  obtain ⟨LL,hLL⟩:∃ m,L.length=m:=⟨_,rfl⟩
  have HL:=LH hL
  have HLL:=LH hLL
  clear hL hLL
  go_upto_region 2 with fail
  obtain ⟨w2,q2,b2,g2,p2,s2,IG2⟩:∃ w2,w1=w2∧(Bx w2 P #[.slice (some ⟨b,off,none⟩) s.rest.length cap,.bool s.short])∧(Fr w2 P)∧Past W w2∧P+1≤w2.heap.size∧Hid (Q8.IsCmds w2 (.slice Av l.length cv) l):=⟨w1,rfl,b1,g1,p1,by omega,IG⟩
  subst q2
  clear b1 g1 p1 s1 IG
  have GR2:Hid (IsNums .u8 w1 (.slice (some ⟨b,off,none⟩) s.rest.length cap) s.rest):=LH (NU.out.grow p2)
  clear NU
  have ng:=LH (noInt2 b2)
  go_cut [] (fun w'=>∃ A' cap',(Bx w' P #[.slice A' LL cap',.bool s.short])∧Hid (IsNums .u8 w' (.slice A' LL cap') L)∧(0<L.length→∀ ad,A'=some ad→ad.block<B)∧(Fr w' P)∧Hid (Keep P W w')∧Hid (Q8.IsCmds w' (.slice Av l.length cv) l)∧P+1≤w'.heap.size)
  case first =>
   go_wp2_with fail
   ·go_meet
    have hz:s.rest.drop n=[]:=List.drop_of_length_le (by omega)
    have hz2:s.rest.length-n=0:=by omega
    have hz3:L=[]:=by rw [← HL.out,hz]
    have hz4:LL=0:=by rw [← HLL.out,hz3];rfl
    rw [hz2,hz3,hz4]
    exact ⟨_,_,box2_set0 b2,LH (none_nums (by omega) (by intro h;cases h)),(fun h=>absurd h (by simp)),by (exact kKeep),LH ((Keep.of_past p2).set _ _),LH (cmds_save IG2.out ng.out ((Save.refl P w1).set _ _)),by simpa [World.setCell] using s2⟩
   ·go_meet
    have kn:=bit_nums (n:=n) GR2.out hn2 (by omega)
    rw [HL.out,HLL.out] at kn
    have el:s.rest.length-n=LL:=by rw [← HLL.out,← HL.out,List.length_drop]
    rw [el]
    have h4:0<L.length→∀ ad,some (⟨b,off+n,none⟩:Addr)=some ad→ad.block<B:=fun h ad e=>by
     simp only [Option.some.injEq] at e
     subst e
     have hab:=HA.out (by rw [← HL.out,List.length_drop] at h;omega) ⟨b,off,none⟩ rfl
     exact hab
    exact ⟨_,_,box2_set0 b2,LH (nums_keep kn h4 hB ((Keep.refl P w1).set _ _)),h4,by (exact kKeep),LH ((Keep.of_past p2).set _ _),LH (cmds_save IG2.out ng.out ((Save.refl P w1).set _ _)),by simpa [World.setCell] using s2⟩
  case rest =>
   clear b2 g2 p2 s2 IG2 GR2  ng
   obtain ⟨A',cap',b2,NR,ha2,f9,K2,IG2,s2⟩:=hcut
   have ng:=LH (noInt2 b2)
   obtain ⟨t,ht⟩:∃ t,s.short=t:=⟨_,rfl⟩
   rw [ht] at b2
   have HTT:=LH ht
   clear ht
   cases t
   ·go_upto_region 4 with fail
    refine opq (fun w'=>(Bx w' P #[.slice A' LL cap',.bool false])∧Hid (IsNums .u8 w' (.slice A' LL cap') L)∧(0<L.length→∀ ad,A'=some ad→ad.block<B)∧(Fr w' P)∧Hid (Keep P W w')∧Hid (Q8.IsCmds w' (.slice Av l.length cv) l)∧P+1≤w'.heap.size) ⟨box2_set1 b2,LH (nums_keep NR.out ha2 hB ((Keep.refl P wc).set _ _)),ha2,by (exact kKeep),LH (K2.out.set _ _),LH (cmds_save IG2.out ng.out ((Save.refl P wc).set _ _)),by simpa [World.setCell] using s2⟩ ?_
    clear b2 NR ha2 f9 K2 IG2 s2 ng
    rintro w4 ⟨b2,NR,ha2,f9,K2,IG2,s2⟩
    have RD:RdI w4 B P ⟨L,false⟩:=RdI.mk (by rw [HLL.out];exact b2) f9 (by rw [HLL.out];exact NR.out) ha2 hB (by omega)
    have GE:=(show sR s=(l,⟨L,false⟩) by rw [GY.out,HL.out,HTT.out])
    have IG4:=IG2
    have RD4:=RD
    have K4:=K2.out
    clear b2 NR ha2 f9 K2 IG2 s2 RD
    go_wp2_with fail
    go_ret
    exact ⟨_,rfl,by rw [GE];exact IG4.out,by rw [GE];exact RD4,K4⟩
   ·go_upto_region 4 with fail
    refine opq (fun w'=>(Bx w' P #[.slice A' LL cap',.bool true])∧Hid (IsNums .u8 w' (.slice A' LL cap') L)∧(0<L.length→∀ ad,A'=some ad→ad.block<B)∧(Fr w' P)∧Hid (Keep P W w')∧Hid (Q8.IsCmds w' (.slice Av l.length cv) l)∧P+1≤w'.heap.size) ⟨box2_set1 b2,LH (nums_keep NR.out ha2 hB ((Keep.refl P wc).set _ _)),ha2,by (exact kKeep),LH (K2.out.set _ _),LH (cmds_save IG2.out ng.out ((Save.refl P wc).set _ _)),by simpa [World.setCell] using s2⟩ ?_
    clear b2 NR ha2 f9 K2 IG2 s2 ng
    rintro w4 ⟨b2,NR,ha2,f9,K2,IG2,s2⟩
    have RD:RdI w4 B P ⟨L,true⟩:=RdI.mk (by rw [HLL.out];exact b2) f9 (by rw [HLL.out];exact NR.out) ha2 hB (by omega)
    have GE:=(show sR s=(l,⟨L,true⟩) by rw [GY.out,HL.out,HTT.out])
    have IG4:=IG2
    have RD4:=RD
    have K4:=K2.out
    clear b2 NR ha2 f9 K2 IG2 s2 RD
    go_wp2_with fail
    go_ret
    exact ⟨_,rfl,by rw [GE];exact IG4.out,by rw [GE];exact RD4,K4⟩
end Go.Proofs.YtejllmjkeefloaaGreat
