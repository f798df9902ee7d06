/- The reference's May, of an image whose graph and streams may be. The reference's Take. -/
import Derived.Deep.DeepCutAuto
import Derived.Test.YtejllmjkeefloaaGreatMTv
import Derived.Test.YtejllmjkeefloaaGreatMI21
namespace Go.Proofs.YtejllmjkeefloaaGreat
open Go.ChangeShapes Go.WideShapes Go.ChangeAt Go.RowKit
set_option maxRecDepth 20000
set_option linter.unusedVariables false
set_option linter.unusedSimpArgs false
set_option maxHeartbeats 8000000 in
theorem rmay_ok (i:ImgD) (v:Value) (t:Bool) (W:World) (h:IsImg W v i) (hc:Cut i.g) (hv:valuesE i.g=0) (s0:Q8.putE i.s0=0) (s1:Q8.putE i.s1=0) (s2:Q8.putE i.s2=0) (ht:t=true↔placedP i.g i.pl) (R:Int) (hR:Hid (R=if t=true then 0 else 1)) :
  Calls Tryz.prog 19 #[v] W fun e w'=>e=.returned (.int .i64 R)∧Past W w':=by
 obtain ⟨A1,c1,A2,c2,A3,c3,A4,c4,A5,c5,A6,c6,A7,c7,rfl,hg,hp,h0,h1,h2⟩:=h.form
 have VA:=LH (fun w (p:Past W w)=>rvalues_any i.g _ w (hg.grow p) hc)
 unfold RValuesPost at VA
 obtain ⟨Vs,hVs⟩:∃ l,valuesL i.g=l:=⟨_,rfl⟩
 rw [hVs] at VA
 have HVs:=LH hVs
 clear hVs
 have HV:=LH hv
 have H0:=LH h0
 have H1:=LH h1
 have H2:=LH h2
 have S0:=LH s0
 have S1:=LH s1
 have S2:=LH s2
 have HT:=LH ht
 have HP:=LH hp
 have hm1:i.pl.length≤9223372036854775807:=by obtain ⟨_,_,e,k1,k2,_⟩:=hp;unfold maxLen at k2;omega
 clear h hg hp h0 h1 h2 hc hv s0 s1 s2 ht
 go_enter Tryz.func19,Tryz.ntmps19
 go_upto_region 1 with fail
 obtain ⟨Q,hQ⟩:∃ Q,W.heap.size=Q:=⟨_,rfl⟩
 refine opq (fun w'=>(Bx w' Q #[.slice A1 i.g.ins.length c1,.slice A2 i.g.nodes.length c2,.slice A3 i.g.outs.length c3,.slice A4 i.pl.length c4,.slice A5 i.s0.length c5,.slice A6 i.s1.length c6,.slice A7 i.s2.length c7])∧Past W w'∧Q+1≤w'.heap.size) (by
  subst hQ
  exact ⟨by (exact kKeep),by (exact kKeep),by (exact kKeep)⟩) ?_
 rintro w1 ⟨q1,p1,z1⟩
 try rw [hQ]
 go_upto_region 2 with (go_at_call 48;refine (VA.out _ p1).mono ?_;rintro e w2 ⟨vv,q,rfl,hq,hV,pp2⟩;obtain rfl:q=0:=hq.2 HV.out;have IV:=hV HV.out;clear hV hq VA;obtain ⟨Av,cv,rfl,_,vm,_,vwf,v5⟩:=IV;have VWF:=LH vwf;have V5:=LH v5;have hm2:Vs.length≤9223372036854775807:=(by unfold maxLen at vm;omega);clear vwf v5 vm)
 have q2:=box_past pp2 q1 (by omega)
 have p2:=p1.trans pp2
 have z2:Q+1≤w2.heap.size:=by have:=pp2.2.2.1;omega
 clear q1 p1 z1 pp2
 by_cases hl:i.pl.length=Vs.length
 ·have bl:((i.pl.length:Int)==(Vs.length:Int))=true:=by simp;omega
  have bn:((i.pl.length:Int)!=(Vs.length:Int))=false:=by simp;omega
  have HL:=LH hl
  clear hl
  go_wp2_with fail
  go_loopw [5] (fun j wr=>∃ k:Nat,k≤Vs.length∧j=.int .i64 k∧Hid (∀ m,m<k→0≤i.pl.getD m 0∧i.pl.getD m 0≤65536-sizeV (Vs.getD m default))∧Past w2 wr) (fun j _=>Vs.length-(intOf j).toNat)
  case atStart=>exact ⟨0,by omega,rfl,LH (fun m hm=>by omega),Past.refl _⟩
  case round =>
   obtain ⟨k,hk,rfl,hAll,hp⟩:=hrel
   have i1:(0:Int)≤(k:Int):=by omega
   by_cases ck:k<Vs.length
   ·have d1:decide ((k:Int)<(Vs.length:Int))=true:=by simpa using ck
    obtain ⟨Ap,cp',ep,k1,k2,k3,k4,k5⟩:=HP.out
    simp only [Value.slice.injEq,true_and] at ep
    obtain ⟨rfl,rfl⟩:=ep
    obtain ⟨pb,po,rfl,hpb,hpc⟩:=k5 (by have:=HL.out;omega)
    obtain ⟨vb,vo,rfl,hvb,hvc⟩:=V5.out (by omega)
    have pr:=p2.trans hp
    have cx:=cell_past pr (hpc k (by have:=HL.out;omega)) hpb
    obtain ⟨m0,m1,m2,m3⟩:=(hvc k ck).grow hvb hp
    have cp:wr.cell? ⟨Q,3,none⟩=some (.slice (some ⟨pb,po,none⟩) i.pl.length c4):=box_past hp q2 (by omega) 3
    obtain ⟨x,hx⟩:∃ x,i.pl.getD k 0=x:=⟨_,rfl⟩
    obtain ⟨y,hy⟩:∃ y,Vs.getD k default=y:=⟨_,rfl⟩
    rw [hx] at cx
    rw [hy] at m0 m1 m2
    have szb:=sizeV_bd y
    have RS:=LH (fun w=>rsize_any y.h y.w y.c (sizeV y) w (LH rfl))
    obtain ⟨z,hz⟩:∃ z,sizeV y=z:=⟨_,rfl⟩
    rw [hz] at RS szb
    have HX:=LH hx
    have HY:=LH hy
    have HZ:=LH hz
    clear hx hy hz m3 hpc hvc k5 k1 k2 k3 k4
    have v0:=m0
    have v1:=m1
    have v2:=m2
    have g0:=hp
    have sq:Q+1≤wr.heap.size:=by have:=hp.2.2.1;omega
    have hpb2:pb+1≤wr.heap.size:=by have:=pr.2.2.1;omega
    have hvb2:vb+1≤wr.heap.size:=by have:=hp.2.2.1;omega
    clear m0 m1 m2
    have i2:(k:Int)<(Vs.length:Int):=by omega
    have i3:(k:Int)<(i.pl.length:Int):=by have:=HL.out;omega
    by_cases cx0:x<0
    ·have d2:decide (x<0)=true:=by simpa using cx0
     go_upto_region 9 with fail
     refine wp_region_fill (fun w'=>w'.cell? ⟨Q,3,none⟩=some (.slice (some ⟨pb,po,none⟩) i.pl.length c4)∧w'.cell? ⟨pb,po+k,none⟩=some (.int .i64 x)∧w'.cell? ⟨vb,vo+k*4,none⟩=some (.int .i64 y.h)∧w'.cell? ⟨vb,vo+k*4+1,none⟩=some (.int .i64 y.w)∧w'.cell? ⟨vb,vo+k*4+2,none⟩=some (.int .i64 y.c)∧Past w2 w'∧Q+1≤w'.heap.size∧pb+1≤w'.heap.size∧vb+1≤w'.heap.size) [(30,?va30),(31,?va31),(32,?va32),(33,?va33),(34,?va34),(35,?va35),(36,?va36),(37,?va37),(38,?va38),(39,?va39),(40,?va40),(41,?va41),(42,?va42),(43,?va43),(44,?va44),(45,?va45),(46,?va46),(47,?va47),(48,?va48),(49,?va49),(50,?va50)] [30,31,32,33,34,35,36,37,38,39,40,41,42,43,44,45,46,47,48,49,50] (by kernel_rfl) (by kernel_rfl) rfl (by kernel_rfl) ⟨cp,cx,v0,v1,v2,g0,sq,hpb2,hvb2⟩ (fun w h=>h) ?alla ?fina
     case alla =>
      simp only [fillA,Act.put,List.setIfInBounds_toArray,List.set_cons_zero,List.set_cons_succ]
      iterate 21 (refine owes_cons (fun w hw K hK=>?_) ?_;focus ((have hS:=LH hw);go_split_ands;go_simp;(try go_frame);first|exact hK _ hS.out|(((go_at_call 49;with_reducible refine (RS.out _).mono ?_;rintro e w1 ⟨rfl,g1⟩;replace g1:=Grown.past g1));refine hK _ ?_;(exact kKeep))))
      exact True.intro
     rintro w9 ⟨_,_,_,_,_,g9,_,_,_⟩
     simp only [fillA,Act.put,List.setIfInBounds_toArray,List.set_cons_zero,List.set_cons_succ]
     clear cp cx v0 v1 v2 g0
     have F:Hid (t=false):=LH (by
      cases q:t with
      | false=>rfl
      | true =>
       have:=((HT.out.1 q).2 k (by have:=HL.out;omega)).1
       rw [HX.out] at this
       omega)
     go_wp2_with fail
     go_ret
     exact ⟨by rw [show R=1 by rw [hR.out,F.out];rfl];rfl,p2.trans g9⟩
    ·have d2:decide (x<0)=false:=by simpa using cx0
     have wz:IntKind.i64.wrap (65536-z)=65536-z:=by rw [IntKind.wrap_i64];omega
     by_cases cx1:65536-z<x
     ·have d3:decide (65536-z<x)=true:=by simpa using cx1
      go_upto_region 9 with fail
      refine wp_region_fill (fun w'=>w'.cell? ⟨Q,3,none⟩=some (.slice (some ⟨pb,po,none⟩) i.pl.length c4)∧w'.cell? ⟨pb,po+k,none⟩=some (.int .i64 x)∧w'.cell? ⟨vb,vo+k*4,none⟩=some (.int .i64 y.h)∧w'.cell? ⟨vb,vo+k*4+1,none⟩=some (.int .i64 y.w)∧w'.cell? ⟨vb,vo+k*4+2,none⟩=some (.int .i64 y.c)∧Past w2 w'∧Q+1≤w'.heap.size∧pb+1≤w'.heap.size∧vb+1≤w'.heap.size) [(30,?vb30),(31,?vb31),(32,?vb32),(33,?vb33),(34,?vb34),(35,?vb35),(36,?vb36),(37,?vb37),(38,?vb38),(39,?vb39),(40,?vb40),(41,?vb41),(42,?vb42),(43,?vb43),(44,?vb44),(45,?vb45),(46,?vb46),(47,?vb47),(48,?vb48),(49,?vb49),(50,?vb50)] [30,31,32,33,34,35,36,37,38,39,40,41,42,43,44,45,46,47,48,49,50] (by kernel_rfl) (by kernel_rfl) rfl (by kernel_rfl) ⟨cp,cx,v0,v1,v2,g0,sq,hpb2,hvb2⟩ (fun w h=>h) ?allb ?finb
      case allb =>
       simp only [fillA,Act.put,List.setIfInBounds_toArray,List.set_cons_zero,List.set_cons_succ]
       iterate 21 (refine owes_cons (fun w hw K hK=>?_) ?_;focus ((have hS:=LH hw);go_split_ands;go_simp;(try go_frame);first|exact hK _ hS.out|(((go_at_call 49;with_reducible refine (RS.out _).mono ?_;rintro e w1 ⟨rfl,g1⟩;replace g1:=Grown.past g1));refine hK _ ?_;(exact kKeep))))
       exact True.intro
      rintro w9 ⟨_,_,_,_,_,g9,_,_,_⟩
      simp only [fillA,Act.put,List.setIfInBounds_toArray,List.set_cons_zero,List.set_cons_succ]
      clear cp cx v0 v1 v2 g0
      have F:Hid (t=false):=LH (by
       cases q:t with
       | false=>rfl
       | true =>
        have:=((HT.out.1 q).2 k (by have:=HL.out;omega)).2
        rw [HX.out,HVs.out,HY.out,HZ.out] at this
        omega)
      go_wp2_with fail
      go_ret
      exact ⟨by rw [show R=1 by rw [hR.out,F.out];rfl];rfl,p2.trans g9⟩
     ·have d3:decide (65536-z<x)=false:=by simpa using cx1
      go_upto_region 9 with fail
      refine wp_region_fill (fun w'=>w'.cell? ⟨Q,3,none⟩=some (.slice (some ⟨pb,po,none⟩) i.pl.length c4)∧w'.cell? ⟨pb,po+k,none⟩=some (.int .i64 x)∧w'.cell? ⟨vb,vo+k*4,none⟩=some (.int .i64 y.h)∧w'.cell? ⟨vb,vo+k*4+1,none⟩=some (.int .i64 y.w)∧w'.cell? ⟨vb,vo+k*4+2,none⟩=some (.int .i64 y.c)∧Past w2 w'∧Q+1≤w'.heap.size∧pb+1≤w'.heap.size∧vb+1≤w'.heap.size) [(30,?vc30),(31,?vc31),(32,?vc32),(33,?vc33),(34,?vc34),(35,?vc35),(36,?vc36),(37,?vc37),(38,?vc38),(39,?vc39),(40,?vc40),(41,?vc41),(42,?vc42),(43,?vc43),(44,?vc44),(45,?vc45),(46,?vc46),(47,?vc47),(48,?vc48),(49,?vc49),(50,?vc50)] [30,31,32,33,34,35,36,37,38,39,40,41,42,43,44,45,46,47,48,49,50] (by kernel_rfl) (by kernel_rfl) rfl (by kernel_rfl) ⟨cp,cx,v0,v1,v2,g0,sq,hpb2,hvb2⟩ (fun w h=>h) ?allc ?finc
      case allc =>
       simp only [fillA,Act.put,List.setIfInBounds_toArray,List.set_cons_zero,List.set_cons_succ]
       iterate 21 (refine owes_cons (fun w hw K hK=>?_) ?_;focus ((have hS:=LH hw);go_split_ands;go_simp;(try go_frame);first|exact hK _ hS.out|(((go_at_call 49;with_reducible refine (RS.out _).mono ?_;rintro e w1 ⟨rfl,g1⟩;replace g1:=Grown.past g1));refine hK _ ?_;(exact kKeep))))
       exact True.intro
      rintro w9 ⟨_,_,_,_,_,g9,_,_,_⟩
      simp only [fillA,Act.put,List.setIfInBounds_toArray,List.set_cons_zero,List.set_cons_succ]
      clear cp cx v0 v1 v2 g0
      have E:Hid (∀ m,m<k+1→0≤i.pl.getD m 0∧i.pl.getD m 0≤65536-sizeV (Vs.getD m default)):=LH (fun m hm=>by
       by_cases e:m=k
       ·subst e;rw [HX.out,HY.out,HZ.out];omega
       ·exact hAll.out m (by omega))
      go_wp2_with fail
      go_roundw
      case rel=>exact ⟨k+1,by omega,by go_num,E,g9⟩
      case measure=>simp [intOf];omega
   ·obtain rfl:k=Vs.length:=by omega
    have d1:decide (((Vs.length:Nat):Int)<(Vs.length:Int))=false:=by simp
    have T:Hid (t=true):=LH (HT.out.2 ⟨by rw [HVs.out];exact HL.out,fun j hj=>by rw [HVs.out];exact hAll.out j (by have:=HL.out;omega)⟩)
    go_wp2_with fail
    obtain ⟨w9,hw9⟩:∃ w9,w9=wr:=⟨_,rfl⟩
    subst hw9
    go_loopw [6,7,8] (fun j _ _ wr=>(j=.int .i64 0∧Past w2 wr)∨(j=.int .i64 1∧Past w2 wr)∨(j=.int .i64 2∧Past w2 wr)∨(j=.int .i64 3∧Past w2 wr)) (fun j _ _ _=>3-(intOf j).toNat)
    case atStart=>exact .inl ⟨rfl,hp⟩
    case round =>
     rcases hrel with ⟨rfl,hp⟩|⟨rfl,hp⟩|⟨rfl,hp⟩|⟨rfl,hp⟩
     all_goals
      have q7:=box_past hp q2 (by omega)
      have pr:=p2.trans hp
     ·have cs:wr.cell? ⟨Q,4,none⟩=some (.slice A5 i.s0.length c5):=q7 4
      have RP:=LH (Q8.rPut_any _ i.s0 wr (H0.out.grow pr))
      unfold Q8.RPutPost2 at RP
      rw [S0.out] at RP
      go_upto_region 15 with (go_at_call 50;refine RP.out.mono ?_;rintro e w5 ⟨u,rfl,_,pp5⟩)
      have p9:=hp.trans pp5
      clear RP q7 cs
      go_wp2_with fail
      go_roundw
      case rel=>exact .inr (.inl ⟨rfl,p9⟩)
      case measure=>simp [intOf]
     ·have cs:wr.cell? ⟨Q,5,none⟩=some (.slice A6 i.s1.length c6):=q7 5
      have RP:=LH (Q8.rPut_any _ i.s1 wr (H1.out.grow pr))
      unfold Q8.RPutPost2 at RP
      rw [S1.out] at RP
      go_upto_region 15 with (go_at_call 50;refine RP.out.mono ?_;rintro e w5 ⟨u,rfl,_,pp5⟩)
      have p9:=hp.trans pp5
      clear RP q7 cs
      go_wp2_with fail
      go_roundw
      case rel=>exact .inr (.inr (.inl ⟨rfl,p9⟩))
      case measure=>simp [intOf]
     ·have cs:wr.cell? ⟨Q,6,none⟩=some (.slice A7 i.s2.length c7):=q7 6
      have RP:=LH (Q8.rPut_any _ i.s2 wr (H2.out.grow pr))
      unfold Q8.RPutPost2 at RP
      rw [S2.out] at RP
      go_upto_region 15 with (go_at_call 50;refine RP.out.mono ?_;rintro e w5 ⟨u,rfl,_,pp5⟩)
      have p9:=hp.trans pp5
      clear RP q7 cs
      go_wp2_with fail
      go_roundw
      case rel=>exact .inr (.inr (.inr ⟨rfl,p9⟩))
      case measure=>simp [intOf]
     ·go_wp2_with fail
      go_ret
      exact ⟨by rw [show R=0 by rw [hR.out,T.out];rfl];rfl,pr⟩
 ·have bl:((i.pl.length:Int)==(Vs.length:Int))=false:=by simp;omega
  have F:Hid (t=false):=LH (by
   cases q:t with
   | false=>rfl
   | true=>exact absurd (by rw [← HVs.out];exact (HT.out.1 q).1) hl)
  go_wp2_with fail
  go_ret
  exact ⟨by rw [show R=1 by rw [hR.out,F.out];rfl];rfl,p2⟩
end Go.Proofs.YtejllmjkeefloaaGreat
namespace Go.Proofs.YtejllmjkeefloaaGreat.Q8
open Go.ChangeShapes Go.WideShapes Go.ChangeAt Go.RowKit
set_option maxRecDepth 20000
set_option linter.unusedVariables false
set_option linter.unusedSimpArgs false
theorem nums_some {w:World}{v:Value}{l:List Int}(h:IsNums .u8 w v l)(hp:0<l.length):∃ b off cap,v=.slice (some ⟨b,off,none⟩) l.length cap/\l.length<=cap/\cap<=maxLen:=by
 obtain⟨A,cap,rfl,h2,h3,h4,h5,h6⟩:=h;obtain⟨b,off,rfl,_⟩:=h6 hp;exact⟨b,off,cap,rfl,h2,h3⟩
theorem ownC_lit (w:World):OwnC (w.alloc (.cells #[] 67)) w.heap.size (.slice (some ⟨w.heap.size,0,none⟩) 0 0) []:=⟨World.ownsRow_lit w #[] 0 (Nat.le_refl _) (by decide) rfl,by simp⟩
theorem oneT_cons {k:Int}{u:List Int}:oneT (k :: u)=if kindP k/\restW k<=u.length/\mayD (cmdT k u) then some (cmdT k u,u.drop (restW k)) else none:=rfl
theorem readF_take (fs:List Fld)(c t:List Int)(n:Nat)(h:(fs.map (·.wide)).sum<=n):readF fs c (t.take n)=readF fs c t:=by
 induction fs generalizing c t n with
 | nil=>rfl
 | cons f fs ih =>
  simp only [List.map_cons,List.sum_cons] at h;unfold readF;have e1:(t.take n).take f.wide=t.take f.wide:=by rw [List.take_take,Nat.min_eq_left (by omega)]
  have e2:(t.take n).drop f.wide=(t.drop f.wide).take (n-f.wide):=by rw [List.drop_take]
  rw [e1,e2,ih _ _ _ (by omega)]
theorem cmdT_take (k:Int)(u:List Int):cmdT k (u.take (restW k))=cmdT k u:=readF_take _ _ _ _ (Nat.le_refl _)
def RTakePost (b:List Int)(W:World)(e:Ending)(w':World):Prop:=∃ v,e=.returned (.tuple #[v,.int .i64 (takeN b:Int),.int .i64 (takeE b)])/\IsCmds w' v (takeL b)/\Past W w'
theorem cmds_nil (w:World):IsCmds w (.slice none 0 0) []:=(OwnC.nil w 0).cmds
set_option maxHeartbeats 1000000 in
theorem rTake_any (v:Value) (b:List Int) (W:World) (h:IsNums .u8 W v b) (hlen:b.length≤100000):Calls Tryz.prog 18 #[v] W (RTakePost b W):=by
 have HB:=LH h
 have hBP:bytesP b:=by
  obtain ⟨_,_,_,hB⟩:=nums_bytes h
  exact hB.bytesP
 have BP:=LH hBP
 by_cases h2:b.length<2
 ·obtain ⟨A,cap,rfl,b2,b3,b4⟩:=nums_form h
  have T:=LH (take_none (b:=b) (by unfold takeD;rw [if_pos (.inl h2)]))
  clear h b4 hBP
  go_enter Tryz.func18,Tryz.ntmps18
  go_wp2_with fail
  refine bodyPost_ret (v:=.tuple #[.slice none 0 0,.int .i64 0,.int .i64 2]) (by simp [results,Tryz.results18,go_sem]) rfl ⟨_,by rw [T.out.2.1,T.out.2.2];rfl,by rw [T.out.1];exact cmds_nil _,Past.refl _⟩
 ·obtain ⟨bb,bo,cap,rfl,b2,b3⟩:=nums_some h (by omega)
  have RA:=LH (fun (k wd:Nat) w h hk hw=>rat_any bb bo cap k wd b w h hk hw hlen)
  have hb2:bytesP (b.take 2):=fun c hc=>BP.out c (List.mem_of_mem_take hc)
  have h4:=(foldB_bd hb2).1
  obtain ⟨N,hN⟩:∃ N:Nat,foldB (b.take 2)=(N:Int):=⟨(foldB (b.take 2)).toNat,by omega⟩
  have R0:=LH (fun w h=>RA.out 0 2 w h (by omega) (by omega))
  rw [List.drop_zero,hN] at R0
  by_cases h5:4096<N
  ·have T:=LH (take_none (b:=b) (by unfold takeD;rw [if_pos (.inr (by rw [hN];omega))]))
   have d5:decide (((N:Nat):Int)>4096)=true:=decide_eq_true (by omega)
   clear h hBP hN h4 hb2
   go_enter Tryz.func18,Tryz.ntmps18
   go_wp2_with fail
   refine (R0.out W HB.out).mono ?_
   rintro e wx ⟨rfl,rfl⟩
   go_wp2_with fail
   refine bodyPost_ret (v:=.tuple #[.slice none 0 0,.int .i64 0,.int .i64 2]) (by simp [results,Tryz.results18,go_sem]) rfl ⟨_,by rw [T.out.2.1,T.out.2.2];rfl,by rw [T.out.1];exact cmds_nil _,Past.refl _⟩
  ·have TD:Hid (takeGo N [] (b.drop 2)=takeD b):=LH (by unfold takeD;rw [if_neg (by rw [hN];omega),hN,Int.toNat_natCast])
   obtain ⟨R,hR⟩:∃ R,takeD b=R:=⟨_,rfl⟩
   have HR:=LH hR
   rw [hR] at TD
   have d5:decide (((N:Nat):Int)>4096)=false:=decide_eq_false (by omega)
   clear h hBP hN h4 hb2 hR
   go_enter Tryz.func18,Tryz.ntmps18
   go_wp2_with fail
   refine (R0.out W HB.out).mono ?_
   rintro e wx ⟨rfl,rfl⟩
   go_wp2_with fail
   go_loopw [2,3,4,5,6,7] (fun s2 s3 s4 v k i wr=>∃ n kk:Nat,n≤N∧kk≤b.length∧i=.int .i64 n∧k=.int .i64 kk∧s2=.slice none 0 0∧s3=.int .i64 0∧s4=.int .i64 0∧Hid (∃ acc,acc.length=n∧OwnC wr W.heap.size v acc∧takeGo (N-n) acc (b.drop kk)=R∧Past W wr)) (fun _ _ _ _ _ i _=>N-(intOf i).toNat)
   case atStart=>exact ⟨0,2,by omega,by omega,rfl,rfl,rfl,rfl,rfl,LH ⟨[],rfl,ownC_lit W,TD.out,(Past.refl W).alloc _⟩⟩
   case round =>
    obtain ⟨n,kk,hnl,hkk,rfl,rfl,rfl,rfl,rfl,RE⟩:=hrel
    obtain ⟨acc,ha,ho,hg,hp⟩:=RE.out
    have OC:=LH ho
    have HG:=LH hg
    have HP:=LH hp
    have HA:=LH ha
    have B0:=LH (HB.out.grow hp)
    clear ho hg hp ha RE TD
    go_wp2_with fail
    refine (R0.out wr B0.out).mono ?_
    rintro e wx ⟨rfl,rfl⟩
    by_cases h:n<N
    ·have e1:N-n=(N-(n+1))+1:=by omega
     rw [e1] at HG
     clear e1
     by_cases hk2:kk<b.length
     ·have hd:b.drop kk=b[kk] :: b.drop (kk+1):=List.drop_eq_getElem_cons hk2
      have hcell:wr.cell? ⟨bb,bo+kk,none⟩=some (.int .u8 b[kk]):=by
       obtain ⟨_,_,e,_,_,_,_,q6⟩:=B0.out
       simp only [Value.slice.injEq,true_and] at e
       obtain ⟨b1,o1,e1,_,qc⟩:=q6 (by omega)
       rw [← e.1] at e1
       simp only [Option.some.injEq,Addr.mk.injEq,and_true] at e1
       rw [e1.1,e1.2,qc kk hk2]
       simp [List.getD,hk2]
      have hkb:=BP.out b[kk] (List.getElem_mem hk2)
      have hul:(b.drop (kk+1)).length=b.length-(kk+1):=List.length_drop
      obtain ⟨k0,ek⟩:∃ k0,b[kk]=k0:=⟨_,rfl⟩
      rw [ek] at hd hcell hkb
      obtain ⟨u,eu⟩:∃ u,b.drop (kk+1)=u:=⟨_,rfl⟩
      rw [eu] at hd hul
      rw [hd] at HG
      have HD:=LH hd
      have HUL:=LH hul
      have RW:=LH (fun w=>rwide_any k0 hkb.1 hkb.2 w)
      have g1:decide ((b.length:Int)≤(kk:Int))=false:=decide_eq_false (by omega)
      by_cases hkd:kindP k0
      ·have ew:wideD k0=1+restW k0:=if_pos hkd
       have hrw:=restW_le k0
       obtain ⟨rw',erw⟩:∃ q,restW k0=q:=⟨_,rfl⟩
       rw [erw] at hrw ew
       obtain ⟨nw,enw⟩:∃ q,1+rw'=q:=⟨_,rfl⟩
       rw [ew,enw] at RW
       have KD:=LH hkd
       have ERW:=LH erw
       have ENW:=LH enw
       have hnw:nw≤20:=by omega
       have hnw1:1≤nw:=by omega
       have g3:((nw:Int)==0)=false:=by simp;omega
       clear ew hkd hkb hd hul ek eu erw
       by_cases hlong:rw'≤u.length
       ·have hfit:kk+nw≤b.length:=by have:=HUL.out;omega
        have g2:decide ((b.length:Int)<(kk:Int)+(nw:Int))=false:=decide_eq_false (by omega)
        have BC:Hid (IsNums .u8 wr (.slice (some ⟨bb,bo+kk,none⟩) (k0 :: u.take rw').length (cap-kk)) (k0 :: u.take rw')):=LH (by
         have q:=nums_cut nw (by rw [List.length_drop];omega) (nums_drop B0.out hk2)
         rw [HD.out,show nw=rw'+1 by omega,List.take_succ_cons] at q
         have e:(k0 :: u.take rw').length=rw'+1:=by rw [List.length_cons,List.length_take];omega
         rw [e];exact q)
        have hlt:(u.take rw').length=restW k0:=by rw [List.length_take,ERW.out];omega
        have TK:=LH (rtake_any bb (bo+kk) (cap-kk) k0 (u.take rw') wr KD.out hlt BC.out)
        have ec:cmdT k0 (u.take rw')=cmdT k0 u:=by rw [← ERW.out];exact cmdT_take k0 u
        unfold TkPost at TK
        have el:(k0 :: u.take rw').length=nw:=by rw [List.length_cons,List.length_take];omega
        rw [ec,el] at TK
        have hone:oneT (k0 :: u)=if mayD (cmdT k0 u) then some (cmdT k0 u,u.drop rw') else none:=by
         rw [oneT_cons,ERW.out]
         by_cases q:mayD (cmdT k0 u)
         ·rw [if_pos ⟨KD.out,hlong,q⟩,if_pos q]
         ·rw [if_neg (fun h=>q h.2.2),if_neg q]
        have hl14:=cmdT_len k0 u
        have hdr:b.drop (kk+nw)=u.drop rw':=by
         have:b.drop (kk+nw)=(b.drop kk).drop nw:=by rw [List.drop_drop]
         rw [this,HD.out,show nw=rw'+1 by omega,List.drop_succ_cons]
        obtain ⟨c,hc⟩:∃ c,cmdT k0 u=c:=⟨_,rfl⟩
        rw [hc] at TK hone hl14
        have H1:=LH hone
        have L14:=LH hl14
        have HDR:=LH hdr
        clear hone hl14 hdr hc ec el hlt hlong enw hrw
        go_wp2_with fail
        refine (RW.out wr).mono ?_
        rintro e wx ⟨rfl,rfl⟩
        go_wp2_with fail
        refine (RW.out wr).mono ?_
        rintro e wx ⟨rfl,rfl⟩
        go_wp2_with fail
        refine (RW.out wr).mono ?_
        rintro e wx ⟨rfl,rfl⟩
        go_upto_region 11 with fail
        go_wp2_with fail
        refine TK.out.mono ?_
        rintro e w3 ⟨rfl,p3⟩
        have Q3:Hid (OwnC w3 W.heap.size u5 acc∧Past W w3):=LH ⟨OC.out.past p3,HP.out.trans p3⟩
        clear p3 OC HP TK B0 BC
        go_upto_region 12 with ((refine wpList_new_cmd 9 ?h1 ?h2 ?h3 ?h4 (.tmp 60) ?h5 ?h6 (c) L14.out ?h8 ?h9 ?_);(case h1=>rfl);(case h2=>rfl);(case h3=>rfl);(case h4=>rfl);(case h5=>rfl);(case h6=>rfl);(case h8=>rfl);(case h9=>rfl);rintro w4 p4 b4 f4 z4)
        obtain ⟨B,hB⟩:∃ B,w3.heap.size=B:=⟨_,rfl⟩
        rw [hB] at b4 f4 z4
        try simp only [hB]
        have Q4:Hid (OwnC w4 W.heap.size u5 acc∧Past W w4):=LH ⟨Q3.out.1.past p4,Q3.out.2.trans p4⟩
        have B4:=LH b4
        clear Q3 p4 f4 b4 hB
        have MA:=LH (fun w=>rmay_any c L14.out w)
        by_cases hmd:mayD c
        ·rw [mayE_ok.2 hmd] at MA
         have hg:=HG.out
         have ho1:=H1.out
         rw [if_pos hmd] at ho1
         rw [takeGo_next ho1,← HDR.out] at hg
         have G:=LH hg
         have WC:=LH (wfC_ok ⟨L14.out,hmd⟩)
         clear H1 HG hg ho1 hmd HDR
         go_wp2_with (refine wpList_load_cmdg rfl (.tmp 9) rfl _ rfl c L14.out B4.out ?_)
         refine (MA.out w4).mono ?_
         rintro e w5 ⟨rfl,p5⟩
         have Q5:Hid (OwnC w5 W.heap.size u5 acc∧Past W w5):=LH ⟨Q4.out.1.past p5,Q4.out.2.trans p5⟩
         have B5:=LH (box_past p5 B4.out z4)
         clear Q4 B4 p5 z4 MA
         go_wp2_with (first|refine wpList_load_cmd rfl (.tmp 9) rfl _ rfl c L14.out B5.out ?_|refine wpList_lit_cmd rfl (.tmp 65) rfl c L14.out rfl ?_|(at_builtin;refine wpList_append_cmd rfl (.tmp 64) (.tmp 66) rfl W.heap.size u5 acc rfl (Q5.out.1.alloc _) ⟨w5.heap.size,0,none⟩ c rfl WC.out (fun j u hu=>cells_cmd w5 c j u hu) (by have:=HA.out;omega) (by have:=Q5.out.2.2.2.1;simp;omega) ?_))
         intro v6 w6 o6 g6
         have Q6:Hid (OwnC w6 W.heap.size v6 (acc++[c])∧Past W w6):=LH ⟨o6,(Q5.out.2.alloc _).grownBy g6 (fun k hk=>Q5.out.1.lt hk)⟩
         clear Q5 B5 o6 g6
         go_wp2_with fail
         go_roundw
         case rel=>exact ⟨n+1,kk+nw,by omega,hfit,by go_num,by go_num,rfl,rfl,rfl,LH ⟨acc++[c],by rw [List.length_append,HA.out];rfl,Q6.out.1,G.out,Q6.out.2⟩⟩
         case measure=>simp [intOf];omega
        ·have e1:mayE c=1:=by unfold mayE;rw [if_neg hmd]
         rw [e1] at MA
         have ho1:=H1.out
         rw [if_neg hmd] at ho1
         have T:=LH (take_none (b:=b) (by rw [HR.out,← HG.out];exact takeGo_fail ho1))
         clear H1 HG ho1 hmd HDR e1
         go_wp2_with (refine wpList_load_cmdg rfl (.tmp 9) rfl _ rfl c L14.out B4.out ?_)
         refine (MA.out w4).mono ?_
         rintro e w5 ⟨rfl,p5⟩
         have P5:=LH (Q4.out.2.trans p5)
         clear Q4 B4 p5 z4 MA
         go_wp2_with fail
         refine bodyPost_ret (v:=.tuple #[.slice none 0 0,.int .i64 0,.int .i64 2]) (by simp [results,Tryz.results18,go_sem]) rfl ⟨_,by rw [T.out.2.1,T.out.2.2];rfl,by rw [T.out.1];exact cmds_nil _,P5.out⟩
       ·have g2:decide ((b.length:Int)<(kk:Int)+(nw:Int))=true:=decide_eq_true (by have:=HUL.out;omega)
        have T:=LH (take_none (b:=b) (by rw [HR.out,← HG.out];exact takeGo_fail (by rw [oneT_cons,ERW.out,if_neg (fun h=>hlong h.2.1)])))
        clear hlong enw hrw
        go_wp2_with fail
        refine (RW.out wr).mono ?_
        rintro e wx ⟨rfl,rfl⟩
        go_wp2_with fail
        refine (RW.out wr).mono ?_
        rintro e wx ⟨rfl,rfl⟩
        go_wp2_with fail
        refine bodyPost_ret (v:=.tuple #[.slice none 0 0,.int .i64 0,.int .i64 2]) (by simp [results,Tryz.results18,go_sem]) rfl ⟨_,by rw [T.out.2.1,T.out.2.2];rfl,by rw [T.out.1];exact cmds_nil _,HP.out⟩
      ·have ew:wideD k0=0:=if_neg hkd
       have ez:((0:Nat):Int)=0:=rfl
       rw [ew,ez] at RW
       have T:=LH (take_none (b:=b) (by rw [HR.out,← HG.out];exact takeGo_fail (by rw [oneT_cons,if_neg (fun h=>hkd h.1)])))
       clear ew ez hkd hkb hd hul ek eu
       go_wp2_with fail
       refine (RW.out wr).mono ?_
       rintro e wx ⟨rfl,rfl⟩
       go_wp2_with fail
       refine bodyPost_ret (v:=.tuple #[.slice none 0 0,.int .i64 0,.int .i64 2]) (by simp [results,Tryz.results18,go_sem]) rfl ⟨_,by rw [T.out.2.1,T.out.2.2];rfl,by rw [T.out.1];exact cmds_nil _,HP.out⟩
     ·have hd:b.drop kk=[]:=List.drop_eq_nil_of_le (by omega)
      rw [hd] at HG
      have T:=LH (take_none (b:=b) (by rw [HR.out,← HG.out];exact takeGo_fail rfl))
      have g1:decide ((b.length:Int)≤(kk:Int))=true:=decide_eq_true (by omega)
      clear hd
      go_wp2_with fail
      refine bodyPost_ret (v:=.tuple #[.slice none 0 0,.int .i64 0,.int .i64 2]) (by simp [results,Tryz.results18,go_sem]) rfl ⟨_,by rw [T.out.2.1,T.out.2.2];rfl,by rw [T.out.1];exact cmds_nil _,HP.out⟩
    ·have e1:N-n=0:=by omega
     have hg:=HG.out
     rw [e1] at hg
     simp only [takeGo] at hg
     have T:=LH (take_some (b:=b) (l:=acc) (r:=b.drop kk) (by rw [HR.out,hg]))
     have hkn:b.length-(b.drop kk).length=kk:=by rw [List.length_drop];omega
     rw [hkn] at T
     clear hg e1 hkn
     go_wp2_with fail
     refine bodyPost_ret (v:=.tuple #[u5,.int .i64 (kk:Int),.int .i64 0]) (by simp [results,Tryz.results18,go_sem]) rfl ⟨_,by rw [T.out.2.1,T.out.2.2],by rw [T.out.1];exact OC.out.cmds,HP.out⟩
end Go.Proofs.YtejllmjkeefloaaGreat.Q8
