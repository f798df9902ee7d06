/- The reader of an image: image. Take: any bytes as an image, or none. -/
import Derived.Deep.DeepCutAuto
import Derived.Test.YtejllmjkeefloaaGreatMAM
namespace Go.Proofs.YtejllmjkeefloaaGreat
open Go.ChangeShapes Go.WideShapes Go.ChangeAt Go.RowKit
set_option maxRecDepth 20000
set_option linter.unusedVariables false
set_option linter.unusedSimpArgs false
theorem RdI.noInt {w:World}{B P:Nat}{s:Rd}(h:RdI w B P s):NoInt w P:=noInt2 h.choose_spec.choose_spec.1
theorem Keep.save {P:Nat}{w w':World}(h:Keep P w w'):Save P w w':=⟨h.2.2.1,h.2.2.2⟩
theorem RdI.grownBy {w w':World}{B P:Nat}{s:Rd}{row:Option Nat}(h:RdI w B P s)(g:w.grownBy w' row)(hr:∀ k,row=some k->P<k):RdI w' B P s:=by
 obtain⟨A,cap,h1,h2,⟨A',cap',e,k1,k2,k3,k4,k5⟩,h4,h5,h6⟩:=h;have hP:some P≠row:=fun e=>by have:=hr P e.symm;omega
 simp only [Value.slice.injEq,true_and] at e;obtain⟨rfl,rfl⟩:=e;refine⟨A,cap,fun o=>(World.cell?_of_block (a:=⟨P,o,none⟩) (g.block P h6 hP)).trans (h1 o),fun o=>(World.frozen?_of_block (a:=⟨P,o,none⟩) (g.block P h6 hP)).trans (h2 o),⟨A,cap,rfl,k1,k2,k3,k4,fun hp=>?_⟩,h4,h5,Nat.lt_of_lt_of_le h6 g.size⟩;obtain⟨b,off,e,hb,hc⟩:=k5 hp;have hbB:b<B:=h4 hp _ e;have hbn:some b≠row:=fun e=>by have:=hr b e.symm;omega
 exact⟨b,off,e,Nat.lt_of_lt_of_le hb g.size,fun i hi=>(World.cell?_of_block (a:=⟨b,off+i,none⟩) (g.block b hb hbn)).trans (hc i hi)⟩
theorem grown_low {w w':World}{row:Option Nat}{x:Obj}{k:Nat}(g:(w.alloc x).grownBy w' row)(hk:k<w.heap.size)(hn:some k≠row):w'.heap[k]? = w.heap[k]?:=(g.block k (by rw [World.size_alloc];omega) hn).trans (Below.heap_alloc w x k hk)
theorem box_low {w w':World} {row:Option Nat} {x:Obj} {k:Nat} {cs:Array Value} (g:(w.alloc x).grownBy w' row) (hk:k<w.heap.size) (hn:some k≠row) (h:(Bx w k cs)):(Bx w' k cs):=fun o=>(World.cell?_of_block (a:=⟨k,o,none⟩) (grown_low g hk hn)).trans (h o)
theorem free_low {w w':World} {row:Option Nat} {x:Obj} {k:Nat} (g:(w.alloc x).grownBy w' row) (hk:k<w.heap.size) (hn:some k≠row) (h:(Fr w k)):(Fr w' k):=fun o=>(World.frozen?_of_block (a:=⟨k,o,none⟩) (grown_low g hk hn)).trans (h o)
theorem mR_len (s:Rd):(mR s).2.rest.length<=s.rest.length:=by
 unfold mR partR markT;by_cases h:s.rest.length<3
 ·rw [if_pos h];exact Nat.le_refl _
 ·rw [if_neg h];simp
theorem gR_len (s:Rd)(hb:bytesP s.rest):(gR s).2.rest.length<=s.rest.length:=by
 by_cases T:TookP s.rest
 ·have h:=(took_rest hb T).2.2;rw [gR_yes T];dsimp only;omega
 ·rw [gR_no T];dsimp only;omega
theorem sR_len (s:Rd)(hb:bytesP s.rest):(sR s).2.rest.length<=s.rest.length:=by
 unfold sR partR;rcases h:Q8.takeD s.rest with _|⟨l,r⟩
 ·exact Nat.le_refl _
 ·have:=(Q8.takeD_back hb h).2.2;show r.length<=_;rw [this,List.length_append];omega
theorem sR_bytes (s:Rd)(hb:bytesP s.rest):bytesP (sR s).2.rest:=by
 unfold sR partR;rcases h:Q8.takeD s.rest with _|⟨l,r⟩
 ·exact hb
 ·have e:=(Q8.takeD_back hb h).2.2;exact bytesP_tail (a:=Q8.putB l) (by rw [<- e];exact hb)
theorem gR_cut (s:Rd)(hb:bytesP s.rest):Cut (gR s).1:=by
 by_cases T:TookP s.rest
 ·rw [gR_yes T];dsimp only;exact graphR_cut _ hb
 ·rw [gR_no T];dsimp only;exact⟨by simp [zeroG],by simp [zeroG]⟩
theorem values_len (g:GraphD):(valuesL g).length<=16:=by
 by_cases h:valuesE g=0
 ·have a:=(makes_facts h).1;have b:=(begins_ok (values_ok h).1).1;omega
 ·unfold valuesL;rw [if_neg h];simp
theorem many_next {n k:Nat} (h:k<n) (l:List Int) (s:Rd):manyR mR (n-k) l s=manyR mR (n-(k+1)) (l++[(mR s).1]) (mR s).2:=by
 obtain ⟨m,hm⟩:∃ m,n-k=m+1:=⟨n-k-1,by omega⟩
 rw [hm,show n-(k+1)=m by omega];rfl
set_option maxHeartbeats 16000000 in
theorem image_rd (B P:Nat) (s:Rd) (W:World) (hr:RdI W B P s) (hl:s.rest.length≤1000000):Calls Tryz.prog 14 #[.pointer (some ⟨P,0,none⟩)] W fun e w'=>∃ iv,e=.returned iv∧IsImg w' iv (imgR s).1∧RdI w' B P (imgR s).2∧Keep P W w':=by
 have hP:=hr.lt
 have BY:=LH hr.bytesP
 have PG:=LH (fun w (h:RdI w B P s)=>partG_rd B P s w h hl)
 have CM:=LH (fun (st:Rd) w (hlen:st.rest.length≤1000000) (h:RdI w B P st)=>partM_rd B P st w h hlen)
 have R0:=LH hr
 have CU:=LH (gR_cut s hr.bytesP)
 have GL:=LH (gR_len s hr.bytesP)
 obtain ⟨r,hrr⟩:∃ r,gR s=r:=⟨_,rfl⟩
 rw [hrr] at PG CU GL
 obtain ⟨g,hg⟩:∃ g,r.1=g:=⟨_,rfl⟩
 obtain ⟨s1,hs1⟩:∃ g,r.2=g:=⟨_,rfl⟩
 rw [hg,hs1] at PG
 rw [hg] at CU
 rw [hs1] at GL
 have HR:Hid (gR s=(g,s1)):=LH (by rw [hrr,← hg,← hs1])
 have VA:=LH (fun w gv (h:IsGraph w gv g)=>values_any g gv w h CU.out)
 unfold ValuesPost at VA
 clear hr hrr hg hs1
 obtain ⟨Q,hQ⟩:∃ Q,W.heap.size=Q:=⟨_,rfl⟩
 go_enter Tryz.func14,Tryz.ntmps14
 go_upto_region 1 with fail
 refine opq (fun w'=>(Bx w' Q #[.slice none 0 0,.slice none 0 0,.slice none 0 0,.slice none 0 0,.slice none 0 0,.slice none 0 0,.slice none 0 0])∧(Fr w' Q)∧Past W w'∧Q+1≤w'.heap.size) (by
  subst hQ
  exact ⟨by (exact kKeep),by (exact kKeep),by (exact kKeep),by simp⟩) ?_
 rintro w0 ⟨q0,f0,p0,z0⟩
 try rw [hQ]
 rw [hQ] at hP
 go_wp2_with fail
 refine (PG.out _ (R0.out.past p0)).mono ?_
 rintro e w1 ⟨gv,rfl,ig,r1,k1⟩
 have q1:=box_keep k1 q0 (by omega) (by omega)
 have f1:=free_keep k1 f0 (by omega) (by omega)
 have z1:Q+1≤w1.heap.size:=by have:=k1.2.2.1;omega
 have K1:=LH ((Keep.of_past p0).trans k1)
 have R1:=LH r1
 have IG:=LH ig
 have NP:=LH r1.noInt
 have B1:=LH r1.bytesP
 obtain ⟨A1,c1,A2,c2,A3,c3,e1,e2,e3⟩:∃ A1 c1 A2 c2 A3 c3,gv=.agg #[.slice A1 g.ins.length c1,.slice A2 g.nodes.length c2,.slice A3 g.outs.length c3]∧True∧True:=by
  obtain ⟨a,b,c,rfl,_,_,_⟩:=id ig
  obtain ⟨A1,c1,A2,c2,A3,c3,rfl,rfl,rfl⟩:=graph_form ig
  exact ⟨A1,c1,A2,c2,A3,c3,rfl,True.intro,True.intro⟩
 subst e1
 clear q0 f0 p0 z0 k1 r1 ig e2 e3 PG
 obtain ⟨X,hX⟩:∃ X,w1.heap.size=X:=⟨_,rfl⟩
 go_upto_region 2 with fail
 refine opq (fun w'=>(Bx w' X #[.slice A1 g.ins.length c1,.slice A2 g.nodes.length c2,.slice A3 g.outs.length c3,.slice none 0 0,.slice none 0 0,.slice none 0 0,.slice none 0 0])∧(Fr w' X)∧Past w1 w'∧w'.heap.size=X+1) (by
  subst hX
  exact ⟨by (exact kKeep),by (exact kKeep),by (exact kKeep),by simp⟩) ?_
 rintro w2 ⟨x2,f2,p2,z2⟩
 try rw [hX]
 have IG2:=IG.out.grow p2
 have R2:=LH (R1.out.past p2)
 have z2':X+1≤w2.heap.size:=by omega
 have hQX:Q+1≤X:=by omega
 have hXX:=LH hX
 clear R1 hX
 go_wp2_with (first|refine wpList_load_mid rfl 28 (.tmp 11) rfl X 0 rfl _ _ (range_box x2 [.slice A1 g.ins.length c1,.slice A2 g.nodes.length c2,.slice A3 g.outs.length c3] (fun j v hv=>by
  match j with
  | 0=>simpa using hv
  | 1=>simpa using hv
  | 2=>simpa using hv
  | j+3=>simp at hv)) Tryz.underlying28 rfl (by kernel_rfl) ?_)
 refine (VA.out _ _ IG2).mono ?_
 rintro e w3 ⟨vv,rfl,iv,pp3⟩
 have x3:=box_past pp3 x2 (by omega)
 have f3:=free_past pp3 f2 (by omega)
 have z3:X+1≤w3.heap.size:=by have:=pp3.2.2.1;omega
 have R3:=LH (R2.out.past pp3)
 have K3:=LH (Keep.of_past (P:=P) (p2.trans pp3))
 obtain ⟨N,hN⟩:∃ N,(valuesL g).length=N:=⟨_,rfl⟩
 obtain ⟨VV,cv,rfl,vl,vm,_,_,_⟩:=iv
 have hm:N≤9223372036854775807:=by rw [hN] at vl;unfold maxLen at vm;omega
 obtain ⟨G,hG⟩:∃ G,manyR mR N [] s1=G:=⟨_,rfl⟩
 have PE:Hid (pR s=G):=LH (by unfold pR;rw [HR.out];dsimp only;rw [hN,hG])
 have HG:=LH hG
 have HN:=LH hN
 have GL2:Hid (s1.rest.length≤1000000):=LH (by have:=GL.out;omega)
 rw [hN]
 clear x2 f2 p2 z2 IG2 R2 z2' VA vm vl hG hN pp3 GL
 obtain ⟨i0,hi0,hz0,hz1,hz2⟩:=info_parts infoInt
 have I1:=LH hi0
 have I2:=LH hz0
 have I3:=LH hz1
 have I4:=LH hz2
 clear hi0 hz0 hz1 hz2
 have N16:Hid (N≤1000000):=LH (by have:=values_len g;rw [HN.out] at this;omega)
 go_wp2_with fail
 go_loopw [18] (fun i wr=>∃ (k:Nat) (v:Value) (l:List Int) (st:Rd),k≤N∧i=.int .i64 k∧l.length=k∧(Bx wr X #[.slice A1 g.ins.length c1,.slice A2 g.nodes.length c2,.slice A3 g.outs.length c3,v,.slice none 0 0,.slice none 0 0,.slice none 0 0])∧(Fr wr X)∧X+1≤wr.heap.size∧Hid (manyR mR (N-k) l st=G)∧Hid (st.rest.length≤1000000)∧Hid (OwnI .i64 3 wr (X+1) v l)∧Hid (∀ x∈l,0≤x∧x<16777216)∧Hid (RdI wr B P st)∧Hid (Keep P w1 wr)) (fun i _=>N-(intOf i).toNat)
 case atStart=>exact ⟨0,.slice none 0 0,[],s1,by omega,rfl,rfl,x3,f3,z3,HG,GL2,LH (World.ownsRow_nil _ _ _ _),LH (by simp),R3,K3⟩
 case round =>
  clear x3 f3 z3 R3 K3
  obtain ⟨k,v,l,st,hk,rfl,rfl,br,fr,sr,hgo,hlen,own,hbd,rr,kk⟩:=hrel
  by_cases h:l.length<N
  ·have HNX:=LH (many_next h l st)
   have hN16:=N16.out
   go_upto_region 5 with fail
   refine wp_region_lastn 8 _ rfl (by kernel_rfl) (by kernel_rfl) ?za
   case za =>
    simp only [List.take_succ_cons,List.take_zero]
    refine any_mixd [3,4,5,6] (fun w'=>(Bx w' X #[.slice A1 g.ins.length c1,.slice A2 g.nodes.length c2,.slice A3 g.outs.length c3,v,.slice none 0 0,.slice none 0 0,.slice none 0 0])) [(20,?va20),(21,?va21),(22,?va22),(27,?va27)] [20,21,22,27] (by kernel_rfl) rfl (by kernel_rfl) br (fun w h=>box_drew h) ?alla ?fina
    case alla =>
     simp only [fillA,Act.put,List.setIfInBounds_toArray,List.set_cons_zero,List.set_cons_succ]
     iterate 8 (first|refine forced rfl ?_|(refine reads (fun w hw K hK=>?_) ?_;focus ((have hS:=LH hw);go_split_ands;go_simp;(try go_frame);exact hK)))
     exact True.intro
    case fina =>
     simp only [fillA,Act.put,List.setIfInBounds_toArray,List.set_cons_zero,List.set_cons_succ]
     refine mix_at 23 rfl rfl (fun K hK=>?_)
     simp only [Act.put,List.setIfInBounds_toArray,List.set_cons_zero,List.set_cons_succ] at hK
     go_simp
     refine (CM.out st wr.drew hlen.out (rr.out.past ((Past.refl wr).drew))).mono ?_
     rintro e w4 ⟨x,y,z,rfl,hx,hy,hz,hm,r4,k4⟩
     have kd:Keep P wr w4:=Keep.of_drew k4
     have b4:=box_keep kd br (by omega) (by omega)
     have f4:=free_keep kd fr (by omega) (by omega)
     have s4:X+1≤w4.heap.size:=by have:=kd.2.2.1;omega
     have O4:=LH (own_keep own.out kd (by omega))
     have K4:=LH (kk.out.trans kd)
     have R4:=LH r4
     have HM:=LH hm
     have PB:=LH (fun w=>place_any x y z w hx hy hz)
     have XB:Hid (0≤256*(256*x+y)+z∧256*(256*x+y)+z<16777216):=LH (by omega)
     refine hK _ _ b4 ?_
     clear hK kd k4 r4 br fr own rr kk hm hx hy hz
     (try go_frame)
     refine mix_at 24 rfl rfl (fun K hK=>?_)
     simp only [Act.put,List.setIfInBounds_toArray,List.set_cons_zero,List.set_cons_succ] at hK
     go_simp
     refine (PB.out _).mono ?_
     rintro e w5 ⟨rfl,pp5⟩
     have b5:=box_past pp5 b4 (by omega)
     have f5:=free_past pp5 f4 (by omega)
     have s5:X+1≤w5.heap.size:=by have:=pp5.2.2.1;omega
     have O5:=LH (own_keep O4.out (Keep.of_past (P:=P) pp5) (by omega))
     have K5:=LH (K4.out.trans (Keep.of_past pp5))
     have R5:=LH (R4.out.past pp5)
     obtain ⟨u,hu⟩:∃ u,256*(256*x+y)+z=u:=⟨_,rfl⟩
     rw [hu] at HM XB
     try rw [hu]
     have HLT:=LH (World.ownsRow.lt O5.out)
     refine hK _ _ b5 ?_
     clear hK pp5 b4 f4 s4 O4 K4 R4 PB hu
     (try go_frame)
     refine mix_at 25 rfl rfl (fun K hK=>?_)
     simp only [Act.put,List.setIfInBounds_toArray,List.set_cons_zero,List.set_cons_succ] at hK
     go_simp
     refine hK _ _ (box_old b5 (by omega)) ?_
     clear hK
     (try go_frame)
     refine mix_at 26 rfl rfl (fun K hK=>?_)
     simp only [Act.put,List.setIfInBounds_toArray,List.set_cons_zero,List.set_cons_succ] at hK
     refine wp_append_own _ (.tmp 21) (.tmp 25) 26 rfl (X+1) 3 i0 _ 1 8 Tryz.underlying26 I1.out I2.out I3.out I4.out rfl (by decide) _ _ _ rfl (World.ownsRow.alloc O5.out _) ⟨w5.heap.size,0,none⟩ 1 1 [.int .i64 u] rfl rfl (fun j y hu=>cells_new' w5 _ 3 j y hu) (by intro y hu;simp at hu;subst hu;rfl) ?c4 ?c5 ?c6 ?_
     case c4=>unfold maxLen;omega
     case c5=>omega
     case c6=>simp;omega
     intro v6 w6 hown6 hgrow _
     have O6:=LH (own_int rfl hown6)
     obtain ⟨A6,k6,rfl,_,_⟩:=own_slice' hown6
     have nX:some X≠v.ownBlock:=fun e=>by have:=(HLT.out X e.symm).1;omega
     have b6:=box_low hgrow (by omega) nX b5
     have f6:=free_low hgrow (by omega) nX f5
     have s6:X+1≤w6.heap.size:=by have:=hgrow.size;simp only [World.size_alloc] at this;omega
     have R6:=LH ((R5.out.past ((Past.refl _).alloc (.cells #[.int .i64 u] 3))).grownBy hgrow (fun j hj=>by have:=(HLT.out j hj).1;omega))
     have K6:=LH ((K5.out.alloc (.cells #[.int .i64 u] 3)).grownBy hgrow (fun j hj=>by have:=(HLT.out j hj).1;have:=hXX.out;omega))
     have BD6:Hid (∀ y∈l++[u],0≤y∧y<16777216):=LH (fun y hy=>by
      rcases List.mem_append.1 hy with hy|hy
      ·exact hbd.out y hy
      ·simp only [List.mem_cons,List.not_mem_nil,or_false] at hy;subst hy;exact XB.out)
     refine hK _ _ b6 ?_
     clear hK hown6 hgrow b5 f5 s5 O5 K5 R5 HLT nX
     (try go_frame)
     refine mix_nil ?_
     show Oper.wp _ _ _ _ _ _
     go_simp
     go_wp2_with fail
     go_roundw
     case rel=>exact ⟨l.length+1,_,l++[u],(mR st).2,by omega,by go_num,by simp,box_at b6 3 (by simp) _,free_set f6,by simpa only [size_setCell] using s6,LH (by rw [← hgo.out,HNX.out,← HM.out]),LH (Nat.le_trans (mR_len st) hlen.out),LH (own_set O6.out (by omega)),BD6,LH (R6.out.setNew (by omega)),LH (K6.out.setNew (by have:=hXX.out;omega))⟩
     case measure=>simp [intOf];omega
  ·have hkN:l.length=N:=by omega
   obtain ⟨A4,c4,rfl,_,_⟩:=own_slice' own.out
   have hge:(l,st)=G:=by rw [← hgo.out,show N-l.length=0 by omega];rfl
   have PE2:Hid (pR s=(l,st)):=LH (by rw [PE.out,hge])
   have bst:=rr.out.bytesP
   obtain ⟨ra',hra⟩:∃ x,sR st=x:=⟨_,rfl⟩
   obtain ⟨la,ra⟩:=ra'
   have HRA:=LH hra
   have lra:Hid (ra.rest.length≤1000000):=LH (by have:=sR_len st bst;rw [hra] at this;have:=hlen.out;simp only at *;omega)
   obtain ⟨rb',hrb⟩:∃ x,sR ra=x:=⟨_,rfl⟩
   obtain ⟨lb,rb⟩:=rb'
   have HRB:=LH hrb
   obtain ⟨rc',hrc⟩:∃ x,sR rb=x:=⟨_,rfl⟩
   obtain ⟨lc,rc⟩:=rc'
   have HRC:=LH hrc
   have IE:Hid (imgR s=(⟨g,l,la,lb,lc⟩,rc)):=LH (by
    unfold imgR
    rw [PE2.out,HR.out]
    dsimp only
    rw [hra]
    dsimp only
    rw [hrb]
    dsimp only
    rw [hrc])
   have lp:=hlen
   have lrb:Hid (rb.rest.length≤1000000):=LH (by
    have b:=sR_bytes st bst
    rw [hra] at b
    have c:=sR_len ra b
    rw [hrb] at c
    have:=lra.out
    simp only at *
    omega)
   obtain ⟨LP,hLP⟩:∃ m,l.length=m:=⟨_,rfl⟩
   have OW:Hid (wr.ownsRow (X+1) 3 1 (.slice A4 LP c4) LP (l.map (Value.int .i64))):=LH (by have:=own.out;unfold OwnI at this;rw [hLP] at this;exact this)
   rw [hLP] at br h hkN
   rw [hLP]
   have HLP:=LH hLP
   have d9:decide ((LP:Int)<(N:Int))=false:=by simp;omega
   have d8:decide (LP<N)=false:=by simp;omega
   have BR:=LH br
   have FR:=LH fr
   have hsr:=sr
   clear hra hrb hrc hge hLP PE own br fr sr hgo HG hkN h
   go_wp2_with fail
   go_loopw [6,29] (fun _ j wr=>(j=.int .i64 0∧(Bx wr X #[.slice A1 g.ins.length c1,.slice A2 g.nodes.length c2,.slice A3 g.outs.length c3,.slice A4 LP c4,.slice none 0 0,.slice none 0 0,.slice none 0 0])∧(Fr wr X)∧X+1≤wr.heap.size∧Hid (wr.ownsRow (X+1) 3 1 (.slice A4 LP c4) LP (l.map (Value.int .i64)))∧Hid (RdI wr B P st)∧Hid (Keep P w1 wr))∨(j=.int .i64 1∧∃ (B5:Option Addr) (d5:Nat),(Bx wr X #[.slice A1 g.ins.length c1,.slice A2 g.nodes.length c2,.slice A3 g.outs.length c3,.slice A4 LP c4,.slice B5 la.length d5,.slice none 0 0,.slice none 0 0])∧(Fr wr X)∧X+1≤wr.heap.size∧Hid (wr.ownsRow (X+1) 3 1 (.slice A4 LP c4) LP (l.map (Value.int .i64)))∧Hid (Q8.IsCmds wr (.slice B5 la.length d5) la)∧Hid (RdI wr B P ra)∧Hid (Keep P w1 wr))∨(j=.int .i64 2∧∃ (B5:Option Addr) (d5:Nat),∃ (B6:Option Addr) (d6:Nat),(Bx wr X #[.slice A1 g.ins.length c1,.slice A2 g.nodes.length c2,.slice A3 g.outs.length c3,.slice A4 LP c4,.slice B5 la.length d5,.slice B6 lb.length d6,.slice none 0 0])∧(Fr wr X)∧X+1≤wr.heap.size∧Hid (wr.ownsRow (X+1) 3 1 (.slice A4 LP c4) LP (l.map (Value.int .i64)))∧Hid (Q8.IsCmds wr (.slice B5 la.length d5) la)∧Hid (Q8.IsCmds wr (.slice B6 lb.length d6) lb)∧Hid (RdI wr B P rb)∧Hid (Keep P w1 wr))∨(j=.int .i64 3∧∃ (B5:Option Addr) (d5:Nat),∃ (B6:Option Addr) (d6:Nat),∃ (B7:Option Addr) (d7:Nat),(Bx wr X #[.slice A1 g.ins.length c1,.slice A2 g.nodes.length c2,.slice A3 g.outs.length c3,.slice A4 LP c4,.slice B5 la.length d5,.slice B6 lb.length d6,.slice B7 lc.length d7])∧(Fr wr X)∧X+1≤wr.heap.size∧Hid (wr.ownsRow (X+1) 3 1 (.slice A4 LP c4) LP (l.map (Value.int .i64)))∧Hid (Q8.IsCmds wr (.slice B5 la.length d5) la)∧Hid (Q8.IsCmds wr (.slice B6 lb.length d6) lb)∧Hid (Q8.IsCmds wr (.slice B7 lc.length d7) lc)∧Hid (RdI wr B P rc)∧Hid (Keep P w1 wr))) (fun _ j _=>3-(intOf j).toNat)
   case atStart=>exact .inl ⟨rfl,BR.out,FR.out,hsr,OW,rr,kk⟩
   case round =>
    clear BR FR hsr OW rr kk
    rcases hrel with ⟨rfl,br,fr,sr,own,rr,kk⟩|⟨rfl,B5,d5,br,fr,sr,own,J0,rr,kk⟩|⟨rfl,B5,d5,B6,d6,br,fr,sr,own,J0,J1,rr,kk⟩|⟨rfl,B5,d5,B6,d6,B7,d7,br,fr,sr,own,J0,J1,J2,rr,kk⟩
    ·have PS:=LH (partS_rd B P st wr rr.out lp.out)
     rw [HRA.out] at PS
     go_wp2_with fail
     refine PS.out.mono ?_
     rintro e w4 ⟨sv,rfl,ic,r4,k4⟩
     have b4:=box_keep k4 br (by omega) (by omega)
     have f4:=free_keep k4 fr (by omega) (by omega)
     have s4:X+1≤w4.heap.size:=by have:=k4.2.2.1;omega
     have O4:=LH (own_keep own.out k4 (by omega))
     have K4:=LH (kk.out.trans k4)
     have R4:=LH r4
     have IC:=LH ic
     obtain ⟨B5,d5,rfl,_,_,_⟩:=ic.form
     clear br fr sr own rr kk PS k4 r4 ic
     have nX:=LH (noInt7 b4)
     have sX:=(Save.refl X w4).set 4 (.slice B5 la.length d5)
     go_wp2_with fail
     go_roundw
     case rel=>exact .inr (.inl ⟨rfl,_,_,box_at b4 4 (by simp) _,free_set f4,by simpa only [size_setCell] using s4,LH (own_set O4.out (by omega)),LH (cmds_save IC.out nX.out sX),LH (R4.out.setNew (by omega)),LH (K4.out.setNew (by have:=hXX.out;omega))⟩)
     case measure=>simp [intOf]
    ·have PS:=LH (partS_rd B P ra wr rr.out lra.out)
     rw [HRB.out] at PS
     go_wp2_with fail
     refine PS.out.mono ?_
     rintro e w4 ⟨sv,rfl,ic,r4,k4⟩
     have b4:=box_keep k4 br (by omega) (by omega)
     have f4:=free_keep k4 fr (by omega) (by omega)
     have s4:X+1≤w4.heap.size:=by have:=k4.2.2.1;omega
     have O4:=LH (own_keep own.out k4 (by omega))
     have J0b:=LH (cmds_save J0.out rr.out.noInt k4.save)
     have K4:=LH (kk.out.trans k4)
     have R4:=LH r4
     have IC:=LH ic
     obtain ⟨B6,d6,rfl,_,_,_⟩:=ic.form
     clear br fr sr own rr kk PS k4 r4 ic J0
     have nX:=LH (noInt7 b4)
     have sX:=(Save.refl X w4).set 5 (.slice B6 lb.length d6)
     go_wp2_with fail
     go_roundw
     case rel=>exact .inr (.inr (.inl ⟨rfl,_,_,_,_,box_at b4 5 (by simp) _,free_set f4,by simpa only [size_setCell] using s4,LH (own_set O4.out (by omega)),LH (cmds_save J0b.out nX.out sX),LH (cmds_save IC.out nX.out sX),LH (R4.out.setNew (by omega)),LH (K4.out.setNew (by have:=hXX.out;omega))⟩))
     case measure=>simp [intOf]
    ·have PS:=LH (partS_rd B P rb wr rr.out lrb.out)
     rw [HRC.out] at PS
     go_wp2_with fail
     refine PS.out.mono ?_
     rintro e w4 ⟨sv,rfl,ic,r4,k4⟩
     have b4:=box_keep k4 br (by omega) (by omega)
     have f4:=free_keep k4 fr (by omega) (by omega)
     have s4:X+1≤w4.heap.size:=by have:=k4.2.2.1;omega
     have O4:=LH (own_keep own.out k4 (by omega))
     have J0b:=LH (cmds_save J0.out rr.out.noInt k4.save)
     have J1b:=LH (cmds_save J1.out rr.out.noInt k4.save)
     have K4:=LH (kk.out.trans k4)
     have R4:=LH r4
     have IC:=LH ic
     obtain ⟨B7,d7,rfl,_,_,_⟩:=ic.form
     clear br fr sr own rr kk PS k4 r4 ic J0 J1
     have nX:=LH (noInt7 b4)
     have sX:=(Save.refl X w4).set 6 (.slice B7 lc.length d7)
     go_wp2_with fail
     go_roundw
     case rel=>exact .inr (.inr (.inr ⟨rfl,_,_,_,_,_,_,box_at b4 6 (by simp) _,free_set f4,by simpa only [size_setCell] using s4,LH (own_set O4.out (by omega)),LH (cmds_save J0b.out nX.out sX),LH (cmds_save J1b.out nX.out sX),LH (cmds_save IC.out nX.out sX),LH (R4.out.setNew (by omega)),LH (K4.out.setNew (by have:=hXX.out;omega))⟩))
     case measure=>simp [intOf]
    ·have qr:=box_keep kk.out q1 (by omega) (by omega)
     have fq:=free_keep kk.out f1 (by omega) (by omega)
     have IGr:=graph_save IG.out NP.out kk.out.save
     have IPr:IsNums .i64 wr (.slice A4 LP c4) l:=by
      have o:=own.out
      rw [← HLP.out] at o ⊢
      exact nums_of_ownI (t:=3) o (fun x hx=>WalkArith.wf_i64 (by have:=hbd.out x hx;omega))
     have IMr:IsImg wr (.agg #[.slice A1 g.ins.length c1,.slice A2 g.nodes.length c2,.slice A3 g.outs.length c3,.slice A4 LP c4,.slice B5 la.length d5,.slice B6 lb.length d6,.slice B7 lc.length d7]) ⟨g,l,la,lb,lc⟩:=⟨_,_,_,_,_,_,_,rfl,IGr,IPr,J0.out,J1.out,J2.out⟩
     have IM:=LH (img_save IMr (noInt7 qr) (save7 (y0:=.slice A1 g.ins.length c1) (y1:=.slice A2 g.nodes.length c2) (y2:=.slice A3 g.outs.length c3) (y3:=.slice A4 LP c4) (y4:=.slice B5 la.length d5) (y5:=.slice B6 lb.length d6) (y6:=.slice B7 lc.length d7)))
     have RD:=LH (((((((rr.out.setNew (Q:=Q) (o:=0) (u:=.slice A1 g.ins.length c1) hP).setNew (Q:=Q) (o:=1) (u:=.slice A2 g.nodes.length c2) hP).setNew (Q:=Q) (o:=2) (u:=.slice A3 g.outs.length c3) hP).setNew (Q:=Q) (o:=3) (u:=.slice A4 LP c4) hP).setNew (Q:=Q) (o:=4) (u:=.slice B5 la.length d5) hP).setNew (Q:=Q) (o:=5) (u:=.slice B6 lb.length d6) hP).setNew (Q:=Q) (o:=6) (u:=.slice B7 lc.length d7) hP)
     have KP:=LH ((((((((K1.out.trans kk.out).setNew (Q:=Q) (o:=0) (u:=.slice A1 g.ins.length c1) (by omega)).setNew (Q:=Q) (o:=1) (u:=.slice A2 g.nodes.length c2) (by omega)).setNew (Q:=Q) (o:=2) (u:=.slice A3 g.outs.length c3) (by omega)).setNew (Q:=Q) (o:=3) (u:=.slice A4 LP c4) (by omega)).setNew (Q:=Q) (o:=4) (u:=.slice B5 la.length d5) (by omega)).setNew (Q:=Q) (o:=5) (u:=.slice B6 lb.length d6) (by omega)).setNew (Q:=Q) (o:=6) (u:=.slice B7 lc.length d7) (by omega))
     have q9:=box_set7 qr (y0:=.slice A1 g.ins.length c1) (y1:=.slice A2 g.nodes.length c2) (y2:=.slice A3 g.outs.length c3) (y3:=.slice A4 LP c4) (y4:=.slice B5 la.length d5) (y5:=.slice B6 lb.length d6) (y6:=.slice B7 lc.length d7)
     clear IGr IPr IMr J0 J1 J2 rr kk own IG NP K1
     go_wp2_with (first|refine wpList_load_box rfl 32 (.tmp 3) rfl X _ rfl br Tryz.underlying32 rfl (by kernel_rfl) ?_)
     clear br fr qr fq
     generalize (((((((wr.setCell ⟨Q,0,none⟩ (.slice A1 g.ins.length c1)).setCell ⟨Q,1,none⟩ (.slice A2 g.nodes.length c2)).setCell ⟨Q,2,none⟩ (.slice A3 g.outs.length c3)).setCell ⟨Q,3,none⟩ (.slice A4 LP c4)).setCell ⟨Q,4,none⟩ (.slice B5 la.length d5)).setCell ⟨Q,5,none⟩ (.slice B6 lb.length d6)).setCell ⟨Q,6,none⟩ (.slice B7 lc.length d7))=w9 at *
     exact bodyPost_ret (v:=.agg #[.slice A1 g.ins.length c1,.slice A2 g.nodes.length c2,.slice A3 g.outs.length c3,.slice A4 LP c4,.slice B5 la.length d5,.slice B6 lb.length d6,.slice B7 lc.length d7]) (by simp [results,Tryz.results14,go_sem,q9]) rfl ⟨_,rfl,by rw [IE.out];exact IM.out,by rw [IE.out];exact RD.out,KP.out⟩
end Go.Proofs.YtejllmjkeefloaaGreat
namespace Go.Proofs.YtejllmjkeefloaaGreat
open Go.ChangeShapes Go.WideShapes Go.ChangeAt Go.RowKit
set_option maxRecDepth 20000
set_option linter.unusedVariables false
set_option linter.unusedSimpArgs false
def openedI (ns:List Nat):List Int:=Q7.ints (ns.take (ns.length-4))
def TookI (ns:List Nat):Prop:=(4<=ns.length/\Q7.crc 4294967295 ns=Q7.hvs 32 4294967295)/\(imgR ⟨openedI ns,false⟩).2.short=false/\(imgR ⟨openedI ns,false⟩).2.rest=[]/\placedP (imgR ⟨openedI ns,false⟩).1.g (imgR ⟨openedI ns,false⟩).1.pl
def TakeI (ns:List Nat) (W:World) (e:Ending) (w':World):Prop :=
 (TookI ns∧∃ iv,e=.returned (.tuple #[iv,.int .i64 0])∧IsImg w' iv (imgR ⟨openedI ns,false⟩).1∧Past W w') ∨
 (¬ TookI ns∧e=.returned (.tuple #[.agg #[.slice none 0 0,.slice none 0 0,.slice none 0 0,.slice none 0 0,.slice none 0 0,.slice none 0 0,.slice none 0 0],.int .i64 2])∧Past W w')
theorem ints_bytes {l:List Nat}(h:Q7.Bytes l):bytesP (Q7.ints l):=fun c hc=>by
 unfold Q7.ints at hc;obtain⟨n,hn,rfl⟩:=List.mem_map.1 hc;have:=h n hn;omega
theorem opened_bytes {l:List Nat}(h:Q7.Bytes l):bytesP (openedI l):=ints_bytes (h.take _)
theorem opened_len (l:List Nat):(openedI l).length=l.length-4:=by unfold openedI;rw [Q7.ints_len,List.length_take];omega
theorem imgR_g (s:Rd):(imgR s).1.g=(gR s).1:=rfl
set_option maxHeartbeats 16000000 in
theorem itake_any (ns:List Nat) (v:Value) (W:World) (h:IsNums .u8 W v (Q7.ints ns)) (hb:Q7.Bytes ns) (hl:ns.length≤1000000):Calls Tryz.prog 6 #[v] W (TakeI ns W):=by
 have OP:=LH (fun w (p:Past W w)=>Q7.open_any ns v w (h.grow p) hb hl)
 unfold Q7.OpenPost at OP
 obtain ⟨Av,cv,rfl,_,_,_,_,_⟩:=h
 rw [Q7.ints_len] at OP ⊢
 have OB:=LH (opened_bytes hb)
 have OL:=LH (opened_len ns)
 obtain ⟨ol,hol⟩:∃ x,openedI ns=x:=⟨_,rfl⟩
 have HOL:=LH hol
 have CU:Hid (Cut (imgR ⟨ol,false⟩).1.g):=LH (by rw [imgR_g];exact gR_cut _ (by rw [← hol];exact OB.out))
 rw [hol] at OB OL
 rw [show Q7.ints (ns.take (ns.length-4))=ol from hol] at OP
 have RD:=LH (fun w B P (k:RdI w B P ⟨ol,false⟩)=>image_rd B P ⟨ol,false⟩ w k (by have:=OL.out;show ol.length≤_;omega))
 obtain ⟨r',hr⟩:∃ x,imgR ⟨ol,false⟩=x:=⟨_,rfl⟩
 obtain ⟨i,r⟩:=r'
 rw [hr] at CU RD
 have HR:=LH hr
 clear hr hol
 obtain ⟨Q,hQ⟩:∃ Q,W.heap.size=Q:=⟨_,rfl⟩
 go_enter Tryz.func6,Tryz.ntmps6
 go_upto_region 1 with fail
 refine opq (fun w'=>(Bx w' Q #[.slice none 0 0,.slice none 0 0,.slice none 0 0,.slice none 0 0,.slice none 0 0,.slice none 0 0,.slice none 0 0])∧(Fr w' Q)∧Past W w'∧Q+1≤w'.heap.size) (by
  subst hQ
  exact ⟨by (exact kKeep),by (exact kKeep),by (exact kKeep),by simp⟩) ?_
 rintro w0 ⟨q0,f0,p0,z0⟩
 try rw [hQ]
 go_wp2_with fail
 refine (OP.out _ p0).mono ?_
 rintro e w1 H
 rcases H with ⟨o1,o2,ov,rfl,on,pp1⟩|⟨hT,rfl,pp1⟩
 ·have q1:=box_past pp1 q0 (by omega)
  have f1:=free_past pp1 f0 (by omega)
  have p1:=p0.trans pp1
  have z1:Q+1≤w1.heap.size:=by have:=pp1.2.2.1;omega
  have ON:=LH on
  have TT:=LH (And.intro o1 o2)
  obtain ⟨Ao,co,rfl,_,cm,_,_,k5⟩:=on
  have HK5:=LH k5
  clear q0 f0 p0 z0 pp1 OP o1 o2 k5
  obtain ⟨P,hP⟩:∃ P,w1.heap.size=P:=⟨_,rfl⟩
  obtain ⟨LO,hLO⟩:∃ n,ol.length=n:=⟨_,rfl⟩
  rw [hLO]
  rw [hLO] at ON
  have HLO:=LH hLO
  go_upto_region 5 with fail
  refine opq (fun w'=>(Bx w' Q #[.slice none 0 0,.slice none 0 0,.slice none 0 0,.slice none 0 0,.slice none 0 0,.slice none 0 0,.slice none 0 0])∧(Fr w' Q)∧(Bx w' P #[.slice Ao LO co,.bool false])∧(Fr w' P)∧Past W w'∧Past w1 w'∧P+1≤w'.heap.size) (by
   subst hP
   exact ⟨by (exact kKeep),by (exact kKeep),by (exact kKeep),by (exact kKeep),by (exact kKeep),by (exact kKeep),by simp⟩) ?_
  rintro w2 ⟨q2,f2,b2,g2,p2,pp2,z2⟩
  try rw [hP]
  have hQP:Q+1≤P:=by omega
  have R2:Hid (RdI w2 P P ⟨ol,false⟩):=LH (RdI.mk (by rw [hLO];exact b2) g2 (by rw [hLO];exact ON.out.grow pp2) (fun hp ad e=>by
   obtain ⟨b,off,e2,hb2,_⟩:=HK5.out hp
   rw [e2] at e
   simp only [Option.some.injEq] at e
   subst e
   show b<P
   omega) (Nat.le_refl _) (by omega))
  clear q1 f1 p1 z1 pp2 b2 g2 hLO hP ON HK5
  go_wp2_with fail
  refine (RD.out _ _ _ R2.out).mono ?_
  rintro e w3 ⟨iv,rfl,im,r3,k3⟩
  have q3:=box_keep k3 q2 (by omega) (by omega)
  have f3:=free_keep k3 f2 (by omega) (by omega)
  have p3:=k3.past p2 (by omega)
  have z3:P+1≤w3.heap.size:=by have:=k3.2.2.1;omega
  have IM:=LH im
  obtain ⟨A1,c1,A2,c2,A3,c3,A4,c4,A5,c5,A6,c6,A7,c7,rfl,_,_,_,_,_⟩:=im.form
  obtain ⟨Ar,cr,br,gr,nr,_,_,_⟩:=r3
  have hml:r.rest.length≤9223372036854775807:=by
   obtain ⟨_,_,e,k1,k2,_⟩:=nr
   simp only [Value.slice.injEq,true_and] at e
   obtain ⟨rfl,rfl⟩:=e
   unfold maxLen at k2
   omega
  clear q2 f2 p2 z2 R2 k3 im RD nr
  obtain ⟨X,hX⟩:∃ X,w3.heap.size=X:=⟨_,rfl⟩
  go_upto_region 6 with fail
  refine opq (fun w'=>(Bx w' Q #[.slice none 0 0,.slice none 0 0,.slice none 0 0,.slice none 0 0,.slice none 0 0,.slice none 0 0,.slice none 0 0])∧(Fr w' Q)∧(Bx w' P #[.slice Ar r.rest.length cr,.bool r.short])∧(Bx w' X #[.slice A1 i.g.ins.length c1,.slice A2 i.g.nodes.length c2,.slice A3 i.g.outs.length c3,.slice A4 i.pl.length c4,.slice A5 i.s0.length c5,.slice A6 i.s1.length c6,.slice A7 i.s2.length c7])∧Past W w'∧Past w3 w'∧X+1≤w'.heap.size) (by
   subst hX
   exact ⟨by (exact kKeep),by (exact kKeep),by (exact kKeep),by (exact kKeep),by (exact kKeep),by (exact kKeep),by simp⟩) ?_
  rintro w4 ⟨q4,f4,b4,x4,p4,pp4,z4⟩
  try rw [hX]
  have hPX:P+1≤X:=by omega
  have IM4:=LH (IM.out.grow pp4)
  clear q3 f3 p3 z3 pp4 br gr hX IM
  rcases Bool.eq_false_or_eq_true r.short with hs|hs
  ·rw [hs] at b4
   have NT:Hid (¬ TookI ns):=LH (fun f=>by have:=f.2.1;rw [HOL.out,HR.out] at this;rw [hs] at this;cases this)
   clear hs x4 IM4
   go_wp2_with fail
   have q9:=box_set7 q4 (y0:=.slice none 0 0) (y1:=.slice none 0 0) (y2:=.slice none 0 0) (y3:=.slice none 0 0) (y4:=.slice none 0 0) (y5:=.slice none 0 0) (y6:=.slice none 0 0)
   have p9:=past7 (B:=Q) (y0:=.slice none 0 0) (y1:=.slice none 0 0) (y2:=.slice none 0 0) (y3:=.slice none 0 0) (y4:=.slice none 0 0) (y5:=.slice none 0 0) (y6:=.slice none 0 0) p4 (by omega)
   clear q4
   generalize (((((((w4.setCell ⟨Q,0,none⟩ (.slice none 0 0)).setCell ⟨Q,1,none⟩ (.slice none 0 0)).setCell ⟨Q,2,none⟩ (.slice none 0 0)).setCell ⟨Q,3,none⟩ (.slice none 0 0)).setCell ⟨Q,4,none⟩ (.slice none 0 0)).setCell ⟨Q,5,none⟩ (.slice none 0 0)).setCell ⟨Q,6,none⟩ (.slice none 0 0))=w9 at *
   exact bodyPost_ret (v:=.tuple #[.agg #[.slice none 0 0,.slice none 0 0,.slice none 0 0,.slice none 0 0,.slice none 0 0,.slice none 0 0,.slice none 0 0],.int .i64 2]) (by simp [results,Tryz.results6,go_sem,q9]) rfl (.inr ⟨NT.out,rfl,p9⟩)
  ·rw [hs] at b4
   have HS:=LH hs
   clear hs
   by_cases hr0:0<r.rest.length
   ·have d1:decide ((r.rest.length:Int)>0)=true:=decide_eq_true (by omega)
    have NT:Hid (¬ TookI ns):=LH (fun f=>by have:=f.2.2.1;rw [HOL.out,HR.out] at this;simp only at this;rw [this] at hr0;simp at hr0)
    clear x4 IM4
    go_wp2_with fail
    have q9:=box_set7 q4 (y0:=.slice none 0 0) (y1:=.slice none 0 0) (y2:=.slice none 0 0) (y3:=.slice none 0 0) (y4:=.slice none 0 0) (y5:=.slice none 0 0) (y6:=.slice none 0 0)
    have p9:=past7 (B:=Q) (y0:=.slice none 0 0) (y1:=.slice none 0 0) (y2:=.slice none 0 0) (y3:=.slice none 0 0) (y4:=.slice none 0 0) (y5:=.slice none 0 0) (y6:=.slice none 0 0) p4 (by omega)
    clear q4
    generalize (((((((w4.setCell ⟨Q,0,none⟩ (.slice none 0 0)).setCell ⟨Q,1,none⟩ (.slice none 0 0)).setCell ⟨Q,2,none⟩ (.slice none 0 0)).setCell ⟨Q,3,none⟩ (.slice none 0 0)).setCell ⟨Q,4,none⟩ (.slice none 0 0)).setCell ⟨Q,5,none⟩ (.slice none 0 0)).setCell ⟨Q,6,none⟩ (.slice none 0 0))=w9 at *
    exact bodyPost_ret (v:=.tuple #[.agg #[.slice none 0 0,.slice none 0 0,.slice none 0 0,.slice none 0 0,.slice none 0 0,.slice none 0 0,.slice none 0 0],.int .i64 2]) (by simp [results,Tryz.results6,go_sem,q9]) rfl (.inr ⟨NT.out,rfl,p9⟩)
   ·have d1:decide ((r.rest.length:Int)>0)=false:=decide_eq_false (by omega)
    obtain ⟨t,ht⟩:=bool_any (placedP i.g i.pl)
    have PL:=LH (placed_any i _ t w4 IM4.out CU.out ht)
    have HT:=LH ht
    have HR0:Hid (r.rest=[]):=LH (List.eq_nil_of_length_eq_zero (by omega))
    obtain ⟨LR,hLR⟩:∃ n,r.rest.length=n:=⟨_,rfl⟩
    rw [hLR] at b4 d1 hr0 hml
    clear ht hLR
    go_wp2_with (first|refine wpList_load_box rfl 32 (.tmp 7) rfl X _ rfl x4 Tryz.underlying32 rfl (by kernel_rfl) ?_)
    refine PL.out.mono ?_
    rintro e w5 ⟨rfl,pp5⟩
    have q5:=box_past pp5 q4 (by omega)
    have f5:=free_past pp5 f4 (by omega)
    have x5:=box_past pp5 x4 (by omega)
    have p5:=p4.trans pp5
    have IM5:=LH (IM4.out.grow pp5)
    clear q4 f4 b4 x4 p4 pp5 IM4 PL
    cases t with
    | false =>
     have NT:Hid (¬ TookI ns):=LH (fun f=>by
      have k:=f.2.2.2
      rw [HOL.out,HR.out] at k
      have:=HT.out.2 k
      cases this)
     clear x5 IM5
     go_wp2_with fail
     have q9:=box_set7 q5 (y0:=.slice none 0 0) (y1:=.slice none 0 0) (y2:=.slice none 0 0) (y3:=.slice none 0 0) (y4:=.slice none 0 0) (y5:=.slice none 0 0) (y6:=.slice none 0 0)
     have p9:=past7 (B:=Q) (y0:=.slice none 0 0) (y1:=.slice none 0 0) (y2:=.slice none 0 0) (y3:=.slice none 0 0) (y4:=.slice none 0 0) (y5:=.slice none 0 0) (y6:=.slice none 0 0) p5 (by omega)
     clear q5
     generalize (((((((w5.setCell ⟨Q,0,none⟩ (.slice none 0 0)).setCell ⟨Q,1,none⟩ (.slice none 0 0)).setCell ⟨Q,2,none⟩ (.slice none 0 0)).setCell ⟨Q,3,none⟩ (.slice none 0 0)).setCell ⟨Q,4,none⟩ (.slice none 0 0)).setCell ⟨Q,5,none⟩ (.slice none 0 0)).setCell ⟨Q,6,none⟩ (.slice none 0 0))=w9 at *
     exact bodyPost_ret (v:=.tuple #[.agg #[.slice none 0 0,.slice none 0 0,.slice none 0 0,.slice none 0 0,.slice none 0 0,.slice none 0 0,.slice none 0 0],.int .i64 2]) (by simp [results,Tryz.results6,go_sem,q9]) rfl (.inr ⟨NT.out,rfl,p9⟩)
    | true =>
     have YT:Hid (TookI ns):=LH (by
      unfold TookI
      rw [HOL.out,HR.out]
      exact ⟨TT.out,HS.out,HR0.out,HT.out.1 rfl⟩)
     have IE:Hid ((imgR ⟨openedI ns,false⟩).1=i):=LH (by rw [HOL.out,HR.out])
     go_wp2_with (first|refine wpList_load_box rfl 32 (.tmp 7) rfl X _ rfl x5 Tryz.underlying32 rfl (by kernel_rfl) ?_)
     have q9:=box_set7 q5 (y0:=.slice A1 i.g.ins.length c1) (y1:=.slice A2 i.g.nodes.length c2) (y2:=.slice A3 i.g.outs.length c3) (y3:=.slice A4 i.pl.length c4) (y4:=.slice A5 i.s0.length c5) (y5:=.slice A6 i.s1.length c6) (y6:=.slice A7 i.s2.length c7)
     have p9:=past7 (B:=Q) (y0:=.slice A1 i.g.ins.length c1) (y1:=.slice A2 i.g.nodes.length c2) (y2:=.slice A3 i.g.outs.length c3) (y3:=.slice A4 i.pl.length c4) (y4:=.slice A5 i.s0.length c5) (y5:=.slice A6 i.s1.length c6) (y6:=.slice A7 i.s2.length c7) p5 (by omega)
     have IM9:=LH (img_save IM5.out (noInt7 q5) (save7 (y0:=.slice A1 i.g.ins.length c1) (y1:=.slice A2 i.g.nodes.length c2) (y2:=.slice A3 i.g.outs.length c3) (y3:=.slice A4 i.pl.length c4) (y4:=.slice A5 i.s0.length c5) (y5:=.slice A6 i.s1.length c6) (y6:=.slice A7 i.s2.length c7)))
     clear q5 f5 x5 p5 IM5
     generalize (((((((w5.setCell ⟨Q,0,none⟩ (.slice A1 i.g.ins.length c1)).setCell ⟨Q,1,none⟩ (.slice A2 i.g.nodes.length c2)).setCell ⟨Q,2,none⟩ (.slice A3 i.g.outs.length c3)).setCell ⟨Q,3,none⟩ (.slice A4 i.pl.length c4)).setCell ⟨Q,4,none⟩ (.slice A5 i.s0.length c5)).setCell ⟨Q,5,none⟩ (.slice A6 i.s1.length c6)).setCell ⟨Q,6,none⟩ (.slice A7 i.s2.length c7))=w9 at *
     exact bodyPost_ret (v:=.tuple #[.agg #[.slice A1 i.g.ins.length c1,.slice A2 i.g.nodes.length c2,.slice A3 i.g.outs.length c3,.slice A4 i.pl.length c4,.slice A5 i.s0.length c5,.slice A6 i.s1.length c6,.slice A7 i.s2.length c7],.int .i64 0]) (by simp [results,Tryz.results6,go_sem,q9]) rfl (.inl ⟨YT.out,_,rfl,by rw [IE.out];exact IM9.out,p9⟩)
 ·have q1:=box_past pp1 q0 (by omega)
  have f1:=free_past pp1 f0 (by omega)
  have p1:=p0.trans pp1
  have NT:Hid (¬ TookI ns):=LH (fun f=>hT f.1)
  clear q0 f0 p0 z0 pp1 OP hT
  go_wp2_with fail
  have q9:=box_set7 q1 (y0:=.slice none 0 0) (y1:=.slice none 0 0) (y2:=.slice none 0 0) (y3:=.slice none 0 0) (y4:=.slice none 0 0) (y5:=.slice none 0 0) (y6:=.slice none 0 0)
  have p9:=past7 (B:=Q) (y0:=.slice none 0 0) (y1:=.slice none 0 0) (y2:=.slice none 0 0) (y3:=.slice none 0 0) (y4:=.slice none 0 0) (y5:=.slice none 0 0) (y6:=.slice none 0 0) p1 (by omega)
  clear q1
  generalize (((((((w1.setCell ⟨Q,0,none⟩ (.slice none 0 0)).setCell ⟨Q,1,none⟩ (.slice none 0 0)).setCell ⟨Q,2,none⟩ (.slice none 0 0)).setCell ⟨Q,3,none⟩ (.slice none 0 0)).setCell ⟨Q,4,none⟩ (.slice none 0 0)).setCell ⟨Q,5,none⟩ (.slice none 0 0)).setCell ⟨Q,6,none⟩ (.slice none 0 0))=w9 at *
  exact bodyPost_ret (v:=.tuple #[.agg #[.slice none 0 0,.slice none 0 0,.slice none 0 0,.slice none 0 0,.slice none 0 0,.slice none 0 0,.slice none 0 0],.int .i64 2]) (by simp [results,Tryz.results6,go_sem,q9]) rfl (.inr ⟨NT.out,rfl,p9⟩)
end Go.Proofs.YtejllmjkeefloaaGreat
