/- The reference's number, put. -/
import Derived.Test.YtejllmjkeefloaaGreatMI17
namespace Go.Proofs.YtejllmjkeefloaaGreat.Q8
open Go.ChangeShapes Go.WideShapes Go.ChangeAt Go.RowKit
set_option maxRecDepth 20000
set_option linter.unusedVariables false
set_option linter.unusedSimpArgs false
def OwnZ (w:World)(base:Nat)(v:Value)(xs:List Int):Prop:=w.ownsRow base 5 1 v xs.length (xs.map (Value.int .u8))/\∀ P,NoRow w base P->some P≠v.ownBlock
theorem OwnB.z {w:World}{base:Nat}{v:Value}{xs:List Int}(h:OwnB w base v xs):OwnZ w base v xs:=⟨h.1,fun P hP=>h.ne hP⟩
theorem ownZ_lit (w:World):OwnZ (w.alloc (.cells #[] 5)) w.heap.size (.slice (some ⟨w.heap.size,0,none⟩) 0 0) []:=by
 refine⟨World.ownsRow_lit w #[] 0 (Nat.le_refl _) (by decide) rfl,fun P hP e=>?_⟩;simp only [Value.ownBlock,Option.some.injEq] at e;subst e;rcases hP.2 with h|⟨u,hu,_⟩
 ·omega
 ·rw [box_new (w:=w) (cs:=#[]) (t:=5) rfl 0] at hu;simp at hu
theorem OwnZ.alloc {w:World}{base:Nat}{v:Value}{xs:List Int}(h:OwnZ w base v xs)(x:Obj):OwnZ (w.alloc x) base v xs:=by
 refine⟨World.ownsRow.alloc h.1 x,fun P hP e=>?_⟩;have hlt:=(World.ownsRow.lt h.1 P e.symm).2;refine h.2 P ⟨hlt,?_⟩ e;rcases hP.2 with k|⟨u,hu,hn⟩
 ·exact .inl k
 ·exact .inr ⟨u,(World.cell?_alloc_lt w x ⟨P,0,none⟩ hlt).symm.trans hu,hn⟩
theorem OwnZ.past {w w':World}{base:Nat}{v:Value}{l:List Int}(h:OwnZ w base v l)(g:Past w w'):OwnZ w' base v l:=by
 refine⟨OwnR.past h.1 g,fun P hP e=>?_⟩;have hlt:=(World.ownsRow.lt h.1 P e.symm).2;refine h.2 P ⟨hlt,?_⟩ e;rcases hP.2 with k|⟨u,hu,hn⟩
 ·exact .inl k
 ·exact .inr ⟨u,(g.cell (p:=⟨P,0,none⟩) hlt).symm.trans hu,hn⟩
theorem LaysZ.grownBy {base:Nat}{w w' w'':World}{v:Value}{xs:List Int}(h:Lays base w w')(ho:OwnZ w' base v xs)(g:w'.grownBy w'' v.ownBlock):Lays base w w'' :=
 ⟨g.os.trans h.1,g.output.trans h.2.1,Nat.le_trans h.2.2.1 g.size,fun P hP=>(g.block P (h.noRow hP).1 (ho.2 P (h.noRow hP))).trans (h.2.2.2 P hP)⟩
def RNumPost (base wide:Nat)(bs:List Int)(x:Int)(w:World)(e:Ending)(w':World):Prop:=∃ v',e=.returned v'/\OwnZ w' base v' (bs++numB wide x)/\Lays base w w'
set_option maxHeartbeats 4000000 in
theorem rnum_any (base wide:Nat)(bv:Value)(bs:List Int)(x:Int)(W:World)(hw:wide=1\/wide=2\/wide=3)(hx:(Lit.int .i64 x).wf=true)(ho:OwnZ W base bv bs)(hb:base<=W.heap.size)(hm:bs.length<=1000000000) :
  Calls Tryz.prog 78 #[bv,.int .i64 x,.int .i64 (wide:Int)] W (RNumPost base wide bs x W):=by
 have e1:IntKind.i64.wrap ((wide:Int)-1)=(wide:Int)-1:=by rcases hw with rfl|rfl|rfl <;> decide
 have w3:wide<=3:=by omega
 obtain⟨i0,hi0,hz0,hz1,hz2⟩:=info_parts info8;have I1:=LH hi0;have I2:=LH hz0;have I3:=LH hz1;have I4:=LH hz2;have hx':=LH hx;clear hi0 hz0 hz1 hz2 hw hx;go_enter Tryz.func78,Tryz.ntmps78;go_wp2_with fail;go_loopw [0,7] (fun v i wr=>∃ (m:Nat) (cs:List Int),m<=wide/\i=.int .i64 ((m:Int)-1)/\Hid (cs++numB m x=bs++numB wide x)/\Hid (OwnZ wr base v cs)/\Hid (Lays base W wr)/\base<=wr.heap.size) (fun _ i _=>(intOf i+1).toNat)
 case atStart=>exact⟨wide,_,by omega,rfl,LH rfl,LH ho,LH (Lays.refl _ _),hb⟩
 case round =>
  clear ho hb;obtain⟨m,cs,hm4,rfl,heq,hown,hp,hbs⟩:=hrel;have hcs:Hid (cs.length+m<=1000000003):=LH (by
   have:=congrArg List.length heq.out;simp only [List.length_append,numB_len] at this;omega)
  rcases (show m=0\/m=1\/m=2\/m=3 by omega) with rfl|rfl|rfl|rfl
  ·have he:=heq.out;simp only [numB,List.append_nil] at he;have HE:=LH he;clear he;go_wp2_with fail;go_ret;exact⟨_,rfl,by rw [<- HE.out];exact hown.out,hp.out⟩
  ·have d0:decide (0<=((1:Nat):Int)-1)=true:=by decide
   have hnb:=LH (numB_1 x);go_wp2_with (at_builtin;refine wpList_append_own _ rfl (.tmp 14) (.tmp 20) 22 rfl base 5 i0 _ 1 1 Tryz.underlying22 I1.out I2.out I3.out I4.out rfl (by decide) _ _ _ rfl (World.ownsRow.alloc hown.out.1 _) ⟨wr.heap.size,0,none⟩ 1 1 [.int .u8 (x%256)] rfl rfl (fun j u hu=>cells_new' wr _ 5 j u hu) (by intro u hu;simp at hu;subst hu;rfl) ?c4 ?c5 ?c6 ?_)
   case c4=>have:=hcs.out;unfold maxLen;omega
   case c5=>have:=hcs.out;omega
   case c6=>simp;omega
   intro v4 w4 hown4 hgrow _;have ho4:=LH (own_bytes rfl hown4).z;have hl4:=LH (LaysZ.grownBy (hp.out.alloc _) (hown.out.alloc _) hgrow);have hs4:base<=w4.heap.size:=by have:=hgrow.size;simp only [World.size_alloc] at this;omega
   have he4:=heq.out;rw [hnb.out] at he4;have HE4:=LH he4;clear hown4 hgrow he4 hnb;go_wp2_with fail;go_roundw
   case rel=>exact⟨0,cs++[x%256],by omega,by first|rfl|go_num,LH (by rw [<- HE4.out];simp),ho4,hl4,hs4⟩
   case measure=>simp [intOf]
  ·have d0:decide (0<=((2:Nat):Int)-1)=true:=by decide
   have hnb:=LH (numB_2 x);go_wp2_with (at_builtin;refine wpList_append_own _ rfl (.tmp 14) (.tmp 20) 22 rfl base 5 i0 _ 1 1 Tryz.underlying22 I1.out I2.out I3.out I4.out rfl (by decide) _ _ _ rfl (World.ownsRow.alloc hown.out.1 _) ⟨wr.heap.size,0,none⟩ 1 1 [.int .u8 (x / 256%256)] rfl rfl (fun j u hu=>cells_new' wr _ 5 j u hu) (by intro u hu;simp at hu;subst hu;rfl) ?c4 ?c5 ?c6 ?_)
   case c4=>have:=hcs.out;unfold maxLen;omega
   case c5=>have:=hcs.out;omega
   case c6=>simp;omega
   intro v4 w4 hown4 hgrow _;have ho4:=LH (own_bytes rfl hown4).z;have hl4:=LH (LaysZ.grownBy (hp.out.alloc _) (hown.out.alloc _) hgrow);have hs4:base<=w4.heap.size:=by have:=hgrow.size;simp only [World.size_alloc] at this;omega
   have he4:=heq.out;rw [hnb.out] at he4;have HE4:=LH he4;clear hown4 hgrow he4 hnb;go_wp2_with fail;go_roundw
   case rel=>exact⟨1,cs++[x / 256%256],by omega,by first|rfl|go_num,LH (by rw [<- HE4.out];simp),ho4,hl4,hs4⟩
   case measure=>simp [intOf]
  ·have d0:decide (0<=((3:Nat):Int)-1)=true:=by decide
   have hnb:=LH (numB_3 x);go_wp2_with (at_builtin;refine wpList_append_own _ rfl (.tmp 14) (.tmp 20) 22 rfl base 5 i0 _ 1 1 Tryz.underlying22 I1.out I2.out I3.out I4.out rfl (by decide) _ _ _ rfl (World.ownsRow.alloc hown.out.1 _) ⟨wr.heap.size,0,none⟩ 1 1 [.int .u8 (x / 65536%256)] rfl rfl (fun j u hu=>cells_new' wr _ 5 j u hu) (by intro u hu;simp at hu;subst hu;rfl) ?c4 ?c5 ?c6 ?_)
   case c4=>have:=hcs.out;unfold maxLen;omega
   case c5=>have:=hcs.out;omega
   case c6=>simp;omega
   intro v4 w4 hown4 hgrow _;have ho4:=LH (own_bytes rfl hown4).z;have hl4:=LH (LaysZ.grownBy (hp.out.alloc _) (hown.out.alloc _) hgrow);have hs4:base<=w4.heap.size:=by have:=hgrow.size;simp only [World.size_alloc] at this;omega
   have he4:=heq.out;rw [hnb.out] at he4;have HE4:=LH he4;clear hown4 hgrow he4 hnb;go_wp2_with fail;go_roundw
   case rel=>exact⟨2,cs++[x / 65536%256],by omega,by first|rfl|go_num,LH (by rw [<- HE4.out];simp),ho4,hl4,hs4⟩
   case measure=>simp [intOf]
def PutR (base Q:Nat)(c:List Int)(W w:World)(v:Value)(bs:List Int):Prop:=OwnZ w base v bs/\Lays base W w/\(Bx w Q ⟨cellC c⟩)/\Q<w.heap.size/\base<=w.heap.size
theorem PutR.next {base Q:Nat}{c:List Int}{W w w':World}{v v':Value}{bs bs':List Int}(h:PutR base Q c W w v bs)(hl:c.length=14)(o:OwnZ w' base v' bs')(g:Lays base w w'):PutR base Q c W w' v' bs':=by
 obtain⟨q1,q2,q3,q4,q5⟩:=h;have hN:NoRow w base Q:=noRow_int q4 (boxC_cell q3 (j:=0) (by rw [hl];omega));exact⟨o,q2.trans g,box_lays g hN q3,Nat.lt_of_lt_of_le q4 g.2.2.1,Nat.le_trans q5 g.2.2.1⟩
theorem PutR.past {base Q:Nat}{c:List Int}{W w w':World}{v:Value}{bs:List Int}(h:PutR base Q c W w v bs)(g:Past w w'):PutR base Q c W w' v bs:=by
 obtain⟨q1,q2,q3,q4,q5⟩:=h;exact⟨q1.past g,q2.trans (Lays.of_past g),box_past g q3 q4,Nat.lt_of_lt_of_le q4 g.2.2.1,Nat.le_trans q5 g.2.2.1⟩
theorem PutR.cell {base Q:Nat}{c:List Int}{W w:World}{v:Value}{bs:List Int}(h:PutR base Q c W w v bs)(hl:c.length=14)(j:Nat)(hj:j<14){x:Int}(e:c.getD j 0=x):w.cell? ⟨Q,j,none⟩=some (.int .i64 x):=by
 rw [boxC_cell h.2.2.1 (by rw [hl];exact hj),e]
def RPutPost (base:Nat)(bs:List Int)(c:List Int)(w:World)(e:Ending)(w':World):Prop:=∃ v',e=.returned v'/\OwnZ w' base v' (bs++cmdB c)/\Lays base w w'
set_option maxHeartbeats 4000000 in
theorem rput_load1 (base:Nat) (bv:Value) (bs c:List Int) (W:World) (hl:c.length=14) (hw:∀ x∈c,(Lit.int .i64 x).wf=true) (hk:c.getD 0 0=1) (ho:OwnZ W base bv bs) (hb:base≤W.heap.size) (hm:bs.length≤1000000) :
  Calls Tryz.prog 79 #[bv,.agg ⟨cellC c⟩] W (RPutPost base bs c W):=by
 obtain ⟨r,e4⟩:∃ x,c.getD 4 0=x:=⟨_,rfl⟩
 have WF4:=LH (wf_getD hw 4)
 rw [e4] at WF4
 have E4:=LH e4
 obtain ⟨w,e5⟩:∃ x,c.getD 5 0=x:=⟨_,rfl⟩
 have WF5:=LH (wf_getD hw 5)
 rw [e5] at WF5
 have E5:=LH e5
 obtain ⟨d,e6⟩:∃ x,c.getD 6 0=x:=⟨_,rfl⟩
 have WF6:=LH (wf_getD hw 6)
 rw [e6] at WF6
 have E6:=LH e6
 obtain ⟨p,e7⟩:∃ x,c.getD 7 0=x:=⟨_,rfl⟩
 have WF7:=LH (wf_getD hw 7)
 rw [e7] at WF7
 have E7:=LH e7
 have hres:bs++cmdB c=bs++[1]++numB 1 r++numB 2 w++numB 3 d++numB 2 p:=by
  unfold cmdB
  rw [hk,show fldsD 1=[⟨4,1,16,1⟩,⟨5,1,128,2⟩,⟨6,0,65535,3⟩,⟨7,0,1023,2⟩] from rfl,numB_one (by omega)]
  simp only [List.flatMap_cons,List.flatMap_nil,fieldB,e4,e5,e6,e7]
  simp
 unfold RPutPost
 rw [hres]
 have HL:=LH hl
 have HK:=LH hk
 have HM:=LH hm
 have HO:=LH ho
 obtain ⟨ti,hi0,hz0,hz1,hz2⟩:=info_parts info8
 have I1:=LH hi0
 have I2:=LH hz0
 have I3:=LH hz1
 have I4:=LH hz2
 clear hi0 hz0 hz1 hz2 hl hk hm ho hres hw e4 e5 e6 e7
 go_enter Tryz.func79,Tryz.ntmps79
 go_upto_region 1 with fail
 obtain ⟨Q,hQ⟩:∃ Q,W.heap.size=Q:=⟨_,rfl⟩
 refine opq (fun w'=>Hid (PutR base Q c W w' bv bs)∧w'.cell? ⟨Q,0,none⟩=some (.int .i64 1)) (by
  subst hQ
  have b:=box_new (w:=W) (cs:=⟨cellC c⟩) (t:=67) rfl
  exact ⟨LH ⟨HO.out.alloc _,(Lays.refl base W).alloc _,b,by simp,by simp;omega⟩,by rw [boxC_cell b (by rw [HL.out];omega),HK.out]⟩) ?_
 rintro w1 ⟨R1,k1⟩
 try simp only [hQ]
 clear hQ HO
 go_wp2_with (at_builtin;refine wpList_append_own _ rfl (.tmp 6) (.tmp 10) 22 rfl base 5 ti _ 1 1 Tryz.underlying22 I1.out I2.out I3.out I4.out rfl (by decide) _ _ _ rfl (World.ownsRow.alloc R1.out.1.1 _) ⟨w1.heap.size,0,none⟩ 1 1 [.int .u8 1] rfl rfl (fun j u hu=>cells_new' w1 _ 5 j u hu) (by intro u hu;simp at hu;subst hu;rfl) (by have:=HM.out;unfold maxLen;omega) (by have:=HM.out;omega) (by have:=R1.out.2.2.2.2;simp;omega) ?_)
 intro v2 w2 own2 grow2 _
 have R2:Hid (PutR base Q c W w2 v2 (bs++[1])):=LH (R1.out.next HL.out (own_bytes rfl own2).z (LaysZ.grownBy ((Lays.refl base w1).alloc _) (R1.out.1.alloc _) grow2))
 have k2:=R2.out.cell HL.out 0 (by omega) HK.out
 clear own2 grow2 R1 k1
 go_upto_region 5 with fail
 refine wp_region_lastn 13 _ rfl (by kernel_rfl) (by kernel_rfl) ?za
 case za =>
  simp only [List.take_succ_cons,List.take_zero]
  refine any_mixd [3,6,9,12] (fun w'=>w'.cell? ⟨Q,4,none⟩=some (.int .i64 r)∧w'.cell? ⟨Q,5,none⟩=some (.int .i64 w)∧w'.cell? ⟨Q,6,none⟩=some (.int .i64 d)∧w'.cell? ⟨Q,7,none⟩=some (.int .i64 p)) [(17,?va17),(18,?va18),(19,?va19),(21,?va21),(22,?va22),(24,?va24),(25,?va25),(27,?va27),(28,?va28)] [17,18,19,21,22,24,25,27,28] (by kernel_rfl) rfl (by kernel_rfl) ⟨R2.out.cell HL.out 4 (by omega) E4.out,R2.out.cell HL.out 5 (by omega) E5.out,R2.out.cell HL.out 6 (by omega) E6.out,R2.out.cell HL.out 7 (by omega) E7.out⟩ (fun w h=>h) ?alla ?fina
  case alla =>
   simp only [fillA,Act.put,List.setIfInBounds_toArray,List.set_cons_zero,List.set_cons_succ]
   iterate 13 (first|refine forced rfl ?_|(refine reads (fun w hw K hK=>?_) ?_;focus ((have hS:=LH hw);go_split_ands;go_simp;(try go_frame);exact hK)))
   exact True.intro
  case fina =>
   simp only [fillA,Act.put,List.setIfInBounds_toArray,List.set_cons_zero,List.set_cons_succ]
   refine mix_at 20 rfl rfl (fun K hK=>?_)
   simp only [Act.put,List.setIfInBounds_toArray,List.set_cons_zero,List.set_cons_succ] at hK
   have Ra0:Hid (PutR base Q c W (w2.drew) v2 (bs++[1])):=LH (R2.out.past ((Past.refl w2).drew))
   go_simp
   refine (rnum_any base 1 v2 (bs++[1]) r _ (.inl rfl) WF4.out Ra0.out.1 Ra0.out.2.2.2.2 (by have:=HM.out;simp only [List.length_append,numB_len,List.length_cons,List.length_nil];omega)).mono ?_
   rintro e wa0 ⟨va0,rfl,o5,g5⟩
   have Sa0:Hid (PutR base Q c W wa0 va0 (bs++[1]++numB 1 r)):=LH (Ra0.out.next HL.out o5 g5)
   refine hK _ _ ⟨Sa0.out.cell HL.out 4 (by omega) E4.out,Sa0.out.cell HL.out 5 (by omega) E5.out,Sa0.out.cell HL.out 6 (by omega) E6.out,Sa0.out.cell HL.out 7 (by omega) E7.out⟩ ?_
   clear hK o5 g5 Ra0
   (try go_frame)
   refine mix_at 23 rfl rfl (fun K hK=>?_)
   simp only [Act.put,List.setIfInBounds_toArray,List.set_cons_zero,List.set_cons_succ] at hK
   have Ra1:Hid (PutR base Q c W (wa0) va0 (bs++[1]++numB 1 r)):=LH (Sa0.out)
   go_simp
   refine (rnum_any base 2 va0 (bs++[1]++numB 1 r) w _ (.inr (.inl rfl)) WF5.out Ra1.out.1 Ra1.out.2.2.2.2 (by have:=HM.out;simp only [List.length_append,numB_len,List.length_cons,List.length_nil];omega)).mono ?_
   rintro e wa1 ⟨va1,rfl,o5,g5⟩
   have Sa1:Hid (PutR base Q c W wa1 va1 (bs++[1]++numB 1 r++numB 2 w)):=LH (Ra1.out.next HL.out o5 g5)
   refine hK _ _ ⟨Sa1.out.cell HL.out 4 (by omega) E4.out,Sa1.out.cell HL.out 5 (by omega) E5.out,Sa1.out.cell HL.out 6 (by omega) E6.out,Sa1.out.cell HL.out 7 (by omega) E7.out⟩ ?_
   clear hK o5 g5 Ra1
   (try go_frame)
   refine mix_at 26 rfl rfl (fun K hK=>?_)
   simp only [Act.put,List.setIfInBounds_toArray,List.set_cons_zero,List.set_cons_succ] at hK
   have Ra2:Hid (PutR base Q c W (wa1) va1 (bs++[1]++numB 1 r++numB 2 w)):=LH (Sa1.out)
   go_simp
   refine (rnum_any base 3 va1 (bs++[1]++numB 1 r++numB 2 w) d _ (.inr (.inr rfl)) WF6.out Ra2.out.1 Ra2.out.2.2.2.2 (by have:=HM.out;simp only [List.length_append,numB_len,List.length_cons,List.length_nil];omega)).mono ?_
   rintro e wa2 ⟨va2,rfl,o5,g5⟩
   have Sa2:Hid (PutR base Q c W wa2 va2 (bs++[1]++numB 1 r++numB 2 w++numB 3 d)):=LH (Ra2.out.next HL.out o5 g5)
   refine hK _ _ ⟨Sa2.out.cell HL.out 4 (by omega) E4.out,Sa2.out.cell HL.out 5 (by omega) E5.out,Sa2.out.cell HL.out 6 (by omega) E6.out,Sa2.out.cell HL.out 7 (by omega) E7.out⟩ ?_
   clear hK o5 g5 Ra2
   (try go_frame)
   refine mix_at 29 rfl rfl (fun K hK=>?_)
   simp only [Act.put,List.setIfInBounds_toArray,List.set_cons_zero,List.set_cons_succ] at hK
   have Ra3:Hid (PutR base Q c W (wa2) va2 (bs++[1]++numB 1 r++numB 2 w++numB 3 d)):=LH (Sa2.out)
   go_simp
   refine (rnum_any base 2 va2 (bs++[1]++numB 1 r++numB 2 w++numB 3 d) p _ (.inr (.inl rfl)) WF7.out Ra3.out.1 Ra3.out.2.2.2.2 (by have:=HM.out;simp only [List.length_append,numB_len,List.length_cons,List.length_nil];omega)).mono ?_
   rintro e wa3 ⟨va3,rfl,o5,g5⟩
   have Sa3:Hid (PutR base Q c W wa3 va3 (bs++[1]++numB 1 r++numB 2 w++numB 3 d++numB 2 p)):=LH (Ra3.out.next HL.out o5 g5)
   refine hK _ _ ⟨Sa3.out.cell HL.out 4 (by omega) E4.out,Sa3.out.cell HL.out 5 (by omega) E5.out,Sa3.out.cell HL.out 6 (by omega) E6.out,Sa3.out.cell HL.out 7 (by omega) E7.out⟩ ?_
   clear hK o5 g5 Ra3
   (try go_frame)
   refine mix_nil ?_
   show Oper.wp _ _ _ _ _ _
   go_simp
   go_wp2_with fail
   go_ret
   exact ⟨_,rfl,Sa3.out.1,Sa3.out.2.1⟩
set_option maxHeartbeats 4000000 in
theorem rput_load2 (base:Nat) (bv:Value) (bs c:List Int) (W:World) (hl:c.length=14) (hw:∀ x∈c,(Lit.int .i64 x).wf=true) (hk:c.getD 0 0=2) (ho:OwnZ W base bv bs) (hb:base≤W.heap.size) (hm:bs.length≤1000000) :
  Calls Tryz.prog 79 #[bv,.agg ⟨cellC c⟩] W (RPutPost base bs c W):=by
 obtain ⟨r,e4⟩:∃ x,c.getD 4 0=x:=⟨_,rfl⟩
 have WF4:=LH (wf_getD hw 4)
 rw [e4] at WF4
 have E4:=LH e4
 obtain ⟨w,e5⟩:∃ x,c.getD 5 0=x:=⟨_,rfl⟩
 have WF5:=LH (wf_getD hw 5)
 rw [e5] at WF5
 have E5:=LH e5
 obtain ⟨d,e6⟩:∃ x,c.getD 6 0=x:=⟨_,rfl⟩
 have WF6:=LH (wf_getD hw 6)
 rw [e6] at WF6
 have E6:=LH e6
 obtain ⟨p,e7⟩:∃ x,c.getD 7 0=x:=⟨_,rfl⟩
 have WF7:=LH (wf_getD hw 7)
 rw [e7] at WF7
 have E7:=LH e7
 have hres:bs++cmdB c=bs++[2]++numB 1 r++numB 2 w++numB 3 d++numB 2 p:=by
  unfold cmdB
  rw [hk,show fldsD 2=[⟨4,1,16,1⟩,⟨5,1,128,2⟩,⟨6,0,65535,3⟩,⟨7,0,1023,2⟩] from rfl,numB_one (by omega)]
  simp only [List.flatMap_cons,List.flatMap_nil,fieldB,e4,e5,e6,e7]
  simp
 unfold RPutPost
 rw [hres]
 have HL:=LH hl
 have HK:=LH hk
 have HM:=LH hm
 have HO:=LH ho
 obtain ⟨ti,hi0,hz0,hz1,hz2⟩:=info_parts info8
 have I1:=LH hi0
 have I2:=LH hz0
 have I3:=LH hz1
 have I4:=LH hz2
 clear hi0 hz0 hz1 hz2 hl hk hm ho hres hw e4 e5 e6 e7
 go_enter Tryz.func79,Tryz.ntmps79
 go_upto_region 1 with fail
 obtain ⟨Q,hQ⟩:∃ Q,W.heap.size=Q:=⟨_,rfl⟩
 refine opq (fun w'=>Hid (PutR base Q c W w' bv bs)∧w'.cell? ⟨Q,0,none⟩=some (.int .i64 2)) (by
  subst hQ
  have b:=box_new (w:=W) (cs:=⟨cellC c⟩) (t:=67) rfl
  exact ⟨LH ⟨HO.out.alloc _,(Lays.refl base W).alloc _,b,by simp,by simp;omega⟩,by rw [boxC_cell b (by rw [HL.out];omega),HK.out]⟩) ?_
 rintro w1 ⟨R1,k1⟩
 try simp only [hQ]
 clear hQ HO
 go_wp2_with (at_builtin;refine wpList_append_own _ rfl (.tmp 6) (.tmp 10) 22 rfl base 5 ti _ 1 1 Tryz.underlying22 I1.out I2.out I3.out I4.out rfl (by decide) _ _ _ rfl (World.ownsRow.alloc R1.out.1.1 _) ⟨w1.heap.size,0,none⟩ 1 1 [.int .u8 2] rfl rfl (fun j u hu=>cells_new' w1 _ 5 j u hu) (by intro u hu;simp at hu;subst hu;rfl) (by have:=HM.out;unfold maxLen;omega) (by have:=HM.out;omega) (by have:=R1.out.2.2.2.2;simp;omega) ?_)
 intro v2 w2 own2 grow2 _
 have R2:Hid (PutR base Q c W w2 v2 (bs++[2])):=LH (R1.out.next HL.out (own_bytes rfl own2).z (LaysZ.grownBy ((Lays.refl base w1).alloc _) (R1.out.1.alloc _) grow2))
 have k2:=R2.out.cell HL.out 0 (by omega) HK.out
 clear own2 grow2 R1 k1
 go_upto_region 5 with fail
 refine wp_region_lastn 13 _ rfl (by kernel_rfl) (by kernel_rfl) ?za
 case za =>
  simp only [List.take_succ_cons,List.take_zero]
  refine any_mixd [3,6,9,12] (fun w'=>w'.cell? ⟨Q,4,none⟩=some (.int .i64 r)∧w'.cell? ⟨Q,5,none⟩=some (.int .i64 w)∧w'.cell? ⟨Q,6,none⟩=some (.int .i64 d)∧w'.cell? ⟨Q,7,none⟩=some (.int .i64 p)) [(17,?va17),(18,?va18),(19,?va19),(21,?va21),(22,?va22),(24,?va24),(25,?va25),(27,?va27),(28,?va28)] [17,18,19,21,22,24,25,27,28] (by kernel_rfl) rfl (by kernel_rfl) ⟨R2.out.cell HL.out 4 (by omega) E4.out,R2.out.cell HL.out 5 (by omega) E5.out,R2.out.cell HL.out 6 (by omega) E6.out,R2.out.cell HL.out 7 (by omega) E7.out⟩ (fun w h=>h) ?alla ?fina
  case alla =>
   simp only [fillA,Act.put,List.setIfInBounds_toArray,List.set_cons_zero,List.set_cons_succ]
   iterate 13 (first|refine forced rfl ?_|(refine reads (fun w hw K hK=>?_) ?_;focus ((have hS:=LH hw);go_split_ands;go_simp;(try go_frame);exact hK)))
   exact True.intro
  case fina =>
   simp only [fillA,Act.put,List.setIfInBounds_toArray,List.set_cons_zero,List.set_cons_succ]
   refine mix_at 20 rfl rfl (fun K hK=>?_)
   simp only [Act.put,List.setIfInBounds_toArray,List.set_cons_zero,List.set_cons_succ] at hK
   have Ra0:Hid (PutR base Q c W (w2.drew) v2 (bs++[2])):=LH (R2.out.past ((Past.refl w2).drew))
   go_simp
   refine (rnum_any base 1 v2 (bs++[2]) r _ (.inl rfl) WF4.out Ra0.out.1 Ra0.out.2.2.2.2 (by have:=HM.out;simp only [List.length_append,numB_len,List.length_cons,List.length_nil];omega)).mono ?_
   rintro e wa0 ⟨va0,rfl,o5,g5⟩
   have Sa0:Hid (PutR base Q c W wa0 va0 (bs++[2]++numB 1 r)):=LH (Ra0.out.next HL.out o5 g5)
   refine hK _ _ ⟨Sa0.out.cell HL.out 4 (by omega) E4.out,Sa0.out.cell HL.out 5 (by omega) E5.out,Sa0.out.cell HL.out 6 (by omega) E6.out,Sa0.out.cell HL.out 7 (by omega) E7.out⟩ ?_
   clear hK o5 g5 Ra0
   (try go_frame)
   refine mix_at 23 rfl rfl (fun K hK=>?_)
   simp only [Act.put,List.setIfInBounds_toArray,List.set_cons_zero,List.set_cons_succ] at hK
   have Ra1:Hid (PutR base Q c W (wa0) va0 (bs++[2]++numB 1 r)):=LH (Sa0.out)
   go_simp
   refine (rnum_any base 2 va0 (bs++[2]++numB 1 r) w _ (.inr (.inl rfl)) WF5.out Ra1.out.1 Ra1.out.2.2.2.2 (by have:=HM.out;simp only [List.length_append,numB_len,List.length_cons,List.length_nil];omega)).mono ?_
   rintro e wa1 ⟨va1,rfl,o5,g5⟩
   have Sa1:Hid (PutR base Q c W wa1 va1 (bs++[2]++numB 1 r++numB 2 w)):=LH (Ra1.out.next HL.out o5 g5)
   refine hK _ _ ⟨Sa1.out.cell HL.out 4 (by omega) E4.out,Sa1.out.cell HL.out 5 (by omega) E5.out,Sa1.out.cell HL.out 6 (by omega) E6.out,Sa1.out.cell HL.out 7 (by omega) E7.out⟩ ?_
   clear hK o5 g5 Ra1
   (try go_frame)
   refine mix_at 26 rfl rfl (fun K hK=>?_)
   simp only [Act.put,List.setIfInBounds_toArray,List.set_cons_zero,List.set_cons_succ] at hK
   have Ra2:Hid (PutR base Q c W (wa1) va1 (bs++[2]++numB 1 r++numB 2 w)):=LH (Sa1.out)
   go_simp
   refine (rnum_any base 3 va1 (bs++[2]++numB 1 r++numB 2 w) d _ (.inr (.inr rfl)) WF6.out Ra2.out.1 Ra2.out.2.2.2.2 (by have:=HM.out;simp only [List.length_append,numB_len,List.length_cons,List.length_nil];omega)).mono ?_
   rintro e wa2 ⟨va2,rfl,o5,g5⟩
   have Sa2:Hid (PutR base Q c W wa2 va2 (bs++[2]++numB 1 r++numB 2 w++numB 3 d)):=LH (Ra2.out.next HL.out o5 g5)
   refine hK _ _ ⟨Sa2.out.cell HL.out 4 (by omega) E4.out,Sa2.out.cell HL.out 5 (by omega) E5.out,Sa2.out.cell HL.out 6 (by omega) E6.out,Sa2.out.cell HL.out 7 (by omega) E7.out⟩ ?_
   clear hK o5 g5 Ra2
   (try go_frame)
   refine mix_at 29 rfl rfl (fun K hK=>?_)
   simp only [Act.put,List.setIfInBounds_toArray,List.set_cons_zero,List.set_cons_succ] at hK
   have Ra3:Hid (PutR base Q c W (wa2) va2 (bs++[2]++numB 1 r++numB 2 w++numB 3 d)):=LH (Sa2.out)
   go_simp
   refine (rnum_any base 2 va2 (bs++[2]++numB 1 r++numB 2 w++numB 3 d) p _ (.inr (.inl rfl)) WF7.out Ra3.out.1 Ra3.out.2.2.2.2 (by have:=HM.out;simp only [List.length_append,numB_len,List.length_cons,List.length_nil];omega)).mono ?_
   rintro e wa3 ⟨va3,rfl,o5,g5⟩
   have Sa3:Hid (PutR base Q c W wa3 va3 (bs++[2]++numB 1 r++numB 2 w++numB 3 d++numB 2 p)):=LH (Ra3.out.next HL.out o5 g5)
   refine hK _ _ ⟨Sa3.out.cell HL.out 4 (by omega) E4.out,Sa3.out.cell HL.out 5 (by omega) E5.out,Sa3.out.cell HL.out 6 (by omega) E6.out,Sa3.out.cell HL.out 7 (by omega) E7.out⟩ ?_
   clear hK o5 g5 Ra3
   (try go_frame)
   refine mix_nil ?_
   show Oper.wp _ _ _ _ _ _
   go_simp
   go_wp2_with fail
   go_ret
   exact ⟨_,rfl,Sa3.out.1,Sa3.out.2.1⟩
set_option maxHeartbeats 4000000 in
theorem rput_kernel (base:Nat) (bv:Value) (bs c:List Int) (W:World) (hl:c.length=14) (hw:∀ x∈c,(Lit.int .i64 x).wf=true) (hk:c.getD 0 0=4) (ho:OwnZ W base bv bs) (hb:base≤W.heap.size) (hm:bs.length≤1000000) :
  Calls Tryz.prog 79 #[bv,.agg ⟨cellC c⟩] W (RPutPost base bs c W):=by
 obtain ⟨n,e2⟩:∃ x,c.getD 2 0=x:=⟨_,rfl⟩
 have WF2:=LH (wf_getD hw 2)
 rw [e2] at WF2
 have E2:=LH e2
 obtain ⟨r,e4⟩:∃ x,c.getD 4 0=x:=⟨_,rfl⟩
 have WF4:=LH (wf_getD hw 4)
 rw [e4] at WF4
 have E4:=LH e4
 have hres:bs++cmdB c=bs++[4]++numB 1 n++numB 1 r:=by
  unfold cmdB
  rw [hk,show fldsD 4=[⟨2,0,11,1⟩,⟨4,1,16,1⟩] from rfl,numB_one (by omega)]
  simp only [List.flatMap_cons,List.flatMap_nil,fieldB,e2,e4]
  simp
 unfold RPutPost
 rw [hres]
 have HL:=LH hl
 have HK:=LH hk
 have HM:=LH hm
 have HO:=LH ho
 obtain ⟨ti,hi0,hz0,hz1,hz2⟩:=info_parts info8
 have I1:=LH hi0
 have I2:=LH hz0
 have I3:=LH hz1
 have I4:=LH hz2
 clear hi0 hz0 hz1 hz2 hl hk hm ho hres hw e2 e4
 go_enter Tryz.func79,Tryz.ntmps79
 go_upto_region 1 with fail
 obtain ⟨Q,hQ⟩:∃ Q,W.heap.size=Q:=⟨_,rfl⟩
 refine opq (fun w'=>Hid (PutR base Q c W w' bv bs)∧w'.cell? ⟨Q,0,none⟩=some (.int .i64 4)) (by
  subst hQ
  have b:=box_new (w:=W) (cs:=⟨cellC c⟩) (t:=67) rfl
  exact ⟨LH ⟨HO.out.alloc _,(Lays.refl base W).alloc _,b,by simp,by simp;omega⟩,by rw [boxC_cell b (by rw [HL.out];omega),HK.out]⟩) ?_
 rintro w1 ⟨R1,k1⟩
 try simp only [hQ]
 clear hQ HO
 go_wp2_with (at_builtin;refine wpList_append_own _ rfl (.tmp 6) (.tmp 10) 22 rfl base 5 ti _ 1 1 Tryz.underlying22 I1.out I2.out I3.out I4.out rfl (by decide) _ _ _ rfl (World.ownsRow.alloc R1.out.1.1 _) ⟨w1.heap.size,0,none⟩ 1 1 [.int .u8 4] rfl rfl (fun j u hu=>cells_new' w1 _ 5 j u hu) (by intro u hu;simp at hu;subst hu;rfl) (by have:=HM.out;unfold maxLen;omega) (by have:=HM.out;omega) (by have:=R1.out.2.2.2.2;simp;omega) ?_)
 intro v2 w2 own2 grow2 _
 have R2:Hid (PutR base Q c W w2 v2 (bs++[4])):=LH (R1.out.next HL.out (own_bytes rfl own2).z (LaysZ.grownBy ((Lays.refl base w1).alloc _) (R1.out.1.alloc _) grow2))
 have k2:=R2.out.cell HL.out 0 (by omega) HK.out
 clear own2 grow2 R1 k1
 go_upto_region 13 with fail
 refine wp_region_lastn 7 _ rfl (by kernel_rfl) (by kernel_rfl) ?za
 case za =>
  simp only [List.take_succ_cons,List.take_zero]
  refine any_mixd [3,6] (fun w'=>w'.cell? ⟨Q,2,none⟩=some (.int .i64 n)∧w'.cell? ⟨Q,4,none⟩=some (.int .i64 r)) [(67,?va67),(68,?va68),(69,?va69),(71,?va71),(72,?va72)] [67,68,69,71,72] (by kernel_rfl) rfl (by kernel_rfl) ⟨R2.out.cell HL.out 2 (by omega) E2.out,R2.out.cell HL.out 4 (by omega) E4.out⟩ (fun w h=>h) ?alla ?fina
  case alla =>
   simp only [fillA,Act.put,List.setIfInBounds_toArray,List.set_cons_zero,List.set_cons_succ]
   iterate 7 (first|refine forced rfl ?_|(refine reads (fun w hw K hK=>?_) ?_;focus ((have hS:=LH hw);go_split_ands;go_simp;(try go_frame);exact hK)))
   exact True.intro
  case fina =>
   simp only [fillA,Act.put,List.setIfInBounds_toArray,List.set_cons_zero,List.set_cons_succ]
   refine mix_at 70 rfl rfl (fun K hK=>?_)
   simp only [Act.put,List.setIfInBounds_toArray,List.set_cons_zero,List.set_cons_succ] at hK
   have Ra0:Hid (PutR base Q c W (w2.drew) v2 (bs++[4])):=LH (R2.out.past ((Past.refl w2).drew))
   go_simp
   refine (rnum_any base 1 v2 (bs++[4]) n _ (.inl rfl) WF2.out Ra0.out.1 Ra0.out.2.2.2.2 (by have:=HM.out;simp only [List.length_append,numB_len,List.length_cons,List.length_nil];omega)).mono ?_
   rintro e wa0 ⟨va0,rfl,o5,g5⟩
   have Sa0:Hid (PutR base Q c W wa0 va0 (bs++[4]++numB 1 n)):=LH (Ra0.out.next HL.out o5 g5)
   refine hK _ _ ⟨Sa0.out.cell HL.out 2 (by omega) E2.out,Sa0.out.cell HL.out 4 (by omega) E4.out⟩ ?_
   clear hK o5 g5 Ra0
   (try go_frame)
   refine mix_at 73 rfl rfl (fun K hK=>?_)
   simp only [Act.put,List.setIfInBounds_toArray,List.set_cons_zero,List.set_cons_succ] at hK
   have Ra1:Hid (PutR base Q c W (wa0) va0 (bs++[4]++numB 1 n)):=LH (Sa0.out)
   go_simp
   refine (rnum_any base 1 va0 (bs++[4]++numB 1 n) r _ (.inl rfl) WF4.out Ra1.out.1 Ra1.out.2.2.2.2 (by have:=HM.out;simp only [List.length_append,numB_len,List.length_cons,List.length_nil];omega)).mono ?_
   rintro e wa1 ⟨va1,rfl,o5,g5⟩
   have Sa1:Hid (PutR base Q c W wa1 va1 (bs++[4]++numB 1 n++numB 1 r)):=LH (Ra1.out.next HL.out o5 g5)
   refine hK _ _ ⟨Sa1.out.cell HL.out 2 (by omega) E2.out,Sa1.out.cell HL.out 4 (by omega) E4.out⟩ ?_
   clear hK o5 g5 Ra1
   (try go_frame)
   refine mix_nil ?_
   show Oper.wp _ _ _ _ _ _
   go_simp
   go_wp2_with fail
   go_ret
   exact ⟨_,rfl,Sa1.out.1,Sa1.out.2.1⟩
set_option maxHeartbeats 4000000 in
theorem rput_sem5 (base:Nat) (bv:Value) (bs c:List Int) (W:World) (hl:c.length=14) (hw:∀ x∈c,(Lit.int .i64 x).wf=true) (hk:c.getD 0 0=5) (ho:OwnZ W base bv bs) (hb:base≤W.heap.size) (hm:bs.length≤1000000) :
  Calls Tryz.prog 79 #[bv,.agg ⟨cellC c⟩] W (RPutPost base bs c W):=by
 obtain ⟨s,e1⟩:∃ x,c.getD 1 0=x:=⟨_,rfl⟩
 have WF1:=LH (wf_getD hw 1)
 rw [e1] at WF1
 have E1:=LH e1
 have hres:bs++cmdB c=bs++[5]++numB 1 s:=by
  unfold cmdB
  rw [hk,show fldsD 5=[⟨1,0,7,1⟩] from rfl,numB_one (by omega)]
  simp only [List.flatMap_cons,List.flatMap_nil,fieldB,e1]
  simp
 unfold RPutPost
 rw [hres]
 have HL:=LH hl
 have HK:=LH hk
 have HM:=LH hm
 have HO:=LH ho
 obtain ⟨ti,hi0,hz0,hz1,hz2⟩:=info_parts info8
 have I1:=LH hi0
 have I2:=LH hz0
 have I3:=LH hz1
 have I4:=LH hz2
 clear hi0 hz0 hz1 hz2 hl hk hm ho hres hw e1
 go_enter Tryz.func79,Tryz.ntmps79
 go_upto_region 1 with fail
 obtain ⟨Q,hQ⟩:∃ Q,W.heap.size=Q:=⟨_,rfl⟩
 refine opq (fun w'=>Hid (PutR base Q c W w' bv bs)∧w'.cell? ⟨Q,0,none⟩=some (.int .i64 5)) (by
  subst hQ
  have b:=box_new (w:=W) (cs:=⟨cellC c⟩) (t:=67) rfl
  exact ⟨LH ⟨HO.out.alloc _,(Lays.refl base W).alloc _,b,by simp,by simp;omega⟩,by rw [boxC_cell b (by rw [HL.out];omega),HK.out]⟩) ?_
 rintro w1 ⟨R1,k1⟩
 try simp only [hQ]
 clear hQ HO
 go_wp2_with (at_builtin;refine wpList_append_own _ rfl (.tmp 6) (.tmp 10) 22 rfl base 5 ti _ 1 1 Tryz.underlying22 I1.out I2.out I3.out I4.out rfl (by decide) _ _ _ rfl (World.ownsRow.alloc R1.out.1.1 _) ⟨w1.heap.size,0,none⟩ 1 1 [.int .u8 5] rfl rfl (fun j u hu=>cells_new' w1 _ 5 j u hu) (by intro u hu;simp at hu;subst hu;rfl) (by have:=HM.out;unfold maxLen;omega) (by have:=HM.out;omega) (by have:=R1.out.2.2.2.2;simp;omega) ?_)
 intro v2 w2 own2 grow2 _
 have R2:Hid (PutR base Q c W w2 v2 (bs++[5])):=LH (R1.out.next HL.out (own_bytes rfl own2).z (LaysZ.grownBy ((Lays.refl base w1).alloc _) (R1.out.1.alloc _) grow2))
 have k2:=R2.out.cell HL.out 0 (by omega) HK.out
 clear own2 grow2 R1 k1
 have k3:=R2.out.cell HL.out 1 (by omega) E1.out
 go_wp2_with fail
 refine (rnum_any base 1 v2 (bs++[5]) s w2 (.inl rfl) WF1.out R2.out.1 R2.out.2.2.2.2 (by have:=HM.out;simp only [List.length_append,List.length_cons,List.length_nil];omega)).mono ?_
 rintro e w3 ⟨v3,rfl,o3,g3⟩
 have R3:=LH (R2.out.next HL.out o3 g3)
 clear o3 g3 R2 k2 k3
 go_wp2_with fail
 go_ret
 exact ⟨_,rfl,R3.out.1,R3.out.2.1⟩
set_option maxHeartbeats 4000000 in
theorem rput_sem6 (base:Nat) (bv:Value) (bs c:List Int) (W:World) (hl:c.length=14) (hw:∀ x∈c,(Lit.int .i64 x).wf=true) (hk:c.getD 0 0=6) (ho:OwnZ W base bv bs) (hb:base≤W.heap.size) (hm:bs.length≤1000000) :
  Calls Tryz.prog 79 #[bv,.agg ⟨cellC c⟩] W (RPutPost base bs c W):=by
 obtain ⟨s,e1⟩:∃ x,c.getD 1 0=x:=⟨_,rfl⟩
 have WF1:=LH (wf_getD hw 1)
 rw [e1] at WF1
 have E1:=LH e1
 have hres:bs++cmdB c=bs++[6]++numB 1 s:=by
  unfold cmdB
  rw [hk,show fldsD 6=[⟨1,0,7,1⟩] from rfl,numB_one (by omega)]
  simp only [List.flatMap_cons,List.flatMap_nil,fieldB,e1]
  simp
 unfold RPutPost
 rw [hres]
 have HL:=LH hl
 have HK:=LH hk
 have HM:=LH hm
 have HO:=LH ho
 obtain ⟨ti,hi0,hz0,hz1,hz2⟩:=info_parts info8
 have I1:=LH hi0
 have I2:=LH hz0
 have I3:=LH hz1
 have I4:=LH hz2
 clear hi0 hz0 hz1 hz2 hl hk hm ho hres hw e1
 go_enter Tryz.func79,Tryz.ntmps79
 go_upto_region 1 with fail
 obtain ⟨Q,hQ⟩:∃ Q,W.heap.size=Q:=⟨_,rfl⟩
 refine opq (fun w'=>Hid (PutR base Q c W w' bv bs)∧w'.cell? ⟨Q,0,none⟩=some (.int .i64 6)) (by
  subst hQ
  have b:=box_new (w:=W) (cs:=⟨cellC c⟩) (t:=67) rfl
  exact ⟨LH ⟨HO.out.alloc _,(Lays.refl base W).alloc _,b,by simp,by simp;omega⟩,by rw [boxC_cell b (by rw [HL.out];omega),HK.out]⟩) ?_
 rintro w1 ⟨R1,k1⟩
 try simp only [hQ]
 clear hQ HO
 go_wp2_with (at_builtin;refine wpList_append_own _ rfl (.tmp 6) (.tmp 10) 22 rfl base 5 ti _ 1 1 Tryz.underlying22 I1.out I2.out I3.out I4.out rfl (by decide) _ _ _ rfl (World.ownsRow.alloc R1.out.1.1 _) ⟨w1.heap.size,0,none⟩ 1 1 [.int .u8 6] rfl rfl (fun j u hu=>cells_new' w1 _ 5 j u hu) (by intro u hu;simp at hu;subst hu;rfl) (by have:=HM.out;unfold maxLen;omega) (by have:=HM.out;omega) (by have:=R1.out.2.2.2.2;simp;omega) ?_)
 intro v2 w2 own2 grow2 _
 have R2:Hid (PutR base Q c W w2 v2 (bs++[6])):=LH (R1.out.next HL.out (own_bytes rfl own2).z (LaysZ.grownBy ((Lays.refl base w1).alloc _) (R1.out.1.alloc _) grow2))
 have k2:=R2.out.cell HL.out 0 (by omega) HK.out
 clear own2 grow2 R1 k1
 have k3:=R2.out.cell HL.out 1 (by omega) E1.out
 go_wp2_with fail
 refine (rnum_any base 1 v2 (bs++[6]) s w2 (.inl rfl) WF1.out R2.out.1 R2.out.2.2.2.2 (by have:=HM.out;simp only [List.length_append,List.length_cons,List.length_nil];omega)).mono ?_
 rintro e w3 ⟨v3,rfl,o3,g3⟩
 have R3:=LH (R2.out.next HL.out o3 g3)
 clear o3 g3 R2 k2 k3
 go_wp2_with fail
 go_ret
 exact ⟨_,rfl,R3.out.1,R3.out.2.1⟩
set_option maxHeartbeats 4000000 in
theorem rput_halt (base:Nat) (bv:Value) (bs c:List Int) (W:World) (hl:c.length=14) (hw:∀ x∈c,(Lit.int .i64 x).wf=true) (hk:c.getD 0 0=7) (ho:OwnZ W base bv bs) (hb:base≤W.heap.size) (hm:bs.length≤1000000) :
  Calls Tryz.prog 79 #[bv,.agg ⟨cellC c⟩] W (RPutPost base bs c W):=by
 have hres:bs++cmdB c=bs++[7]:=by
  unfold cmdB
  rw [hk,show fldsD 7=[] from rfl,numB_one (by omega)]
  simp only [List.flatMap_cons,List.flatMap_nil,fieldB]
  simp
 unfold RPutPost
 rw [hres]
 have HL:=LH hl
 have HK:=LH hk
 have HM:=LH hm
 have HO:=LH ho
 obtain ⟨ti,hi0,hz0,hz1,hz2⟩:=info_parts info8
 have I1:=LH hi0
 have I2:=LH hz0
 have I3:=LH hz1
 have I4:=LH hz2
 clear hi0 hz0 hz1 hz2 hl hk hm ho hres hw
 go_enter Tryz.func79,Tryz.ntmps79
 go_upto_region 1 with fail
 obtain ⟨Q,hQ⟩:∃ Q,W.heap.size=Q:=⟨_,rfl⟩
 refine opq (fun w'=>Hid (PutR base Q c W w' bv bs)∧w'.cell? ⟨Q,0,none⟩=some (.int .i64 7)) (by
  subst hQ
  have b:=box_new (w:=W) (cs:=⟨cellC c⟩) (t:=67) rfl
  exact ⟨LH ⟨HO.out.alloc _,(Lays.refl base W).alloc _,b,by simp,by simp;omega⟩,by rw [boxC_cell b (by rw [HL.out];omega),HK.out]⟩) ?_
 rintro w1 ⟨R1,k1⟩
 try simp only [hQ]
 clear hQ HO
 go_wp2_with (at_builtin;refine wpList_append_own _ rfl (.tmp 6) (.tmp 10) 22 rfl base 5 ti _ 1 1 Tryz.underlying22 I1.out I2.out I3.out I4.out rfl (by decide) _ _ _ rfl (World.ownsRow.alloc R1.out.1.1 _) ⟨w1.heap.size,0,none⟩ 1 1 [.int .u8 7] rfl rfl (fun j u hu=>cells_new' w1 _ 5 j u hu) (by intro u hu;simp at hu;subst hu;rfl) (by have:=HM.out;unfold maxLen;omega) (by have:=HM.out;omega) (by have:=R1.out.2.2.2.2;simp;omega) ?_)
 intro v2 w2 own2 grow2 _
 have R2:Hid (PutR base Q c W w2 v2 (bs++[7])):=LH (R1.out.next HL.out (own_bytes rfl own2).z (LaysZ.grownBy ((Lays.refl base w1).alloc _) (R1.out.1.alloc _) grow2))
 have k2:=R2.out.cell HL.out 0 (by omega) HK.out
 clear own2 grow2 R1 k1
 go_wp2_with fail
 go_ret
 exact ⟨_,rfl,R2.out.1,R2.out.2.1⟩
set_option maxHeartbeats 4000000 in
theorem rput_tile (base:Nat) (bv:Value) (bs c:List Int) (W:World) (hl:c.length=14) (hw:∀ x∈c,(Lit.int .i64 x).wf=true) (hk:c.getD 0 0=3) (ho:OwnZ W base bv bs) (hb:base≤W.heap.size) (hm:bs.length≤1000000) :
  Calls Tryz.prog 79 #[bv,.agg ⟨cellC c⟩] W (RPutPost base bs c W):=by
 obtain ⟨n,e2⟩:∃ x,c.getD 2 0=x:=⟨_,rfl⟩
 have WF2:=LH (wf_getD hw 2)
 rw [e2] at WF2
 have E2:=LH e2
 obtain ⟨f,e3⟩:∃ x,c.getD 3 0=x:=⟨_,rfl⟩
 have WF3:=LH (wf_getD hw 3)
 rw [e3] at WF3
 have E3:=LH e3
 obtain ⟨r,e4⟩:∃ x,c.getD 4 0=x:=⟨_,rfl⟩
 have WF4:=LH (wf_getD hw 4)
 rw [e4] at WF4
 have E4:=LH e4
 obtain ⟨p,e7⟩:∃ x,c.getD 7 0=x:=⟨_,rfl⟩
 have WF7:=LH (wf_getD hw 7)
 rw [e7] at WF7
 have E7:=LH e7
 obtain ⟨i0,e8⟩:∃ x,c.getD 8 0=x:=⟨_,rfl⟩
 have WF8:=LH (wf_getD hw 8)
 rw [e8] at WF8
 have E8:=LH e8
 obtain ⟨b0,e10⟩:∃ x,c.getD 10 0=x:=⟨_,rfl⟩
 have WF10:=LH (wf_getD hw 10)
 rw [e10] at WF10
 have E10:=LH e10
 obtain ⟨h0,e12⟩:∃ x,c.getD 12 0=x:=⟨_,rfl⟩
 have WF12:=LH (wf_getD hw 12)
 rw [e12] at WF12
 have E12:=LH e12
 obtain ⟨i1,e9⟩:∃ x,c.getD 9 0=x:=⟨_,rfl⟩
 have WF9:=LH (wf_getD hw 9)
 rw [e9] at WF9
 have E9:=LH e9
 obtain ⟨b1,e11⟩:∃ x,c.getD 11 0=x:=⟨_,rfl⟩
 have WF11:=LH (wf_getD hw 11)
 rw [e11] at WF11
 have E11:=LH e11
 obtain ⟨h1,e13⟩:∃ x,c.getD 13 0=x:=⟨_,rfl⟩
 have WF13:=LH (wf_getD hw 13)
 rw [e13] at WF13
 have E13:=LH e13
 have hres:bs++cmdB c=bs++[3]++numB 1 n++numB 1 f++numB 1 r++numB 2 p++numB 2 i0++numB 1 b0++numB 1 h0++numB 2 i1++numB 1 b1++numB 1 h1:=by
  unfold cmdB
  rw [hk,show fldsD 3=[⟨2,0,11,1⟩,⟨3,0,15,1⟩,⟨4,1,16,1⟩,⟨7,0,1023,2⟩,⟨8,0,1023,2⟩,⟨10,0,15,1⟩,⟨12,0,16,1⟩,⟨9,0,1023,2⟩,⟨11,0,15,1⟩,⟨13,0,16,1⟩] from rfl,numB_one (by omega)]
  simp only [List.flatMap_cons,List.flatMap_nil,fieldB,e2,e3,e4,e7,e8,e10,e12,e9,e11,e13]
  simp
 unfold RPutPost
 rw [hres]
 have HL:=LH hl
 have HK:=LH hk
 have HM:=LH hm
 have HO:=LH ho
 obtain ⟨ti,hi0,hz0,hz1,hz2⟩:=info_parts info8
 have I1:=LH hi0
 have I2:=LH hz0
 have I3:=LH hz1
 have I4:=LH hz2
 clear hi0 hz0 hz1 hz2 hl hk hm ho hres hw e2 e3 e4 e7 e8 e10 e12 e9 e11 e13
 go_enter Tryz.func79,Tryz.ntmps79
 go_upto_region 1 with fail
 obtain ⟨Q,hQ⟩:∃ Q,W.heap.size=Q:=⟨_,rfl⟩
 refine opq (fun w'=>Hid (PutR base Q c W w' bv bs)∧w'.cell? ⟨Q,0,none⟩=some (.int .i64 3)) (by
  subst hQ
  have b:=box_new (w:=W) (cs:=⟨cellC c⟩) (t:=67) rfl
  exact ⟨LH ⟨HO.out.alloc _,(Lays.refl base W).alloc _,b,by simp,by simp;omega⟩,by rw [boxC_cell b (by rw [HL.out];omega),HK.out]⟩) ?_
 rintro w1 ⟨R1,k1⟩
 try simp only [hQ]
 clear hQ HO
 go_wp2_with (at_builtin;refine wpList_append_own _ rfl (.tmp 6) (.tmp 10) 22 rfl base 5 ti _ 1 1 Tryz.underlying22 I1.out I2.out I3.out I4.out rfl (by decide) _ _ _ rfl (World.ownsRow.alloc R1.out.1.1 _) ⟨w1.heap.size,0,none⟩ 1 1 [.int .u8 3] rfl rfl (fun j u hu=>cells_new' w1 _ 5 j u hu) (by intro u hu;simp at hu;subst hu;rfl) (by have:=HM.out;unfold maxLen;omega) (by have:=HM.out;omega) (by have:=R1.out.2.2.2.2;simp;omega) ?_)
 intro v2 w2 own2 grow2 _
 have R2:Hid (PutR base Q c W w2 v2 (bs++[3])):=LH (R1.out.next HL.out (own_bytes rfl own2).z (LaysZ.grownBy ((Lays.refl base w1).alloc _) (R1.out.1.alloc _) grow2))
 have k2:=R2.out.cell HL.out 0 (by omega) HK.out
 clear own2 grow2 R1 k1
 go_upto_region 7 with fail
 refine wp_region_lastn 13 _ rfl (by kernel_rfl) (by kernel_rfl) ?za
 case za =>
  simp only [List.take_succ_cons,List.take_zero]
  refine any_mixd [3,6,9,12] (fun w'=>w'.cell? ⟨Q,2,none⟩=some (.int .i64 n)∧w'.cell? ⟨Q,3,none⟩=some (.int .i64 f)∧w'.cell? ⟨Q,4,none⟩=some (.int .i64 r)∧w'.cell? ⟨Q,7,none⟩=some (.int .i64 p)) [(32,?va32),(33,?va33),(34,?va34),(36,?va36),(37,?va37),(39,?va39),(40,?va40),(42,?va42),(43,?va43)] [32,33,34,36,37,39,40,42,43] (by kernel_rfl) rfl (by kernel_rfl) ⟨R2.out.cell HL.out 2 (by omega) E2.out,R2.out.cell HL.out 3 (by omega) E3.out,R2.out.cell HL.out 4 (by omega) E4.out,R2.out.cell HL.out 7 (by omega) E7.out⟩ (fun w h=>h) ?alla ?fina
  case alla =>
   simp only [fillA,Act.put,List.setIfInBounds_toArray,List.set_cons_zero,List.set_cons_succ]
   iterate 13 (first|refine forced rfl ?_|(refine reads (fun w hw K hK=>?_) ?_;focus ((have hS:=LH hw);go_split_ands;go_simp;(try go_frame);exact hK)))
   exact True.intro
  case fina =>
   simp only [fillA,Act.put,List.setIfInBounds_toArray,List.set_cons_zero,List.set_cons_succ]
   refine mix_at 35 rfl rfl (fun K hK=>?_)
   simp only [Act.put,List.setIfInBounds_toArray,List.set_cons_zero,List.set_cons_succ] at hK
   have Ra0:Hid (PutR base Q c W (w2.drew) v2 (bs++[3])):=LH (R2.out.past ((Past.refl w2).drew))
   go_simp
   refine (rnum_any base 1 v2 (bs++[3]) n _ (.inl rfl) WF2.out Ra0.out.1 Ra0.out.2.2.2.2 (by have:=HM.out;simp only [List.length_append,numB_len,List.length_cons,List.length_nil];omega)).mono ?_
   rintro e wa0 ⟨va0,rfl,o5,g5⟩
   have Sa0:Hid (PutR base Q c W wa0 va0 (bs++[3]++numB 1 n)):=LH (Ra0.out.next HL.out o5 g5)
   refine hK _ _ ⟨Sa0.out.cell HL.out 2 (by omega) E2.out,Sa0.out.cell HL.out 3 (by omega) E3.out,Sa0.out.cell HL.out 4 (by omega) E4.out,Sa0.out.cell HL.out 7 (by omega) E7.out⟩ ?_
   clear hK o5 g5 Ra0
   (try go_frame)
   refine mix_at 38 rfl rfl (fun K hK=>?_)
   simp only [Act.put,List.setIfInBounds_toArray,List.set_cons_zero,List.set_cons_succ] at hK
   have Ra1:Hid (PutR base Q c W (wa0) va0 (bs++[3]++numB 1 n)):=LH (Sa0.out)
   go_simp
   refine (rnum_any base 1 va0 (bs++[3]++numB 1 n) f _ (.inl rfl) WF3.out Ra1.out.1 Ra1.out.2.2.2.2 (by have:=HM.out;simp only [List.length_append,numB_len,List.length_cons,List.length_nil];omega)).mono ?_
   rintro e wa1 ⟨va1,rfl,o5,g5⟩
   have Sa1:Hid (PutR base Q c W wa1 va1 (bs++[3]++numB 1 n++numB 1 f)):=LH (Ra1.out.next HL.out o5 g5)
   refine hK _ _ ⟨Sa1.out.cell HL.out 2 (by omega) E2.out,Sa1.out.cell HL.out 3 (by omega) E3.out,Sa1.out.cell HL.out 4 (by omega) E4.out,Sa1.out.cell HL.out 7 (by omega) E7.out⟩ ?_
   clear hK o5 g5 Ra1
   (try go_frame)
   refine mix_at 41 rfl rfl (fun K hK=>?_)
   simp only [Act.put,List.setIfInBounds_toArray,List.set_cons_zero,List.set_cons_succ] at hK
   have Ra2:Hid (PutR base Q c W (wa1) va1 (bs++[3]++numB 1 n++numB 1 f)):=LH (Sa1.out)
   go_simp
   refine (rnum_any base 1 va1 (bs++[3]++numB 1 n++numB 1 f) r _ (.inl rfl) WF4.out Ra2.out.1 Ra2.out.2.2.2.2 (by have:=HM.out;simp only [List.length_append,numB_len,List.length_cons,List.length_nil];omega)).mono ?_
   rintro e wa2 ⟨va2,rfl,o5,g5⟩
   have Sa2:Hid (PutR base Q c W wa2 va2 (bs++[3]++numB 1 n++numB 1 f++numB 1 r)):=LH (Ra2.out.next HL.out o5 g5)
   refine hK _ _ ⟨Sa2.out.cell HL.out 2 (by omega) E2.out,Sa2.out.cell HL.out 3 (by omega) E3.out,Sa2.out.cell HL.out 4 (by omega) E4.out,Sa2.out.cell HL.out 7 (by omega) E7.out⟩ ?_
   clear hK o5 g5 Ra2
   (try go_frame)
   refine mix_at 44 rfl rfl (fun K hK=>?_)
   simp only [Act.put,List.setIfInBounds_toArray,List.set_cons_zero,List.set_cons_succ] at hK
   have Ra3:Hid (PutR base Q c W (wa2) va2 (bs++[3]++numB 1 n++numB 1 f++numB 1 r)):=LH (Sa2.out)
   go_simp
   refine (rnum_any base 2 va2 (bs++[3]++numB 1 n++numB 1 f++numB 1 r) p _ (.inr (.inl rfl)) WF7.out Ra3.out.1 Ra3.out.2.2.2.2 (by have:=HM.out;simp only [List.length_append,numB_len,List.length_cons,List.length_nil];omega)).mono ?_
   rintro e wa3 ⟨va3,rfl,o5,g5⟩
   have Sa3:Hid (PutR base Q c W wa3 va3 (bs++[3]++numB 1 n++numB 1 f++numB 1 r++numB 2 p)):=LH (Ra3.out.next HL.out o5 g5)
   refine hK _ _ ⟨Sa3.out.cell HL.out 2 (by omega) E2.out,Sa3.out.cell HL.out 3 (by omega) E3.out,Sa3.out.cell HL.out 4 (by omega) E4.out,Sa3.out.cell HL.out 7 (by omega) E7.out⟩ ?_
   clear hK o5 g5 Ra3
   (try go_frame)
   refine mix_nil ?_
   show Oper.wp _ _ _ _ _ _
   go_simp
   go_wp2_with fail
   go_loopw [0,5] (fun v i wr=>(i=.int .i64 0∧Hid (PutR base Q c W wr v (bs++[3]++numB 1 n++numB 1 f++numB 1 r++numB 2 p)))∨(i=.int .i64 1∧Hid (PutR base Q c W wr v (bs++[3]++numB 1 n++numB 1 f++numB 1 r++numB 2 p++numB 2 i0++numB 1 b0++numB 1 h0)))∨(i=.int .i64 2∧Hid (PutR base Q c W wr v (bs++[3]++numB 1 n++numB 1 f++numB 1 r++numB 2 p++numB 2 i0++numB 1 b0++numB 1 h0++numB 2 i1++numB 1 b1++numB 1 h1)))) (fun _ i _=>2-(intOf i).toNat)
   case atStart=>exact .inl ⟨rfl,Sa3⟩
   case round =>
    rcases hrel with ⟨rfl,HR⟩|⟨rfl,HR⟩|⟨rfl,HR⟩
    ·go_upto_region 11 with fail
     refine wp_region_lastn 16 _ rfl (by kernel_rfl) (by kernel_rfl) ?zb
     case zb =>
      simp only [List.take_succ_cons,List.take_zero]
      refine any_mixd [5,10,15] (fun w'=>w'.cell? ⟨Q,8,none⟩=some (.int .i64 i0)∧w'.cell? ⟨Q,10,none⟩=some (.int .i64 b0)∧w'.cell? ⟨Q,12,none⟩=some (.int .i64 h0)) [(49,?vb49),(50,?vb50),(51,?vb51),(52,?vb52),(53,?vb53),(55,?vb55),(56,?vb56),(57,?vb57),(58,?vb58),(60,?vb60),(61,?vb61),(62,?vb62),(63,?vb63)] [49,50,51,52,53,55,56,57,58,60,61,62,63] (by kernel_rfl) rfl (by kernel_rfl) ⟨HR.out.cell HL.out 8 (by omega) E8.out,HR.out.cell HL.out 10 (by omega) E10.out,HR.out.cell HL.out 12 (by omega) E12.out⟩ (fun w h=>h) ?allb ?finb
      case allb =>
       simp only [fillA,Act.put,List.setIfInBounds_toArray,List.set_cons_zero,List.set_cons_succ]
       iterate 16 (first|refine forced rfl ?_|(refine reads (fun w hw K hK=>?_) ?_;focus ((have hS:=LH hw);go_split_ands;go_simp;(try go_frame);exact hK)))
       exact True.intro
      case finb =>
       simp only [fillA,Act.put,List.setIfInBounds_toArray,List.set_cons_zero,List.set_cons_succ]
       refine mix_at 54 rfl rfl (fun K hK=>?_)
       simp only [Act.put,List.setIfInBounds_toArray,List.set_cons_zero,List.set_cons_succ] at hK
       have Rb0:Hid (PutR base Q c W (wr.drew) u0 (bs++[3]++numB 1 n++numB 1 f++numB 1 r++numB 2 p)):=LH (HR.out.past ((Past.refl wr).drew))
       go_simp
       refine (rnum_any base 2 u0 (bs++[3]++numB 1 n++numB 1 f++numB 1 r++numB 2 p) i0 _ (.inr (.inl rfl)) WF8.out Rb0.out.1 Rb0.out.2.2.2.2 (by have:=HM.out;simp only [List.length_append,numB_len,List.length_cons,List.length_nil];omega)).mono ?_
       rintro e wb0 ⟨vb0,rfl,o5,g5⟩
       have Sb0:Hid (PutR base Q c W wb0 vb0 (bs++[3]++numB 1 n++numB 1 f++numB 1 r++numB 2 p++numB 2 i0)):=LH (Rb0.out.next HL.out o5 g5)
       refine hK _ _ ⟨Sb0.out.cell HL.out 8 (by omega) E8.out,Sb0.out.cell HL.out 10 (by omega) E10.out,Sb0.out.cell HL.out 12 (by omega) E12.out⟩ ?_
       clear hK o5 g5 Rb0
       (try go_frame)
       refine mix_at 59 rfl rfl (fun K hK=>?_)
       simp only [Act.put,List.setIfInBounds_toArray,List.set_cons_zero,List.set_cons_succ] at hK
       have Rb1:Hid (PutR base Q c W (wb0) vb0 (bs++[3]++numB 1 n++numB 1 f++numB 1 r++numB 2 p++numB 2 i0)):=LH (Sb0.out)
       go_simp
       refine (rnum_any base 1 vb0 (bs++[3]++numB 1 n++numB 1 f++numB 1 r++numB 2 p++numB 2 i0) b0 _ (.inl rfl) WF10.out Rb1.out.1 Rb1.out.2.2.2.2 (by have:=HM.out;simp only [List.length_append,numB_len,List.length_cons,List.length_nil];omega)).mono ?_
       rintro e wb1 ⟨vb1,rfl,o5,g5⟩
       have Sb1:Hid (PutR base Q c W wb1 vb1 (bs++[3]++numB 1 n++numB 1 f++numB 1 r++numB 2 p++numB 2 i0++numB 1 b0)):=LH (Rb1.out.next HL.out o5 g5)
       refine hK _ _ ⟨Sb1.out.cell HL.out 8 (by omega) E8.out,Sb1.out.cell HL.out 10 (by omega) E10.out,Sb1.out.cell HL.out 12 (by omega) E12.out⟩ ?_
       clear hK o5 g5 Rb1
       (try go_frame)
       refine mix_at 64 rfl rfl (fun K hK=>?_)
       simp only [Act.put,List.setIfInBounds_toArray,List.set_cons_zero,List.set_cons_succ] at hK
       have Rb2:Hid (PutR base Q c W (wb1) vb1 (bs++[3]++numB 1 n++numB 1 f++numB 1 r++numB 2 p++numB 2 i0++numB 1 b0)):=LH (Sb1.out)
       go_simp
       refine (rnum_any base 1 vb1 (bs++[3]++numB 1 n++numB 1 f++numB 1 r++numB 2 p++numB 2 i0++numB 1 b0) h0 _ (.inl rfl) WF12.out Rb2.out.1 Rb2.out.2.2.2.2 (by have:=HM.out;simp only [List.length_append,numB_len,List.length_cons,List.length_nil];omega)).mono ?_
       rintro e wb2 ⟨vb2,rfl,o5,g5⟩
       have Sb2:Hid (PutR base Q c W wb2 vb2 (bs++[3]++numB 1 n++numB 1 f++numB 1 r++numB 2 p++numB 2 i0++numB 1 b0++numB 1 h0)):=LH (Rb2.out.next HL.out o5 g5)
       refine hK _ _ ⟨Sb2.out.cell HL.out 8 (by omega) E8.out,Sb2.out.cell HL.out 10 (by omega) E10.out,Sb2.out.cell HL.out 12 (by omega) E12.out⟩ ?_
       clear hK o5 g5 Rb2
       (try go_frame)
       refine mix_nil ?_
       show Oper.wp _ _ _ _ _ _
       go_simp
       go_wp2_with fail
       go_roundw
       case rel=>exact .inr (.inl ⟨rfl,Sb2⟩)
       case measure=>simp [intOf]
    ·go_upto_region 11 with fail
     refine wp_region_lastn 16 _ rfl (by kernel_rfl) (by kernel_rfl) ?zc
     case zc =>
      simp only [List.take_succ_cons,List.take_zero]
      refine any_mixd [5,10,15] (fun w'=>w'.cell? ⟨Q,9,none⟩=some (.int .i64 i1)∧w'.cell? ⟨Q,11,none⟩=some (.int .i64 b1)∧w'.cell? ⟨Q,13,none⟩=some (.int .i64 h1)) [(49,?vc49),(50,?vc50),(51,?vc51),(52,?vc52),(53,?vc53),(55,?vc55),(56,?vc56),(57,?vc57),(58,?vc58),(60,?vc60),(61,?vc61),(62,?vc62),(63,?vc63)] [49,50,51,52,53,55,56,57,58,60,61,62,63] (by kernel_rfl) rfl (by kernel_rfl) ⟨HR.out.cell HL.out 9 (by omega) E9.out,HR.out.cell HL.out 11 (by omega) E11.out,HR.out.cell HL.out 13 (by omega) E13.out⟩ (fun w h=>h) ?allc ?finc
      case allc =>
       simp only [fillA,Act.put,List.setIfInBounds_toArray,List.set_cons_zero,List.set_cons_succ]
       iterate 16 (first|refine forced rfl ?_|(refine reads (fun w hw K hK=>?_) ?_;focus ((have hS:=LH hw);go_split_ands;go_simp;(try go_frame);exact hK)))
       exact True.intro
      case finc =>
       simp only [fillA,Act.put,List.setIfInBounds_toArray,List.set_cons_zero,List.set_cons_succ]
       refine mix_at 54 rfl rfl (fun K hK=>?_)
       simp only [Act.put,List.setIfInBounds_toArray,List.set_cons_zero,List.set_cons_succ] at hK
       have Rc0:Hid (PutR base Q c W (wr.drew) u0 (bs++[3]++numB 1 n++numB 1 f++numB 1 r++numB 2 p++numB 2 i0++numB 1 b0++numB 1 h0)):=LH (HR.out.past ((Past.refl wr).drew))
       go_simp
       refine (rnum_any base 2 u0 (bs++[3]++numB 1 n++numB 1 f++numB 1 r++numB 2 p++numB 2 i0++numB 1 b0++numB 1 h0) i1 _ (.inr (.inl rfl)) WF9.out Rc0.out.1 Rc0.out.2.2.2.2 (by have:=HM.out;simp only [List.length_append,numB_len,List.length_cons,List.length_nil];omega)).mono ?_
       rintro e wc0 ⟨vc0,rfl,o5,g5⟩
       have Sc0:Hid (PutR base Q c W wc0 vc0 (bs++[3]++numB 1 n++numB 1 f++numB 1 r++numB 2 p++numB 2 i0++numB 1 b0++numB 1 h0++numB 2 i1)):=LH (Rc0.out.next HL.out o5 g5)
       refine hK _ _ ⟨Sc0.out.cell HL.out 9 (by omega) E9.out,Sc0.out.cell HL.out 11 (by omega) E11.out,Sc0.out.cell HL.out 13 (by omega) E13.out⟩ ?_
       clear hK o5 g5 Rc0
       (try go_frame)
       refine mix_at 59 rfl rfl (fun K hK=>?_)
       simp only [Act.put,List.setIfInBounds_toArray,List.set_cons_zero,List.set_cons_succ] at hK
       have Rc1:Hid (PutR base Q c W (wc0) vc0 (bs++[3]++numB 1 n++numB 1 f++numB 1 r++numB 2 p++numB 2 i0++numB 1 b0++numB 1 h0++numB 2 i1)):=LH (Sc0.out)
       go_simp
       refine (rnum_any base 1 vc0 (bs++[3]++numB 1 n++numB 1 f++numB 1 r++numB 2 p++numB 2 i0++numB 1 b0++numB 1 h0++numB 2 i1) b1 _ (.inl rfl) WF11.out Rc1.out.1 Rc1.out.2.2.2.2 (by have:=HM.out;simp only [List.length_append,numB_len,List.length_cons,List.length_nil];omega)).mono ?_
       rintro e wc1 ⟨vc1,rfl,o5,g5⟩
       have Sc1:Hid (PutR base Q c W wc1 vc1 (bs++[3]++numB 1 n++numB 1 f++numB 1 r++numB 2 p++numB 2 i0++numB 1 b0++numB 1 h0++numB 2 i1++numB 1 b1)):=LH (Rc1.out.next HL.out o5 g5)
       refine hK _ _ ⟨Sc1.out.cell HL.out 9 (by omega) E9.out,Sc1.out.cell HL.out 11 (by omega) E11.out,Sc1.out.cell HL.out 13 (by omega) E13.out⟩ ?_
       clear hK o5 g5 Rc1
       (try go_frame)
       refine mix_at 64 rfl rfl (fun K hK=>?_)
       simp only [Act.put,List.setIfInBounds_toArray,List.set_cons_zero,List.set_cons_succ] at hK
       have Rc2:Hid (PutR base Q c W (wc1) vc1 (bs++[3]++numB 1 n++numB 1 f++numB 1 r++numB 2 p++numB 2 i0++numB 1 b0++numB 1 h0++numB 2 i1++numB 1 b1)):=LH (Sc1.out)
       go_simp
       refine (rnum_any base 1 vc1 (bs++[3]++numB 1 n++numB 1 f++numB 1 r++numB 2 p++numB 2 i0++numB 1 b0++numB 1 h0++numB 2 i1++numB 1 b1) h1 _ (.inl rfl) WF13.out Rc2.out.1 Rc2.out.2.2.2.2 (by have:=HM.out;simp only [List.length_append,numB_len,List.length_cons,List.length_nil];omega)).mono ?_
       rintro e wc2 ⟨vc2,rfl,o5,g5⟩
       have Sc2:Hid (PutR base Q c W wc2 vc2 (bs++[3]++numB 1 n++numB 1 f++numB 1 r++numB 2 p++numB 2 i0++numB 1 b0++numB 1 h0++numB 2 i1++numB 1 b1++numB 1 h1)):=LH (Rc2.out.next HL.out o5 g5)
       refine hK _ _ ⟨Sc2.out.cell HL.out 9 (by omega) E9.out,Sc2.out.cell HL.out 11 (by omega) E11.out,Sc2.out.cell HL.out 13 (by omega) E13.out⟩ ?_
       clear hK o5 g5 Rc2
       (try go_frame)
       refine mix_nil ?_
       show Oper.wp _ _ _ _ _ _
       go_simp
       go_wp2_with fail
       go_roundw
       case rel=>exact .inr (.inr ⟨rfl,Sc2⟩)
       case measure=>simp [intOf]
    ·have k9:=HR.out.cell HL.out 0 (by omega) HK.out
     go_wp2_with fail
     go_ret
     exact ⟨_,rfl,HR.out.1,HR.out.2.1⟩
theorem rput_any (base:Nat)(bv:Value)(bs c:List Int)(W:World)(hc:wfC c)(hm':mayD c)(ho:OwnZ W base bv bs)(hb:base<=W.heap.size)(hm:bs.length<=1000000):Calls Tryz.prog 79 #[bv,.agg ⟨cellC c⟩] W (RPutPost base bs c W):=by
 have h':=hm'.1;unfold kindP at h';rcases (show c.getD 0 0=1\/c.getD 0 0=2\/c.getD 0 0=3\/c.getD 0 0=4\/c.getD 0 0=5\/c.getD 0 0=6\/c.getD 0 0=7 by omega) with q|q|q|q|q|q|q
 ·exact rput_load1 base bv bs c W hc.1 hc.2 q ho hb hm
 ·exact rput_load2 base bv bs c W hc.1 hc.2 q ho hb hm
 ·exact rput_tile base bv bs c W hc.1 hc.2 q ho hb hm
 ·exact rput_kernel base bv bs c W hc.1 hc.2 q ho hb hm
 ·exact rput_sem5 base bv bs c W hc.1 hc.2 q ho hb hm
 ·exact rput_sem6 base bv bs c W hc.1 hc.2 q ho hb hm
 ·exact rput_halt base bv bs c W hc.1 hc.2 q ho hb hm
end Go.Proofs.YtejllmjkeefloaaGreat.Q8
