/- Rows of bytes that a call owns, and what an append to them leaves alone; lay. layList, layNode. layNode. -/
import Derived.Deep.DeepCutAuto
import Derived.Test.YtejllmjkeefloaaGreatMV1
namespace Go.Proofs.YtejllmjkeefloaaGreat
open Go.ChangeShapes Go.WideShapes Go.ChangeAt Go.RowKit
set_option maxRecDepth 20000
set_option linter.unusedVariables false
theorem info8:(Tryz.prog.info? 5).map (fun i=>(i.zero,i.size,i.bytes))=some (some (.int .u8 0),1,1):=by kernel_rfl
def OwnB (w:World)(base:Nat)(v:Value)(xs:List Int):Prop:=w.ownsRow base 5 1 v xs.length (xs.map (Value.int .u8))/\(xs=[]->v=.slice none 0 0)
theorem OwnB.nil (w:World)(base:Nat):OwnB w base (.slice none 0 0) []:=⟨World.ownsRow_nil _ _ _ _,fun _=>rfl⟩
def NoRow (w:World)(base P:Nat):Prop:=P<w.heap.size/\(P<base\/∃ u,w.cell? ⟨P,0,none⟩=some u/\∀ n,u≠.int .u8 n)
theorem OwnB.ne {w:World}{base P:Nat}{v:Value}{xs:List Int}(h:OwnB w base v xs)(hP:NoRow w base P):some P≠v.ownBlock:=by
 intro e;obtain⟨hlt,hP⟩:=hP;rcases hP with hP|⟨u,hu,hn⟩
 ·have:=(World.ownsRow.lt h.1 P e.symm).1;omega
 ·cases xs with
  | nil=>rw [h.2 rfl] at e;simp [Value.ownBlock] at e
  | cons x xs =>
   have c:=World.ownsRow.cells h.1 e.symm 0 (.int .u8 x) (by simp);rw [add_plain] at c;rw [show(⟨P,0+0,none⟩:Addr)=⟨P,0,none⟩ from rfl,hu] at c;exact hn x (by simpa using c)
def Lays (base:Nat)(w w':World):Prop:=w'.os=w.os/\w'.output=w.output/\w.heap.size<=w'.heap.size/\∀ P,NoRow w base P->w'.heap[P]? = w.heap[P]?
theorem Lays.refl (base:Nat)(w:World):Lays base w w:=⟨rfl,rfl,Nat.le_refl _,fun _ _=>rfl⟩
theorem Lays.noRow {base P:Nat}{w w':World}(h:Lays base w w')(hP:NoRow w base P):NoRow w' base P:=by
 refine⟨Nat.lt_of_lt_of_le hP.1 h.2.2.1,?_⟩;rcases hP.2 with k|⟨u,hu,hn⟩
 ·exact .inl k
 ·exact .inr ⟨u,(World.cell?_of_block (a:=⟨P,0,none⟩) (h.2.2.2 P hP)).trans hu,hn⟩
theorem Lays.trans {base:Nat}{a b c:World}(h:Lays base a b)(k:Lays base b c):Lays base a c :=
 ⟨k.1.trans h.1,k.2.1.trans h.2.1,Nat.le_trans h.2.2.1 k.2.2.1,fun P hP=>(k.2.2.2 P (h.noRow hP)).trans (h.2.2.2 P hP)⟩
theorem Lays.alloc {base:Nat}{w w':World}(h:Lays base w w')(x:Obj):Lays base w (w'.alloc x) :=
 ⟨h.1,h.2.1,by rw [World.size_alloc];have:=h.2.2.1;omega,fun k hk=>(Below.heap_alloc w' x k (Nat.lt_of_lt_of_le hk.1 h.2.2.1)).trans (h.2.2.2 k hk)⟩
theorem Lays.of_past {base:Nat}{w w':World}(h:Past w w'):Lays base w w':=⟨h.1,h.2.1,h.2.2.1,fun k hk=>h.2.2.2 k hk.1⟩
theorem Lays.past {W w w':World}(p:Past W w)(h:Lays W.heap.size w w'):Past W w' :=
 ⟨h.1.trans p.1,h.2.1.trans p.2.1,Nat.le_trans p.2.2.1 h.2.2.1,fun k hk=>(h.2.2.2 k ⟨Nat.lt_of_lt_of_le hk p.2.2.1,.inl hk⟩).trans (p.2.2.2 k hk)⟩
theorem Lays.grownBy {base:Nat}{w w' w'':World}{v:Value}{xs:List Int}(h:Lays base w w')(ho:OwnB w' base v xs)(g:w'.grownBy w'' v.ownBlock):Lays base w w'' :=
 ⟨g.os.trans h.1,g.output.trans h.2.1,Nat.le_trans h.2.2.1 g.size,fun P hP=>(g.block P (h.noRow hP).1 (ho.ne (h.noRow hP))).trans (h.2.2.2 P hP)⟩
theorem Lays.cell {base P o:Nat} {w w':World} (h:Lays base w w') (hP:NoRow w base P):w'.cell? ⟨P,o,none⟩=w.cell? ⟨P,o,none⟩:=World.cell?_of_block (a:=⟨P,o,none⟩) (h.2.2.2 P hP)
def Apart (base:Nat)(v:Value):Prop:=∀ b o s l c,v=.slice (some ⟨b,o,s⟩) l c->b<base\/o=0
theorem nums_noRow {k:IntKind}{w:World}{base b off l c:Nat}{xs:List Int}(hk:k≠.u8)(h:IsNums k w (.slice (some ⟨b,off,none⟩) l c) xs)(ha:Apart base (.slice (some ⟨b,off,none⟩) l c))(hp:0<xs.length):NoRow w base b:=by
 obtain⟨A,cap,h1,h2,h3,h4,h5,h6⟩:=h;obtain⟨b',off',e,hb,hc⟩:=h6 hp;subst e;simp only [Value.slice.injEq,Option.some.injEq,Addr.mk.injEq,and_true] at h1;obtain⟨⟨rfl,rfl⟩,rfl,rfl⟩:=h1;refine⟨hb,?_⟩;rcases ha b off none _ _ rfl with k'|rfl
 ·exact .inl k'
 ·refine .inr ⟨_,hc 0 hp,fun n e=>?_⟩;simp only [Value.int.injEq] at e;exact hk e.1
theorem nums_lays {k:IntKind}{w w':World}{base:Nat}{v:Value}{xs:List Int}(hk:k≠.u8)(h:IsNums k w v xs)(ha:0<xs.length->Apart base v)(g:Lays base w w'):IsNums k w' v xs:=by
 by_cases hp:0<xs.length
 ·have h':=h;obtain⟨A,cap,rfl,h2,h3,h4,h5,h6⟩:=h;obtain⟨b,off,rfl,hb,hc⟩:=h6 hp;have hn:=nums_noRow hk h' (ha hp) hp;exact⟨_,cap,rfl,h2,h3,h4,h5,fun _=>⟨b,off,rfl,Nat.lt_of_lt_of_le hb g.2.2.1,fun i hi=>(g.cell hn).trans (hc i hi)⟩⟩
 ·obtain⟨A,cap,h1,h2,h3,h4,h5,h6⟩:=h;exact⟨A,cap,h1,h2,h3,h4,h5,fun hp'=>absurd hp' hp⟩
theorem numsB_take (k:Nat)(xs:List Int)(i:Nat)(h:i<xs.length):numsB k (xs.take (i+1))=numsB k (xs.take i)++numB k (xs.getD i 0):=by
 unfold numsB;rw [List.take_succ_eq_append_getElem h,List.flatMap_append];simp [List.getD,h]
theorem own_bytes {w:World} {base:Nat} {v:Value} {xs:List Int} {u:Int} {n:Nat} (hn:n=xs.length) (h:w.ownsRow base 5 1 v (n+1) (xs.map (Value.int .u8)++[.int .u8 u])):OwnB w base v (xs++[u]):=by
 subst hn;exact ⟨by simpa using h,fun e=>by simp at e⟩
theorem numB_1 (x:Int):numB 1 x=(x%256) :: numB 0 x:=by simp [numB]
theorem numB_2 (x:Int):numB 2 x=(x / 256%256) :: numB 1 x:=by simp [numB]
theorem numB_3 (x:Int):numB 3 x=(x / 65536%256) :: numB 2 x:=by simp [numB]
theorem numB_4 (x:Int):numB 4 x=(x / 16777216%256) :: numB 3 x:=by simp [numB]
def LayPost (base wide:Nat)(bs xs:List Int)(w:World)(e:Ending)(w':World):Prop:=∃ v',e=.returned v'/\OwnB w' base v' (bs++numsB wide xs)/\Lays base w w'
set_option maxHeartbeats 4000000 in
theorem lay_int (base wide:Nat)(bv lv:Value)(bs xs:List Int)(W:World)(hw:wide=1\/wide=2\/wide=4)(ho:OwnB W base bv bs)(hl:IsNums .i64 W lv xs)(ha:0<xs.length->Apart base lv)(hb:base<=W.heap.size)(hm:bs.length+wide*xs.length<=1000000000) :
  Calls Tryz.prog 80 #[bv,.int .i64 (wide:Int),lv] W (LayPost base wide bs xs W):=by
 have HL:=LH hl;obtain⟨A,cap,rfl,l2,l3,_,l5,l6⟩:=hl;have HA:=LH ha;have L5:=LH l5;have L6:=LH l6;have HW:=LH hw;have hm2:xs.length<=9223372036854775807:=by unfold maxLen at l3;omega
 have w1:1<=wide:=by omega
 have w4:wide<=4:=by omega
 have e1:IntKind.i64.wrap ((wide:Int)-1)=(wide:Int)-1:=by rcases hw with rfl|rfl|rfl <;> decide
 obtain⟨i0,hi0,hz0,hz1,hz2⟩:=info_parts info8;have I1:=LH hi0;have I2:=LH hz0;have I3:=LH hz1;have I4:=LH hz2;clear hi0 hz0 hz1 hz2 l2 l3 l5 l6 ha hw;go_enter Tryz.func80,Tryz.ntmps80;go_wp2_with fail;go_loopw [0,12] (fun v i wr=>∃ k:Nat,k<=xs.length/\i=.int .i64 k/\Hid (OwnB wr base v (bs++numsB wide (xs.take k)))/\Hid (Lays base W wr)/\base<=wr.heap.size) (fun _ i _=>xs.length-(intOf i).toNat)
 case atStart=>exact⟨0,by omega,rfl,LH (by simpa [numsB] using ho),LH (Lays.refl _ _),hb⟩
 case round =>
  clear ho hb;obtain⟨k,hk,rfl,hown,hp,hbs⟩:=hrel;by_cases h:k<xs.length
  ·obtain⟨b,off,rfl,hbb,hc⟩:=L6.out (by omega);have hN:=nums_noRow (by decide) HL.out (HA.out (by omega)) (by omega);have c0:=(hp.out.cell hN).trans (hc k h);have wx:=L5.out (xs.getD k 0) (by simp [List.getD,h]);obtain⟨x,hx⟩:∃ x,xs.getD k 0=x:=⟨_,rfl⟩
   rw [hx] at c0 wx;have hnext:=numsB_take wide xs k h;rw [hx] at hnext;have HX:=LH hnext;have HN:=LH hN;clear hx hc hnext hN;have wx':=LH wx;clear wx;have hlen:(bs++numsB wide (xs.take k)).length+wide<=1000000000:=by
    rw [List.length_append,numsB_len,List.length_take,Nat.min_eq_left (by omega)];have:wide*(k+1)<=wide*xs.length:=Nat.mul_le_mul_left _ h;rw [Nat.mul_add] at this;omega
   have HLEN:=LH hlen;clear hlen;go_wp2_with fail;go_loopw [0,9] (fun v i wr=>∃ (m:Nat) (cs:List Int),m<=wide/\i=.int .i64 ((m:Int)-1)/\Hid (cs++numB m x=bs++numsB wide (xs.take k)++numB wide x)/\Hid (OwnB wr base v cs)/\Hid (Lays base W wr)/\base<=wr.heap.size) (fun _ i _=>(intOf i+1).toNat)
   case atStart=>exact⟨wide,_,by omega,rfl,LH rfl,hown,hp,hbs⟩
   case round =>
    clear hown hp hbs;obtain⟨m,cs,hm4,rfl,heq,hown,hp,hbs⟩:=hrel;have hcs:Hid (cs.length+m<=1000000000):=LH (by
     have:=congrArg List.length heq.out;have h2:=HLEN.out;simp only [List.length_append,numB_len] at this h2;omega)
    rcases (show m=0\/m=1\/m=2\/m=3\/m=4 by omega) with rfl|rfl|rfl|rfl|rfl
    ·have he:=heq.out;simp only [numB,List.append_nil,List.append_assoc] at he;rw [<- HX.out] at he;have HE:=LH he;clear he;go_wp2_with fail;go_roundw
     case rel=>exact⟨k+1,by omega,by go_num,LH (by rw [<- HE.out];exact hown.out),hp,hbs⟩
     case measure=>simp [intOf];omega
    ·have d0:decide (0<=((1:Nat):Int)-1)=true:=by decide
     have hnb:=LH (numB_1 x);go_wp2_with (at_builtin;refine wpList_append_own _ rfl (.tmp 22) (.tmp 28) 22 rfl base 5 i0 _ 1 1 Tryz.underlying22 I1.out I2.out I3.out I4.out rfl (by decide) _ _ _ rfl (World.ownsRow.alloc hown.out.1 _) ⟨wr.heap.size,0,none⟩ 1 1 [.int .u8 (x%256)] rfl rfl (fun j u hu=>cells_new' wr _ 5 j u hu) (by intro u hu;simp at hu;subst hu;rfl) ?c4 ?c5 ?c6 ?_)
     case c4=>have:=hcs.out;unfold maxLen;omega
     case c5=>have:=hcs.out;omega
     case c6=>simp;omega
     intro v4 w4 hown4 hgrow _;have ho4:=LH (own_bytes rfl hown4);have hl4:=LH (Lays.grownBy (hp.out.alloc _) ⟨World.ownsRow.alloc hown.out.1 _,hown.out.2⟩ hgrow);have hs4:base<=w4.heap.size:=by have:=hgrow.size;simp only [World.size_alloc] at this;omega
     have he4:=heq.out;rw [hnb.out] at he4;have HE4:=LH he4;clear hown4 hgrow he4 hnb;go_wp2_with fail;go_roundw
     case rel=>exact⟨0,cs++[x%256],by omega,by first|rfl|go_num,LH (by rw [<- HE4.out];simp),ho4,hl4,hs4⟩
     case measure=>simp [intOf]
    ·have d0:decide (0<=((2:Nat):Int)-1)=true:=by decide
     have hnb:=LH (numB_2 x);go_wp2_with (at_builtin;refine wpList_append_own _ rfl (.tmp 22) (.tmp 28) 22 rfl base 5 i0 _ 1 1 Tryz.underlying22 I1.out I2.out I3.out I4.out rfl (by decide) _ _ _ rfl (World.ownsRow.alloc hown.out.1 _) ⟨wr.heap.size,0,none⟩ 1 1 [.int .u8 (x / 256%256)] rfl rfl (fun j u hu=>cells_new' wr _ 5 j u hu) (by intro u hu;simp at hu;subst hu;rfl) ?c4 ?c5 ?c6 ?_)
     case c4=>have:=hcs.out;unfold maxLen;omega
     case c5=>have:=hcs.out;omega
     case c6=>simp;omega
     intro v4 w4 hown4 hgrow _;have ho4:=LH (own_bytes rfl hown4);have hl4:=LH (Lays.grownBy (hp.out.alloc _) ⟨World.ownsRow.alloc hown.out.1 _,hown.out.2⟩ hgrow);have hs4:base<=w4.heap.size:=by have:=hgrow.size;simp only [World.size_alloc] at this;omega
     have he4:=heq.out;rw [hnb.out] at he4;have HE4:=LH he4;clear hown4 hgrow he4 hnb;go_wp2_with fail;go_roundw
     case rel=>exact⟨1,cs++[x / 256%256],by omega,by first|rfl|go_num,LH (by rw [<- HE4.out];simp),ho4,hl4,hs4⟩
     case measure=>simp [intOf]
    ·have d0:decide (0<=((3:Nat):Int)-1)=true:=by decide
     have hnb:=LH (numB_3 x);go_wp2_with (at_builtin;refine wpList_append_own _ rfl (.tmp 22) (.tmp 28) 22 rfl base 5 i0 _ 1 1 Tryz.underlying22 I1.out I2.out I3.out I4.out rfl (by decide) _ _ _ rfl (World.ownsRow.alloc hown.out.1 _) ⟨wr.heap.size,0,none⟩ 1 1 [.int .u8 (x / 65536%256)] rfl rfl (fun j u hu=>cells_new' wr _ 5 j u hu) (by intro u hu;simp at hu;subst hu;rfl) ?c4 ?c5 ?c6 ?_)
     case c4=>have:=hcs.out;unfold maxLen;omega
     case c5=>have:=hcs.out;omega
     case c6=>simp;omega
     intro v4 w4 hown4 hgrow _;have ho4:=LH (own_bytes rfl hown4);have hl4:=LH (Lays.grownBy (hp.out.alloc _) ⟨World.ownsRow.alloc hown.out.1 _,hown.out.2⟩ hgrow);have hs4:base<=w4.heap.size:=by have:=hgrow.size;simp only [World.size_alloc] at this;omega
     have he4:=heq.out;rw [hnb.out] at he4;have HE4:=LH he4;clear hown4 hgrow he4 hnb;go_wp2_with fail;go_roundw
     case rel=>exact⟨2,cs++[x / 65536%256],by omega,by first|rfl|go_num,LH (by rw [<- HE4.out];simp),ho4,hl4,hs4⟩
     case measure=>simp [intOf]
    ·have d0:decide (0<=((4:Nat):Int)-1)=true:=by decide
     have hnb:=LH (numB_4 x);go_wp2_with (at_builtin;refine wpList_append_own _ rfl (.tmp 22) (.tmp 28) 22 rfl base 5 i0 _ 1 1 Tryz.underlying22 I1.out I2.out I3.out I4.out rfl (by decide) _ _ _ rfl (World.ownsRow.alloc hown.out.1 _) ⟨wr.heap.size,0,none⟩ 1 1 [.int .u8 (x / 16777216%256)] rfl rfl (fun j u hu=>cells_new' wr _ 5 j u hu) (by intro u hu;simp at hu;subst hu;rfl) ?c4 ?c5 ?c6 ?_)
     case c4=>have:=hcs.out;unfold maxLen;omega
     case c5=>have:=hcs.out;omega
     case c6=>simp;omega
     intro v4 w4 hown4 hgrow _;have ho4:=LH (own_bytes rfl hown4);have hl4:=LH (Lays.grownBy (hp.out.alloc _) ⟨World.ownsRow.alloc hown.out.1 _,hown.out.2⟩ hgrow);have hs4:base<=w4.heap.size:=by have:=hgrow.size;simp only [World.size_alloc] at this;omega
     have he4:=heq.out;rw [hnb.out] at he4;have HE4:=LH he4;clear hown4 hgrow he4 hnb;go_wp2_with fail;go_roundw
     case rel=>exact⟨3,cs++[x / 16777216%256],by omega,by first|rfl|go_num,LH (by rw [<- HE4.out];simp),ho4,hl4,hs4⟩
     case measure=>simp [intOf]
  ·have e:xs.take k=xs:=List.take_of_length_le (by omega);rw [e] at hown;go_wp2_with fail;go_ret;exact⟨_,rfl,hown.out,hp.out⟩
set_option maxHeartbeats 4000000 in
theorem lay_int8 (base wide:Nat)(bv lv:Value)(bs xs:List Int)(W:World)(hw:wide=1\/wide=2\/wide=4)(ho:OwnB W base bv bs)(hl:IsNums .i8 W lv xs)(ha:0<xs.length->Apart base lv)(hb:base<=W.heap.size)(hm:bs.length+wide*xs.length<=1000000000) :
  Calls Tryz.prog 143 #[bv,.int .i64 (wide:Int),lv] W (LayPost base wide bs xs W):=by
 have HL:=LH hl;obtain⟨A,cap,rfl,l2,l3,_,l5,l6⟩:=hl;have HA:=LH ha;have L5:=LH l5;have L6:=LH l6;have HW:=LH hw;have hm2:xs.length<=9223372036854775807:=by unfold maxLen at l3;omega
 have w1:1<=wide:=by omega
 have w4:wide<=4:=by omega
 have e1:IntKind.i64.wrap ((wide:Int)-1)=(wide:Int)-1:=by rcases hw with rfl|rfl|rfl <;> decide
 obtain⟨i0,hi0,hz0,hz1,hz2⟩:=info_parts info8;have I1:=LH hi0;have I2:=LH hz0;have I3:=LH hz1;have I4:=LH hz2;clear hi0 hz0 hz1 hz2 l2 l3 l5 l6 ha hw;go_enter Tryz.func143,Tryz.ntmps143;go_wp2_with fail;go_loopw [0,12] (fun v i wr=>∃ k:Nat,k<=xs.length/\i=.int .i64 k/\Hid (OwnB wr base v (bs++numsB wide (xs.take k)))/\Hid (Lays base W wr)/\base<=wr.heap.size) (fun _ i _=>xs.length-(intOf i).toNat)
 case atStart=>exact⟨0,by omega,rfl,LH (by simpa [numsB] using ho),LH (Lays.refl _ _),hb⟩
 case round =>
  clear ho hb;obtain⟨k,hk,rfl,hown,hp,hbs⟩:=hrel;by_cases h:k<xs.length
  ·obtain⟨b,off,rfl,hbb,hc⟩:=L6.out (by omega);have hN:=nums_noRow (by decide) HL.out (HA.out (by omega)) (by omega);have c0:=(hp.out.cell hN).trans (hc k h);have wx:=L5.out (xs.getD k 0) (by simp [List.getD,h]);obtain⟨x,hx⟩:∃ x,xs.getD k 0=x:=⟨_,rfl⟩
   rw [hx] at c0 wx;have hnext:=numsB_take wide xs k h;rw [hx] at hnext;have HX:=LH hnext;have HN:=LH hN;clear hx hc hnext hN;have wx':=LH wx;clear wx;have hlen:(bs++numsB wide (xs.take k)).length+wide<=1000000000:=by
    rw [List.length_append,numsB_len,List.length_take,Nat.min_eq_left (by omega)];have:wide*(k+1)<=wide*xs.length:=Nat.mul_le_mul_left _ h;rw [Nat.mul_add] at this;omega
   have HLEN:=LH hlen;clear hlen;have hx64:IntKind.i64.wrap x=x:=by
    have hx : -128<=x/\x<=127:=by simpa [Lit.wf,IntKind.min,IntKind.max,IntKind.bits,IntKind.signed] using wx'.out
    simp only [IntKind.wrap,IntKind.bits,IntKind.signed];simp;split <;> omega
   go_wp2_with fail;go_loopw [0,9] (fun v i wr=>∃ (m:Nat) (cs:List Int),m<=wide/\i=.int .i64 ((m:Int)-1)/\Hid (cs++numB m x=bs++numsB wide (xs.take k)++numB wide x)/\Hid (OwnB wr base v cs)/\Hid (Lays base W wr)/\base<=wr.heap.size) (fun _ i _=>(intOf i+1).toNat)
   case atStart=>exact⟨wide,_,by omega,rfl,LH rfl,hown,hp,hbs⟩
   case round =>
    clear hown hp hbs;obtain⟨m,cs,hm4,rfl,heq,hown,hp,hbs⟩:=hrel;have hcs:Hid (cs.length+m<=1000000000):=LH (by
     have:=congrArg List.length heq.out;have h2:=HLEN.out;simp only [List.length_append,numB_len] at this h2;omega)
    rcases (show m=0\/m=1\/m=2\/m=3\/m=4 by omega) with rfl|rfl|rfl|rfl|rfl
    ·have he:=heq.out;simp only [numB,List.append_nil,List.append_assoc] at he;rw [<- HX.out] at he;have HE:=LH he;clear he;go_wp2_with fail;go_roundw
     case rel=>exact⟨k+1,by omega,by go_num,LH (by rw [<- HE.out];exact hown.out),hp,hbs⟩
     case measure=>simp [intOf];omega
    ·have d0:decide (0<=((1:Nat):Int)-1)=true:=by decide
     have hnb:=LH (numB_1 x);go_wp2_with (at_builtin;refine wpList_append_own _ rfl (.tmp 22) (.tmp 29) 22 rfl base 5 i0 _ 1 1 Tryz.underlying22 I1.out I2.out I3.out I4.out rfl (by decide) _ _ _ rfl (World.ownsRow.alloc hown.out.1 _) ⟨wr.heap.size,0,none⟩ 1 1 [.int .u8 (x%256)] rfl rfl (fun j u hu=>cells_new' wr _ 5 j u hu) (by intro u hu;simp at hu;subst hu;rfl) ?c4 ?c5 ?c6 ?_)
     case c4=>have:=hcs.out;unfold maxLen;omega
     case c5=>have:=hcs.out;omega
     case c6=>simp;omega
     intro v4 w4 hown4 hgrow _;have ho4:=LH (own_bytes rfl hown4);have hl4:=LH (Lays.grownBy (hp.out.alloc _) ⟨World.ownsRow.alloc hown.out.1 _,hown.out.2⟩ hgrow);have hs4:base<=w4.heap.size:=by have:=hgrow.size;simp only [World.size_alloc] at this;omega
     have he4:=heq.out;rw [hnb.out] at he4;have HE4:=LH he4;clear hown4 hgrow he4 hnb;go_wp2_with fail;go_roundw
     case rel=>exact⟨0,cs++[x%256],by omega,by first|rfl|go_num,LH (by rw [<- HE4.out];simp),ho4,hl4,hs4⟩
     case measure=>simp [intOf]
    ·have d0:decide (0<=((2:Nat):Int)-1)=true:=by decide
     have hnb:=LH (numB_2 x);go_wp2_with (at_builtin;refine wpList_append_own _ rfl (.tmp 22) (.tmp 29) 22 rfl base 5 i0 _ 1 1 Tryz.underlying22 I1.out I2.out I3.out I4.out rfl (by decide) _ _ _ rfl (World.ownsRow.alloc hown.out.1 _) ⟨wr.heap.size,0,none⟩ 1 1 [.int .u8 (x / 256%256)] rfl rfl (fun j u hu=>cells_new' wr _ 5 j u hu) (by intro u hu;simp at hu;subst hu;rfl) ?c4 ?c5 ?c6 ?_)
     case c4=>have:=hcs.out;unfold maxLen;omega
     case c5=>have:=hcs.out;omega
     case c6=>simp;omega
     intro v4 w4 hown4 hgrow _;have ho4:=LH (own_bytes rfl hown4);have hl4:=LH (Lays.grownBy (hp.out.alloc _) ⟨World.ownsRow.alloc hown.out.1 _,hown.out.2⟩ hgrow);have hs4:base<=w4.heap.size:=by have:=hgrow.size;simp only [World.size_alloc] at this;omega
     have he4:=heq.out;rw [hnb.out] at he4;have HE4:=LH he4;clear hown4 hgrow he4 hnb;go_wp2_with fail;go_roundw
     case rel=>exact⟨1,cs++[x / 256%256],by omega,by first|rfl|go_num,LH (by rw [<- HE4.out];simp),ho4,hl4,hs4⟩
     case measure=>simp [intOf]
    ·have d0:decide (0<=((3:Nat):Int)-1)=true:=by decide
     have hnb:=LH (numB_3 x);go_wp2_with (at_builtin;refine wpList_append_own _ rfl (.tmp 22) (.tmp 29) 22 rfl base 5 i0 _ 1 1 Tryz.underlying22 I1.out I2.out I3.out I4.out rfl (by decide) _ _ _ rfl (World.ownsRow.alloc hown.out.1 _) ⟨wr.heap.size,0,none⟩ 1 1 [.int .u8 (x / 65536%256)] rfl rfl (fun j u hu=>cells_new' wr _ 5 j u hu) (by intro u hu;simp at hu;subst hu;rfl) ?c4 ?c5 ?c6 ?_)
     case c4=>have:=hcs.out;unfold maxLen;omega
     case c5=>have:=hcs.out;omega
     case c6=>simp;omega
     intro v4 w4 hown4 hgrow _;have ho4:=LH (own_bytes rfl hown4);have hl4:=LH (Lays.grownBy (hp.out.alloc _) ⟨World.ownsRow.alloc hown.out.1 _,hown.out.2⟩ hgrow);have hs4:base<=w4.heap.size:=by have:=hgrow.size;simp only [World.size_alloc] at this;omega
     have he4:=heq.out;rw [hnb.out] at he4;have HE4:=LH he4;clear hown4 hgrow he4 hnb;go_wp2_with fail;go_roundw
     case rel=>exact⟨2,cs++[x / 65536%256],by omega,by first|rfl|go_num,LH (by rw [<- HE4.out];simp),ho4,hl4,hs4⟩
     case measure=>simp [intOf]
    ·have d0:decide (0<=((4:Nat):Int)-1)=true:=by decide
     have hnb:=LH (numB_4 x);go_wp2_with (at_builtin;refine wpList_append_own _ rfl (.tmp 22) (.tmp 29) 22 rfl base 5 i0 _ 1 1 Tryz.underlying22 I1.out I2.out I3.out I4.out rfl (by decide) _ _ _ rfl (World.ownsRow.alloc hown.out.1 _) ⟨wr.heap.size,0,none⟩ 1 1 [.int .u8 (x / 16777216%256)] rfl rfl (fun j u hu=>cells_new' wr _ 5 j u hu) (by intro u hu;simp at hu;subst hu;rfl) ?c4 ?c5 ?c6 ?_)
     case c4=>have:=hcs.out;unfold maxLen;omega
     case c5=>have:=hcs.out;omega
     case c6=>simp;omega
     intro v4 w4 hown4 hgrow _;have ho4:=LH (own_bytes rfl hown4);have hl4:=LH (Lays.grownBy (hp.out.alloc _) ⟨World.ownsRow.alloc hown.out.1 _,hown.out.2⟩ hgrow);have hs4:base<=w4.heap.size:=by have:=hgrow.size;simp only [World.size_alloc] at this;omega
     have he4:=heq.out;rw [hnb.out] at he4;have HE4:=LH he4;clear hown4 hgrow he4 hnb;go_wp2_with fail;go_roundw
     case rel=>exact⟨3,cs++[x / 16777216%256],by omega,by first|rfl|go_num,LH (by rw [<- HE4.out];simp),ho4,hl4,hs4⟩
     case measure=>simp [intOf]
  ·have e:xs.take k=xs:=List.take_of_length_le (by omega);rw [e] at hown;go_wp2_with fail;go_ret;exact⟨_,rfl,hown.out,hp.out⟩
set_option maxHeartbeats 4000000 in
theorem lay_int32 (base wide:Nat)(bv lv:Value)(bs xs:List Int)(W:World)(hw:wide=1\/wide=2\/wide=4)(ho:OwnB W base bv bs)(hl:IsNums .i32 W lv xs)(ha:0<xs.length->Apart base lv)(hb:base<=W.heap.size)(hm:bs.length+wide*xs.length<=1000000000) :
  Calls Tryz.prog 144 #[bv,.int .i64 (wide:Int),lv] W (LayPost base wide bs xs W):=by
 have HL:=LH hl;obtain⟨A,cap,rfl,l2,l3,_,l5,l6⟩:=hl;have HA:=LH ha;have L5:=LH l5;have L6:=LH l6;have HW:=LH hw;have hm2:xs.length<=9223372036854775807:=by unfold maxLen at l3;omega
 have w1:1<=wide:=by omega
 have w4:wide<=4:=by omega
 have e1:IntKind.i64.wrap ((wide:Int)-1)=(wide:Int)-1:=by rcases hw with rfl|rfl|rfl <;> decide
 obtain⟨i0,hi0,hz0,hz1,hz2⟩:=info_parts info8;have I1:=LH hi0;have I2:=LH hz0;have I3:=LH hz1;have I4:=LH hz2;clear hi0 hz0 hz1 hz2 l2 l3 l5 l6 ha hw;go_enter Tryz.func144,Tryz.ntmps144;go_wp2_with fail;go_loopw [0,12] (fun v i wr=>∃ k:Nat,k<=xs.length/\i=.int .i64 k/\Hid (OwnB wr base v (bs++numsB wide (xs.take k)))/\Hid (Lays base W wr)/\base<=wr.heap.size) (fun _ i _=>xs.length-(intOf i).toNat)
 case atStart=>exact⟨0,by omega,rfl,LH (by simpa [numsB] using ho),LH (Lays.refl _ _),hb⟩
 case round =>
  clear ho hb;obtain⟨k,hk,rfl,hown,hp,hbs⟩:=hrel;by_cases h:k<xs.length
  ·obtain⟨b,off,rfl,hbb,hc⟩:=L6.out (by omega);have hN:=nums_noRow (by decide) HL.out (HA.out (by omega)) (by omega);have c0:=(hp.out.cell hN).trans (hc k h);have wx:=L5.out (xs.getD k 0) (by simp [List.getD,h]);obtain⟨x,hx⟩:∃ x,xs.getD k 0=x:=⟨_,rfl⟩
   rw [hx] at c0 wx;have hnext:=numsB_take wide xs k h;rw [hx] at hnext;have HX:=LH hnext;have HN:=LH hN;clear hx hc hnext hN;have wx':=LH wx;clear wx;have hlen:(bs++numsB wide (xs.take k)).length+wide<=1000000000:=by
    rw [List.length_append,numsB_len,List.length_take,Nat.min_eq_left (by omega)];have:wide*(k+1)<=wide*xs.length:=Nat.mul_le_mul_left _ h;rw [Nat.mul_add] at this;omega
   have HLEN:=LH hlen;clear hlen;have hx64:IntKind.i64.wrap x=x:=by
    have hx : -2147483648<=x/\x<=2147483647:=by simpa [Lit.wf,IntKind.min,IntKind.max,IntKind.bits,IntKind.signed] using wx'.out
    simp only [IntKind.wrap,IntKind.bits,IntKind.signed];simp;split <;> omega
   go_wp2_with fail;go_loopw [0,9] (fun v i wr=>∃ (m:Nat) (cs:List Int),m<=wide/\i=.int .i64 ((m:Int)-1)/\Hid (cs++numB m x=bs++numsB wide (xs.take k)++numB wide x)/\Hid (OwnB wr base v cs)/\Hid (Lays base W wr)/\base<=wr.heap.size) (fun _ i _=>(intOf i+1).toNat)
   case atStart=>exact⟨wide,_,by omega,rfl,LH rfl,hown,hp,hbs⟩
   case round =>
    clear hown hp hbs;obtain⟨m,cs,hm4,rfl,heq,hown,hp,hbs⟩:=hrel;have hcs:Hid (cs.length+m<=1000000000):=LH (by
     have:=congrArg List.length heq.out;have h2:=HLEN.out;simp only [List.length_append,numB_len] at this h2;omega)
    rcases (show m=0\/m=1\/m=2\/m=3\/m=4 by omega) with rfl|rfl|rfl|rfl|rfl
    ·have he:=heq.out;simp only [numB,List.append_nil,List.append_assoc] at he;rw [<- HX.out] at he;have HE:=LH he;clear he;go_wp2_with fail;go_roundw
     case rel=>exact⟨k+1,by omega,by go_num,LH (by rw [<- HE.out];exact hown.out),hp,hbs⟩
     case measure=>simp [intOf];omega
    ·have d0:decide (0<=((1:Nat):Int)-1)=true:=by decide
     have hnb:=LH (numB_1 x);go_wp2_with (at_builtin;refine wpList_append_own _ rfl (.tmp 22) (.tmp 29) 22 rfl base 5 i0 _ 1 1 Tryz.underlying22 I1.out I2.out I3.out I4.out rfl (by decide) _ _ _ rfl (World.ownsRow.alloc hown.out.1 _) ⟨wr.heap.size,0,none⟩ 1 1 [.int .u8 (x%256)] rfl rfl (fun j u hu=>cells_new' wr _ 5 j u hu) (by intro u hu;simp at hu;subst hu;rfl) ?c4 ?c5 ?c6 ?_)
     case c4=>have:=hcs.out;unfold maxLen;omega
     case c5=>have:=hcs.out;omega
     case c6=>simp;omega
     intro v4 w4 hown4 hgrow _;have ho4:=LH (own_bytes rfl hown4);have hl4:=LH (Lays.grownBy (hp.out.alloc _) ⟨World.ownsRow.alloc hown.out.1 _,hown.out.2⟩ hgrow);have hs4:base<=w4.heap.size:=by have:=hgrow.size;simp only [World.size_alloc] at this;omega
     have he4:=heq.out;rw [hnb.out] at he4;have HE4:=LH he4;clear hown4 hgrow he4 hnb;go_wp2_with fail;go_roundw
     case rel=>exact⟨0,cs++[x%256],by omega,by first|rfl|go_num,LH (by rw [<- HE4.out];simp),ho4,hl4,hs4⟩
     case measure=>simp [intOf]
    ·have d0:decide (0<=((2:Nat):Int)-1)=true:=by decide
     have hnb:=LH (numB_2 x);go_wp2_with (at_builtin;refine wpList_append_own _ rfl (.tmp 22) (.tmp 29) 22 rfl base 5 i0 _ 1 1 Tryz.underlying22 I1.out I2.out I3.out I4.out rfl (by decide) _ _ _ rfl (World.ownsRow.alloc hown.out.1 _) ⟨wr.heap.size,0,none⟩ 1 1 [.int .u8 (x / 256%256)] rfl rfl (fun j u hu=>cells_new' wr _ 5 j u hu) (by intro u hu;simp at hu;subst hu;rfl) ?c4 ?c5 ?c6 ?_)
     case c4=>have:=hcs.out;unfold maxLen;omega
     case c5=>have:=hcs.out;omega
     case c6=>simp;omega
     intro v4 w4 hown4 hgrow _;have ho4:=LH (own_bytes rfl hown4);have hl4:=LH (Lays.grownBy (hp.out.alloc _) ⟨World.ownsRow.alloc hown.out.1 _,hown.out.2⟩ hgrow);have hs4:base<=w4.heap.size:=by have:=hgrow.size;simp only [World.size_alloc] at this;omega
     have he4:=heq.out;rw [hnb.out] at he4;have HE4:=LH he4;clear hown4 hgrow he4 hnb;go_wp2_with fail;go_roundw
     case rel=>exact⟨1,cs++[x / 256%256],by omega,by first|rfl|go_num,LH (by rw [<- HE4.out];simp),ho4,hl4,hs4⟩
     case measure=>simp [intOf]
    ·have d0:decide (0<=((3:Nat):Int)-1)=true:=by decide
     have hnb:=LH (numB_3 x);go_wp2_with (at_builtin;refine wpList_append_own _ rfl (.tmp 22) (.tmp 29) 22 rfl base 5 i0 _ 1 1 Tryz.underlying22 I1.out I2.out I3.out I4.out rfl (by decide) _ _ _ rfl (World.ownsRow.alloc hown.out.1 _) ⟨wr.heap.size,0,none⟩ 1 1 [.int .u8 (x / 65536%256)] rfl rfl (fun j u hu=>cells_new' wr _ 5 j u hu) (by intro u hu;simp at hu;subst hu;rfl) ?c4 ?c5 ?c6 ?_)
     case c4=>have:=hcs.out;unfold maxLen;omega
     case c5=>have:=hcs.out;omega
     case c6=>simp;omega
     intro v4 w4 hown4 hgrow _;have ho4:=LH (own_bytes rfl hown4);have hl4:=LH (Lays.grownBy (hp.out.alloc _) ⟨World.ownsRow.alloc hown.out.1 _,hown.out.2⟩ hgrow);have hs4:base<=w4.heap.size:=by have:=hgrow.size;simp only [World.size_alloc] at this;omega
     have he4:=heq.out;rw [hnb.out] at he4;have HE4:=LH he4;clear hown4 hgrow he4 hnb;go_wp2_with fail;go_roundw
     case rel=>exact⟨2,cs++[x / 65536%256],by omega,by first|rfl|go_num,LH (by rw [<- HE4.out];simp),ho4,hl4,hs4⟩
     case measure=>simp [intOf]
    ·have d0:decide (0<=((4:Nat):Int)-1)=true:=by decide
     have hnb:=LH (numB_4 x);go_wp2_with (at_builtin;refine wpList_append_own _ rfl (.tmp 22) (.tmp 29) 22 rfl base 5 i0 _ 1 1 Tryz.underlying22 I1.out I2.out I3.out I4.out rfl (by decide) _ _ _ rfl (World.ownsRow.alloc hown.out.1 _) ⟨wr.heap.size,0,none⟩ 1 1 [.int .u8 (x / 16777216%256)] rfl rfl (fun j u hu=>cells_new' wr _ 5 j u hu) (by intro u hu;simp at hu;subst hu;rfl) ?c4 ?c5 ?c6 ?_)
     case c4=>have:=hcs.out;unfold maxLen;omega
     case c5=>have:=hcs.out;omega
     case c6=>simp;omega
     intro v4 w4 hown4 hgrow _;have ho4:=LH (own_bytes rfl hown4);have hl4:=LH (Lays.grownBy (hp.out.alloc _) ⟨World.ownsRow.alloc hown.out.1 _,hown.out.2⟩ hgrow);have hs4:base<=w4.heap.size:=by have:=hgrow.size;simp only [World.size_alloc] at this;omega
     have he4:=heq.out;rw [hnb.out] at he4;have HE4:=LH he4;clear hown4 hgrow he4 hnb;go_wp2_with fail;go_roundw
     case rel=>exact⟨3,cs++[x / 16777216%256],by omega,by first|rfl|go_num,LH (by rw [<- HE4.out];simp),ho4,hl4,hs4⟩
     case measure=>simp [intOf]
  ·have e:xs.take k=xs:=List.take_of_length_le (by omega);rw [e] at hown;go_wp2_with fail;go_ret;exact⟨_,rfl,hown.out,hp.out⟩
end Go.Proofs.YtejllmjkeefloaaGreat
namespace Go.Proofs.YtejllmjkeefloaaGreat
open Go.ChangeShapes Go.WideShapes Go.ChangeAt Go.RowKit
set_option maxRecDepth 20000
set_option linter.unusedVariables false
theorem OwnB.alloc {w:World}{base:Nat}{v:Value}{xs:List Int}(h:OwnB w base v xs)(x:Obj):OwnB (w.alloc x) base v xs:=⟨World.ownsRow.alloc h.1 x,h.2⟩
theorem OwnB.slice {w:World}{base:Nat}{v:Value}{xs:List Int}(h:OwnB w base v xs):∃ A c,v=.slice A xs.length c:=by
 obtain⟨A,c,e,_⟩:=own_slice' h.1;exact⟨A,c,e⟩
theorem nums_new (k:IntKind) (w:World) (t:TypeId) (xs:List Int) (h0:0<xs.length) (hm:xs.length<=maxLen) (wf:∀ x∈xs,(Lit.int k x).wf=true):IsNums k (w.alloc (.cells ⟨xs.map (Value.int k)⟩ t)) (.slice (some ⟨w.heap.size,0,none⟩) xs.length xs.length) xs :=
 ⟨some ⟨w.heap.size,0,none⟩,xs.length,rfl,Nat.le_refl _,hm,(fun h=>by cases h),wf,fun _=>⟨w.heap.size,0,rfl,by simp,fun i hi=>by
  have:=cells_new' w (xs.map (Value.int k)) t i (.int k (xs.getD i 0)) (by simp [List.getD,hi]);rw [add_plain] at this;exact this⟩⟩
theorem apart0 (base b l c:Nat):Apart base (.slice (some ⟨b,0,none⟩) l c):=fun b' o s l' c' e=>by
 simp only [Value.slice.injEq,Option.some.injEq,Addr.mk.injEq] at e;exact .inr e.1.2.1.symm
theorem apart_old {w:World}{k:IntKind}{v:Value}{xs:List Int}{base:Nat}(hb:w.heap.size<=base)(h:IsNums k w v xs)(h0:0<xs.length):Apart base v:=fun b o s l c e=>by
 obtain⟨A,cap,rfl,_,_,_,_,h6⟩:=h;obtain⟨b',off',rfl,hb',_⟩:=h6 h0;simp only [Value.slice.injEq,Option.some.injEq,Addr.mk.injEq] at e;obtain⟨⟨rfl,_⟩,_⟩:=e;exact .inl (by omega)
theorem len_wf (n:Nat)(h:n<=1000000000):(Lit.int .i64 (n:Int)).wf=true:=by simp [Lit.wf,IntKind.min,IntKind.max,IntKind.bits,IntKind.signed];omega
def LaidPost (base:Nat)(cs:List Int)(w:World)(e:Ending)(w':World):Prop:=∃ v',e=.returned v'/\OwnB w' base v' cs/\Lays base w w'
set_option maxHeartbeats 1000000 in
theorem list_int (base many wide:Nat)(bv lv:Value)(bs xs:List Int)(W:World)(hm':many=1\/many=2\/many=4)(hw:wide=1\/wide=2\/wide=4)(ho:OwnB W base bv bs)(hl:IsNums .i64 W lv xs)(ha:0<xs.length->Apart base lv)(hb:base<=W.heap.size)(hm:bs.length+many+wide*xs.length<=1000000000) :
  Calls Tryz.prog 82 #[bv,.int .i64 (many:Int),.int .i64 (wide:Int),lv] W (LaidPost base (bs++listB many wide xs) W):=by
 have HL:=LH hl;have hx:xs.length<=1000000000:=by rcases hw with rfl|rfl|rfl <;> omega
 obtain⟨A,cap,rfl,l2,l3,_,l5,l6⟩:=hl;have HA:=LH ha
 have C1:=LH (lay_int base many bv (.slice (some ⟨W.heap.size,0,none⟩) 1 1) bs [(xs.length:Int)] (W.alloc (.cells #[.int .i64 (xs.length:Int)] 3)) hm' (ho.alloc _)
  (nums_new .i64 W 3 [(xs.length:Int)] (by simp) (by simp [maxLen]) (by simp;exact len_wf _ hx)) (fun _=>apart0 _ _ _ _) (by simp;omega) (by simp;omega))
 have C2:=fun v w (k:OwnB w base v (bs++numsB many [(xs.length:Int)])) (g:Lays base (W.alloc (.cells #[.int .i64 (xs.length:Int)] 3)) w) =>
  lay_int base wide v (.slice A xs.length cap) (bs++numsB many [(xs.length:Int)]) xs w hw k (nums_lays (by decide) HL.out HA.out (((Lays.refl base W).alloc _).trans g)) HA.out (by have:=g.2.2.1;simp at this;omega) (by rw [List.length_append,numsB_len];simp;omega)
 have C2:=LH C2;clear l2 l3 l5 l6 ha ho hm' hw hm;go_enter Tryz.func82,Tryz.ntmps82;go_wp2_with fail;refine C1.out.mono ?_;rintro e w1 ⟨v1,rfl,o1,g1⟩;go_wp2_with fail;refine(C2.out v1 w1 o1 g1).mono ?_;rintro e w2 ⟨v2,rfl,o2,g2⟩;have G:=((Lays.refl base W).alloc (.cells #[.int .i64 (xs.length:Int)] 3)).trans (g1.trans g2);clear C1 C2 g1 g2;go_wp2_with fail;go_ret;exact⟨_,rfl,by simpa [listB] using o2,G⟩
set_option maxHeartbeats 1000000 in
theorem list_int8 (base many wide:Nat)(bv lv:Value)(bs xs:List Int)(W:World)(hm':many=1\/many=2\/many=4)(hw:wide=1\/wide=2\/wide=4)(ho:OwnB W base bv bs)(hl:IsNums .i8 W lv xs)(ha:0<xs.length->Apart base lv)(hb:base<=W.heap.size)(hm:bs.length+many+wide*xs.length<=1000000000) :
  Calls Tryz.prog 111 #[bv,.int .i64 (many:Int),.int .i64 (wide:Int),lv] W (LaidPost base (bs++listB many wide xs) W):=by
 have HL:=LH hl;have hx:xs.length<=1000000000:=by rcases hw with rfl|rfl|rfl <;> omega
 obtain⟨A,cap,rfl,l2,l3,_,l5,l6⟩:=hl;have HA:=LH ha
 have C1:=LH (lay_int base many bv (.slice (some ⟨W.heap.size,0,none⟩) 1 1) bs [(xs.length:Int)] (W.alloc (.cells #[.int .i64 (xs.length:Int)] 3)) hm' (ho.alloc _)
  (nums_new .i64 W 3 [(xs.length:Int)] (by simp) (by simp [maxLen]) (by simp;exact len_wf _ hx)) (fun _=>apart0 _ _ _ _) (by simp;omega) (by simp;omega))
 have C2:=fun v w (k:OwnB w base v (bs++numsB many [(xs.length:Int)])) (g:Lays base (W.alloc (.cells #[.int .i64 (xs.length:Int)] 3)) w) =>
  lay_int8 base wide v (.slice A xs.length cap) (bs++numsB many [(xs.length:Int)]) xs w hw k (nums_lays (by decide) HL.out HA.out (((Lays.refl base W).alloc _).trans g)) HA.out (by have:=g.2.2.1;simp at this;omega) (by rw [List.length_append,numsB_len];simp;omega)
 have C2:=LH C2;clear l2 l3 l5 l6 ha ho hm' hw hm;go_enter Tryz.func111,Tryz.ntmps111;go_wp2_with fail;refine C1.out.mono ?_;rintro e w1 ⟨v1,rfl,o1,g1⟩;go_wp2_with fail;refine(C2.out v1 w1 o1 g1).mono ?_;rintro e w2 ⟨v2,rfl,o2,g2⟩;have G:=((Lays.refl base W).alloc (.cells #[.int .i64 (xs.length:Int)] 3)).trans (g1.trans g2);clear C1 C2 g1 g2;go_wp2_with fail;go_ret;exact⟨_,rfl,by simpa [listB] using o2,G⟩
set_option maxHeartbeats 1000000 in
theorem list_int32 (base many wide:Nat)(bv lv:Value)(bs xs:List Int)(W:World)(hm':many=1\/many=2\/many=4)(hw:wide=1\/wide=2\/wide=4)(ho:OwnB W base bv bs)(hl:IsNums .i32 W lv xs)(ha:0<xs.length->Apart base lv)(hb:base<=W.heap.size)(hm:bs.length+many+wide*xs.length<=1000000000) :
  Calls Tryz.prog 112 #[bv,.int .i64 (many:Int),.int .i64 (wide:Int),lv] W (LaidPost base (bs++listB many wide xs) W):=by
 have HL:=LH hl;have hx:xs.length<=1000000000:=by rcases hw with rfl|rfl|rfl <;> omega
 obtain⟨A,cap,rfl,l2,l3,_,l5,l6⟩:=hl;have HA:=LH ha
 have C1:=LH (lay_int base many bv (.slice (some ⟨W.heap.size,0,none⟩) 1 1) bs [(xs.length:Int)] (W.alloc (.cells #[.int .i64 (xs.length:Int)] 3)) hm' (ho.alloc _)
  (nums_new .i64 W 3 [(xs.length:Int)] (by simp) (by simp [maxLen]) (by simp;exact len_wf _ hx)) (fun _=>apart0 _ _ _ _) (by simp;omega) (by simp;omega))
 have C2:=fun v w (k:OwnB w base v (bs++numsB many [(xs.length:Int)])) (g:Lays base (W.alloc (.cells #[.int .i64 (xs.length:Int)] 3)) w) =>
  lay_int32 base wide v (.slice A xs.length cap) (bs++numsB many [(xs.length:Int)]) xs w hw k (nums_lays (by decide) HL.out HA.out (((Lays.refl base W).alloc _).trans g)) HA.out (by have:=g.2.2.1;simp at this;omega) (by rw [List.length_append,numsB_len];simp;omega)
 have C2:=LH C2;clear l2 l3 l5 l6 ha ho hm' hw hm;go_enter Tryz.func112,Tryz.ntmps112;go_wp2_with fail;refine C1.out.mono ?_;rintro e w1 ⟨v1,rfl,o1,g1⟩;go_wp2_with fail;refine(C2.out v1 w1 o1 g1).mono ?_;rintro e w2 ⟨v2,rfl,o2,g2⟩;have G:=((Lays.refl base W).alloc (.cells #[.int .i64 (xs.length:Int)] 3)).trans (g1.trans g2);clear C1 C2 g1 g2;go_wp2_with fail;go_ret;exact⟨_,rfl,by simpa [listB] using o2,G⟩
end Go.Proofs.YtejllmjkeefloaaGreat
namespace Go.Proofs.YtejllmjkeefloaaGreat
open Go.ChangeShapes Go.WideShapes Go.ChangeAt Go.RowKit
set_option maxRecDepth 20000
set_option linter.unusedVariables false
theorem box_lays {w w':World}{base P:Nat}{cs:Array Value}(h:(Bx w P cs))(hN:NoRow w base P)(g:Lays base w w'):(Bx w' P cs):=fun o=>(g.cell hN).trans (h o)
theorem noRow_box {w:World}{base P:Nat}{cs:Array Value}(h:(Bx w P cs))(u:Value)(hu:cs[0]? = some u)(hn:∀ n,u≠.int .u8 n):NoRow w base P :=
 ⟨cell_lt ((h 0).trans hu),.inr ⟨u,(h 0).trans hu,hn⟩⟩
theorem noRow_node {w:World}{base P:Nat}{n:NodeD}{vi vw vb:Value}(h:(Bx w P (nC n vi vw vb))):NoRow w base P :=
 noRow_box h (.int .i64 n.op) (by simp) (by simp)
set_option maxHeartbeats 4000000 in
theorem layNode_any (base:Nat) (bv:Value) (bs:List Int) (n:NodeD) (vi vw vb:Value) (W:World) (ho:OwnB W base bv bs) (hin:NodeIn W n vi vw vb) (wf:NodeWf n)
  (ai:0<n.ins.length→Apart base vi) (aw:0<n.ws.length→Apart base vw) (ab:0<n.bs.length→Apart base vb) (hb:base≤W.heap.size) (hm:bs.length+(nodeB n).length≤1000000000) :
  Calls Tryz.prog 81 #[bv,.agg (nC n vi vw vb)] W (LaidPost base (bs++nodeB n) W):=by
 obtain ⟨f0,f2,f3,f4,f5,f6,f7,f8,f9,f10,f11⟩:=wf
 rw [nodeB_len] at hm
 have HO:=LH ho
 have HI:=LH hin.1
 have HW:=LH hin.2.1
 have HB:=LH hin.2.2
 have AI:=LH ai
 have AW:=LH aw
 have AB:=LH ab
 have F:=LH (And.intro f0 (And.intro f2 (And.intro f3 (And.intro f4 (And.intro f5 (And.intro f6 (And.intro f7 (And.intro f8 (And.intro f9 (And.intro f10 f11))))))))))
 clear f0 f2 f3 f4 f5 f6 f7 f8 f9 f10 f11 ho hin ai aw ab
 go_enter Tryz.func81,Tryz.ntmps81
 go_upto_region 1 with fail
 obtain ⟨P,hP⟩:∃ P,W.heap.size=P:=⟨_,rfl⟩
 refine opq (fun w'=>(Bx w' P (nC n vi vw vb))∧OwnB w' base bv bs∧Hid (Lays base W w')∧base≤w'.heap.size) (by
  subst hP
  exact ⟨box_new rfl,HO.out.alloc _,LH ((Lays.refl base W).alloc _),by simp;omega⟩) ?_
 rintro w0 ⟨b0,o0,g0,s0⟩
 rw [hP]
 have C0:=LH (lay_int base 1 bv (.slice (some ⟨w0.heap.size,0,none⟩) 1 1) (bs) [n.op] (w0.alloc (.cells #[.int .i64 n.op] 3)) (by omega) (o0.alloc _)
  (nums_new .i64 w0 3 [n.op] (by simp) (by simp [maxLen]) (by
  intro x hx
  simp only [List.mem_cons,List.not_mem_nil,or_false] at hx
  rcases hx with rfl
  ·exact F.out.1)) (fun _=>apart0 _ _ _ _) (by simp;omega) (by simp only [List.length_cons,List.length_nil];omega))
 go_wp2_with fail
 refine C0.out.mono ?_
 rintro e w1 ⟨v1,rfl,o1,h1⟩
 have k1:=((Lays.refl base w0).alloc (.cells #[.int .i64 n.op] 3)).trans h1
 have b1:=box_lays b0 (noRow_node b0) k1
 have g1:=LH (g0.out.trans k1)
 have s1:base≤w1.heap.size:=by have:=k1.2.2.1;omega
 clear C0 k1 b0 o0 g0 s0 h1
 have C1:=LH (list_int base 1 1 v1 vi (bs++numsB 1 [n.op]) n.ins w1 (by omega) (by omega) o1 (nums_lays (by decide) HI.out AI.out g1.out) AI.out s1 (by simp only [List.length_append,numsB_len,List.length_cons,List.length_nil];omega))
 go_wp2_with fail
 refine C1.out.mono ?_
 rintro e w2 ⟨v2,rfl,o2,k2⟩
 have b2:=box_lays b1 (noRow_node b1) k2
 have g2:=LH (g1.out.trans k2)
 have s2:base≤w2.heap.size:=by have:=k2.2.2.1;omega
 clear C1 k2 b1 o1 g1 s1
 have C2:=LH (lay_int base 1 v2 (.slice (some ⟨w2.heap.size,0,none⟩) 4 4) (bs++numsB 1 [n.op]++listB 1 1 n.ins) [n.k,n.stride,n.pad,n.out] (w2.alloc (.cells #[.int .i64 n.k,.int .i64 n.stride,.int .i64 n.pad,.int .i64 n.out] 3)) (by omega) (o2.alloc _)
  (nums_new .i64 w2 3 [n.k,n.stride,n.pad,n.out] (by simp) (by simp [maxLen]) (by
  intro x hx
  simp only [List.mem_cons,List.not_mem_nil,or_false] at hx
  rcases hx with rfl|rfl|rfl|rfl
  ·exact F.out.2.1
  ·exact F.out.2.2.1
  ·exact F.out.2.2.2.1
  ·exact F.out.2.2.2.2.1)) (fun _=>apart0 _ _ _ _) (by simp;omega) (by simp only [List.length_append,numsB_len,listB_len,List.length_cons,List.length_nil];omega))
 go_wp2_with fail
 refine C2.out.mono ?_
 rintro e w3 ⟨v3,rfl,o3,h3⟩
 have k3:=((Lays.refl base w2).alloc (.cells #[.int .i64 n.k,.int .i64 n.stride,.int .i64 n.pad,.int .i64 n.out] 3)).trans h3
 have b3:=box_lays b2 (noRow_node b2) k3
 have g3:=LH (g2.out.trans k3)
 have s3:base≤w3.heap.size:=by have:=k3.2.2.1;omega
 clear C2 k3 b2 o2 g2 s2 h3
 have C3:=LH (lay_int base 2 v3 (.slice (some ⟨w3.heap.size,0,none⟩) 1 1) (bs++numsB 1 [n.op]++listB 1 1 n.ins++numsB 1 [n.k,n.stride,n.pad,n.out]) [n.mul] (w3.alloc (.cells #[.int .i64 n.mul] 3)) (by omega) (o3.alloc _)
  (nums_new .i64 w3 3 [n.mul] (by simp) (by simp [maxLen]) (by
  intro x hx
  simp only [List.mem_cons,List.not_mem_nil,or_false] at hx
  rcases hx with rfl
  ·exact F.out.2.2.2.2.2.1)) (fun _=>apart0 _ _ _ _) (by simp;omega) (by simp only [List.length_append,numsB_len,listB_len,List.length_cons,List.length_nil];omega))
 go_wp2_with fail
 refine C3.out.mono ?_
 rintro e w4 ⟨v4,rfl,o4,h4⟩
 have k4:=((Lays.refl base w3).alloc (.cells #[.int .i64 n.mul] 3)).trans h4
 have b4:=box_lays b3 (noRow_node b3) k4
 have g4:=LH (g3.out.trans k4)
 have s4:base≤w4.heap.size:=by have:=k4.2.2.1;omega
 clear C3 k4 b3 o3 g3 s3 h4
 have C4:=LH (lay_int base 1 v4 (.slice (some ⟨w4.heap.size,0,none⟩) 5 5) (bs++numsB 1 [n.op]++listB 1 1 n.ins++numsB 1 [n.k,n.stride,n.pad,n.out]++numsB 2 [n.mul]) [n.shift,n.zero,n.th,n.tw,n.tc] (w4.alloc (.cells #[.int .i64 n.shift,.int .i64 n.zero,.int .i64 n.th,.int .i64 n.tw,.int .i64 n.tc] 3)) (by omega) (o4.alloc _)
  (nums_new .i64 w4 3 [n.shift,n.zero,n.th,n.tw,n.tc] (by simp) (by simp [maxLen]) (by
  intro x hx
  simp only [List.mem_cons,List.not_mem_nil,or_false] at hx
  rcases hx with rfl|rfl|rfl|rfl|rfl
  ·exact F.out.2.2.2.2.2.2.1
  ·exact F.out.2.2.2.2.2.2.2.1
  ·exact F.out.2.2.2.2.2.2.2.2.1
  ·exact F.out.2.2.2.2.2.2.2.2.2.1
  ·exact F.out.2.2.2.2.2.2.2.2.2.2)) (fun _=>apart0 _ _ _ _) (by simp;omega) (by simp only [List.length_append,numsB_len,listB_len,List.length_cons,List.length_nil];omega))
 go_wp2_with fail
 refine C4.out.mono ?_
 rintro e w5 ⟨v5,rfl,o5,h5⟩
 have k5:=((Lays.refl base w4).alloc (.cells #[.int .i64 n.shift,.int .i64 n.zero,.int .i64 n.th,.int .i64 n.tw,.int .i64 n.tc] 3)).trans h5
 have b5:=box_lays b4 (noRow_node b4) k5
 have g5:=LH (g4.out.trans k5)
 have s5:base≤w5.heap.size:=by have:=k5.2.2.1;omega
 clear C4 k5 b4 o4 g4 s4 h5
 have C5:=LH (list_int8 base 2 1 v5 vw (bs++numsB 1 [n.op]++listB 1 1 n.ins++numsB 1 [n.k,n.stride,n.pad,n.out]++numsB 2 [n.mul]++numsB 1 [n.shift,n.zero,n.th,n.tw,n.tc]) n.ws w5 (by omega) (by omega) o5 (nums_lays (by decide) HW.out AW.out g5.out) AW.out s5 (by simp only [List.length_append,numsB_len,listB_len,List.length_cons,List.length_nil];omega))
 go_wp2_with fail
 refine C5.out.mono ?_
 rintro e w6 ⟨v6,rfl,o6,k6⟩
 have b6:=box_lays b5 (noRow_node b5) k6
 have g6:=LH (g5.out.trans k6)
 have s6:base≤w6.heap.size:=by have:=k6.2.2.1;omega
 clear C5 k6 b5 o5 g5 s5
 have C6:=LH (list_int32 base 1 4 v6 vb (bs++numsB 1 [n.op]++listB 1 1 n.ins++numsB 1 [n.k,n.stride,n.pad,n.out]++numsB 2 [n.mul]++numsB 1 [n.shift,n.zero,n.th,n.tw,n.tc]++listB 2 1 n.ws) n.bs w6 (by omega) (by omega) o6 (nums_lays (by decide) HB.out AB.out g6.out) AB.out s6 (by simp only [List.length_append,numsB_len,listB_len,List.length_cons,List.length_nil];omega))
 go_wp2_with fail
 refine C6.out.mono ?_
 rintro e w7 ⟨v7,rfl,o7,k7⟩
 have b7:=box_lays b6 (noRow_node b6) k7
 have g7:=LH (g6.out.trans k7)
 have s7:base≤w7.heap.size:=by have:=k7.2.2.1;omega
 clear C6 k7 b6 o6 g6 s6
 go_wp2_with fail
 go_ret
 exact ⟨v7,rfl,by simpa only [nodeB,List.append_assoc] using o7,g7.out⟩
end Go.Proofs.YtejllmjkeefloaaGreat
