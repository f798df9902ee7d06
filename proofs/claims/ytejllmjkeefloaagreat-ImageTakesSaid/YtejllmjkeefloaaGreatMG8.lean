/- slices.ContainsFunc over values and over numbers. The reference of layer 4: number, some. -/
import Derived.Test.YtejllmjkeefloaaGreatMN3
namespace Go.Proofs.YtejllmjkeefloaaGreat
open Go.ChangeShapes Go.WideShapes Go.ChangeAt Go.RowKit
set_option maxRecDepth 20000
set_option linter.unusedVariables false
def IdxPost (any:Prop)(W:World)(e:Ending)(w':World):Prop:=∃ i:Int,e=.returned (.int .i64 i)/\((0<=i/\any)\/(i = -1/\¬ any))/\Grown W w'
set_option maxHeartbeats 1000000 in
theorem indexVals_any (fid:FuncId) (p:ValD→Bool) (xs:List ValD) (v:Value) (W:World) (hv:IsVals W v xs)
  (hE:∀ (xs:Array Value) (w:World),(callFunc fid xs).run Tryz.prog w=.ok (.enter fid xs) w)
  (hF:∀ x∈xs,∀ w,Calls Tryz.prog fid #[.agg #[.int .i64 x.h,.int .i64 x.w,.int .i64 x.c,.int .i64 x.z]] w fun e w'=>e=.returned (.bool (p x))∧Grown w w') :
  Calls Tryz.prog 119 #[v,.func (.func fid) #[] #[]] W (IdxPost (∃ j,j<xs.length∧p (xs.getD j default)=true) W):=by
 obtain ⟨A,c1,rfl,a1,a2,a3,a4,a5⟩:=hv
 have hl1:xs.length≤9223372036854775807:=by unfold maxLen at a2;omega
 have HF:=LH hF
 have HE:=LH hE
 have A5:=LH a5
 clear a2 a3 a4 hF hE a5
 go_enter Tryz.func119,Tryz.ntmps119
 go_wp2_with fail
 go_loopw [8] (fun i wr=>∃ k:Nat,k≤xs.length∧i=.int .i64 k∧Hid (∀ j,j<k→p (xs.getD j default)=false)∧Grown W wr) (fun i _=>xs.length-(intOf i).toNat)
 case atStart=>exact ⟨0,by omega,rfl,LH (fun j h=>by omega),Grown.refl _⟩
 case round =>
  obtain ⟨k,hk,rfl,hs,hg⟩:=hrel
  by_cases l:k<xs.length
  ·obtain ⟨b,off,rfl,hb,hc⟩:=A5.out (by omega)
   obtain ⟨m0,m1,m2,m3⟩:=(hc k l).grow hb (Grown.past hg)
   clear hc
   have hm:xs.getD k default∈xs:=by simp [List.getD,l]
   obtain ⟨x,hx⟩:∃ x,xs.getD k default=x:=⟨_,rfl⟩
   rw [hx] at m0 m1 m2 m3 hm
   have HX:=LH hx
   have HM:=LH hm
   clear hx hm
   have i1:(0:Int)≤(k:Int):=by omega
   have i2:(k:Int)<(xs.length:Int):=by omega
   have hE:=fun xs w=>HE.out xs w
   cases hp:p x with
   | true =>
    go_wp2_with fail
    refine (HF.out x HM.out _).mono ?_;rintro e w1 ⟨rfl,g⟩
    rw [hp]
    clear hE
    go_wp2_with fail
    go_ret
    exact ⟨_,rfl,.inl ⟨by omega,k,l,by rw [HX.out,hp]⟩,grown_trans hg g⟩
   | false =>
    go_wp2_with fail
    refine (HF.out x HM.out _).mono ?_;rintro e w1 ⟨rfl,g⟩
    rw [hp]
    clear hE
    go_wp2_with fail
    go_roundw
    case rel=>exact ⟨k+1,by omega,by go_num,LH (fun j h=>by
     by_cases c:j=k
     ·subst c;rw [HX.out,hp]
     ·exact hs.out j (by omega)),grown_trans hg g⟩
    case measure=>simp [intOf];omega
  ·go_wp2_with fail
   go_ret
   exact ⟨_,rfl,.inr ⟨rfl,fun ⟨j,h1,h2⟩=>by rw [hs.out j (by omega)] at h2;cases h2⟩,hg⟩
theorem containsVals_any (fid:FuncId) (p:ValD→Bool) (xs:List ValD) (v:Value) (W:World) (t:Bool) (hv:IsVals W v xs)
  (hE:∀ (xs:Array Value) (w:World),(callFunc fid xs).run Tryz.prog w=.ok (.enter fid xs) w)
  (hF:∀ x∈xs,∀ w,Calls Tryz.prog fid #[.agg #[.int .i64 x.h,.int .i64 x.w,.int .i64 x.c,.int .i64 x.z]] w fun e w'=>e=.returned (.bool (p x))∧Grown w w')
  (ht:Hid (t=true↔∃ j,j<xs.length∧p (xs.getD j default)=true)) :
  Calls Tryz.prog 94 #[v,.func (.func fid) #[] #[]] W fun e w'=>e=.returned (.bool t)∧Grown W w':=by
 have H:=LH (indexVals_any fid p xs v W hv hE hF)
 obtain ⟨A,c1,rfl,a1,a2,a3,a4,a5⟩:=hv
 clear hE hF a1 a2 a3 a4 a5
 go_enter Tryz.func94,Tryz.ntmps94
 go_wp2_with fail
 refine H.out.mono ?_
 rintro e w1 ⟨i,rfl,hi,g⟩
 rcases hi with ⟨h0,ha⟩|⟨rfl,ha⟩
 ·have T:t=true:=ht.out.mpr ha
  subst T
  go_wp2_with fail
  go_ret
  exact ⟨rfl,g⟩
 ·have T:t=false:=by
   cases t with
   | false=>rfl
   | true=>exact absurd (ht.out.mp rfl) ha
  subst T
  go_wp2_with fail
  go_ret
  exact ⟨rfl,g⟩
set_option maxHeartbeats 1000000 in
theorem indexNums_any (fid:FuncId) (p:Int→Bool) (xs:List Int) (v:Value) (W:World) (hv:IsNums .i32 W v xs)
  (hE:∀ (xs:Array Value) (w:World),(callFunc fid xs).run Tryz.prog w=.ok (.enter fid xs) w)
  (hF:∀ x∈xs,(Lit.int .i32 x).wf=true→∀ w,Calls Tryz.prog fid #[.int .i32 x] w fun e w'=>e=.returned (.bool (p x))∧Grown w w') :
  Calls Tryz.prog 134 #[v,.func (.func fid) #[] #[]] W (IdxPost (∃ j,j<xs.length∧p (xs.getD j 0)=true) W):=by
 obtain ⟨A,c1,rfl,a1,a2,a3,a4,a5⟩:=hv
 have hl1:xs.length≤9223372036854775807:=by unfold maxLen at a2;omega
 have HF:=LH hF
 have HE:=LH hE
 have A5:=LH a5
 have WF:=LH a4
 clear a2 a3 a4 hF hE a5
 go_enter Tryz.func134,Tryz.ntmps134
 go_wp2_with fail
 go_loopw [8] (fun i wr=>∃ k:Nat,k≤xs.length∧i=.int .i64 k∧Hid (∀ j,j<k→p (xs.getD j 0)=false)∧Grown W wr) (fun i _=>xs.length-(intOf i).toNat)
 case atStart=>exact ⟨0,by omega,rfl,LH (fun j h=>by omega),Grown.refl _⟩
 case round =>
  obtain ⟨k,hk,rfl,hs,hg⟩:=hrel
  by_cases l:k<xs.length
  ·obtain ⟨b,off,rfl,hb,hc⟩:=A5.out (by omega)
   have m0:=(grown_cell (p:=⟨b,off+k,none⟩) hg hb).trans (hc k l)
   clear hc
   have hm:xs.getD k 0∈xs:=by simp [List.getD,l]
   obtain ⟨x,hx⟩:∃ x,xs.getD k 0=x:=⟨_,rfl⟩
   rw [hx] at m0 hm
   have HX:=LH hx
   have HM:=LH hm
   clear hx hm
   have i1:(0:Int)≤(k:Int):=by omega
   have i2:(k:Int)<(xs.length:Int):=by omega
   have hE:=fun xs w=>HE.out xs w
   cases hp:p x with
   | true =>
    go_wp2_with fail
    refine (HF.out x HM.out (WF.out x HM.out) _).mono ?_;rintro e w1 ⟨rfl,g⟩
    rw [hp]
    clear hE
    go_wp2_with fail
    go_ret
    exact ⟨_,rfl,.inl ⟨by omega,k,l,by rw [HX.out,hp]⟩,grown_trans hg g⟩
   | false =>
    go_wp2_with fail
    refine (HF.out x HM.out (WF.out x HM.out) _).mono ?_;rintro e w1 ⟨rfl,g⟩
    rw [hp]
    clear hE
    go_wp2_with fail
    go_roundw
    case rel=>exact ⟨k+1,by omega,by go_num,LH (fun j h=>by
     by_cases c:j=k
     ·subst c;rw [HX.out,hp]
     ·exact hs.out j (by omega)),grown_trans hg g⟩
    case measure=>simp [intOf];omega
  ·go_wp2_with fail
   go_ret
   exact ⟨_,rfl,.inr ⟨rfl,fun ⟨j,h1,h2⟩=>by rw [hs.out j (by omega)] at h2;cases h2⟩,hg⟩
theorem containsNums_any (fid:FuncId) (p:Int→Bool) (xs:List Int) (v:Value) (W:World) (t:Bool) (hv:IsNums .i32 W v xs)
  (hE:∀ (xs:Array Value) (w:World),(callFunc fid xs).run Tryz.prog w=.ok (.enter fid xs) w)
  (hF:∀ x∈xs,(Lit.int .i32 x).wf=true→∀ w,Calls Tryz.prog fid #[.int .i32 x] w fun e w'=>e=.returned (.bool (p x))∧Grown w w')
  (ht:Hid (t=true↔∃ j,j<xs.length∧p (xs.getD j 0)=true)) :
  Calls Tryz.prog 101 #[v,.func (.func fid) #[] #[]] W fun e w'=>e=.returned (.bool t)∧Grown W w':=by
 have H:=LH (indexNums_any fid p xs v W hv hE hF)
 obtain ⟨A,c1,rfl,a1,a2,a3,a4,a5⟩:=hv
 clear hE hF a1 a2 a3 a4 a5
 go_enter Tryz.func101,Tryz.ntmps101
 go_wp2_with fail
 refine H.out.mono ?_
 rintro e w1 ⟨i,rfl,hi,g⟩
 rcases hi with ⟨h0,ha⟩|⟨rfl,ha⟩
 ·have T:t=true:=ht.out.mpr ha
  subst T
  go_wp2_with fail
  go_ret
  exact ⟨rfl,g⟩
 ·have T:t=false:=by
   cases t with
   | false=>rfl
   | true=>exact absurd (ht.out.mp rfl) ha
  subst T
  go_wp2_with fail
  go_ret
  exact ⟨rfl,g⟩
end Go.Proofs.YtejllmjkeefloaaGreat
namespace Go.Proofs.YtejllmjkeefloaaGreat
open Go.ChangeShapes Go.WideShapes Go.ChangeAt Go.RowKit
set_option maxRecDepth 20000
set_option linter.unusedVariables false
set_option linter.unusedSimpArgs false
def RNumPost (base:Nat)(cs:List Int)(w:World)(e:Ending)(w':World):Prop:=∃ v',e=.returned v'/\OwnB w' base v' cs/\Lays base w w'
set_option maxHeartbeats 4000000 in
theorem rnum_any (base wide:Nat)(bv:Value)(bs:List Int)(x:Int)(W:World)(hw:wide=2\/wide=4)(hx:(Lit.int .i64 x).wf=true)(ho:OwnB W base bv bs)(hb:base<=W.heap.size)(hm:bs.length<=1000000000) :
  Calls Tryz.prog 106 #[bv,.int .i64 x,.int .i64 (wide:Int)] W (RNumPost base (bs++numB wide x) W):=by
 have e1:IntKind.i64.wrap ((wide:Int)-1)=(wide:Int)-1:=by rcases hw with rfl|rfl <;> decide
 have w3:wide<=4:=by omega
 obtain⟨i0,hi0,hz0,hz1,hz2⟩:=info_parts info8;have I1:=LH hi0;have I2:=LH hz0;have I3:=LH hz1;have I4:=LH hz2;have hx':=LH hx;clear hi0 hz0 hz1 hz2 hw hx;go_enter Tryz.func106,Tryz.ntmps106;go_wp2_with fail;go_loopw [0,7] (fun v i wr=>∃ (m:Nat) (cs:List Int),m<=wide/\i=.int .i64 ((m:Int)-1)/\Hid (cs++numB m x=bs++numB wide x)/\Hid (OwnB wr base v cs)/\Hid (Lays base W wr)/\base<=wr.heap.size) (fun _ i _=>(intOf i+1).toNat)
 case atStart=>exact⟨wide,_,by omega,rfl,LH rfl,LH ho,LH (Lays.refl _ _),hb⟩
 case round =>
  clear ho hb;obtain⟨m,cs,hm4,rfl,heq,hown,hp,hbs⟩:=hrel;have hcs:Hid (cs.length+m<=1000000004):=LH (by
   have:=congrArg List.length heq.out;simp only [List.length_append,numB_len] at this;omega)
  rcases (show m=0\/m=1\/m=2\/m=3\/m=4 by omega) with rfl|rfl|rfl|rfl|rfl
  ·have he:=heq.out;simp only [numB,List.append_nil] at he;have HE:=LH he;clear he;go_wp2_with fail;go_ret;exact⟨_,rfl,by rw [<- HE.out];exact hown.out,hp.out⟩
  ·have d0:decide (0<=((1:Nat):Int)-1)=true:=by decide
   have hnb:=LH (numB_1 x);go_wp2_with (at_builtin;refine wpList_append_own _ rfl (.tmp 14) (.tmp 20) 22 rfl base 5 i0 _ 1 1 Tryz.underlying22 I1.out I2.out I3.out I4.out rfl (by decide) _ _ _ rfl (World.ownsRow.alloc hown.out.1 _) ⟨wr.heap.size,0,none⟩ 1 1 [.int .u8 (x%256)] rfl rfl (fun j u hu=>cells_new' wr _ 5 j u hu) (by intro u hu;simp at hu;subst hu;rfl) ?c4 ?c5 ?c6 ?_)
   case c4=>have:=hcs.out;unfold maxLen;omega
   case c5=>have:=hcs.out;omega
   case c6=>simp;omega
   intro v4 w4 hown4 hgrow _;have ho4:=LH (own_bytes rfl hown4);have hl4:=LH (Lays.grownBy (hp.out.alloc _) (hown.out.alloc _) hgrow);have hs4:base<=w4.heap.size:=by have:=hgrow.size;simp only [World.size_alloc] at this;omega
   have he4:=heq.out;rw [hnb.out] at he4;have HE4:=LH he4;clear hown4 hgrow he4 hnb;go_wp2_with fail;go_roundw
   case rel=>exact⟨0,cs++[x%256],by omega,by first|rfl|go_num,LH (by rw [<- HE4.out];simp),ho4,hl4,hs4⟩
   case measure=>simp [intOf]
  ·have d0:decide (0<=((2:Nat):Int)-1)=true:=by decide
   have hnb:=LH (numB_2 x);go_wp2_with (at_builtin;refine wpList_append_own _ rfl (.tmp 14) (.tmp 20) 22 rfl base 5 i0 _ 1 1 Tryz.underlying22 I1.out I2.out I3.out I4.out rfl (by decide) _ _ _ rfl (World.ownsRow.alloc hown.out.1 _) ⟨wr.heap.size,0,none⟩ 1 1 [.int .u8 (x / 256%256)] rfl rfl (fun j u hu=>cells_new' wr _ 5 j u hu) (by intro u hu;simp at hu;subst hu;rfl) ?c4 ?c5 ?c6 ?_)
   case c4=>have:=hcs.out;unfold maxLen;omega
   case c5=>have:=hcs.out;omega
   case c6=>simp;omega
   intro v4 w4 hown4 hgrow _;have ho4:=LH (own_bytes rfl hown4);have hl4:=LH (Lays.grownBy (hp.out.alloc _) (hown.out.alloc _) hgrow);have hs4:base<=w4.heap.size:=by have:=hgrow.size;simp only [World.size_alloc] at this;omega
   have he4:=heq.out;rw [hnb.out] at he4;have HE4:=LH he4;clear hown4 hgrow he4 hnb;go_wp2_with fail;go_roundw
   case rel=>exact⟨1,cs++[x / 256%256],by omega,by first|rfl|go_num,LH (by rw [<- HE4.out];simp),ho4,hl4,hs4⟩
   case measure=>simp [intOf]
  ·have d0:decide (0<=((3:Nat):Int)-1)=true:=by decide
   have hnb:=LH (numB_3 x);go_wp2_with (at_builtin;refine wpList_append_own _ rfl (.tmp 14) (.tmp 20) 22 rfl base 5 i0 _ 1 1 Tryz.underlying22 I1.out I2.out I3.out I4.out rfl (by decide) _ _ _ rfl (World.ownsRow.alloc hown.out.1 _) ⟨wr.heap.size,0,none⟩ 1 1 [.int .u8 (x / 65536%256)] rfl rfl (fun j u hu=>cells_new' wr _ 5 j u hu) (by intro u hu;simp at hu;subst hu;rfl) ?c4 ?c5 ?c6 ?_)
   case c4=>have:=hcs.out;unfold maxLen;omega
   case c5=>have:=hcs.out;omega
   case c6=>simp;omega
   intro v4 w4 hown4 hgrow _;have ho4:=LH (own_bytes rfl hown4);have hl4:=LH (Lays.grownBy (hp.out.alloc _) (hown.out.alloc _) hgrow);have hs4:base<=w4.heap.size:=by have:=hgrow.size;simp only [World.size_alloc] at this;omega
   have he4:=heq.out;rw [hnb.out] at he4;have HE4:=LH he4;clear hown4 hgrow he4 hnb;go_wp2_with fail;go_roundw
   case rel=>exact⟨2,cs++[x / 65536%256],by omega,by first|rfl|go_num,LH (by rw [<- HE4.out];simp),ho4,hl4,hs4⟩
   case measure=>simp [intOf]
  ·have d0:decide (0<=((4:Nat):Int)-1)=true:=by decide
   have hnb:=LH (numB_4 x);go_wp2_with (at_builtin;refine wpList_append_own _ rfl (.tmp 14) (.tmp 20) 22 rfl base 5 i0 _ 1 1 Tryz.underlying22 I1.out I2.out I3.out I4.out rfl (by decide) _ _ _ rfl (World.ownsRow.alloc hown.out.1 _) ⟨wr.heap.size,0,none⟩ 1 1 [.int .u8 (x / 16777216%256)] rfl rfl (fun j u hu=>cells_new' wr _ 5 j u hu) (by intro u hu;simp at hu;subst hu;rfl) ?c4 ?c5 ?c6 ?_)
   case c4=>have:=hcs.out;unfold maxLen;omega
   case c5=>have:=hcs.out;omega
   case c6=>simp;omega
   intro v4 w4 hown4 hgrow _;have ho4:=LH (own_bytes rfl hown4);have hl4:=LH (Lays.grownBy (hp.out.alloc _) (hown.out.alloc _) hgrow);have hs4:base<=w4.heap.size:=by have:=hgrow.size;simp only [World.size_alloc] at this;omega
   have he4:=heq.out;rw [hnb.out] at he4;have HE4:=LH he4;clear hown4 hgrow he4 hnb;go_wp2_with fail;go_roundw
   case rel=>exact⟨3,cs++[x / 16777216%256],by omega,by first|rfl|go_num,LH (by rw [<- HE4.out];simp),ho4,hl4,hs4⟩
   case measure=>simp [intOf]
theorem numsB_one (xs:List Int)(i:Nat)(h:i<xs.length):numsB 1 (xs.take (i+1))=numsB 1 (xs.take i)++[xs.getD i 0%256]:=by
 rw [numsB_take 1 xs i h,numB_1];rfl
set_option maxHeartbeats 4000000 in
theorem rsome_any (base:Nat)(bv lv:Value)(bs xs:List Int)(W:World)(ho:OwnB W base bv bs)(hl:IsNums .i64 W lv xs)(ha:0<xs.length->Apart base lv)(hb:base<=W.heap.size)(hm:bs.length+xs.length<=1000000000) :
  Calls Tryz.prog 72 #[bv,lv] W (RNumPost base (bs++numsB 1 xs) W):=by
 have HL:=LH hl;obtain⟨A,cap,rfl,l2,l3,_,l5,l6⟩:=hl;have HA:=LH ha;have L5:=LH l5;have L6:=LH l6;have hm2:xs.length<=9223372036854775807:=by unfold maxLen at l3;omega
 obtain⟨i0,hi0,hz0,hz1,hz2⟩:=info_parts info8;have I1:=LH hi0;have I2:=LH hz0;have I3:=LH hz1;have I4:=LH hz2;clear hi0 hz0 hz1 hz2 l2 l3 l5 l6 ha;go_enter Tryz.func72,Tryz.ntmps72;go_wp2_with fail;go_loopw [0,5] (fun v i wr=>∃ k:Nat,k<=xs.length/\i=.int .i64 k/\Hid (OwnB wr base v (bs++numsB 1 (xs.take k)))/\Hid (Lays base W wr)/\base<=wr.heap.size) (fun _ i _=>xs.length-(intOf i).toNat)
 case atStart=>exact⟨0,by omega,rfl,LH (by simpa [numsB] using ho),LH (Lays.refl _ _),hb⟩
 case round =>
  clear ho hb;obtain⟨k,hk,rfl,hown,hp,hbs⟩:=hrel;by_cases h:k<xs.length
  ·obtain⟨b,off,rfl,hbb,hc⟩:=L6.out (by omega);have hN:=nums_noRow (by decide) HL.out (HA.out (by omega)) (by omega);have c0:=(hp.out.cell hN).trans (hc k h);have hnext:=numsB_one xs k h;obtain⟨x,hx⟩:∃ x,xs.getD k 0=x:=⟨_,rfl⟩
   rw [hx] at c0 hnext;have HX:=LH hnext;clear hx hc hnext hN;have hlen:(bs++numsB 1 (xs.take k)).length+1<=1000000000:=by
    rw [List.length_append,numsB_len,List.length_take,Nat.min_eq_left (by omega)];omega
   have HLEN:=LH hlen;obtain⟨cs,hcs⟩:∃ cs,bs++numsB 1 (xs.take k)=cs:=⟨_,rfl⟩
   have EC:=LH hcs;rw [hcs] at hown HLEN;clear hlen hcs;go_wp2_with (at_builtin;refine wpList_append_own _ rfl (.tmp 12) (.tmp 18) 22 rfl base 5 i0 _ 1 1 Tryz.underlying22 I1.out I2.out I3.out I4.out rfl (by decide) _ _ _ rfl (World.ownsRow.alloc hown.out.1 _) ⟨wr.heap.size,0,none⟩ 1 1 [.int .u8 (x%256)] rfl rfl (fun j u hu=>cells_new' wr _ 5 j u hu) (by intro u hu;simp at hu;subst hu;rfl) ?c4 ?c5 ?c6 ?_)
   case c4=>have:=HLEN.out;unfold maxLen;omega
   case c5=>have:=HLEN.out;omega
   case c6=>simp;omega
   intro v4 w4 hown4 hgrow _;have ho4:=LH (own_bytes rfl hown4);have hl4:=LH (Lays.grownBy (hp.out.alloc _) (hown.out.alloc _) hgrow);have hs4:base<=w4.heap.size:=by have:=hgrow.size;simp only [World.size_alloc] at this;omega
   clear hown4 hgrow;go_wp2_with fail;go_roundw
   case rel=>exact⟨k+1,by omega,by go_num,LH (by rw [HX.out,<- List.append_assoc,EC.out];exact ho4.out),hl4,hs4⟩
   case measure=>simp [intOf];omega
  ·have hk':xs.take k=xs:=List.take_of_length_le (by omega);rw [hk'] at hown;clear hk';go_wp2_with fail;go_ret;exact⟨_,rfl,hown.out,hp.out⟩
end Go.Proofs.YtejllmjkeefloaaGreat
