/- Values that a call owns; named; Clone. Layer 8 in numbers: which commands may be, their bytes, and how bytes are taken. -/
import Derived.Laws.AppendOwn
import Derived.OwnWalk
import Derived.Test.YtejllmjkeefloaaGreatMSh1A
namespace Go.Proofs.YtejllmjkeefloaaGreat
open Go.ChangeShapes Go.WideShapes Go.ChangeAt Go.RowKit
set_option maxRecDepth 20000
set_option linter.unusedVariables false
theorem info32:(Tryz.prog.info? 47).map (fun i=>(i.zero,i.size,i.bytes))=some (some (.agg #[.int .i64 0,.int .i64 0,.int .i64 0,.int .i64 0]),4,32):=by kernel_rfl
def valCells (x:ValD):List Value:=[.int .i64 x.h,.int .i64 x.w,.int .i64 x.c,.int .i64 x.z]
def valsCells (xs:List ValD):List Value:=xs.flatMap valCells
theorem valsCells_len (xs:List ValD):(valsCells xs).length=xs.length*4:=by
 induction xs with
 | nil=>rfl
 | cons x xs ih=>simp only [valsCells,List.flatMap_cons,List.length_append] at ih ⊢;rw [ih];simp [valCells];omega
theorem valsCells_snoc (xs:List ValD)(x:ValD):valsCells (xs++[x])=valsCells xs++valCells x:=by simp [valsCells]
theorem valsCells_at (xs:List ValD)(i j:Nat)(hi:i<xs.length)(hj:j<4):(valsCells xs)[i*4+j]? = (valCells (xs.getD i default))[j]?:=by
 induction xs generalizing i with
 | nil=>simp at hi
 | cons x xs ih =>
  simp only [valsCells,List.flatMap_cons];cases i with
  | zero =>
   rw [Nat.zero_mul,Nat.zero_add,List.getElem?_append_left (by simp [valCells];omega)];simp
  | succ i =>
   rw [List.getElem?_append_right (by simp [valCells];omega)];have e:(i+1)*4+j-(valCells x).length=i*4+j:=by simp [valCells];omega
   rw [e];simp only [List.length_cons] at hi;have:=ih i (by omega);simp only [valsCells] at this;rw [this];simp
def OwnVals (w:World)(base:Nat)(v:Value)(xs:List ValD):Prop:=w.ownsRow base 47 4 v xs.length (valsCells xs)
theorem own_past' {w w':World}{base e size n:Nat}{v:Value}{xs:List Value}(h:w.ownsRow base e size v n xs)(g:Past w w'):w'.ownsRow base e size v n xs:=by
 refine⟨h.1,?_⟩;rcases h.2 with hn|⟨b,cap,cur,rfl,hb,hg,rest⟩
 ·exact Or.inl hn
 ·exact Or.inr ⟨b,cap,cur,rfl,hb,(g.2.2.2 b (Array.getElem?_eq_some_iff.1 hg).1).trans hg,rest⟩
theorem vals_of_own {w:World}{base:Nat}{v:Value}{xs:List ValD}(ho:OwnVals w base v xs)(wf:∀ x∈xs,ValWf x):IsVals w v xs:=by
 obtain⟨hl,h⟩:=ho;rcases h with ⟨rfl,h0⟩|⟨b,cap,cur,rfl,hb,hg,hn,hm,hs,ht⟩
 ·have:xs=[]:=List.eq_nil_of_length_eq_zero h0;subst this;exact⟨none,0,rfl,Nat.le_refl _,Nat.zero_le _,fun _=>rfl,by simp,by simp⟩
 ·refine⟨some ⟨b,0,none⟩,cap,rfl,hn,hm,(fun h=>by cases h),wf,fun hp=>⟨b,0,rfl,(Array.getElem?_eq_some_iff.1 hg).1,fun i hi=>?_⟩⟩;have key:∀ j,j<4->w.cell? ⟨b,0+i*4+j,none⟩=(valCells (xs.getD i default))[j]?:=fun j hj=>by
   rw [<- valsCells_at xs i j hi hj,<- ht,List.getElem?_take_of_lt (by omega)];simp [World.cell?,hg]
  exact⟨key 0 (by omega),key 1 (by omega),key 2 (by omega),key 3 (by omega)⟩
theorem cells_new' (w:World)(l:List Value)(t:TypeId)(j:Nat)(u:Value)(h:l[j]? = some u):(w.alloc (.cells ⟨l⟩ t)).cell? ((⟨w.heap.size,0,none⟩:Addr).add j)=some u:=by
 rw [add_plain];have:=heap_alloc_new w (.cells ⟨l⟩ t);unfold World.cell?;simp only [this];simpa using h
theorem val_one (x:ValD):∀ u∈valCells x,u.oneCell'=true:=by
 intro u hu;simp only [valCells,List.mem_cons,List.not_mem_nil,or_false] at hu;rcases hu with rfl|rfl|rfl|rfl <;> rfl
theorem vals_one' (xs:List ValD):∀ u∈valsCells xs,u.oneCell'=true:=by
 intro u hu;simp only [valsCells,List.mem_flatMap] at hu;obtain⟨x,_,h⟩:=hu;exact val_one x u h
theorem news_of_vals {w:World} {b off:Nat} {xs:List ValD} (h:∀ i,i<xs.length->ValAt w b (off+i*4) (xs.getD i default)):∀ j u,(valsCells xs)[j]? = some u->w.cell? ((⟨b,off,none⟩:Addr).add j)=some u:=by
 intro j u hu;have hj:j<xs.length*4:=by
  rw [<- valsCells_len];exact (List.getElem?_eq_some_iff.1 hu).1
 have e:j=j / 4*4+j%4:=by omega
 have h4:j%4<4:=Nat.mod_lt _ (by omega);have hi:j / 4<xs.length:=by omega
 rw [e,valsCells_at xs _ _ hi h4] at hu;rw [add_plain];obtain ⟨c0,c1,c2,c3⟩:=h (j / 4) hi;have e2:off+j=off+j / 4*4+j%4:=by omega
 rw [e2];rcases (show j%4=0\/j%4=1\/j%4=2\/j%4=3 by omega) with k|k|k|k <;> rw [k] at hu ⊢ <;> simp only [valCells,List.getElem?_cons_zero,List.getElem?_cons_succ,Option.some.injEq,Nat.add_zero] at hu ⊢ <;> subst hu
 ·exact c0
 ·exact c1
 ·exact c2
 ·exact c3
theorem own_slice' {w:World}{base e size n:Nat}{v:Value}{xs:List Value}(h:w.ownsRow base e size v n xs):∃ A c,v=.slice A n c/\n<=c/\c<=maxLen:=by
 rcases h.2 with ⟨rfl,h0⟩|⟨g,cap,cur,rfl,_,_,h1,h2,_⟩
 ·subst h0;exact⟨_,_,rfl,Nat.le_refl _,Nat.zero_le _⟩
 ·exact⟨_,_,rfl,h1,h2⟩
def namedP (l:List ValD)(ns:List Int):Prop:=∀ j,j<ns.length->0<=ns.getD j 0/\ns.getD j 0<(l.length:Int)
def namedL (l:List ValD)(ns:List Int):List ValD:=ns.map fun i=>l.getD i.toNat default
def NamedPost (l:List ValD) (ns:List Int) (W:World) (e:Ending) (w':World):Prop :=
 (namedP l ns∧∃ v,e=.returned (.tuple #[v,.bool true])∧IsVals w' v (namedL l ns)∧Past W w') ∨
 (¬ namedP l ns∧e=.returned (.tuple #[.slice none 0 0,.bool false])∧Past W w')
theorem namedL_take (l:List ValD)(ns:List Int)(k:Nat)(h:k<ns.length):namedL l (ns.take (k+1))=namedL l (ns.take k)++[l.getD (ns.getD k 0).toNat default]:=by
 unfold namedL;rw [List.take_succ_eq_append_getElem h,List.map_append];simp [List.getD,h]
set_option maxHeartbeats 2000000 in
theorem named_any (lv nv:Value)(l:List ValD)(ns:List Int)(W:World)(hl:IsVals W lv l)(hn:IsNums .i64 W nv ns)(hb:ns.length<=1000) :
  Calls Tryz.prog 65 #[lv,nv] W (NamedPost l ns W):=by
 obtain⟨A,ca,rfl,a1,a2,_,a4,a5⟩:=hl;obtain⟨B,cb,rfl,b1,b2,_,_,b5⟩:=hn;have hm1:l.length<=9223372036854775807:=by unfold maxLen at a2;omega
 have hm2:ns.length<=9223372036854775807:=by omega
 obtain⟨i0,hi0,hz0,hz1,hz2⟩:=info_parts info32;have A4:=LH a4;have A5:=LH a5;have B5:=LH b5;have I1:=LH hi0;have I2:=LH hz0;have I3:=LH hz1;have I4:=LH hz2;clear a1 a2 a4 a5 b1 b2 b5 hi0 hz0 hz1 hz2;go_enter Tryz.func65,Tryz.ntmps65;go_wp2_with fail;go_loopw [6,11] (fun v i wr=>∃ k:Nat,k<=ns.length/\i=.int .i64 k/\OwnVals wr W.heap.size v (namedL l (ns.take k))/\Hid (∀ j,j<k->0<=ns.getD j 0/\ns.getD j 0<(l.length:Int))/\Past W wr) (fun _ i _=>ns.length-(intOf i).toNat)
 case atStart=>exact⟨0,by omega,rfl,⟨by simp [namedL,valsCells],.inl ⟨rfl,by simp [namedL]⟩⟩,LH (fun j h=>by omega),Past.refl _⟩
 case round =>
  obtain⟨k,hk,rfl,hown,hin,hp⟩:=hrel;by_cases h:k<ns.length
  ·obtain⟨b,off,rfl,hbb,hc⟩:=B5.out (by omega);have c0:=(hp.cell (p:=⟨b,off+k,none⟩) hbb).trans (hc k h);obtain⟨x,hx⟩:∃ x,ns.getD k 0=x:=⟨_,rfl⟩
   rw [hx] at c0;have HX:=LH hx;clear hx hc;by_cases x0:0<=x
   ·by_cases x1:x<(l.length:Int)
    ·obtain⟨m,rfl⟩:∃ m:Nat,x=m:=⟨x.toNat,by omega⟩
     have x2:m<l.length:=by omega
     obtain⟨b',off',rfl,hbb',hc'⟩:=A5.out (by omega);obtain⟨y0,y1,y2,y3⟩:=(hc' m x2).grow hbb' hp;obtain⟨y,hy⟩:∃ y,l.getD m default=y:=⟨_,rfl⟩
     rw [hy] at y0 y1 y2 y3;have HY:=LH hy;have HO:=LH hown;have HP:=LH hp;clear hc' hy hown hp;have i3:(0:Int)<=(m:Int):=by omega
     have d0:decide ((m:Int)<0)=false:=by simp
     have lk:(namedL l (ns.take k)).length=k:=by simp [namedL];omega
     have LK:=LH lk;have hm3:k+1<=maxLen:=by unfold maxLen;omega
     have hlt:=World.ownsRow.lt HO.out;have HLT:=LH hlt;have HM3:=LH hm3;clear lk hm3 hlt;have hsz:W.heap.size<=wr.heap.size:=HP.out.2.2.1;go_wp2_with (at_builtin;refine wpList_append_own _ rfl (.tmp 23) (.tmp 28) 24 rfl W.heap.size 47 i0 _ 4 32 Tryz.underlying24 I1.out I2.out I3.out I4.out rfl (by decide) _ _ _ rfl (World.ownsRow.alloc HO.out _) ⟨wr.heap.size,0,none⟩ 1 1 (valCells y) rfl rfl (fun j u hu=>cells_new' wr _ 47 j u hu) (val_one y) ?c4 ?c5 ?c6 ?_)
     case c4=>rw [LK.out];exact HM3.out
     case c5=>rw [LK.out];omega
     case c6=>simp;omega
     intro v4 w4 hown4 hgrow _;have hp4:Past W w4:=(HP.out.alloc _).grownBy hgrow (fun j hj=>(HLT.out j hj).1);have ho4:OwnVals w4 W.heap.size v4 (namedL l (ns.take (k+1))):=by
      unfold OwnVals;rw [namedL_take l ns k h,valsCells_snoc,HX.out];simp only [Int.toNat_natCast,HY.out,List.length_append,List.length_cons,List.length_nil];exact hown4
     clear hown4 hgrow;go_wp2_with fail;go_roundw
     case rel=>exact⟨k+1,by omega,by go_num,ho4,LH (fun j hj=>by
      by_cases c:j=k
      ·subst c;rw [HX.out];exact⟨x0,x1⟩
      ·exact hin.out j (by omega)),hp4⟩
     case measure=>simp [intOf];omega
    ·have d0:decide (x<0)=false:=by simp;omega
     have d1:decide ((l.length:Int)<=x)=true:=by simp;omega
     go_wp2_with fail;go_ret2;exact .inr ⟨fun f=>by have:=(f k h).2;rw [HX.out] at this;omega,rfl,hp⟩
   ·have d0:decide (x<0)=true:=by simp;omega
    go_wp2_with fail;go_ret2;exact .inr ⟨fun f=>by have:=(f k h).1;rw [HX.out] at this;omega,rfl,hp⟩
  ·have e:ns.take k=ns:=List.take_of_length_le (by omega);rw [e] at hown;have HO:=LH hown;have wf:∀ x∈namedL l ns,ValWf x:=fun x hx=>by
    simp only [namedL,List.mem_map] at hx;obtain⟨i,hi,rfl⟩:=hx;obtain⟨j,hj,rfl⟩:=List.getElem_of_mem hi;have:=hin.out j (by omega);simp only [List.getD,hj,List.getElem?_eq_getElem,Option.getD_some] at this;have hl:ns[j].toNat<l.length:=by omega
    have:l.getD ns[j].toNat default=l[ns[j].toNat]:=by simp [List.getD,hl]
    rw [this];exact A4.out _ (List.getElem_mem _)
   have WF:=LH wf;clear e hown wf;go_wp2_with fail;go_ret2;exact .inl ⟨fun j hj=>hin.out j (by omega),_,rfl,vals_of_own HO.out WF.out,hp⟩
end Go.Proofs.YtejllmjkeefloaaGreat
namespace Go.Proofs.YtejllmjkeefloaaGreat.Q8
open Go.ChangeShapes Go.WideShapes Go.ChangeAt Go.RowKit
set_option maxRecDepth 20000
set_option linter.unusedVariables false
set_option linter.unusedSimpArgs false
def numB:Nat->Int->List Int
 | 0,_=>[]
 | k+1,x=>x / 256 ^ k%256 :: numB k x
def foldB (l:List Int):Int:=l.foldl (fun x c=>256*x+c) 0
def bytesP (l:List Int):Prop:=∀ c∈l,0<=c/\c<256
theorem bytesP_app {a b:List Int}(ha:bytesP a)(hb:bytesP b):bytesP (a++b):=fun c hc=>by
 rcases List.mem_append.1 hc with h|h
 ·exact ha c h
 ·exact hb c h
theorem numB_len (k:Nat)(x:Int):(numB k x).length=k:=by
 induction k with
 | zero=>rfl
 | succ k ih=>simp [numB,ih]
theorem numB_bytes (k:Nat)(x:Int):bytesP (numB k x):=by
 induction k with
 | zero=>intro c hc;simp [numB] at hc
 | succ k ih =>
  intro c hc;simp only [numB,List.mem_cons] at hc;rcases hc with rfl|hc
  ·omega
  ·exact ih c hc
theorem flat_bytes {α:Type}{f:α->List Int}{l:List α}(h:∀ x,bytesP (f x)):bytesP (l.flatMap f):=by
 intro c hc;obtain⟨x,_,hx⟩:=List.mem_flatMap.1 hc;exact h x c hx
theorem num_fold (l:List Int)(a:Int)(hl:bytesP l):numB l.length (l.foldl (fun x c=>256*x+c) a)=l/\l.foldl (fun x c=>256*x+c) a / 256 ^ l.length=a/\0<=l.foldl (fun x c=>256*x+c) a-a*256 ^ l.length/\l.foldl (fun x c=>256*x+c) a-a*256 ^ l.length<256 ^ l.length:=by
 induction l generalizing a with
 | nil=>simp [numB]
 | cons c l ih =>
  obtain⟨c0,c1⟩:=hl c (List.mem_cons_self ..);obtain⟨i1,i2,i3,i4⟩:=ih (256*a+c) (fun d hd=>hl d (List.mem_cons_of_mem _ hd));simp only [List.foldl_cons,List.length_cons,numB];have hp:(0:Int)<256 ^ l.length:=Int.pow_pos (by omega);refine⟨?_,?_,?_,?_⟩
  ·rw [i1,i2];congr 1;omega
  ·rw [Int.pow_succ,<- Int.ediv_ediv_of_nonneg (Int.le_of_lt hp),i2];omega
  ·rw [Int.pow_succ];rw [Int.add_mul] at i3;have e:a*(256 ^ l.length*256)=256*a*256 ^ l.length:=by rw [Int.mul_comm (256 ^ l.length) 256,<- Int.mul_assoc,Int.mul_comm a 256]
   have:0<=c*256 ^ l.length:=Int.mul_nonneg c0 (Int.le_of_lt hp);rw [e];omega
  ·rw [Int.pow_succ];rw [Int.add_mul] at i4;have e:a*(256 ^ l.length*256)=256*a*256 ^ l.length:=by rw [Int.mul_comm (256 ^ l.length) 256,<- Int.mul_assoc,Int.mul_comm a 256]
   have:c*256 ^ l.length<=255*256 ^ l.length:=Int.mul_le_mul_of_nonneg_right (by omega) (Int.le_of_lt hp);rw [e];omega
theorem numB_fold {l:List Int}(hl:bytesP l):numB l.length (foldB l)=l:=(num_fold l 0 hl).1
theorem foldB_bd {l:List Int}(hl:bytesP l):0<=foldB l/\foldB l<256 ^ l.length:=by
 have:=num_fold l 0 hl;unfold foldB;omega
theorem foldB_take (l:List Int)(k:Nat)(h:k<l.length):foldB (l.take (k+1))=256*foldB (l.take k)+l.getD k 0:=by
 unfold foldB;rw [List.take_succ_eq_append_getElem h,List.foldl_append];simp [List.getD,h]
/-! ### Commands: rows of fourteen numbers. -/
structure Fld where
 pos:Nat
 lo:Int
 hi:Int
 wide:Nat
def fldsD (k:Int):List Fld :=
 if k=1\/k=2 then [⟨4,1,16,1⟩,⟨5,1,128,2⟩,⟨6,0,65535,3⟩,⟨7,0,1023,2⟩]
 else if k=3 then [⟨2,0,11,1⟩,⟨3,0,15,1⟩,⟨4,1,16,1⟩,⟨7,0,1023,2⟩,⟨8,0,1023,2⟩,⟨10,0,15,1⟩,⟨12,0,16,1⟩,⟨9,0,1023,2⟩,⟨11,0,15,1⟩,⟨13,0,16,1⟩]
 else if k=4 then [⟨2,0,11,1⟩,⟨4,1,16,1⟩]
 else if k=5\/k=6 then [⟨1,0,7,1⟩]
 else []
def kindP (k:Int):Prop:=1<=k/\k<=7
instance (k:Int):Decidable (kindP k):=by unfold kindP;infer_instance
def inF (f:Fld)(c:List Int):Prop:=f.lo<=c.getD f.pos 0/\c.getD f.pos 0<=f.hi
instance (f:Fld) (c:List Int):Decidable (inF f c):=by unfold inF;infer_instance
def bareP (c:List Int):Prop:=c.tail=List.replicate 13 0
instance (c:List Int):Decidable (bareP c):=by unfold bareP;infer_instance
def mayGo:List Fld->List Int->Prop
 | [],c=>bareP c
 | f :: fs,c=>inF f c/\mayGo fs (c.set f.pos 0)
def decGo:(fs:List Fld)->(c:List Int)->Decidable (mayGo fs c)
 | [],c=>inferInstanceAs (Decidable (bareP c))
 | f :: fs,c=>by
  unfold mayGo;have:=decGo fs (c.set f.pos 0);infer_instance
instance (fs:List Fld) (c:List Int):Decidable (mayGo fs c):=decGo fs c
def mayD (c:List Int):Prop:=kindP (c.getD 0 0)/\mayGo (fldsD (c.getD 0 0)) c
instance (c:List Int):Decidable (mayD c):=by unfold mayD;infer_instance
def mayE (c:List Int):Int:=if mayD c then 0 else 1
def fieldB (c:List Int)(f:Fld):List Int:=numB f.wide (c.getD f.pos 0)
def cmdB (c:List Int):List Int:=numB 1 (c.getD 0 0)++(fldsD (c.getD 0 0)).flatMap (fieldB c)
def putB (l:List (List Int)):List Int:=numB 2 l.length++l.flatMap cmdB
def restW (k:Int):Nat:=((fldsD k).map (·.wide)).sum
def zeros:List Int:=List.replicate 14 0
def readF:List Fld->List Int->List Int->List Int
 | [],c,_=>c
 | f :: fs,c,t=>readF fs (c.set f.pos (foldB (t.take f.wide))) (t.drop f.wide)
def cmdT (k:Int) (t:List Int):List Int:=readF (fldsD k) (zeros.set 0 k) t
def oneT:List Int->Option (List Int×List Int)
 | []=>none
 | k :: t=>if kindP k/\restW k<=t.length/\mayD (cmdT k t) then some (cmdT k t,t.drop (restW k)) else none
def takeGo:Nat->List (List Int)->List Int->Option (List (List Int)×List Int)
 | 0,acc,t=>some (acc,t)
 | n+1,acc,t=>match oneT t with
  | none=>none
  | some (c,u)=>takeGo n (acc++[c]) u
def takeD (b:List Int):Option (List (List Int)×List Int) :=
 if b.length<2\/4096<foldB (b.take 2) then none else takeGo (foldB (b.take 2)).toNat [] (b.drop 2)
def okC (c:List Int):Prop:=c.length=14/\mayD c
theorem fourteen {c:List Int}(h:c.length=14):∃ k s n f r w d p i0 i1 b0 b1 h0 h1,c=[k,s,n,f,r,w,d,p,i0,i1,b0,b1,h0,h1]:=by
 match c,h with
 | [k,s,n,f,r,w,d,p,i0,i1,b0,b1,h0,h1],_=>exact⟨_,_,_,_,_,_,_,_,_,_,_,_,_,_,rfl⟩
theorem may_load {k s n f r w d p i0 i1 b0 b1 h0 h1:Int}(hk:k=1\/k=2):mayD [k,s,n,f,r,w,d,p,i0,i1,b0,b1,h0,h1]↔(1<=r/\r<=16)/\(1<=w/\w<=128)/\(0<=d/\d<=65535)/\(0<=p/\p<=1023)/\s=0/\n=0/\f=0/\i0=0/\i1=0/\b0=0/\b1=0/\h0=0/\h1=0:=by
 have e:kindP k:=by unfold kindP;omega
 simp [mayD,fldsD,mayGo,inF,bareP,hk,e,List.replicate]
theorem may_tile {k s n f r w d p i0 i1 b0 b1 h0 h1:Int}(hk:k=3):mayD [k,s,n,f,r,w,d,p,i0,i1,b0,b1,h0,h1]↔(0<=n/\n<=11)/\(0<=f/\f<=15)/\(1<=r/\r<=16)/\(0<=p/\p<=1023)/\(0<=i0/\i0<=1023)/\(0<=b0/\b0<=15)/\(0<=h0/\h0<=16)/\(0<=i1/\i1<=1023)/\(0<=b1/\b1<=15)/\(0<=h1/\h1<=16)/\s=0/\w=0/\d=0:=by
 have e:kindP k:=by unfold kindP;omega
 subst hk;simp [mayD,fldsD,mayGo,inF,bareP,e,List.replicate]
theorem may_kernel {k s n f r w d p i0 i1 b0 b1 h0 h1:Int}(hk:k=4):mayD [k,s,n,f,r,w,d,p,i0,i1,b0,b1,h0,h1]↔(0<=n/\n<=11)/\(1<=r/\r<=16)/\s=0/\f=0/\w=0/\d=0/\p=0/\i0=0/\i1=0/\b0=0/\b1=0/\h0=0/\h1=0:=by
 have e:kindP k:=by unfold kindP;omega
 subst hk;simp [mayD,fldsD,mayGo,inF,bareP,e,List.replicate]
theorem may_sem {k s n f r w d p i0 i1 b0 b1 h0 h1:Int}(hk:k=5\/k=6):mayD [k,s,n,f,r,w,d,p,i0,i1,b0,b1,h0,h1]↔(0<=s/\s<=7)/\n=0/\f=0/\r=0/\w=0/\d=0/\p=0/\i0=0/\i1=0/\b0=0/\b1=0/\h0=0/\h1=0:=by
 have e:kindP k:=by unfold kindP;omega
 rcases hk with rfl|rfl <;> simp [mayD,fldsD,mayGo,inF,bareP,e,List.replicate]
theorem may_halt {k s n f r w d p i0 i1 b0 b1 h0 h1:Int}(hk:k=7):mayD [k,s,n,f,r,w,d,p,i0,i1,b0,b1,h0,h1]↔s=0/\n=0/\f=0/\r=0/\w=0/\d=0/\p=0/\i0=0/\i1=0/\b0=0/\b1=0/\h0=0/\h1=0:=by
 have e:kindP k:=by unfold kindP;omega
 subst hk;simp [mayD,fldsD,mayGo,inF,bareP,e,List.replicate]
theorem kind_cases {k:Int}(h:kindP k):(k=1\/k=2)\/k=3\/k=4\/(k=5\/k=6)\/k=7:=by unfold kindP at h;omega
theorem restW_of {k:Int}(c:List Int):((fldsD k).flatMap (fieldB c)).length=restW k:=by
 unfold restW;induction fldsD k with
 | nil=>rfl
 | cons f fs ih=>simp only [List.flatMap_cons,List.length_append,ih,List.map_cons,List.sum_cons,fieldB,numB_len]
theorem cmdB_len (c:List Int):(cmdB c).length=1+restW (c.getD 0 0):=by unfold cmdB;rw [List.length_append,numB_len,restW_of]
theorem cmdB_bytes (c:List Int):bytesP (cmdB c):=bytesP_app (numB_bytes _ _) (flat_bytes fun f=>numB_bytes _ _)
theorem putB_bytes (l:List (List Int)):bytesP (putB l):=bytesP_app (numB_bytes _ _) (flat_bytes cmdB_bytes)
theorem numB_one {x:Int}(h:0<=x/\x<256):numB 1 x=[x]:=by
 simp only [numB];simp;omega
theorem readF_len (fs:List Fld)(c t:List Int):(readF fs c t).length=c.length:=by
 induction fs generalizing c t with
 | nil=>rfl
 | cons f fs ih=>unfold readF;rw [ih];simp
theorem cmdT_len (k:Int)(t:List Int):(cmdT k t).length=14:=by unfold cmdT;rw [readF_len];simp [zeros]
theorem take_cut {t:List Int}(w:Nat)(hb:bytesP t)(h:w<=t.length):numB w (foldB (t.take w))=t.take w:=by
 have:=numB_fold (l:=t.take w) (fun c hc=>hb c (List.mem_of_mem_take hc));rwa [List.length_take,Nat.min_eq_left h] at this
theorem read_lay (fs:List Fld)(c0 t:List Int)(c:List Int)(hb:bytesP t)(hl:(fs.map (·.wide)).sum<=t.length)(hc:c=readF fs c0 t)(hp:∀ f∈fs,f.pos<c0.length)(hd:(fs.map (·.pos)).Nodup) :
  fs.flatMap (fieldB c)++t.drop (fs.map (·.wide)).sum=t/\∀ j,(∀ f∈fs,f.pos≠j)->c.getD j 0=c0.getD j 0:=by
 induction fs generalizing c0 t with
 | nil=>subst hc;simp [readF]
 | cons f fs ih =>
  simp only [List.map_cons,List.sum_cons] at hl ⊢;simp only [List.map_cons,List.nodup_cons,List.mem_map,not_exists,not_and] at hd;unfold readF at hc;obtain⟨h1,h2⟩:=ih (c0.set f.pos (foldB (t.take f.wide))) (t.drop f.wide) (fun x hx=>hb x (List.mem_of_mem_drop hx)) (by rw [List.length_drop];omega) hc (fun g hg=>by rw [List.length_set];exact hp g (List.mem_cons_of_mem _ hg)) hd.2;have e0:c.getD f.pos 0=foldB (t.take f.wide):=by
   rw [h2 f.pos (fun g hg e=>hd.1 g hg e)];simp [List.getD,hp f (List.mem_cons_self ..)]
  refine⟨?_,fun j hj=>?_⟩
  ·rw [List.flatMap_cons,List.append_assoc,<- List.drop_drop,h1];unfold fieldB;rw [e0,take_cut _ hb (by omega),List.take_append_drop]
  ·rw [h2 j (fun g hg=>hj g (List.mem_cons_of_mem _ hg))];simp [List.getD,List.getElem?_set,hj f (List.mem_cons_self ..)]
theorem fldsD_pos (k:Int):(∀ f∈fldsD k,f.pos<14/\f.pos≠0)/\((fldsD k).map (·.pos)).Nodup:=by
 unfold fldsD;split
 ·decide
 split
 ·decide
 split
 ·decide
 split
 ·decide
 ·decide
theorem oneT_back {b:List Int}(hb:bytesP b){c r:List Int}(h:oneT b=some (c,r)):okC c/\b=cmdB c++r:=by
 match b,h with
 | k :: t,h =>
  simp only [oneT] at h;by_cases q:kindP k/\restW k<=t.length/\mayD (cmdT k t)
  ·rw [if_pos q] at h;obtain⟨hk,hl,hm⟩:=q;simp only [Option.some.injEq,Prod.mk.injEq] at h;obtain⟨rfl,rfl⟩:=h;have kb:=hb k (List.mem_cons_self ..);obtain⟨h1,h2⟩:=read_lay (fldsD k) (zeros.set 0 k) t _ (fun x hx=>hb x (List.mem_cons_of_mem _ hx)) hl rfl (fun f hf=>by simp [zeros];exact((fldsD_pos k).1 f hf).1) (fldsD_pos k).2;have e0:(cmdT k t).getD 0 0=k:=by
    unfold cmdT;rw [h2 0 (fun f hf=>((fldsD_pos k).1 f hf).2)];simp [zeros]
   refine⟨⟨cmdT_len k t,hm⟩,?_⟩;unfold cmdB;rw [e0,numB_one kb];have h1':(fldsD k).flatMap (fieldB (cmdT k t))++t.drop (restW k)=t:=h1;rw [List.append_assoc,h1'];rfl
  ·rw [if_neg q] at h;cases h
theorem takeGo_back (n:Nat)(acc:List (List Int))(t:List Int)(hb:bytesP t){l:List (List Int)}{r:List Int}(h:takeGo n acc t=some (l,r)):∃ m,l=acc++m/\m.length=n/\(∀ c∈m,okC c)/\t=m.flatMap cmdB++r:=by
 induction n generalizing acc t with
 | zero =>
  simp only [takeGo,Option.some.injEq,Prod.mk.injEq] at h;exact⟨[],by simp [h.1],rfl,by simp,by simp [h.2]⟩
 | succ n ih =>
  unfold takeGo at h;cases e:oneT t with
  | none=>rw [e] at h;cases h
  | some x =>
   obtain⟨c,u⟩:=x;rw [e] at h;simp only at h;obtain⟨oc,rfl⟩:=oneT_back hb e;obtain⟨m,h1,h2,h3,h4⟩:=ih (acc++[c]) u (fun x hx=>hb x (List.mem_append_right _ hx)) h;refine⟨c :: m,by simp [h1],by simp [h2],fun d hd=>?_,by rw [List.flatMap_cons,List.append_assoc,<- h4]⟩;rcases List.mem_cons.1 hd with rfl|hd
   ·exact oc
   ·exact h3 d hd
theorem takeD_back {b:List Int}(hb:bytesP b){l:List (List Int)}{r:List Int}(h:takeD b=some (l,r)):(∀ c∈l,okC c)/\l.length<=4096/\b=putB l++r:=by
 unfold takeD at h;split at h
 ·cases h
 ·rename_i q;have hb2:bytesP (b.take 2):=fun c hc=>hb c (List.mem_of_mem_take hc)
  have hl2:(b.take 2).length=2:=by rw [List.length_take];omega
  have bd:=foldB_bd hb2;obtain⟨m,h1,h2,h3,h4⟩:=takeGo_back _ _ _ (fun c hc=>hb c (List.mem_of_mem_drop hc)) h;simp only [List.nil_append] at h1;subst h1;refine⟨h3,by omega,?_⟩;unfold putB;have e:((l.length:Nat):Int)=foldB (b.take 2):=by rw [h2];omega
  have:=numB_fold hb2;rw [hl2] at this;rw [e,this,List.append_assoc,<- h4,List.take_append_drop]
end Go.Proofs.YtejllmjkeefloaaGreat.Q8
