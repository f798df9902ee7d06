/- The reader: piece, number. The reader: single, small, wide, shape, value. The reader: value. The reader: lists of numbers. The reader: a list of values. -/
import Derived.Deep.DeepCutAuto
import Derived.Test.YtejllmjkeefloaaGreatMV4
namespace Go.Proofs.YtejllmjkeefloaaGreat
open Go.ChangeShapes Go.WideShapes Go.ChangeAt Go.RowKit
set_option maxRecDepth 20000
set_option linter.unusedVariables false
def Keep (P:Nat)(w w':World):Prop:=w'.os=w.os/\w'.output=w.output/\w.heap.size<=w'.heap.size/\∀ k,k<w.heap.size->k≠P->w'.heap[k]? = w.heap[k]?
theorem Keep.refl (P:Nat)(w:World):Keep P w w:=⟨rfl,rfl,Nat.le_refl _,fun _ _ _=>rfl⟩
theorem Keep.trans {P:Nat}{a b c:World}(h:Keep P a b)(k:Keep P b c):Keep P a c :=
 ⟨k.1.trans h.1,k.2.1.trans h.2.1,Nat.le_trans h.2.2.1 k.2.2.1,fun i hi hn=>(k.2.2.2 i (Nat.lt_of_lt_of_le hi h.2.2.1) hn).trans (h.2.2.2 i hi hn)⟩
theorem Keep.set {P:Nat}{w w':World}(h:Keep P w w')(o:Nat)(u:Value):Keep P w (w'.setCell ⟨P,o,none⟩ u):=by
 have b:=Below.heap_setCell w' ⟨P,o,none⟩ u;exact⟨h.1,h.2.1,by simpa [World.setCell] using h.2.2.1,fun k hk hne=>(b k hne).trans (h.2.2.2 k hk hne)⟩
theorem Keep.of_past {P:Nat}{w w':World}(h:Past w w'):Keep P w w':=⟨h.1,h.2.1,h.2.2.1,fun k hk _=>h.2.2.2 k hk⟩
theorem Keep.past {P:Nat}{W w w':World}(p:Past W w)(h:Keep P w w')(hP:W.heap.size<=P):Past W w' :=
 ⟨h.1.trans p.1,h.2.1.trans p.2.1,Nat.le_trans p.2.2.1 h.2.2.1,fun k hk=>(h.2.2.2 k (Nat.lt_of_lt_of_le hk p.2.2.1) (by omega)).trans (p.2.2.2 k hk)⟩
theorem Keep.cell {P b o:Nat} {w w':World} (h:Keep P w w') (hb:b<w.heap.size) (hn:b≠P):w'.cell? ⟨b,o,none⟩=w.cell? ⟨b,o,none⟩:=World.cell?_of_block (a:=⟨b,o,none⟩) (h.2.2.2 b hb hn)
theorem Keep.free {P b o:Nat} {w w':World} (h:Keep P w w') (hb:b<w.heap.size) (hn:b≠P):w'.frozen? ⟨b,o,none⟩=w.frozen? ⟨b,o,none⟩:=World.frozen?_of_block (a:=⟨b,o,none⟩) (h.2.2.2 b hb hn)
theorem box_keep {P b:Nat}{w w':World}{cs:Array Value}(h:Keep P w w')(k:(Bx w b cs))(hb:b<w.heap.size)(hn:b≠P):(Bx w' b cs):=fun o=>(h.cell hb hn).trans (k o)
theorem free_keep {P b:Nat}{w w':World}(h:Keep P w w')(k:(Fr w b))(hb:b<w.heap.size)(hn:b≠P):(Fr w' b):=fun o=>(h.free hb hn).trans (k o)
theorem own_keep {P:Nat}{w w':World}{base e size n:Nat}{v:Value}{xs:List Value}(h:w.ownsRow base e size v n xs)(g:Keep P w w')(hP:P<base):w'.ownsRow base e size v n xs:=by
 refine⟨h.1,?_⟩;rcases h.2 with hn|⟨b,cap,cur,rfl,hb,hg,rest⟩
 ·exact Or.inl hn
 ·exact Or.inr ⟨b,cap,cur,rfl,hb,(g.2.2.2 b (Array.getElem?_eq_some_iff.1 hg).1 (by omega)).trans hg,rest⟩
def Bytes (w:World)(B:Nat)(A:Option Addr)(cap:Nat)(l:List Int):Prop :=
 l.length<=cap/\cap<=maxLen/\(∀ x∈l,(Lit.int .u8 x).wf=true)/\(0<l.length->∃ b off,A=some ⟨b,off,none⟩/\b<B/\∀ i,i<l.length->w.cell? ⟨b,off+i,none⟩=some (.int .u8 (l.getD i 0)))
theorem Bytes.keep {w w':World}{B P cap:Nat}{A:Option Addr}{l:List Int}(h:Bytes w B A cap l)(g:Keep P w w')(hB:B<=P)(hB':B<=w.heap.size):Bytes w' B A cap l:=by
 obtain⟨h1,h2,h3,h4⟩:=h;refine⟨h1,h2,h3,fun hp=>?_⟩;obtain⟨b,off,e,hb,hc⟩:=h4 hp;exact⟨b,off,e,hb,fun i hi=>(g.cell (by omega) (by omega)).trans (hc i hi)⟩
theorem Bytes.nil (w:World)(B:Nat)(A:Option Addr)(cap:Nat)(hc:cap<=maxLen):Bytes w B A cap []:=⟨Nat.zero_le _,hc,by simp,by simp⟩
theorem Bytes.bytesP {w:World}{B cap:Nat}{A:Option Addr}{l:List Int}(h:Bytes w B A cap l):bytesP l:=fun c hc=>by
 have:=wf_u8 (h.2.2.1 c hc);omega
def RdAt (w:World)(B P:Nat)(s:Rd):Prop :=
 ∃ A cap,(Bx w P #[.slice A s.rest.length cap,.bool s.short])/\(Fr w P)/\Bytes w B A cap s.rest/\B<=P/\P<w.heap.size
def RdPost (B P:Nat)(v:Value)(t:Rd)(w:World)(e:Ending)(w':World):Prop:=e=.returned v/\RdAt w' B P t/\Keep P w w'
def PiecePost (B P:Nat)(l:List Int)(t:Rd)(w:World)(e:Ending)(w':World):Prop:=∃ A cap,e=.returned (.slice A l.length cap)/\Bytes w' B A cap l/\RdAt w' B P t/\Keep P w w'
theorem box2_set0 {w:World}{b:Nat}{x0 x1 y:Value}(h:(Bx w b #[x0,x1])):(Bx (w.setCell ⟨b,0,none⟩ y) b #[y,x1]):=by
 intro o;match o with
 | 0=>exact World.cell?_setCell_same w _ _ (h 0)
 | k+1=>rw [World.cell?_setCell_other _ _ _ _ (by simp)];have:=h (k+1);simpa using this
theorem box2_set1 {w:World}{b:Nat}{x0 x1 y:Value}(h:(Bx w b #[x0,x1])):(Bx (w.setCell ⟨b,1,none⟩ y) b #[x0,y]):=by
 intro o;match o with
 | 0=>rw [World.cell?_setCell_other _ _ _ _ (by simp)];exact h 0
 | 1=>exact World.cell?_setCell_same w _ _ (h 1)
 | k+2=>rw [World.cell?_setCell_other _ _ _ _ (by simp)];have:=h (k+2);simpa using this
theorem Bytes.take {w:World}{B cap n:Nat}{A:Option Addr}{l:List Int}(h:Bytes w B A cap l)(hn:n<=l.length):Bytes w B A n (l.take n):=by
 obtain⟨h1,h2,h3,h4⟩:=h;have hl:(l.take n).length=n:=by simp;omega
 refine⟨by omega,by omega,fun x hx=>h3 x (List.mem_of_mem_take hx),fun hp=>?_⟩;obtain⟨b,off,e,hb,hc⟩:=h4 (by omega);refine⟨b,off,e,hb,fun i hi=>?_⟩;rw [hc i (by omega)];simp only [List.getD,List.getElem?_take];rw [if_pos (by omega)]
theorem Bytes.drop {w:World} {B b off cap n:Nat} {l:List Int} (h:Bytes w B (some ⟨b,off,none⟩) cap l) (hn:n<=l.length):Bytes w B (some ⟨b,off+n,none⟩) (cap-n) (l.drop n):=by
 obtain ⟨h1,h2,h3,h4⟩:=h;refine ⟨by simp;omega,by omega,fun x hx=>h3 x (List.mem_of_mem_drop hx),fun hp=>?_⟩;rw [List.length_drop] at hp;obtain ⟨b',off',e,hb,hc⟩:=h4 (by omega);simp only [Option.some.injEq,Addr.mk.injEq,and_true] at e;obtain ⟨rfl,rfl⟩:=e;refine ⟨b,off+n,rfl,hb,fun i hi=>?_⟩;rw [List.length_drop] at hi;rw [Nat.add_assoc,hc (n+i) (by omega)];simp [List.getD]
set_option maxHeartbeats 1000000 in
theorem piece_any (n:Nat)(h1:1<=n)(h4:n<=4)(B P:Nat)(s:Rd)(W:World)(hr:RdAt W B P s):Calls Tryz.prog 145 #[.pointer (some ⟨P,0,none⟩),.int .i64 (n:Int)] W (PiecePost B P (pieceR n s).1 (pieceR n s).2 W):=by
 obtain⟨A,cap,bx,fr,by',hB,hP⟩:=hr;have BY:=LH by'
 have hm:s.rest.length<=9223372036854775807:=by have:=by'.1;have:=by'.2.1;unfold maxLen at this;omega
 by_cases h:s.rest.length<n
 ·have e:pieceR n s=([],⟨[],true⟩):=by unfold pieceR;rw [if_pos h]
  rw [e];clear by'
  go_enter Tryz.func145,Tryz.ntmps145;go_wp2_with fail;go_ret;refine⟨none,0,rfl,Bytes.nil _ _ _ _ (by simp [maxLen]),⟨none,0,box2_set1 (box2_set0 bx),by(exact kKeep),Bytes.nil _ _ _ _ (by simp [maxLen]),hB,by simpa [World.setCell] using hP⟩,((Keep.refl P W).set _ _).set _ _⟩
 ·have e:pieceR n s=(s.rest.take n,⟨s.rest.drop n,s.short⟩):=by unfold pieceR;rw [if_neg h]
  rw [e];obtain⟨k1,k2,_,k4⟩:=by'
  obtain⟨b,off,rfl,hb,_⟩:=k4 (by omega);have d1:decide ((s.rest.length:Int)<(n:Int))=false:=by simp;omega
  go_enter Tryz.func145,Tryz.ntmps145;go_wp2_with fail
  ·go_ret;have hl:(s.rest.take n).length=n:=by simp;omega
   have hd:s.rest.drop n=[]:=List.drop_of_length_le (by omega);have hz:s.rest.length-n=0:=by omega
   rw [hd];exact⟨some ⟨b,off,none⟩,n,by rw [hl];rfl,((BY.out.take (by omega)).keep ((Keep.refl P W).set _ _) hB (by omega)),⟨some ⟨b,off,none⟩,0,by
    rw [hz];exact box2_set0 bx,by(exact kKeep),Bytes.nil _ _ _ _ (by simp [maxLen]),hB,by simpa [World.setCell] using hP⟩,(Keep.refl P W).set _ _⟩
  ·go_ret;have hl:(s.rest.take n).length=n:=by simp;omega
   exact⟨some ⟨b,off,none⟩,n,by rw [hl];rfl,((BY.out.take (by omega)).keep ((Keep.refl P W).set _ _) hB (by omega)),⟨some ⟨b,off+n,none⟩,cap-n,by
    rw [List.length_drop];exact box2_set0 bx,by(exact kKeep),(BY.out.drop (by omega)).keep ((Keep.refl P W).set _ _) hB (by omega),hB,by simpa [World.setCell] using hP⟩,(Keep.refl P W).set _ _⟩
theorem foldB_take (l:List Int)(k:Nat)(h:k<l.length):foldB (l.take (k+1))=256*foldB (l.take k)+l.getD k 0:=by
 unfold foldB;rw [List.take_succ_eq_append_getElem h,List.foldl_append];simp [List.getD,h]
theorem or_byte (x c:Int)(x0:0<=x)(x1:x<16777216)(c0:0<=c)(c1:c<256):bits .or .i64 (x*256) c=256*x+c:=by
 obtain⟨m,rfl⟩:∃ m:Nat,x=m:=⟨x.toNat,by omega⟩
 obtain⟨d,rfl⟩:∃ m:Nat,c=m:=⟨c.toNat,by omega⟩
 have h2:(BitVec.ofInt 64 (d:Int)).toNat=d:=by
  rw [BitVec.toNat_ofInt];omega
 have h3:(BitVec.ofInt 64 ((m:Int)*256)).toNat=m <<< 8:=by
  rw [BitVec.toNat_ofInt,Nat.shiftLeft_eq];omega
 show IntKind.i64.wrap ((BitVec.ofInt 64 ((m:Int)*256) ||| BitVec.ofInt 64 (d:Int)).toNat:Int)=_;rw [BitVec.toNat_or,h2,h3,<- Nat.shiftLeft_add_eq_or_of_lt (by omega),Nat.shiftLeft_eq,IntKind.wrap_i64];omega
set_option maxHeartbeats 1000000 in
theorem number_any (n:Nat) (h1:1<=n) (h4:n<=4) (B P:Nat) (s:Rd) (W:World) (hr:RdAt W B P s):Calls Tryz.prog 113 #[.pointer (some ⟨P,0,none⟩),.int .i64 (n:Int)] W (RdPost B P (.int .i64 (numR n s).1) (numR n s).2 W):=by
 have PA:=LH (piece_any n h1 h4 B P s W hr);have hn:(pieceR n s).1.length<=4:=by
  unfold pieceR;split
  ·simp
  ·simp;omega
 obtain ⟨l,hl⟩:∃ l,(pieceR n s).1=l:=⟨_,rfl⟩
 obtain ⟨t,ht⟩:∃ t,(pieceR n s).2=t:=⟨_,rfl⟩
 have e:numR n s=(foldB l,t):=by unfold numR;rw [hl,ht]
 rw [e];rw [hl,ht] at PA;rw [hl] at hn;clear hl ht e hr;go_enter Tryz.func113,Tryz.ntmps113;go_wp2_with fail;refine PA.out.mono ?_;rintro e w1 ⟨A,cap,rfl,by1,r1,k1⟩;have R1:=LH r1;have K1:=LH k1;have BY:=LH by1;have hm:l.length<=9223372036854775807:=by omega
 clear r1 k1 by1 PA;go_wp2_with fail;go_loopw [5,12] (fun x i wr=>∃ k:Nat,k<=l.length/\i=.int .i64 k/\x=.int .i64 (foldB (l.take k))/\Hid (0<=foldB (l.take k)/\foldB (l.take k)<256 ^ k)/\wr=w1) (fun _ i _=>l.length-(intOf i).toNat)
 case atStart=>exact ⟨0,by omega,rfl,rfl,LH (by simp [foldB]),rfl⟩
 case round =>
  obtain ⟨k,hk,rfl,rfl,hb,rfl⟩:=hrel;by_cases h:k<l.length
  ·obtain ⟨b,off,rfl,hbb,hc⟩:=BY.out.2.2.2 (by omega);have c0:=hc k h;have wc:=wf_u8 (BY.out.2.2.1 (l.getD k 0) (by simp [List.getD,h]));obtain ⟨c,hc'⟩:∃ c,l.getD k 0=c:=⟨_,rfl⟩
   rw [hc'] at c0 wc;have hnext:=foldB_take l k h;obtain ⟨x,hx⟩:∃ x,foldB (l.take k)=x:=⟨_,rfl⟩
   rw [hx] at hb hnext;rw [hx];rw [hc'] at hnext;have x1:x<16777216:=by
    have h2:=hb.out.2;rcases (show k=0\/k=1\/k=2\/k=3 by omega) with rfl|rfl|rfl|rfl <;> simp at h2 <;> omega
   have x0:=hb.out.1;have hor:bits .or .i64 (wrap64 (x*256)) (wrap64 c)=foldB (l.take (k+1)):=by
    have e1:wrap64 (x*256)=x*256:=by unfold wrap64;omega
    have e2:wrap64 c=c:=by unfold wrap64;omega
    rw [e1,e2,or_byte x c x0 x1 wc.1 (by omega),hnext]
   have hnb:0<=foldB (l.take (k+1))/\foldB (l.take (k+1))<256 ^ (k+1):=by
    rw [hnext,Int.pow_succ];have:=hb.out;omega
   have HOR:=LH hor;have HNB:=LH hnb;clear hor hnb hnext hx hc' hc x0 x1 wc;go_wp2_with fail;go_roundw
   case rel=>exact ⟨k+1,by omega,by go_num,by rw [HOR.out],HNB,trivial⟩
   case measure=>simp [intOf];omega
  ·have e:l.take k=l:=List.take_of_length_le (by omega);rw [e];clear hb e;go_wp2_with fail;go_ret;exact ⟨rfl,R1.out,K1.out⟩
end Go.Proofs.YtejllmjkeefloaaGreat
namespace Go.Proofs.YtejllmjkeefloaaGreat
open Go.ChangeShapes Go.WideShapes Go.ChangeAt Go.RowKit
set_option maxRecDepth 20000
set_option linter.unusedVariables false
theorem wrap32_eq (x:Int):wrap32 x=IntKind.i32.wrap x:=by
 rw [IntKind.wrap_i32];unfold wrap32;omega
theorem single_rd (B P:Nat) (s:Rd) (W:World) (hr:RdAt W B P s):Calls Tryz.prog 93 #[.pointer (some ⟨P,0,none⟩)] W (RdPost B P (.int .i64 (numR 1 s).1) (numR 1 s).2 W):=by
 have C:=LH (number_any 1 (by omega) (by omega) B P s W hr);clear hr;go_enter Tryz.func93,Tryz.ntmps93;go_wp2_with fail;refine C.out.mono ?_;rintro e w1 ⟨rfl,r1,k1⟩;have R:=LH r1;have K:=LH k1;clear r1 k1 C;go_wp2_with fail;go_ret;exact ⟨rfl,R.out,K.out⟩
theorem small_rd (B P:Nat) (s:Rd) (W:World) (hr:RdAt W B P s):Calls Tryz.prog 115 #[.pointer (some ⟨P,0,none⟩)] W (RdPost B P (.int .i8 (smallR s).1) (smallR s).2 W):=by
 have C:=LH (number_any 1 (by omega) (by omega) B P s W hr);obtain ⟨x,hx⟩:∃ x,numR 1 s=x:=⟨_,rfl⟩
 have e:smallR s=(IntKind.i8.wrap x.1,x.2):=by unfold smallR;rw [hx]
 rw [e];rw [hx] at C;clear hr e hx;go_enter Tryz.func115,Tryz.ntmps115;go_wp2_with fail;refine C.out.mono ?_;rintro e w1 ⟨rfl,r1,k1⟩;have R:=LH r1;have K:=LH k1;clear r1 k1 C;go_wp2_with fail;go_ret;exact ⟨rfl,R.out,K.out⟩
theorem wide_rd (B P:Nat) (s:Rd) (W:World) (hr:RdAt W B P s):Calls Tryz.prog 118 #[.pointer (some ⟨P,0,none⟩)] W (RdPost B P (.int .i32 (wideR s).1) (wideR s).2 W):=by
 have C:=LH (number_any 4 (by omega) (by omega) B P s W hr);obtain ⟨x,hx⟩:∃ x,numR 4 s=x:=⟨_,rfl⟩
 have e:wideR s=(IntKind.i32.wrap x.1,x.2):=by unfold wideR;rw [hx]
 rw [e];rw [hx] at C;clear hr e hx;go_enter Tryz.func118,Tryz.ntmps118;go_wp2_with fail;refine C.out.mono ?_;rintro e w1 ⟨rfl,r1,k1⟩;have R:=LH r1;have K:=LH k1;clear r1 k1 C;go_wp2_with fail;go_ret;exact ⟨by rw [<- wrap32_eq];rfl,R.out,K.out⟩
theorem RdAt.alloc {w:World}{B P:Nat}{s:Rd}(h:RdAt w B P s)(x:Obj):RdAt (w.alloc x) B P s:=by
 obtain⟨A,cap,bx,fr,by',hB,hP⟩:=h;exact⟨A,cap,box_old bx hP,fun o=>(((Past.refl w).alloc x).free (p:=⟨P,o,none⟩) hP).trans (fr o),by'.keep (Keep.of_past ((Past.refl w).alloc x)) hB (by omega),hB,by simp;omega⟩
theorem RdAt.set {w:World}{B P Q o:Nat}{s:Rd}{u:Value}(h:RdAt w B P s)(hQ:P<Q):RdAt (w.setCell ⟨Q,o,none⟩ u) B P s:=by
 obtain⟨A,cap,bx,fr,by',hB,hP⟩:=h;refine⟨A,cap,box_set bx (by first|(simp;done)|(dsimp only;omega)|(simp;omega)),free_set fr,?_,hB,by simpa [World.setCell] using hP⟩;obtain⟨h1,h2,h3,h4⟩:=by'
 refine⟨h1,h2,h3,fun hp=>?_⟩;obtain⟨b,off,e,hb,hc⟩:=h4 hp;exact⟨b,off,e,hb,fun i hi=>(World.cell?_setCell_other _ _ _ _ (by first|(simp;done)|(dsimp only;omega)|(simp;omega))).trans (hc i hi)⟩
theorem Keep.setNew {P Q o:Nat}{W w:World}{u:Value}(h:Keep P W w)(hQ:W.heap.size<=Q):Keep P W (w.setCell ⟨Q,o,none⟩ u):=by
 have b:=Below.heap_setCell w ⟨Q,o,none⟩ u;exact⟨h.1,h.2.1,by simpa [World.setCell] using h.2.2.1,fun k hk hne=>(b k (by simp only;omega)).trans (h.2.2.2 k hk hne)⟩
def ShapePost (B P:Nat)(h w c:Int)(t:Rd)(w0:World)(e:Ending)(w':World):Prop:=e=.returned (.agg #[.int .i64 h,.int .i64 w,.int .i64 c])/\RdAt w' B P t/\Keep P w0 w'
set_option maxHeartbeats 1000000 in
theorem shape_rd (B P:Nat) (s:Rd) (W:World) (hr:RdAt W B P s):Calls Tryz.prog 114 #[.pointer (some ⟨P,0,none⟩)] W (ShapePost B P (shapeR s).1.1 (shapeR s).1.2.1 (shapeR s).1.2.2 (shapeR s).2 W):=by
 have C:=LH (fun s w (k:RdAt w B P s)=>single_rd B P s w k)
 obtain ⟨x,hx⟩:∃ x,numR 1 s=x:=⟨_,rfl⟩
 obtain ⟨y,hy⟩:∃ y,numR 1 x.2=y:=⟨_,rfl⟩
 obtain ⟨z,hz⟩:∃ z,numR 1 y.2=z:=⟨_,rfl⟩
 have e:shapeR s=((x.1,y.1,z.1),z.2):=by simp only [shapeR,hx,hy,hz]
 rw [e]
 have hPW:P<W.heap.size:=hr.choose_spec.choose_spec.2.2.2.2
 have HR:=LH hr
 have HX:=LH hx
 have HY:=LH hy
 have HZ:=LH hz
 clear hr e hx hy hz
 go_enter Tryz.func114,Tryz.ntmps114
 go_upto_region 1 with fail
 obtain ⟨Q,hQ⟩:∃ Q,W.heap.size=Q:=⟨_,rfl⟩
 refine opq (fun w'=>(Bx w' Q #[.int .i64 0,.int .i64 0,.int .i64 0])∧(Fr w' Q)∧RdAt w' B P s∧Keep P W w'∧Q+1≤w'.heap.size) (by subst hQ;exact ⟨box_new rfl,free_alloc (free_new (Nat.le_refl _)),HR.out.alloc _,Keep.of_past ((Past.refl W).alloc _),by simp⟩) ?_
 rintro w0 ⟨b0,f0,r0,k0,s0⟩
 try rw [hQ]
 have R0:=LH r0
 have K0:=LH k0
 clear r0 k0
 go_wp2_with fail
 refine (C.out _ _ R0.out).mono ?_
 rintro e w1 ⟨rfl,r1,k1⟩
 rw [HX.out] at r1
 simp only [HX.out]
 have b1:=box_keep k1 b0 (by omega) (by omega)
 have f1:=free_keep k1 f0 (by omega) (by omega)
 have s1:Q+1≤w1.heap.size:=by have:=k1.2.2.1;omega
 have R1:=LH r1
 have K1:=LH (K0.out.trans k1)
 clear b0 f0 s0 r1 k1 R0 K0
 go_wp2_with fail
 refine (C.out _ _ R1.out).mono ?_
 rintro e w2 ⟨rfl,r2,k2⟩
 rw [HY.out] at r2
 simp only [HY.out]
 have b2:=box_keep k2 b1 (by omega) (by omega)
 have f2:=free_keep k2 f1 (by omega) (by omega)
 have s2:Q+1≤w2.heap.size:=by have:=k2.2.2.1;omega
 have R2:=LH r2
 have K2:=LH (K1.out.trans k2)
 clear b1 f1 s1 r2 k2 R1 K1
 go_wp2_with fail
 refine (C.out _ _ R2.out).mono ?_
 rintro e w3 ⟨rfl,r3,k3⟩
 rw [HZ.out] at r3
 simp only [HZ.out]
 have b3:=box_keep k3 b2 (by omega) (by omega)
 have f3:=free_keep k3 f2 (by omega) (by omega)
 have R3:=LH r3
 have K3:=LH (K2.out.trans k3)
 clear b2 f2 s2 r3 k3 R2 K2 C
 go_wp2_with fail
 have b4:=box_set3 (y0:=.int .i64 x.1) (y1:=.int .i64 y.1) (y2:=.int .i64 z.1) b3
 have R4:=LH (((R3.out.set (Q:=Q) (o:=0) (u:=.int .i64 x.1) (by omega)).set (Q:=Q) (o:=1) (u:=.int .i64 y.1) (by omega)).set (Q:=Q) (o:=2) (u:=.int .i64 z.1) (by omega))
 have K4:=LH (((K3.out.setNew (Q:=Q) (o:=0) (u:=.int .i64 x.1) (by omega)).setNew (Q:=Q) (o:=1) (u:=.int .i64 y.1) (by omega)).setNew (Q:=Q) (o:=2) (u:=.int .i64 z.1) (by omega))
 clear b3 f3 R3 K3
 generalize (((w3.setCell { block:=Q,off:=0 } (Value.int IntKind.i64 x.1)).setCell { block:=Q,off:=1 } (Value.int IntKind.i64 y.1)).setCell { block:=Q,off:=2 } (Value.int IntKind.i64 z.1))=w4 at *
 exact bodyPost_ret (v:=.agg #[.int .i64 x.1,.int .i64 y.1,.int .i64 z.1]) (by simp [results,Tryz.results114,go_sem,b4]) rfl ⟨rfl,R4.out,K4.out⟩
end Go.Proofs.YtejllmjkeefloaaGreat
namespace Go.Proofs.YtejllmjkeefloaaGreat
open Go.ChangeShapes Go.WideShapes Go.ChangeAt Go.RowKit
set_option maxRecDepth 20000
set_option linter.unusedVariables false
def ValPost (B P:Nat)(x:ValD)(t:Rd)(w0:World)(e:Ending)(w':World):Prop:=e=.returned (.agg #[.int .i64 x.h,.int .i64 x.w,.int .i64 x.c,.int .i64 x.z])/\RdAt w' B P t/\Keep P w0 w'
theorem RdAt.drewN {w:World}{B P n:Nat}{s:Rd}(h:RdAt w B P s):RdAt (w.drewN n) B P s:=by
 obtain⟨A,cap,bx,fr,by',hB,hP⟩:=h;exact⟨A,cap,box_drewN bx,free_drewN fr,by'.keep (Keep.of_past ((Past.refl w).drewN)) hB (by omega),hB,by simpa using hP⟩
theorem RdAt.drew {w:World}{B P:Nat}{s:Rd}(h:RdAt w B P s):RdAt w.drew B P s:=by
 obtain⟨A,cap,bx,fr,by',hB,hP⟩:=h;exact⟨A,cap,box_drew bx,free_drew fr,by'.keep (Keep.of_past ((Past.refl w).drew)) hB (by omega),hB,by simpa using hP⟩
theorem Keep.of_drew {P:Nat}{w w':World}(h:Keep P w.drew w'):Keep P w w':=(Keep.of_past ((Past.refl w).drew)).trans h
theorem Keep.of_drewN {P n:Nat}{w w':World}(h:Keep P (w.drewN n) w'):Keep P w w':=(Keep.of_past ((Past.refl w).drewN)).trans h
theorem val_after {W w:World} {P S Q:Nat} {x y z:Int} (c0:w.cell? ⟨S,0,none⟩=some (.int .i64 x)) (c1:w.cell? ⟨S,1,none⟩=some (.int .i64 y)) (c2:w.cell? ⟨S,2,none⟩=some (.int .i64 z))
  (b:(Bx w Q #[.int .i64 0,.int .i64 0,.int .i64 0,.int .i64 0])) (f:(Fr w Q)) (k:Keep P W w) (hS:S<w.heap.size) (hSP:S≠P) (hQ:Q<w.heap.size) (hQP:Q≠P) (w':World) (g:Keep P w w') :
  w'.cell? ⟨S,0,none⟩=some (.int .i64 x)∧w'.cell? ⟨S,1,none⟩=some (.int .i64 y)∧w'.cell? ⟨S,2,none⟩=some (.int .i64 z)∧(Bx w' Q #[.int .i64 0,.int .i64 0,.int .i64 0,.int .i64 0])∧(Fr w' Q)∧Hid (Keep P W w') :=
 ⟨(g.cell hS hSP).trans c0,(g.cell hS hSP).trans c1,(g.cell hS hSP).trans c2,box_keep g b hQ hQP,free_keep g f hQ hQP,LH (k.trans g)⟩
set_option maxHeartbeats 1000000 in
theorem val_rd (B P:Nat) (s:Rd) (W:World) (hr:RdAt W B P s):Calls Tryz.prog 89 #[.pointer (some ⟨P,0,none⟩)] W (ValPost B P (valR s).1 (valR s).2 W):=by
 have C:=LH (fun w (k:RdAt w B P s)=>shape_rd B P s w k)
 obtain ⟨x,hx⟩:∃ x,shapeR s=x:=⟨_,rfl⟩
 obtain ⟨y,hy⟩:∃ y,smallR x.2=y:=⟨_,rfl⟩
 have hz : -128≤y.1∧y.1<128:=by rw [← hy];exact wrap8_bd _
 have e:valR s=(⟨x.1.1,x.1.2.1,x.1.2.2,y.1⟩,y.2):=by simp only [valR,hx,hy]
 have C2:=LH (fun w (k:RdAt w B P x.2)=>small_rd B P x.2 w k)
 rw [e]
 have hPW:P<W.heap.size:=hr.choose_spec.choose_spec.2.2.2.2
 have HR:=LH hr
 rw [hx] at C
 rw [hy] at C2
 clear hr e hx hy
 obtain ⟨⟨xh,xw,xc⟩,t1⟩:=x
 obtain ⟨z,t2⟩:=y
 simp only at C C2 hz ⊢
 have e64:IntKind.i64.wrap z=z:=by simp only [IntKind.wrap,IntKind.bits,IntKind.signed];simp;split <;> omega
 clear hz
 go_enter Tryz.func89,Tryz.ntmps89
 go_upto_region 1 with fail
 obtain ⟨Q,hQ⟩:∃ Q,W.heap.size=Q:=⟨_,rfl⟩
 refine opq (fun w'=>(Bx w' Q #[.int .i64 0,.int .i64 0,.int .i64 0,.int .i64 0])∧(Fr w' Q)∧RdAt w' B P s∧Keep P W w'∧Q+1≤w'.heap.size) (by subst hQ;exact ⟨box_new rfl,free_alloc (free_new (Nat.le_refl _)),HR.out.alloc _,Keep.of_past ((Past.refl W).alloc _),by simp⟩) ?_
 rintro w0 ⟨b0,f0,r0,k0,s0⟩
 try rw [hQ]
 have R0:=LH r0
 have K0:=LH k0
 clear r0 k0
 go_wp2_with fail
 refine (C.out _ R0.out).mono ?_
 rintro e w1 ⟨rfl,r1,k1⟩
 have b1:=box_keep k1 b0 (by omega) (by omega)
 have f1:=free_keep k1 f0 (by omega) (by omega)
 have s1:Q+1≤w1.heap.size:=by have:=k1.2.2.1;omega
 have R1:=LH r1
 have K1:=LH (K0.out.trans k1)
 clear b0 f0 s0 r1 k1 R0 K0 C
 obtain ⟨S,hS⟩:∃ S,w1.heap.size=S:=⟨_,rfl⟩
 go_upto_region 2 with fail
 refine opq (fun w'=>(Bx w' Q #[.int .i64 0,.int .i64 0,.int .i64 0,.int .i64 0])∧(Fr w' Q)∧(Bx w' S #[.int .i64 xh,.int .i64 xw,.int .i64 xc])∧RdAt w' B P t1∧Keep P W w'∧S+1≤w'.heap.size) (by
  subst hS
  exact ⟨by (exact kKeep),by (exact kKeep),box_new rfl,R1.out.alloc _,K1.out.trans (Keep.of_past ((Past.refl w1).alloc _)),by simp⟩) ?_
 rintro w2 ⟨b2,f2,c2,r2,k2,s2⟩
 try rw [hS]
 have hne:S≠P:=by omega
 have hQS:Q<S:=by omega
 have R2:=LH r2
 have K2:=LH k2
 clear b1 f1 s1 r2 k2 R1 K1
 have c0:w2.cell? ⟨S,0,none⟩=some (.int .i64 xh):=c2 0
 have c1:w2.cell? ⟨S,1,none⟩=some (.int .i64 xw):=c2 1
 have c3:w2.cell? ⟨S,2,none⟩=some (.int .i64 xc):=c2 2
 have AF:=LH (val_after (W:=W) (w:=w2) (P:=P) (S:=S) (Q:=Q) (x:=xh) (y:=xw) (z:=xc) c0 c1 c3 b2 f2 K2.out (by omega) (by omega) (by omega) (by omega))
 clear c2 b2 f2 s2
 go_region_held3 (fun w'=>w'.cell? ⟨S,0,none⟩=some (.int .i64 xh)∧w'.cell? ⟨S,1,none⟩=some (.int .i64 xw)∧w'.cell? ⟨S,2,none⟩=some (.int .i64 xc)) ((refine ⟨?_,?_,?_⟩ <;> go_cell))
  (first|(go_at_call 115;((with_reducible refine (C2.out _ (by first|exact R2.out|exact RdAt.drew R2.out|exact RdAt.drewN R2.out)).mono ?_));rintro e w3 ⟨rfl,r3,k3⟩;obtain ⟨d0,d1,d2,d3,d4,d5⟩:=AF.out w3 (by first|exact k3|exact Keep.of_drew k3|exact Keep.of_drewN k3)))
 all_goals
  try rw [e64]
  have b4:=box_set4 (y0:=.int .i64 xh) (y1:=.int .i64 xw) (y2:=.int .i64 xc) (y3:=.int .i64 z) d3
  have R4:=LH ((((r3.set (Q:=Q) (o:=0) (u:=.int .i64 xh) (by omega)).set (Q:=Q) (o:=1) (u:=.int .i64 xw) (by omega)).set (Q:=Q) (o:=2) (u:=.int .i64 xc) (by omega)).set (Q:=Q) (o:=3) (u:=.int .i64 z) (by omega))
  have K4:=LH ((((d5.out.setNew (Q:=Q) (o:=0) (u:=.int .i64 xh) (by omega)).setNew (Q:=Q) (o:=1) (u:=.int .i64 xw) (by omega)).setNew (Q:=Q) (o:=2) (u:=.int .i64 xc) (by omega)).setNew (Q:=Q) (o:=3) (u:=.int .i64 z) (by omega))
  clear d0 d1 d2 d3 d4 d5 r3 k3 AF R2 K2
  generalize ((((w3.setCell { block:=Q,off:=0 } (Value.int IntKind.i64 xh)).setCell { block:=Q,off:=1 } (Value.int IntKind.i64 xw)).setCell { block:=Q,off:=2 } (Value.int IntKind.i64 xc)).setCell { block:=Q,off:=3 } (Value.int IntKind.i64 z))=w4 at *
  go_wp2_with fail
  exact bodyPost_ret (v:=.agg #[.int .i64 xh,.int .i64 xw,.int .i64 xc,.int .i64 z]) (by simp [results,Tryz.results89,go_sem,b4]) rfl ⟨rfl,R4.out,K4.out⟩
end Go.Proofs.YtejllmjkeefloaaGreat
namespace Go.Proofs.YtejllmjkeefloaaGreat
open Go.ChangeShapes Go.WideShapes Go.ChangeAt Go.RowKit
set_option maxRecDepth 20000
set_option linter.unusedVariables false
theorem infoInt:(Tryz.prog.info? 3).map (fun i=>(i.zero,i.size,i.bytes))=some (some (.int .i64 0),1,8):=by kernel_rfl
theorem infoI8:(Tryz.prog.info? 114).map (fun i=>(i.zero,i.size,i.bytes))=some (some (.int .i8 0),1,1):=by kernel_rfl
theorem infoI32:(Tryz.prog.info? 21).map (fun i=>(i.zero,i.size,i.bytes))=some (some (.int .i32 0),1,4):=by kernel_rfl
def OwnI (k:IntKind)(t:TypeId)(w:World)(base:Nat)(v:Value)(xs:List Int):Prop:=w.ownsRow base t 1 v xs.length (xs.map (Value.int k))
theorem numR_bd (k:Nat)(s:Rd)(hb:bytesP s.rest):0<=(numR k s).1/\(numR k s).1<256 ^ k:=by
 have hp:(0:Int)<256 ^ k:=Int.pow_pos (by omega);unfold numR pieceR;split
 ·simp only [foldB,List.foldl_nil];omega
 ·rename_i hl;have hl2:(s.rest.take k).length=k:=by simp;omega
  obtain⟨_,_,i3,i4⟩:=num_fold (s.rest.take k) 0 (fun c hc=>hb c (List.mem_of_mem_take hc));rw [hl2] at i3 i4;simp only [foldB];omega
theorem RdAt.low {w w':World}{B P:Nat}{s:Rd}(h:RdAt w B P s)(hs:w.heap.size<=w'.heap.size)(g:∀ k,k<=P->w'.heap[k]? = w.heap[k]?):RdAt w' B P s:=by
 obtain⟨A,cap,bx,fr,by',hB,hP⟩:=h;refine⟨A,cap,fun o=>(World.cell?_of_block (a:=⟨P,o,none⟩) (g P (Nat.le_refl _))).trans (bx o),fun o=>(World.frozen?_of_block (a:=⟨P,o,none⟩) (g P (Nat.le_refl _))).trans (fr o),?_,hB,by omega⟩;obtain⟨h1,h2,h3,h4⟩:=by'
 refine⟨h1,h2,h3,fun hp=>?_⟩;obtain⟨b,off,e,hb,hc⟩:=h4 hp;exact⟨b,off,e,hb,fun i hi=>(World.cell?_of_block (a:=⟨b,off+i,none⟩) (g b (by omega))).trans (hc i hi)⟩
theorem RdAt.grownBy {w w':World}{B P:Nat}{s:Rd}{row:Option Nat}(h:RdAt w B P s)(g:w.grownBy w' row)(hr:∀ k,row=some k->P<k):RdAt w' B P s :=
 h.low g.size (fun k hk=>g.block k (by have:=h.choose_spec.choose_spec.2.2.2.2;omega) (fun e=>by have:=hr k e.symm;omega))
theorem Keep.grownBy {P:Nat}{W w w':World}{row:Option Nat}(h:Keep P W w)(g:w.grownBy w' row)(hr:∀ k,row=some k->W.heap.size<=k):Keep P W w' :=
 ⟨g.os.trans h.1,g.output.trans h.2.1,Nat.le_trans h.2.2.1 g.size,fun k hk hne=>(g.block k (Nat.lt_of_lt_of_le hk h.2.2.1) (fun e=>by have:=hr k e.symm;omega)).trans (h.2.2.2 k hk hne)⟩
theorem Keep.alloc {P:Nat}{W w:World}(h:Keep P W w)(x:Obj):Keep P W (w.alloc x):=h.trans (Keep.of_past ((Past.refl w).alloc x))
theorem RdAt.bytesP {w:World}{B P:Nat}{s:Rd}(h:RdAt w B P s):bytesP s.rest:=by
 obtain⟨A,cap,bx,fr,by',hB,hP⟩:=h;exact by'.bytesP
theorem RdAt.lt {w:World}{B P:Nat}{s:Rd}(h:RdAt w B P s):P<w.heap.size:=by
 obtain⟨A,cap,bx,fr,by',hB,hP⟩:=h;exact hP
theorem goR_end {α:Type}{one:Rd->α×Rd}(l:List α)(s:Rd):goR one 0 l s=(l,s):=rfl
theorem goR_short {α:Type}{one:Rd->α×Rd}(n:Nat)(l:List α)(s:Rd)(h:(one s).2.short=true):goR one (n+1) l s=([],(one s).2):=by unfold goR;rw [if_pos h]
theorem goR_more {α:Type} {one:Rd->α×Rd} (n:Nat) (l:List α) (s:Rd) (h:(one s).2.short=false):goR one (n+1) l s=goR one n (l++[(one s).1]) (one s).2:=by
 conv=>lhs;unfold goR
 rw [if_neg (by rw [h];simp)]
theorem own_int {k:IntKind} {t:TypeId} {w:World} {base:Nat} {v:Value} {xs:List Int} {u:Int} {n:Nat} (hn:n=xs.length) (h:w.ownsRow base t 1 v (n+1) (xs.map (Value.int k)++[.int k u])):OwnI k t w base v (xs++[u]):=by
 subst hn;unfold OwnI;simpa using h
def ListPost (own:World->Value->Prop)(B P:Nat)(t:Rd)(W:World)(e:Ending)(w':World):Prop:=∃ v,e=.returned v/\own w' v/\RdAt w' B P t/\Keep P W w'
set_option maxHeartbeats 4000000 in
theorem list_rd_int (many:Nat)(h1:1<=many)(h4:many<=4)(B P:Nat)(s:Rd)(W:World)(hr:RdAt W B P s) :
  Calls Tryz.prog 92 #[.pointer (some ⟨P,0,none⟩),.int .i64 (many:Int),.func (.func 93) #[.pointer (some ⟨P,0,none⟩)] #[]] W
   (ListPost (fun w' v=>OwnI .i64 3 w' W.heap.size v (listR many (numR 1) s).1) B P (listR many (numR 1) s).2 W):=by
 have hPW:=hr.lt;have C0:=LH (number_any many h1 h4 B P s W hr);have C1:=LH (fun s w (k:RdAt w B P s)=>single_rd B P s w k);obtain⟨nb0,nb1⟩:=numR_bd many s hr.bytesP;obtain⟨N,hN⟩:∃ N:Nat,(numR many s).1=(N:Int):=⟨(numR many s).1.toNat,by omega⟩
 have hN2:N<=4294967296:=by
  have:(256:Int) ^ many<=4294967296:=by
   rcases (show many=1\/many=2\/many=3\/many=4 by omega) with rfl|rfl|rfl|rfl <;> decide
  omega
 obtain⟨l0,s0⟩:∃ t,(numR many s).2=t:=⟨_,rfl⟩
 obtain⟨g,hg⟩:∃ g,goR (numR 1) N [] l0=g:=⟨_,rfl⟩
 have hl:listR many (numR 1) s=g:=by unfold listR;rw [hN,s0,Int.toNat_natCast,hg]
 rw [hl];rw [hN,s0] at C0;have HG:=LH hg;obtain⟨i0,hi0,hz0,hz1,hz2⟩:=info_parts infoInt;have I1:=LH hi0;have I2:=LH hz0;have I3:=LH hz1;have I4:=LH hz2;clear hi0 hz0 hz1 hz2 hr nb0 nb1 hN s0 hl hg h1 h4;go_enter Tryz.func92,Tryz.ntmps92;go_wp2_with fail;refine C0.out.mono ?_;rintro e w1 ⟨rfl,r1,k1⟩;have R1:=LH r1;have K1:=LH k1;have S1:W.heap.size<=w1.heap.size:=k1.2.2.1;clear r1 k1 C0;go_wp2_with fail;go_loopw [7,12] (fun v i wr=>∃ (k:Nat) (l:List Int) (st:Rd),k<=N/\i=.int .i64 k/\l.length=k/\Hid (goR (numR 1) (N-k) l st=g)/\Hid (OwnI .i64 3 wr W.heap.size v l)/\Hid (RdAt wr B P st)/\Hid (Keep P W wr)/\W.heap.size<=wr.heap.size) (fun _ i _=>N-(intOf i).toNat)
 case atStart=>exact⟨0,[],l0,by omega,rfl,rfl,LH HG.out,LH (World.ownsRow_nil _ _ _ _),R1,K1,S1⟩
 case round =>
  clear R1 K1 S1 HG;obtain⟨k,l,st,hk,rfl,hll,hgo,own,rr,kk,ss⟩:=hrel;by_cases h:k<N
  ·obtain⟨m,hm⟩:∃ m,N-k=m+1:=⟨N-k-1,by omega⟩
   rw [hm] at hgo;go_wp2_with fail;refine(C1.out _ _ rr.out).mono ?_;rintro e w2 ⟨rfl,r2,k2⟩;have OW2:=LH (own_keep own.out k2 hPW);have K2:=LH (kk.out.trans k2);have S2:W.heap.size<=w2.heap.size:=by have:=k2.2.2.1;omega
   have R2:=LH r2;obtain⟨A,cap,bx,fr,_,_,_⟩:=r2;obtain⟨x,hx⟩:∃ x,(numR 1 st)=x:=⟨_,rfl⟩
   rw [hx] at R2 bx;simp only [hx];rcases Bool.eq_false_or_eq_true x.2.short with hs|hs
   ·have hr2:=goR_short (one:=numR 1) m l st (by rw [hx];exact hs);rw [hgo.out,hx] at hr2;have HR2:=LH hr2;clear hr2 hx hgo own rr kk ss k2;rw [hs] at bx;go_wp2_with fail;go_ret;exact⟨_,rfl,by rw [HR2.out];exact World.ownsRow_nil _ _ _ _,by rw [HR2.out];exact R2.out,K2.out⟩
   ·have hr2:=goR_more (one:=numR 1) m l st (by rw [hx];exact hs);rw [hgo.out,hx] at hr2;have HR2:=LH hr2;have HLT:=LH (World.ownsRow.lt OW2.out);clear hr2 hx hgo own rr kk ss k2;rw [hs] at bx;go_wp2_with (at_builtin;refine wpList_append_own _ rfl (.tmp 20) (.tmp 22) 26 rfl W.heap.size 3 i0 _ 1 8 Tryz.underlying26 I1.out I2.out I3.out I4.out rfl (by decide) _ _ _ rfl (World.ownsRow.alloc OW2.out _) ⟨w2.heap.size,0,none⟩ 1 1 [.int .i64 x.1] rfl rfl (fun j u hu=>cells_new' w2 _ 3 j u hu) (by intro u hu;simp at hu;subst hu;rfl) ?c4 ?c5 ?c6 ?_)
    case c4=>unfold maxLen;omega
    case c5=>omega
    case c6=>simp;omega
    intro v4 w4 hown4 hgrow _;have ho4:=LH (own_int hll.symm hown4);have R4:=LH ((R2.out.alloc (.cells #[.int .i64 x.1] 3)).grownBy hgrow (fun j hj=>by have:=(HLT.out j hj).1;omega));have K4:=LH ((K2.out.alloc (.cells #[.int .i64 x.1] 3)).grownBy hgrow (fun j hj=>(HLT.out j hj).1));have S4:W.heap.size<=w4.heap.size:=by have:=hgrow.size;simp only [World.size_alloc] at this;omega
    clear hown4 hgrow HLT OW2 K2 R2 S2 bx fr;go_wp2_with fail;go_roundw
    case rel=>exact⟨k+1,l++[x.1],x.2,by omega,by go_num,by simp [hll],LH (by rw [HR2.out];congr 1;omega),ho4,R4,K4,S4⟩
    case measure=>simp [intOf];omega
  ·have e:N-k=0:=by omega
   have hgo':=hgo.out;rw [e,goR_end] at hgo';have HE:=LH hgo';clear hgo hgo' e;go_wp2_with fail;go_ret;exact⟨_,rfl,by rw [<- HE.out];exact own.out,by rw [<- HE.out];exact rr.out,kk.out⟩
set_option maxHeartbeats 4000000 in
theorem list_rd_int8 (many:Nat)(h1:1<=many)(h4:many<=4)(B P:Nat)(s:Rd)(W:World)(hr:RdAt W B P s) :
  Calls Tryz.prog 116 #[.pointer (some ⟨P,0,none⟩),.int .i64 (many:Int),.func (.func 115) #[.pointer (some ⟨P,0,none⟩)] #[]] W
   (ListPost (fun w' v=>OwnI .i8 114 w' W.heap.size v (listR many (smallR) s).1) B P (listR many (smallR) s).2 W):=by
 have hPW:=hr.lt;have C0:=LH (number_any many h1 h4 B P s W hr);have C1:=LH (fun s w (k:RdAt w B P s)=>small_rd B P s w k);obtain⟨nb0,nb1⟩:=numR_bd many s hr.bytesP;obtain⟨N,hN⟩:∃ N:Nat,(numR many s).1=(N:Int):=⟨(numR many s).1.toNat,by omega⟩
 have hN2:N<=4294967296:=by
  have:(256:Int) ^ many<=4294967296:=by
   rcases (show many=1\/many=2\/many=3\/many=4 by omega) with rfl|rfl|rfl|rfl <;> decide
  omega
 obtain⟨l0,s0⟩:∃ t,(numR many s).2=t:=⟨_,rfl⟩
 obtain⟨g,hg⟩:∃ g,goR (smallR) N [] l0=g:=⟨_,rfl⟩
 have hl:listR many (smallR) s=g:=by unfold listR;rw [hN,s0,Int.toNat_natCast,hg]
 rw [hl];rw [hN,s0] at C0;have HG:=LH hg;obtain⟨i0,hi0,hz0,hz1,hz2⟩:=info_parts infoI8;have I1:=LH hi0;have I2:=LH hz0;have I3:=LH hz1;have I4:=LH hz2;clear hi0 hz0 hz1 hz2 hr nb0 nb1 hN s0 hl hg h1 h4;go_enter Tryz.func116,Tryz.ntmps116;go_wp2_with fail;refine C0.out.mono ?_;rintro e w1 ⟨rfl,r1,k1⟩;have R1:=LH r1;have K1:=LH k1;have S1:W.heap.size<=w1.heap.size:=k1.2.2.1;clear r1 k1 C0;go_wp2_with fail;go_loopw [7,12] (fun v i wr=>∃ (k:Nat) (l:List Int) (st:Rd),k<=N/\i=.int .i64 k/\l.length=k/\Hid (goR (smallR) (N-k) l st=g)/\Hid (OwnI .i8 114 wr W.heap.size v l)/\Hid (RdAt wr B P st)/\Hid (Keep P W wr)/\W.heap.size<=wr.heap.size) (fun _ i _=>N-(intOf i).toNat)
 case atStart=>exact⟨0,[],l0,by omega,rfl,rfl,LH HG.out,LH (World.ownsRow_nil _ _ _ _),R1,K1,S1⟩
 case round =>
  clear R1 K1 S1 HG;obtain⟨k,l,st,hk,rfl,hll,hgo,own,rr,kk,ss⟩:=hrel;by_cases h:k<N
  ·obtain⟨m,hm⟩:∃ m,N-k=m+1:=⟨N-k-1,by omega⟩
   rw [hm] at hgo;go_wp2_with fail;refine(C1.out _ _ rr.out).mono ?_;rintro e w2 ⟨rfl,r2,k2⟩;have OW2:=LH (own_keep own.out k2 hPW);have K2:=LH (kk.out.trans k2);have S2:W.heap.size<=w2.heap.size:=by have:=k2.2.2.1;omega
   have R2:=LH r2;obtain⟨A,cap,bx,fr,_,_,_⟩:=r2;obtain⟨x,hx⟩:∃ x,(smallR st)=x:=⟨_,rfl⟩
   rw [hx] at R2 bx;simp only [hx];rcases Bool.eq_false_or_eq_true x.2.short with hs|hs
   ·have hr2:=goR_short (one:=smallR) m l st (by rw [hx];exact hs);rw [hgo.out,hx] at hr2;have HR2:=LH hr2;clear hr2 hx hgo own rr kk ss k2;rw [hs] at bx;go_wp2_with fail;go_ret;exact⟨_,rfl,by rw [HR2.out];exact World.ownsRow_nil _ _ _ _,by rw [HR2.out];exact R2.out,K2.out⟩
   ·have hr2:=goR_more (one:=smallR) m l st (by rw [hx];exact hs);rw [hgo.out,hx] at hr2;have HR2:=LH hr2;have HLT:=LH (World.ownsRow.lt OW2.out);clear hr2 hx hgo own rr kk ss k2;rw [hs] at bx;go_wp2_with (at_builtin;refine wpList_append_own _ rfl (.tmp 20) (.tmp 22) 60 rfl W.heap.size 114 i0 _ 1 1 Tryz.underlying60 I1.out I2.out I3.out I4.out rfl (by decide) _ _ _ rfl (World.ownsRow.alloc OW2.out _) ⟨w2.heap.size,0,none⟩ 1 1 [.int .i8 x.1] rfl rfl (fun j u hu=>cells_new' w2 _ 114 j u hu) (by intro u hu;simp at hu;subst hu;rfl) ?c4 ?c5 ?c6 ?_)
    case c4=>unfold maxLen;omega
    case c5=>omega
    case c6=>simp;omega
    intro v4 w4 hown4 hgrow _;have ho4:=LH (own_int hll.symm hown4);have R4:=LH ((R2.out.alloc (.cells #[.int .i8 x.1] 114)).grownBy hgrow (fun j hj=>by have:=(HLT.out j hj).1;omega));have K4:=LH ((K2.out.alloc (.cells #[.int .i8 x.1] 114)).grownBy hgrow (fun j hj=>(HLT.out j hj).1));have S4:W.heap.size<=w4.heap.size:=by have:=hgrow.size;simp only [World.size_alloc] at this;omega
    clear hown4 hgrow HLT OW2 K2 R2 S2 bx fr;go_wp2_with fail;go_roundw
    case rel=>exact⟨k+1,l++[x.1],x.2,by omega,by go_num,by simp [hll],LH (by rw [HR2.out];congr 1;omega),ho4,R4,K4,S4⟩
    case measure=>simp [intOf];omega
  ·have e:N-k=0:=by omega
   have hgo':=hgo.out;rw [e,goR_end] at hgo';have HE:=LH hgo';clear hgo hgo' e;go_wp2_with fail;go_ret;exact⟨_,rfl,by rw [<- HE.out];exact own.out,by rw [<- HE.out];exact rr.out,kk.out⟩
set_option maxHeartbeats 4000000 in
theorem list_rd_int32 (many:Nat)(h1:1<=many)(h4:many<=4)(B P:Nat)(s:Rd)(W:World)(hr:RdAt W B P s) :
  Calls Tryz.prog 117 #[.pointer (some ⟨P,0,none⟩),.int .i64 (many:Int),.func (.func 118) #[.pointer (some ⟨P,0,none⟩)] #[]] W
   (ListPost (fun w' v=>OwnI .i32 21 w' W.heap.size v (listR many (wideR) s).1) B P (listR many (wideR) s).2 W):=by
 have hPW:=hr.lt;have C0:=LH (number_any many h1 h4 B P s W hr);have C1:=LH (fun s w (k:RdAt w B P s)=>wide_rd B P s w k);obtain⟨nb0,nb1⟩:=numR_bd many s hr.bytesP;obtain⟨N,hN⟩:∃ N:Nat,(numR many s).1=(N:Int):=⟨(numR many s).1.toNat,by omega⟩
 have hN2:N<=4294967296:=by
  have:(256:Int) ^ many<=4294967296:=by
   rcases (show many=1\/many=2\/many=3\/many=4 by omega) with rfl|rfl|rfl|rfl <;> decide
  omega
 obtain⟨l0,s0⟩:∃ t,(numR many s).2=t:=⟨_,rfl⟩
 obtain⟨g,hg⟩:∃ g,goR (wideR) N [] l0=g:=⟨_,rfl⟩
 have hl:listR many (wideR) s=g:=by unfold listR;rw [hN,s0,Int.toNat_natCast,hg]
 rw [hl];rw [hN,s0] at C0;have HG:=LH hg;obtain⟨i0,hi0,hz0,hz1,hz2⟩:=info_parts infoI32;have I1:=LH hi0;have I2:=LH hz0;have I3:=LH hz1;have I4:=LH hz2;clear hi0 hz0 hz1 hz2 hr nb0 nb1 hN s0 hl hg h1 h4;go_enter Tryz.func117,Tryz.ntmps117;go_wp2_with fail;refine C0.out.mono ?_;rintro e w1 ⟨rfl,r1,k1⟩;have R1:=LH r1;have K1:=LH k1;have S1:W.heap.size<=w1.heap.size:=k1.2.2.1;clear r1 k1 C0;go_wp2_with fail;go_loopw [7,12] (fun v i wr=>∃ (k:Nat) (l:List Int) (st:Rd),k<=N/\i=.int .i64 k/\l.length=k/\Hid (goR (wideR) (N-k) l st=g)/\Hid (OwnI .i32 21 wr W.heap.size v l)/\Hid (RdAt wr B P st)/\Hid (Keep P W wr)/\W.heap.size<=wr.heap.size) (fun _ i _=>N-(intOf i).toNat)
 case atStart=>exact⟨0,[],l0,by omega,rfl,rfl,LH HG.out,LH (World.ownsRow_nil _ _ _ _),R1,K1,S1⟩
 case round =>
  clear R1 K1 S1 HG;obtain⟨k,l,st,hk,rfl,hll,hgo,own,rr,kk,ss⟩:=hrel;by_cases h:k<N
  ·obtain⟨m,hm⟩:∃ m,N-k=m+1:=⟨N-k-1,by omega⟩
   rw [hm] at hgo;go_wp2_with fail;refine(C1.out _ _ rr.out).mono ?_;rintro e w2 ⟨rfl,r2,k2⟩;have OW2:=LH (own_keep own.out k2 hPW);have K2:=LH (kk.out.trans k2);have S2:W.heap.size<=w2.heap.size:=by have:=k2.2.2.1;omega
   have R2:=LH r2;obtain⟨A,cap,bx,fr,_,_,_⟩:=r2;obtain⟨x,hx⟩:∃ x,(wideR st)=x:=⟨_,rfl⟩
   rw [hx] at R2 bx;simp only [hx];rcases Bool.eq_false_or_eq_true x.2.short with hs|hs
   ·have hr2:=goR_short (one:=wideR) m l st (by rw [hx];exact hs);rw [hgo.out,hx] at hr2;have HR2:=LH hr2;clear hr2 hx hgo own rr kk ss k2;rw [hs] at bx;go_wp2_with fail;go_ret;exact⟨_,rfl,by rw [HR2.out];exact World.ownsRow_nil _ _ _ _,by rw [HR2.out];exact R2.out,K2.out⟩
   ·have hr2:=goR_more (one:=wideR) m l st (by rw [hx];exact hs);rw [hgo.out,hx] at hr2;have HR2:=LH hr2;have HLT:=LH (World.ownsRow.lt OW2.out);clear hr2 hx hgo own rr kk ss k2;rw [hs] at bx;go_wp2_with (at_builtin;refine wpList_append_own _ rfl (.tmp 20) (.tmp 22) 61 rfl W.heap.size 21 i0 _ 1 4 Tryz.underlying61 I1.out I2.out I3.out I4.out rfl (by decide) _ _ _ rfl (World.ownsRow.alloc OW2.out _) ⟨w2.heap.size,0,none⟩ 1 1 [.int .i32 x.1] rfl rfl (fun j u hu=>cells_new' w2 _ 21 j u hu) (by intro u hu;simp at hu;subst hu;rfl) ?c4 ?c5 ?c6 ?_)
    case c4=>unfold maxLen;omega
    case c5=>omega
    case c6=>simp;omega
    intro v4 w4 hown4 hgrow _;have ho4:=LH (own_int hll.symm hown4);have R4:=LH ((R2.out.alloc (.cells #[.int .i32 x.1] 21)).grownBy hgrow (fun j hj=>by have:=(HLT.out j hj).1;omega));have K4:=LH ((K2.out.alloc (.cells #[.int .i32 x.1] 21)).grownBy hgrow (fun j hj=>(HLT.out j hj).1));have S4:W.heap.size<=w4.heap.size:=by have:=hgrow.size;simp only [World.size_alloc] at this;omega
    clear hown4 hgrow HLT OW2 K2 R2 S2 bx fr;go_wp2_with fail;go_roundw
    case rel=>exact⟨k+1,l++[x.1],x.2,by omega,by go_num,by simp [hll],LH (by rw [HR2.out];congr 1;omega),ho4,R4,K4,S4⟩
    case measure=>simp [intOf];omega
  ·have e:N-k=0:=by omega
   have hgo':=hgo.out;rw [e,goR_end] at hgo';have HE:=LH hgo';clear hgo hgo' e;go_wp2_with fail;go_ret;exact⟨_,rfl,by rw [<- HE.out];exact own.out,by rw [<- HE.out];exact rr.out,kk.out⟩
end Go.Proofs.YtejllmjkeefloaaGreat
namespace Go.Proofs.YtejllmjkeefloaaGreat
open Go.ChangeShapes Go.WideShapes Go.ChangeAt Go.RowKit
set_option maxRecDepth 20000
set_option linter.unusedVariables false
theorem own_val {w:World} {base:Nat} {v:Value} {xs:List ValD} {u:ValD} {n:Nat} (hn:n=xs.length) (h:w.ownsRow base 47 4 v (n+1) (valsCells xs++valCells u)):OwnVals w base v (xs++[u]):=by
 subst hn;unfold OwnVals;rw [valsCells_snoc];simpa using h
set_option maxHeartbeats 4000000 in
theorem list_rd_val (many:Nat)(h1:1<=many)(h4:many<=4)(B P:Nat)(s:Rd)(W:World)(hr:RdAt W B P s) :
  Calls Tryz.prog 88 #[.pointer (some ⟨P,0,none⟩),.int .i64 (many:Int),.func (.func 89) #[.pointer (some ⟨P,0,none⟩)] #[]] W
   (ListPost (fun w' v=>OwnVals w' W.heap.size v (listR many valR s).1) B P (listR many valR s).2 W):=by
 have hPW:=hr.lt;have C0:=LH (number_any many h1 h4 B P s W hr);have C1:=LH (fun s w (k:RdAt w B P s)=>val_rd B P s w k);obtain⟨nb0,nb1⟩:=numR_bd many s hr.bytesP;obtain⟨N,hN⟩:∃ N:Nat,(numR many s).1=(N:Int):=⟨(numR many s).1.toNat,by omega⟩
 have hN2:N<=4294967296:=by
  have:(256:Int) ^ many<=4294967296:=by
   rcases (show many=1\/many=2\/many=3\/many=4 by omega) with rfl|rfl|rfl|rfl <;> decide
  omega
 obtain⟨l0,s0⟩:∃ t,(numR many s).2=t:=⟨_,rfl⟩
 obtain⟨g,hg⟩:∃ g,goR valR N [] l0=g:=⟨_,rfl⟩
 have hl:listR many valR s=g:=by unfold listR;rw [hN,s0,Int.toNat_natCast,hg]
 rw [hl];rw [hN,s0] at C0;have HG:=LH hg;obtain⟨i0,hi0,hz0,hz1,hz2⟩:=info_parts info32;have I1:=LH hi0;have I2:=LH hz0;have I3:=LH hz1;have I4:=LH hz2;clear hi0 hz0 hz1 hz2 hr nb0 nb1 hN s0 hl hg h1 h4;go_enter Tryz.func88,Tryz.ntmps88;go_wp2_with fail;refine C0.out.mono ?_;rintro e w1 ⟨rfl,r1,k1⟩;have R1:=LH r1;have K1:=LH k1;have S1:W.heap.size<=w1.heap.size:=k1.2.2.1;clear r1 k1 C0;go_wp2_with fail;go_loopw [7,12] (fun v i wr=>∃ (k:Nat) (l:List ValD) (st:Rd),k<=N/\i=.int .i64 k/\l.length=k/\Hid (goR valR (N-k) l st=g)/\Hid (OwnVals wr W.heap.size v l)/\Hid (RdAt wr B P st)/\Hid (Keep P W wr)/\W.heap.size<=wr.heap.size) (fun _ i _=>N-(intOf i).toNat)
 case atStart=>exact⟨0,[],l0,by omega,rfl,rfl,LH HG.out,LH (World.ownsRow_nil _ _ _ _),R1,K1,S1⟩
 case round =>
  clear R1 K1 S1 HG;obtain⟨k,l,st,hk,rfl,hll,hgo,own,rr,kk,ss⟩:=hrel;by_cases h:k<N
  ·obtain⟨m,hm⟩:∃ m,N-k=m+1:=⟨N-k-1,by omega⟩
   rw [hm] at hgo;go_wp2_with fail;refine(C1.out _ _ rr.out).mono ?_;rintro e w2 ⟨rfl,r2,k2⟩;have OW2:=LH (own_keep own.out k2 hPW);have K2:=LH (kk.out.trans k2);have S2:W.heap.size<=w2.heap.size:=by have:=k2.2.2.1;omega
   have R2:=LH r2;obtain⟨A,cap,bx,fr,_,_,_⟩:=r2;obtain⟨x,hx⟩:∃ x,(valR st)=x:=⟨_,rfl⟩
   rw [hx] at R2 bx;simp only [hx];obtain⟨y,t'⟩:=x;simp only at R2 bx ⊢;have hPS:P<w2.heap.size:=R2.out.lt;obtain⟨P8,hP8⟩:∃ P8,w2.heap.size=P8:=⟨_,rfl⟩
   go_upto_region 5 with fail;refine opq (fun w'=>(Bx w' P8 #[.int .i64 y.h,.int .i64 y.w,.int .i64 y.c,.int .i64 y.z])/\(Bx w' P #[.slice A t'.rest.length cap,.bool t'.short])/\Hid (RdAt w' B P t')/\Hid (OwnVals w' W.heap.size u7 l)/\Hid (Keep P W w')/\W.heap.size<=w'.heap.size/\P8<w'.heap.size) (by
    subst hP8;exact⟨box_new rfl,box_old bx hPS,LH (R2.out.alloc _),LH (World.ownsRow.alloc OW2.out _),LH (K2.out.alloc _),by simp;omega,by simp⟩) ?_
   rintro w3 ⟨b3,bx3,R3,OW3,K3,S3,s3⟩;have hg3:=hgo.out;clear bx fr OW2 K2 R2 S2 own rr kk ss k2 hP8 hgo;rcases Bool.eq_false_or_eq_true t'.short with hs|hs
   ·have hr2:=goR_short (one:=valR) m l st (by rw [hx];exact hs);rw [hg3,hx] at hr2;have HR2:=LH hr2;clear hr2 hx hg3;rw [hs] at bx3;go_wp2_with fail;go_ret;exact⟨_,rfl,by rw [HR2.out];exact World.ownsRow_nil _ _ _ _,by rw [HR2.out];exact R3.out,K3.out⟩
   ·have hr2:=goR_more (one:=valR) m l st (by rw [hx];exact hs);rw [hg3,hx] at hr2;have HR2:=LH hr2;have HLT:=LH (World.ownsRow.lt OW3.out);clear hr2 hx hg3;rw [hs] at bx3;go_wp2_with (at_builtin;refine wpList_append_own _ rfl (.tmp 20) (.tmp 22) 24 rfl W.heap.size 47 i0 _ 4 32 Tryz.underlying24 I1.out I2.out I3.out I4.out rfl (by decide) _ _ _ rfl (World.ownsRow.alloc OW3.out _) ⟨w3.heap.size,0,none⟩ 1 1 (valCells y) rfl rfl (fun j u hu=>cells_new' w3 _ 47 j u hu) (val_one y) ?c4 ?c5 ?c6 ?_)
    case c4=>unfold maxLen;omega
    case c5=>omega
    case c6=>first|omega|(simp;omega)
    intro v4 w4 hown4 hgrow _;have ho4:=LH (own_val hll.symm hown4);have R4:=LH ((R3.out.alloc (.cells ⟨valCells y⟩ 47)).grownBy hgrow (fun j hj=>by have:=(HLT.out j hj).1;omega));have K4:=LH ((K3.out.alloc (.cells ⟨valCells y⟩ 47)).grownBy hgrow (fun j hj=>(HLT.out j hj).1));have S4:W.heap.size<=w4.heap.size:=by have:=hgrow.size;simp only [World.size_alloc] at this;omega
    clear hown4 hgrow HLT OW3 K3 R3 S3 bx3 b3;go_wp2_with fail;go_roundw
    case rel=>exact⟨k+1,l++[y],t',by omega,by go_num,by simp [hll],LH (by rw [HR2.out];congr 1;omega),ho4,R4,K4,S4⟩
    case measure=>simp [intOf];omega
  ·have e:N-k=0:=by omega
   have hgo':=hgo.out;rw [e,goR_end] at hgo';have HE:=LH hgo';clear hgo hgo' e;go_wp2_with fail;go_ret;exact⟨_,rfl,by rw [<- HE.out];exact own.out,by rw [<- HE.out];exact rr.out,kk.out⟩
end Go.Proofs.YtejllmjkeefloaaGreat
