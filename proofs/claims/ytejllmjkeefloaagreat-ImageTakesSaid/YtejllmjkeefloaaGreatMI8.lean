/- isa: the reader: number. isa: the reader: a command. -/
import Derived.Test.YtejllmjkeefloaaGreatMI5
namespace Go.Proofs.YtejllmjkeefloaaGreat.Q8
open Go.ChangeShapes Go.WideShapes Go.ChangeAt Go.RowKit
set_option maxRecDepth 20000
set_option linter.unusedVariables false
set_option linter.unusedSimpArgs false
structure Rd where
 rest:List Int
 short:Bool
def numI (k:Nat)(s:Rd):Int×Rd:=if s.rest.length<k then (0,⟨s.rest,true⟩) else (foldB (s.rest.take k),⟨s.rest.drop k,s.short⟩)
def Keep (P:Nat)(w w':World):Prop:=w'.os=w.os/\w'.output=w.output/\w.heap.size<=w'.heap.size/\∀ k,k<w.heap.size->k≠P->w'.heap[k]? = w.heap[k]?
theorem Keep.refl (P:Nat)(w:World):Keep P w w:=⟨rfl,rfl,Nat.le_refl _,fun _ _ _=>rfl⟩
theorem Keep.trans {P:Nat}{a b c:World}(h:Keep P a b)(k:Keep P b c):Keep P a c :=
 ⟨k.1.trans h.1,k.2.1.trans h.2.1,Nat.le_trans h.2.2.1 k.2.2.1,fun i hi hn=>(k.2.2.2 i (Nat.lt_of_lt_of_le hi h.2.2.1) hn).trans (h.2.2.2 i hi hn)⟩
theorem Keep.set {P:Nat}{w w':World}(h:Keep P w w')(o:Nat)(u:Value):Keep P w (w'.setCell ⟨P,o,none⟩ u):=by
 have b:=Below.heap_setCell w' ⟨P,o,none⟩ u;exact⟨h.1,h.2.1,by simpa [World.setCell] using h.2.2.1,fun k hk hne=>(b k hne).trans (h.2.2.2 k hk hne)⟩
theorem Keep.of_past {P:Nat}{w w':World}(h:Past w w'):Keep P w w':=⟨h.1,h.2.1,h.2.2.1,fun k hk _=>h.2.2.2 k hk⟩
theorem Keep.past {P:Nat}{W w w':World}(p:Past W w)(h:Keep P w w')(hP:W.heap.size<=P):Past W w' :=
 ⟨h.1.trans p.1,h.2.1.trans p.2.1,Nat.le_trans p.2.2.1 h.2.2.1,fun k hk=>(h.2.2.2 k (Nat.lt_of_lt_of_le hk p.2.2.1) (by omega)).trans (p.2.2.2 k hk)⟩
theorem Keep.cell {P b o:Nat} {w w':World} (h:Keep P w w') (hb:b<w.heap.size) (hn:b≠P):w'.cell? ⟨b,o,none⟩=w.cell? ⟨b,o,none⟩:=World.cell?_of_block (a:=⟨b,o,none⟩) (h.2.2.2 b hb hn)
theorem Keep.free {P b o:Nat} {w w':World} (h:Keep P w w') (hb:b<w.heap.size) (hn:b≠P):w'.frozen? ⟨b,o,none⟩=w.frozen? ⟨b,o,none⟩:=World.frozen?_of_block (a:=⟨b,o,none⟩) (h.2.2.2 b hb hn)
theorem box_keep {P b:Nat}{w w':World}{cs:Array Value}(h:Keep P w w')(k:(Bx w b cs))(hb:b<w.heap.size)(hn:b≠P):(Bx w' b cs):=fun o=>(h.cell hb hn).trans (k o)
theorem free_keep {P b:Nat}{w w':World}(h:Keep P w w')(k:(Fr w b))(hb:b<w.heap.size)(hn:b≠P):(Fr w' b):=fun o=>(h.free hb hn).trans (k o)
theorem own_keep {P:Nat}{w w':World}{base e size n:Nat}{v:Value}{xs:List Value}(h:w.ownsRow base e size v n xs)(g:Keep P w w')(hP:P<base):w'.ownsRow base e size v n xs:=by
 refine⟨h.1,?_⟩;rcases h.2 with hn|⟨b,cap,cur,rfl,hb,hg,rest⟩
 ·exact Or.inl hn
 ·exact Or.inr ⟨b,cap,cur,rfl,hb,(g.2.2.2 b (Array.getElem?_eq_some_iff.1 hg).1 (by omega)).trans hg,rest⟩
def Bytes (w:World)(B:Nat)(A:Option Addr)(cap:Nat)(l:List Int):Prop :=
 l.length<=cap/\cap<=maxLen/\(∀ x∈l,(Lit.int .u8 x).wf=true)/\(0<l.length->∃ b off,A=some ⟨b,off,none⟩/\b<B/\∀ i,i<l.length->w.cell? ⟨b,off+i,none⟩=some (.int .u8 (l.getD i 0)))
theorem Bytes.keep {w w':World}{B P cap:Nat}{A:Option Addr}{l:List Int}(h:Bytes w B A cap l)(g:Keep P w w')(hB:B<=P)(hB':B<=w.heap.size):Bytes w' B A cap l:=by
 obtain⟨h1,h2,h3,h4⟩:=h;refine⟨h1,h2,h3,fun hp=>?_⟩;obtain⟨b,off,e,hb,hc⟩:=h4 hp;exact⟨b,off,e,hb,fun i hi=>(g.cell (by omega) (by omega)).trans (hc i hi)⟩
theorem Bytes.nil (w:World)(B:Nat)(A:Option Addr)(cap:Nat)(hc:cap<=maxLen):Bytes w B A cap []:=⟨Nat.zero_le _,hc,by simp,by simp⟩
theorem Bytes.bytesP {w:World}{B cap:Nat}{A:Option Addr}{l:List Int}(h:Bytes w B A cap l):bytesP l:=fun c hc=>by
 have:=wf_u8 (h.2.2.1 c hc);omega
def RdAt (w:World)(B P:Nat)(s:Rd):Prop :=
 ∃ A cap,(Bx w P #[.slice A s.rest.length cap,.bool s.short])/\(Fr w P)/\Bytes w B A cap s.rest/\B<=P/\P<w.heap.size
def RdPost (B P:Nat)(v:Value)(t:Rd)(w:World)(e:Ending)(w':World):Prop:=e=.returned v/\RdAt w' B P t/\Keep P w w'
theorem box2_set0 {w:World}{b:Nat}{x0 x1 y:Value}(h:(Bx w b #[x0,x1])):(Bx (w.setCell ⟨b,0,none⟩ y) b #[y,x1]):=by
 intro o;match o with
 | 0=>exact World.cell?_setCell_same w _ _ (h 0)
 | k+1=>rw [World.cell?_setCell_other _ _ _ _ (by simp)];have:=h (k+1);simpa using this
theorem box2_set1 {w:World}{b:Nat}{x0 x1 y:Value}(h:(Bx w b #[x0,x1])):(Bx (w.setCell ⟨b,1,none⟩ y) b #[x0,y]):=by
 intro o;match o with
 | 0=>rw [World.cell?_setCell_other _ _ _ _ (by simp)];exact h 0
 | 1=>exact World.cell?_setCell_same w _ _ (h 1)
 | k+2=>rw [World.cell?_setCell_other _ _ _ _ (by simp)];have:=h (k+2);simpa using this
theorem Bytes.take {w:World}{B cap n:Nat}{A:Option Addr}{l:List Int}(h:Bytes w B A cap l)(hn:n<=l.length):Bytes w B A n (l.take n):=by
 obtain⟨h1,h2,h3,h4⟩:=h;have hl:(l.take n).length=n:=by simp;omega
 refine⟨by omega,by omega,fun x hx=>h3 x (List.mem_of_mem_take hx),fun hp=>?_⟩;obtain⟨b,off,e,hb,hc⟩:=h4 (by omega);refine⟨b,off,e,hb,fun i hi=>?_⟩;rw [hc i (by omega)];simp only [List.getD,List.getElem?_take];rw [if_pos (by omega)]
theorem Bytes.drop {w:World} {B b off cap n:Nat} {l:List Int} (h:Bytes w B (some ⟨b,off,none⟩) cap l) (hn:n<=l.length):Bytes w B (some ⟨b,off+n,none⟩) (cap-n) (l.drop n):=by
 obtain ⟨h1,h2,h3,h4⟩:=h;refine ⟨by simp;omega,by omega,fun x hx=>h3 x (List.mem_of_mem_drop hx),fun hp=>?_⟩;rw [List.length_drop] at hp;obtain ⟨b',off',e,hb,hc⟩:=h4 (by omega);simp only [Option.some.injEq,Addr.mk.injEq,and_true] at e;obtain ⟨rfl,rfl⟩:=e;refine ⟨b,off+n,rfl,hb,fun i hi=>?_⟩;rw [List.length_drop] at hi;rw [Nat.add_assoc,hc (n+i) (by omega)];simp [List.getD]
theorem or_byte (x c:Int)(x0:0<=x)(x1:x<16777216)(c0:0<=c)(c1:c<256):bits .or .i64 (x*256) c=256*x+c:=by
 obtain⟨m,rfl⟩:∃ m:Nat,x=m:=⟨x.toNat,by omega⟩
 obtain⟨d,rfl⟩:∃ m:Nat,c=m:=⟨c.toNat,by omega⟩
 have h2:(BitVec.ofInt 64 (d:Int)).toNat=d:=by
  rw [BitVec.toNat_ofInt];omega
 have h3:(BitVec.ofInt 64 ((m:Int)*256)).toNat=m <<< 8:=by
  rw [BitVec.toNat_ofInt,Nat.shiftLeft_eq];omega
 show IntKind.i64.wrap ((BitVec.ofInt 64 ((m:Int)*256) ||| BitVec.ofInt 64 (d:Int)).toNat:Int)=_;rw [BitVec.toNat_or,h2,h3,<- Nat.shiftLeft_add_eq_or_of_lt (by omega),Nat.shiftLeft_eq,IntKind.wrap_i64];omega
theorem RdAt.alloc {w:World}{B P:Nat}{s:Rd}(h:RdAt w B P s)(x:Obj):RdAt (w.alloc x) B P s:=by
 obtain⟨A,cap,bx,fr,by',hB,hP⟩:=h;exact⟨A,cap,box_old bx hP,fun o=>(((Past.refl w).alloc x).free (p:=⟨P,o,none⟩) hP).trans (fr o),by'.keep (Keep.of_past ((Past.refl w).alloc x)) hB (by omega),hB,by simp;omega⟩
theorem RdAt.set {w:World}{B P Q o:Nat}{s:Rd}{u:Value}(h:RdAt w B P s)(hQ:P<Q):RdAt (w.setCell ⟨Q,o,none⟩ u) B P s:=by
 obtain⟨A,cap,bx,fr,by',hB,hP⟩:=h;refine⟨A,cap,box_set bx (by first|(simp;done)|(dsimp only;omega)|(simp;omega)),free_set fr,?_,hB,by simpa [World.setCell] using hP⟩;obtain⟨h1,h2,h3,h4⟩:=by'
 refine⟨h1,h2,h3,fun hp=>?_⟩;obtain⟨b,off,e,hb,hc⟩:=h4 hp;exact⟨b,off,e,hb,fun i hi=>(World.cell?_setCell_other _ _ _ _ (by first|(simp;done)|(dsimp only;omega)|(simp;omega))).trans (hc i hi)⟩
theorem Keep.setNew {P Q o:Nat}{W w:World}{u:Value}(h:Keep P W w)(hQ:W.heap.size<=Q):Keep P W (w.setCell ⟨Q,o,none⟩ u):=by
 have b:=Below.heap_setCell w ⟨Q,o,none⟩ u;exact⟨h.1,h.2.1,by simpa [World.setCell] using h.2.2.1,fun k hk hne=>(b k (by simp only;omega)).trans (h.2.2.2 k hk hne)⟩
theorem RdAt.drewN {w:World}{B P n:Nat}{s:Rd}(h:RdAt w B P s):RdAt (w.drewN n) B P s:=by
 obtain⟨A,cap,bx,fr,by',hB,hP⟩:=h;exact⟨A,cap,box_drewN bx,free_drewN fr,by'.keep (Keep.of_past ((Past.refl w).drewN)) hB (by omega),hB,by simpa using hP⟩
theorem RdAt.drew {w:World}{B P:Nat}{s:Rd}(h:RdAt w B P s):RdAt w.drew B P s:=by
 obtain⟨A,cap,bx,fr,by',hB,hP⟩:=h;exact⟨A,cap,box_drew bx,free_drew fr,by'.keep (Keep.of_past ((Past.refl w).drew)) hB (by omega),hB,by simpa using hP⟩
theorem Keep.of_drew {P:Nat}{w w':World}(h:Keep P w.drew w'):Keep P w w':=(Keep.of_past ((Past.refl w).drew)).trans h
theorem Keep.of_drewN {P n:Nat}{w w':World}(h:Keep P (w.drewN n) w'):Keep P w w':=(Keep.of_past ((Past.refl w).drewN)).trans h
set_option maxHeartbeats 1000000 in
theorem number_any (n:Nat) (h1:1<=n) (h4:n<=3) (B P:Nat) (s:Rd) (W:World) (hr:RdAt W B P s):Calls Tryz.prog 67 #[.pointer (some ⟨P,0,none⟩),.int .i64 (n:Int)] W (RdPost B P (.int .i64 (numI n s).1) (numI n s).2 W):=by
 obtain ⟨A,cap,bx,fr,by',hB,hP⟩:=hr;have BY:=LH by'
 have hm:s.rest.length<=9223372036854775807:=by have:=by'.1;have:=by'.2.1;unfold maxLen at this;omega
 by_cases h:s.rest.length<n
 ·have e:numI n s=(0,⟨s.rest,true⟩):=by unfold numI;rw [if_pos h]
  rw [e];have BX:=LH bx;clear by'
  go_enter Tryz.func67,Tryz.ntmps67;go_wp2_with fail;go_ret;exact ⟨rfl,⟨A,cap,box2_set1 BX.out,by (exact kKeep),BY.out.keep ((Keep.refl P W).set _ _) hB (by omega),hB,by simpa [World.setCell] using hP⟩,((Keep.refl P W).set _ _)⟩
 ·have e:numI n s=(foldB (s.rest.take n),⟨s.rest.drop n,s.short⟩):=by unfold numI;rw [if_neg h]
  rw [e];obtain ⟨k1,k2,k3,k4⟩:=by'
  obtain ⟨b,off,rfl,hb,hc⟩:=k4 (by omega);have K3:=LH k3;have HC:=LH hc;have BX:=LH bx;have d1:decide ((n:Int)>(s.rest.length:Int))=false:=by simp;omega
  obtain ⟨m,hm'⟩:∃ m,s.rest.length=m:=⟨_,rfl⟩
  rw [hm'] at h k1 hm d1 bx;have HM:=LH hm';clear hm' k3 k4 hc e;go_enter Tryz.func67,Tryz.ntmps67;go_wp2_with fail;go_loopw [5,25] (fun x i wr=>∃ k:Nat,k<=n/\i=.int .i64 k/\x=.int .i64 (foldB (s.rest.take k))/\Hid (0<=foldB (s.rest.take k)/\foldB (s.rest.take k)<256 ^ k)/\wr=W) (fun _ i _=>n-(intOf i).toNat)
  case atStart=>exact ⟨0,by omega,rfl,rfl,LH (by simp [foldB]),rfl⟩
  case round =>
   obtain ⟨k,hk,rfl,rfl,hb,rfl⟩:=hrel;by_cases hkn:k<n
   ·have c0:=HC.out k (by rw [HM.out];omega);have wc:=wf_u8 (K3.out (s.rest.getD k 0) (by simp [List.getD,show k<s.rest.length by rw [HM.out];omega]));have hnext:=foldB_take s.rest k (by rw [HM.out];omega);obtain ⟨c,hc'⟩:∃ c,s.rest.getD k 0=c:=⟨_,rfl⟩
    rw [hc'] at c0 wc hnext;obtain ⟨x,hx⟩:∃ x,foldB (s.rest.take k)=x:=⟨_,rfl⟩
    rw [hx] at hb hnext;rw [hx];have x1:x<16777216:=by
     have h2:=hb.out.2;rcases (show k=0\/k=1\/k=2 by omega) with rfl|rfl|rfl <;> simp at h2 <;> omega
    have x0:=hb.out.1;have hor:bits .or .i64 (wrap64 (x*256)) (wrap64 c)=foldB (s.rest.take (k+1)):=by
     have e1:wrap64 (x*256)=x*256:=by unfold wrap64;omega
     have e2:wrap64 c=c:=by unfold wrap64;omega
     rw [e1,e2,or_byte x c x0 x1 wc.1 (by omega),hnext]
    have hnb:0<=foldB (s.rest.take (k+1))/\foldB (s.rest.take (k+1))<256 ^ (k+1):=by
     rw [hnext,Int.pow_succ];have:=hb.out;omega
    have HOR:=LH hor;have HNB:=LH hnb;clear hor hnb hnext hx hc' x0 x1 wc;go_wp2_with fail;go_roundw
    case rel=>exact ⟨k+1,by omega,by go_num,by rw [HOR.out],HNB,trivial⟩
    case measure=>simp [intOf];omega
   ·have e:k=n:=by omega
    subst e;go_wp2_with fail
    ·go_ret;have hm':=HM.out;have hd:s.rest.drop k=[]:=List.drop_of_length_le (by omega);have hz:m-k=0:=by omega
     rw [hd,hz];exact ⟨rfl,⟨some ⟨b,off,none⟩,0,box2_set0 BX.out,by (exact kKeep),Bytes.nil _ _ _ _ (by simp [maxLen]),hB,by simpa [World.setCell] using hP⟩,(Keep.refl P wr).set _ _⟩
    ·go_ret;have hm':=HM.out;have hl:(s.rest.drop k).length=m-k:=by rw [List.length_drop];omega
     exact ⟨rfl,⟨some ⟨b,off+k,none⟩,cap-k,by rw [hl];exact box2_set0 BX.out,by (exact kKeep),(BY.out.drop (by omega)).keep ((Keep.refl P wr).set _ _) hB (by omega),hB,by simpa [World.setCell] using hP⟩,(Keep.refl P wr).set _ _⟩
end Go.Proofs.YtejllmjkeefloaaGreat.Q8
namespace Go.Proofs.YtejllmjkeefloaaGreat.Q8
open Go.ChangeShapes Go.WideShapes Go.ChangeAt Go.RowKit
set_option maxRecDepth 20000
set_option linter.unusedVariables false
set_option linter.unusedSimpArgs false
def readR:List Fld->List Int->Rd->List Int×Rd
 | [],c,s=>(c,s)
 | f :: fs,c,s=>readR fs (c.set f.pos (numI f.wide s).1) (numI f.wide s).2
def cmdR (s:Rd):List Int×Rd:=readR (fldsD (numI 1 s).1) (zeros.set 0 (numI 1 s).1) (numI 1 s).2
theorem numI_short {k:Nat}{s:Rd}(h:s.short=true):(numI k s).2.short=true:=by unfold numI;split <;> simp [h]
theorem readR_short {fs:List Fld}{c:List Int}{s:Rd}(h:s.short=true):(readR fs c s).2.short=true:=by
 induction fs generalizing c s with
 | nil=>exact h
 | cons f fs ih=>exact ih (numI_short h)
theorem readR_len (fs:List Fld)(c:List Int)(s:Rd):(readR fs c s).1.length=c.length:=by
 induction fs generalizing c s with
 | nil=>rfl
 | cons f fs ih=>unfold readR;rw [ih,List.length_set]
theorem cmdR_len (s:Rd):(cmdR s).1.length=14:=by unfold cmdR;rw [readR_len];simp [zeros]
theorem readR_ok (fs:List Fld)(c t:List Int)(h:(fs.map (·.wide)).sum<=t.length):readR fs c ⟨t,false⟩=(readF fs c t,⟨t.drop (fs.map (·.wide)).sum,false⟩):=by
 induction fs generalizing c t with
 | nil=>simp [readR,readF]
 | cons f fs ih =>
  simp only [List.map_cons,List.sum_cons] at h ⊢;have e:numI f.wide ⟨t,false⟩=(foldB (t.take f.wide),⟨t.drop f.wide,false⟩):=by unfold numI;rw [if_neg (by simp only;omega)]
  unfold readR readF;rw [e,ih _ _ (by rw [List.length_drop];omega),List.drop_drop]
theorem readR_no (fs:List Fld)(c t:List Int)(h:t.length<(fs.map (·.wide)).sum):(readR fs c ⟨t,false⟩).2.short=true:=by
 induction fs generalizing c t with
 | nil=>simp at h
 | cons f fs ih =>
  simp only [List.map_cons,List.sum_cons] at h;unfold readR;by_cases q:t.length<f.wide
  ·exact readR_short (by unfold numI;rw [if_pos q])
  ·have e:numI f.wide ⟨t,false⟩=(foldB (t.take f.wide),⟨t.drop f.wide,false⟩):=by unfold numI;rw [if_neg (by simp only;omega)]
   rw [e];exact ih _ _ (by rw [List.length_drop];omega)
theorem cmdR_one {t:List Int}(h:¬ ((cmdR ⟨t,false⟩).2.short=true\/¬ mayD (cmdR ⟨t,false⟩).1)):oneT t=some ((cmdR ⟨t,false⟩).1,(cmdR ⟨t,false⟩).2.rest)/\(cmdR ⟨t,false⟩).2.short=false:=by
 cases t with
 | nil =>
  exfalso;apply h;left;unfold cmdR;exact readR_short (by simp [numI])
 | cons k t =>
  have e:numI 1 ⟨k :: t,false⟩=(k,⟨t,false⟩):=by simp [numI,foldB]
  unfold cmdR at h ⊢;rw [e] at h ⊢;simp only at h ⊢;by_cases q:restW k<=t.length
  ·have r:=readR_ok (fldsD k) (zeros.set 0 k) t q;rw [r] at h ⊢;simp only [Bool.false_eq_true,false_or,Classical.not_not] at h;simp only [oneT];have hk:kindP k:=by
    have:=h.1;have e0:(readF (fldsD k) (zeros.set 0 k) t).getD 0 0=k:=by
     have hp:=(fldsD_pos k).1;generalize fldsD k=fs at hp;have:∀ (fs:List Fld) (c t:List Int),(∀ f∈fs,f.pos<14/\f.pos≠0)->(readF fs c t).getD 0 0=c.getD 0 0:=by
      intro fs;induction fs with
      | nil=>intro c t _;rfl
      | cons f fs ih =>
       intro c t hp;unfold readF;rw [ih _ _ (fun g hg=>hp g (List.mem_cons_of_mem _ hg))];have:=(hp f (List.mem_cons_self ..)).2;simp [List.getD,List.getElem?_set,this]
     rw [this fs _ _ hp];simp [zeros]
    rwa [e0] at this
   rw [if_pos ⟨hk,q,h⟩];exact⟨rfl,trivial⟩
  ·exfalso;apply h;left;exact readR_no _ _ _ (by unfold restW at q;omega)
theorem cmdR_none {t:List Int}(h:(cmdR ⟨t,false⟩).2.short=true\/¬ mayD (cmdR ⟨t,false⟩).1):oneT t=none:=by
 cases t with
 | nil=>rfl
 | cons k t =>
  have e:numI 1 ⟨k :: t,false⟩=(k,⟨t,false⟩):=by simp [numI,foldB]
  unfold cmdR at h;rw [e] at h;simp only at h;simp only [oneT];by_cases q:kindP k/\restW k<=t.length/\mayD (cmdT k t)
  ·exfalso;rw [readR_ok (fldsD k) (zeros.set 0 k) t q.2.1] at h;rcases h with h|h
   ·cases h
   ·exact h q.2.2
  ·rw [if_neg q]
theorem zeros_box:(⟨cellC zeros⟩:Array Value)=#[.int .i64 0,.int .i64 0,.int .i64 0,.int .i64 0,.int .i64 0,.int .i64 0,.int .i64 0,.int .i64 0,.int .i64 0,.int .i64 0,.int .i64 0,.int .i64 0,.int .i64 0,.int .i64 0]:=rfl
theorem kind_box (k:Int):(⟨cellC (zeros.set 0 k)⟩:Array Value)=#[.int .i64 k,.int .i64 0,.int .i64 0,.int .i64 0,.int .i64 0,.int .i64 0,.int .i64 0,.int .i64 0,.int .i64 0,.int .i64 0,.int .i64 0,.int .i64 0,.int .i64 0,.int .i64 0]:=rfl
theorem RdAt.past {w w':World}{B P:Nat}{s:Rd}(h:RdAt w B P s)(g:Past w w'):RdAt w' B P s:=by
 obtain⟨A,cap,bx,fr,by',hB,hP⟩:=h;exact⟨A,cap,box_past g bx hP,free_past g fr hP,by'.keep (Keep.of_past g) hB (by omega),hB,Nat.lt_of_lt_of_le hP g.2.2.1⟩
theorem RdAt.lt {w:World}{B P:Nat}{s:Rd}(h:RdAt w B P s):P<w.heap.size:=h.choose_spec.choose_spec.2.2.2.2
theorem FldsP.keep {w w':World}{P X:Nat}{A:Option Addr}{fs:List Fld}(h:FldsP w P A fs)(g:Keep X w w')(hX:∀ b,A=some ⟨b,0,none⟩->b≠X):FldsP w' P A fs:=fun q=>by
 obtain⟨b,e,h1,h2⟩:=h q;exact⟨b,e,Nat.lt_of_lt_of_le h1 g.2.2.1,box_keep g h2 h1 (hX b e)⟩
theorem rd_setAll {B P Q:Nat}{s:Rd}(hQ:P<Q):∀ (l:List Value)(w:World)(o:Nat),RdAt w B P s->RdAt (w.setCells Q o l) B P s
 | [],_,_,g=>g
 | v :: l,w,o,g=>by simp only [World.setCells];exact rd_setAll hQ l _ _ (g.set hQ)
theorem keep_setAll {P Q:Nat}{W:World}(hQ:W.heap.size<=Q):∀ (l:List Value)(w:World)(o:Nat),Keep P W w->Keep P W (w.setCells Q o l)
 | [],_,_,g=>g
 | v :: l,w,o,g=>by simp only [World.setCells];exact keep_setAll hQ l _ _ (g.setNew hQ)
theorem one_cellC (c:List Int):(⟨cellC c⟩:Array Value).all (·.oneCell')=true:=by
 simp [cellC,Value.oneCell']
theorem results_cell_one {fn:Func}{p:Tmp}{ty:TypeId}(h:fn.results=#[.cell p ty])(tmps:Array Value)(P:Program)(w:World) :
  (results fn tmps).run P w=((asAddr (tmps.getD p undef)).run P w).andThen fun a w₁=>(loadVar ty a).run P w₁:=by
 simp only [results,h];simp [Sem.run_bind,Result.andThen]
theorem ret_box1 {P:Program}{fn:Func}{a:Act}{w:World}{R:Ending->World->Prop}{p:Tmp}{ty:TypeId}(h:fn.results=#[.cell p ty])(b:Nat)(cells:Array Value)(d:TypeDesc)(hp:a.tmps.getD p undef=.pointer (some ⟨b,0,none⟩))(hb:(Bx w b cells))
  (hu:P.underlying ty=some d) (hd:d.isRow=true) (hi:(P.info? ty).map (·.size)=some cells.size) (hdf:a.defers=[]) (hR:R (.returned (.agg cells)) w):bodyPost P fn R .ret a w:=by
 refine bodyPost_ret (v:=.agg cells) ?_ hdf hR;rw [results_cell_one h,hp];have hl:=run_loadVar_mid (P:=P) w b 0 ty cells.toList d (fun j v hv=>by rw [Nat.zero_add,hb j];simpa using hv) hu hd (by simpa using hi);have e1:(asAddr (.pointer (some ⟨b,0,none⟩))).run P w=.ok ⟨b,0,none⟩ w:=rfl;rw [e1];simp only [Result.andThen];rw [hl]
def CmdPost (B P:Nat)(s:Rd)(w:World)(e:Ending)(w':World):Prop:=e=.returned (.agg ⟨cellC (cmdR s).1⟩)/\RdAt w' B P (cmdR s).2/\Keep P w w'
set_option maxHeartbeats 400000 in
theorem cmd_rd (B P:Nat) (s:Rd) (W:World) (hr:RdAt W B P s):Calls Tryz.prog 68 #[.pointer (some ⟨P,0,none⟩)] W (CmdPost B P s W):=by
 have N1:=LH (fun w (h:RdAt w B P s)=>number_any 1 (by omega) (by omega) B P s w h)
 have NN:=LH (fun (n:Nat) (hn:n=1∨n=2∨n=3) s w (h:RdAt w B P s)=>number_any n (by omega) (by omega) B P s w h)
 obtain ⟨k,hk⟩:∃ k,(numI 1 s).1=k:=⟨_,rfl⟩
 obtain ⟨s1,hs1⟩:∃ s1,(numI 1 s).2=s1:=⟨_,rfl⟩
 have hres:cmdR s=readR (fldsD k) (zeros.set 0 k) s1:=by unfold cmdR;rw [hk,hs1]
 unfold CmdPost
 rw [hres]
 have hlen:=readR_len (fldsD k) (zeros.set 0 k) s1
 have h14:(zeros.set 0 k).length=14:=by simp [zeros]
 rw [h14] at hlen
 rw [hk,hs1] at N1
 have FA:=LH (fields_any k)
 have HW:=LH (fldsD_wide k)
 have HP:=LH (fldsD_pos k).1
 have hn:=fldsD_len k
 obtain ⟨fs,hfs⟩:∃ fs,fldsD k=fs:=⟨_,rfl⟩
 unfold FieldsPost at FA
 rw [hfs] at FA HW HP hn hlen
 rw [hfs]
 obtain ⟨R,hR⟩:∃ R,readR fs (zeros.set 0 k) s1=R:=⟨_,rfl⟩
 rw [hR] at hlen ⊢
 obtain ⟨C,T⟩:=R
 simp only at hlen ⊢
 obtain ⟨dk,hdk⟩:∃ d,decide (kindP k)=d:=⟨_,rfl⟩
 rw [hdk] at FA
 have HR:=LH hr
 have HRR:=LH hR
 have H14:=LH h14
 have HLEN:=LH hlen
 have hPW:=hr.lt
 clear hk hs1 hres hlen h14 hfs hR hdk hr
 go_enter Tryz.func68,Tryz.ntmps68
 go_upto_region 1 with fail
 obtain ⟨Q,hQ⟩:∃ Q,W.heap.size=Q:=⟨_,rfl⟩
 refine opq (fun w'=>(Bx w' Q ⟨cellC zeros⟩)∧(Fr w' Q)∧Past W w'∧Q+1=w'.heap.size) (by subst hQ;rw [zeros_box];exact ⟨box_new rfl,free_alloc (free_new (Nat.le_refl _)),(Past.refl W).alloc _,by simp⟩) ?_
 rintro w0 ⟨b0,f0,p0,z0⟩
 try simp only [hQ]
 have PQ:P<Q:=by omega
 have WQ:W.heap.size≤Q:=by omega
 have B0:=LH b0
 have F0:=LH f0
 have P0:=LH p0
 clear b0 f0 p0 hQ
 go_wp2_with (first|(refine (N1.out w0 (HR.out.past P0.out)).mono ?_))
 rintro e w1 ⟨rfl,r1,k1⟩
 have R1:Hid ((Bx w1 Q ⟨cellC zeros⟩)∧(Fr w1 Q)∧RdAt w1 B P s1∧Keep P W w1∧Q<w1.heap.size):=LH ⟨box_keep k1 B0.out (by omega) (by omega),free_keep k1 F0.out (by omega) (by omega),r1,(Keep.of_past P0.out).trans k1,by have:=k1.2.2.1;omega⟩
 obtain ⟨D,hD⟩:∃ D,w1.heap.size=D:=⟨_,rfl⟩
 have QD:Q<D:=by have:=R1.out.2.2.2.2;omega
 clear r1 k1 B0 F0 P0 N1 HR
 go_upto_region 2 with fail
 refine opq (fun w'=>(Bx w' D ⟨cellC (zeros.set 0 k)⟩)∧(Fr w' D)∧Past w1 w'∧D<w'.heap.size) (by subst hD;rw [kind_box];exact ⟨box_new rfl,free_alloc (free_new (Nat.le_refl _)),(Past.refl w1).alloc _,by simp⟩) ?_
 rintro w2 ⟨b2,f2,p2,z2⟩
 try simp only [hD]
 have h0:w2.cell? ⟨D,0,none⟩=some (.int .i64 k):=b2 0
 have H0:=LH h0
 have R2:Hid ((Bx w2 Q ⟨cellC zeros⟩)∧(Fr w2 Q)∧RdAt w2 B P s1∧Keep P W w2∧(Bx w2 D ⟨cellC (zeros.set 0 k)⟩)∧(Fr w2 D)∧D<w2.heap.size):=by
  obtain ⟨q1,q2,q3,q4,q5⟩:=R1.out
  exact LH ⟨box_past p2 q1 q5,free_past p2 q2 q5,q3.past p2,q4.trans (Keep.of_past p2),b2,f2,z2⟩
 clear b2 f2 p2 z2 h0 R1 hD
 go_wp2_with fail
 refine (FA.out D w2 H0.out).mono ?_
 rintro e w3 ⟨vf,rfl,hF,p3⟩
 obtain ⟨A,rfl,FP⟩:=hF.form
 have REL:Hid (∃ c' s',c'.length=14∧readR (fs.drop 0) c' s'=(C,T)∧(Bx w3 Q ⟨cellC zeros⟩)∧(Fr w3 Q)∧RdAt w3 B P s'∧Keep P W w3∧(Bx w3 D ⟨cellC c'⟩)∧(Fr w3 D)∧D<w3.heap.size∧FldsP w3 D A fs):=by
  obtain ⟨q1,q2,q3,q4,q5,q6,q7⟩:=R2.out
  exact LH ⟨_,_,H14.out,HRR.out,box_past p3 q1 (by omega),free_past p3 q2 (by omega),q3.past p3,q4.trans (Keep.of_past p3),box_past p3 q5 q7,free_past p3 q6 q7,Nat.lt_of_lt_of_le q7 p3.2.2.1,FP⟩
 clear hF p3 FP R2 H0 FA HRR
 go_wp2_with fail
 go_loopw [17] (fun i wr=>∃ n:Nat,n≤fs.length∧i=.int .i64 n∧Hid (∃ c' s',c'.length=14∧readR (fs.drop n) c' s'=(C,T)∧(Bx wr Q ⟨cellC zeros⟩)∧(Fr wr Q)∧RdAt wr B P s'∧Keep P W wr∧(Bx wr D ⟨cellC c'⟩)∧(Fr wr D)∧D<wr.heap.size∧FldsP wr D A fs)) (fun i _=>fs.length-(intOf i).toNat)
 case atStart=>exact ⟨0,by omega,rfl,REL⟩
 case round =>
  obtain ⟨n,hnl,rfl,R⟩:=hrel
  obtain ⟨c',s',l',g',q1,q2,q3,q4,q5,q6,q7,q8⟩:=R.out
  by_cases h:n<fs.length
  ·obtain ⟨b,rfl,hbl,r0,r1,r2,r3⟩:=q8.at n h
   obtain ⟨b',eb,_,t0,_⟩:=q8.at 0 (by omega)
   simp only [Option.some.injEq,Addr.mk.injEq,and_true] at eb
   subst eb
   have hbP:b≠P:=by
    intro e
    subst e
    obtain ⟨A',cap',bx,_⟩:=q3
    have h1:=bx 0
    rw [Nat.zero_mul] at t0
    rw [t0] at h1
    simp at h1
   have hbD:b≠D:=by
    intro e
    subst e
    have h1:=boxC_cell q5 (j:=0) (by omega)
    rw [Nat.zero_mul] at t0
    rw [t0] at h1
    simp at h1
   have hfp:=HP.out fs[n] (List.getElem_mem h)
   have hfw:=HW.out fs[n] (List.getElem_mem h)
   have hd:fs.drop n=fs[n] :: fs.drop (n+1):=List.drop_eq_getElem_cons h
   obtain ⟨f,hf⟩:∃ f,fs[n]=f:=⟨_,rfl⟩
   rw [hf] at r0 r1 r2 r3 hfp hfw hd
   rw [hd] at g'
   have NX:=LH (NN.out f.wide hfw s')
   unfold readR at g'
   obtain ⟨Y,hY⟩:∃ Y,numI f.wide s'=Y:=⟨_,rfl⟩
   rw [hY] at g' NX
   obtain ⟨x,s2⟩:=Y
   simp only at g' NX
   have G:=LH g'
   have L':=LH l'
   have HFP:=LH hfp
   have Q7:=LH q7
   clear g' l' hfp hfw hd hf hY t0 R
   obtain ⟨po,lo,hi,wd⟩:=f
   simp only at r0 r1 r2 r3 NX HFP G
   have RR:Hid ((Bx wr Q ⟨cellC zeros⟩)∧(Fr wr Q)∧RdAt wr B P s'∧Keep P W wr∧(Bx wr D ⟨cellC c'⟩)∧(Fr wr D)∧D<wr.heap.size∧FldsP wr D (some ⟨b,0,none⟩) fs):=LH ⟨q1,q2,q3,q4,q5,q6,q7,q8⟩
   clear q1 q2 q3 q4 q5 q6 q7 q8
   go_upto_region 6 with fail
   obtain ⟨X,hX⟩:∃ X,wr.heap.size=X:=⟨_,rfl⟩
   refine opq (fun w'=>(Bx w' X #[.pointer (some ⟨D,po,none⟩),.int .i64 lo,.int .i64 hi,.int .i64 (wd:Int)])∧Past wr w'∧X<w'.heap.size) (by subst hX;exact ⟨box_new rfl,(Past.refl _).alloc _,by simp⟩) ?_
   rintro w4 ⟨b4,p4,z4⟩
   try simp only [hX]
   have R4:Hid ((Bx w4.drew Q ⟨cellC zeros⟩)∧(Fr w4.drew Q)∧RdAt w4.drew B P s'∧Keep P W w4.drew∧(Bx w4.drew D ⟨cellC c'⟩)∧(Fr w4.drew D)∧D<w4.drew.heap.size∧FldsP w4.drew D (some ⟨b,0,none⟩) fs):=by
    obtain ⟨q1,q2,q3,q4,q5,q6,q7,q8⟩:=RR.out
    have p5:Past wr w4.drew:=p4
    have hq:Q<wr.heap.size:=by omega
    exact LH ⟨box_past p5 q1 hq,free_past p5 q2 hq,q3.past p5,q4.trans (Keep.of_past p5),box_past p5 q5 q7,free_past p5 q6 q7,Nat.lt_of_lt_of_le q7 p5.2.2.1,q8.past p5⟩
   have DX:D<X:=by have:=Q7.out;omega
   have PX:P<X:=by omega
   have Z4:=LH z4
   have B4:=LH (show (Bx w4.drew X #[.pointer (some ⟨D,po,none⟩),.int .i64 lo,.int .i64 hi,.int .i64 (wd:Int)]) from b4)
   clear r0 r1 r2 r3 RR Q7 p4 z4 hX
   refine wp_region_mixd [5,7] (fun w'=>(Bx w' X #[.pointer (some ⟨D,po,none⟩),.int .i64 lo,.int .i64 hi,.int .i64 (wd:Int)])) [(21,?va21),(22,?va22),(23,?va23),(24,?va24),(25,?va25),(27,?va27)] [21,22,23,24,25,27] (by kernel_rfl) (by kernel_rfl) rfl (by kernel_rfl) b4 (fun w h=>h) ?alla ?fina
   case alla =>
    simp only [fillA,Act.put,List.setIfInBounds_toArray,List.set_cons_zero,List.set_cons_succ]
    iterate 8 (first|refine forced rfl ?_|(refine reads (fun w hw K hK=>?_) ?_;focus ((have hS:=LH hw);go_split_ands;go_simp;(try go_frame);exact hK)))
    exact True.intro
   case fina =>
    simp only [fillA,Act.put,List.setIfInBounds_toArray,List.set_cons_zero,List.set_cons_succ]
    refine mix_at 26 rfl rfl (fun K hK=>?_)
    simp only [Act.put,List.setIfInBounds_toArray,List.set_cons_zero,List.set_cons_succ] at hK
    go_simp
    refine (NX.out _ R4.out.2.2.1).mono ?_
    rintro e w5 ⟨rfl,r5,k5⟩
    have R5:Hid ((Bx w5 Q ⟨cellC zeros⟩)∧(Fr w5 Q)∧RdAt w5 B P s2∧Keep P W w5∧(Bx w5 D ⟨cellC c'⟩)∧(Fr w5 D)∧D<w5.heap.size∧FldsP w5 D (some ⟨b,0,none⟩) fs):=by
     obtain ⟨q1,q2,q3,q4,q5,q6,q7,q8⟩:=R4.out
     exact LH ⟨box_keep k5 q1 (by omega) (by omega),free_keep k5 q2 (by omega) (by omega),r5,q4.trans k5,box_keep k5 q5 (by omega) (by omega),free_keep k5 q6 (by omega) (by omega),Nat.lt_of_lt_of_le q7 k5.2.2.1,q8.keep k5 (fun b' e=>by simp only [Option.some.injEq,Addr.mk.injEq,and_true] at e;omega)⟩
    have B5:=LH (box_keep k5 B4.out Z4.out (by omega))
    refine hK _ _ B5.out ?_
    clear hK R4 B4 r5 k5 b4
    (try go_frame)
    refine mix_store rfl rfl (fun K hK=>?_)
    have CX:=boxC_cell R5.out.2.2.2.2.1 (j:=po) (by have:=L'.out;have:=HFP.out.1;omega)
    have FX:=R5.out.2.2.2.2.2.1 po
    go_simp
    have R6:Hid ((Bx (w5.setCell ⟨D,po,none⟩ (.int .i64 x)) Q ⟨cellC zeros⟩)∧(Fr (w5.setCell ⟨D,po,none⟩ (.int .i64 x)) Q)∧RdAt (w5.setCell ⟨D,po,none⟩ (.int .i64 x)) B P s2∧Keep P W (w5.setCell ⟨D,po,none⟩ (.int .i64 x))∧(Bx (w5.setCell ⟨D,po,none⟩ (.int .i64 x)) D ⟨cellC (c'.set po x)⟩)∧(Fr (w5.setCell ⟨D,po,none⟩ (.int .i64 x)) D)∧D<(w5.setCell ⟨D,po,none⟩ (.int .i64 x)).heap.size∧FldsP (w5.setCell ⟨D,po,none⟩ (.int .i64 x)) D (some ⟨b,0,none⟩) fs):=by
     obtain ⟨q1,q2,q3,q4,q5,q6,q7,q8⟩:=R5.out
     refine LH ⟨box_set q1 (by dsimp only;omega),free_set q2,q3.set (by omega),q4.setNew (by omega),boxC_set q5 (by have:=L'.out;have:=HFP.out.1;omega),free_set q6,by rw [World.size_setCell];exact q7,fun hp=>?_⟩
     obtain ⟨b2,e2,h1,h2⟩:=q8 hp
     simp only [Option.some.injEq,Addr.mk.injEq,and_true] at e2
     subst e2
     exact ⟨_,rfl,by rw [World.size_setCell];exact h1,box_set h2 (by dsimp only;omega)⟩
    refine hK _ (box_set B5.out (by dsimp only;omega)) ?_
    clear hK R5 B5 CX FX
    (try go_frame)
    refine mix_nil ?_
    go_wp2_with fail
    go_roundw
    case rel=>exact ⟨n+1,by omega,by go_num,LH ⟨_,_,by rw [List.length_set];exact L'.out,G.out,R6.out⟩⟩
    case measure=>simp [intOf];omega
  ·have e0:fs.drop n=[]:=List.drop_of_length_le (by omega)
   rw [e0] at g'
   simp only [readR,Prod.mk.injEq] at g'
   obtain ⟨rfl,rfl⟩:=g'
   have SC:=LH (cmdSize HLEN.out)
   have S14:=LH (show (⟨cellC zeros⟩:Array Value).size=(⟨cellC c'⟩:Array Value).size by rw [size_cellC HLEN.out];rfl)
   have B8:=LH q5
   have BQ:=LH q1
   have FQ:=LH q2
   have K8:=LH (And.intro q3 q4)
   clear q1 q2 q3 q4 q5 q6 q7 q8 R l' e0
   go_wp2_with (first|refine wpList_load_box rfl 67 (.tmp 3) rfl D ⟨cellC c'⟩ rfl B8.out Tryz.underlying67 rfl SC.out ?_|((refine wpList_store_box rfl 67 (.tmp 2) (.tmp 29) rfl Q ⟨cellC c'⟩ _ rfl rfl BQ.out FQ.out S14.out SC.out (one_cellC c') (fun w'=>(Bx w' Q ⟨cellC c'⟩)∧RdAt w' B P s'∧Keep P W w') ⟨box_setAll BQ.out S14.out,rd_setAll PQ _ _ _ K8.out.1,keep_setAll WQ _ _ _ K8.out.2⟩ ?_);rintro w9 ⟨b9,r9,k9⟩))
   have R9:=LH r9
   have K9:=LH k9
   exact ret_box1 rfl Q ⟨cellC c'⟩ _ rfl b9 Tryz.underlying67 rfl SC.out rfl ⟨rfl,R9.out,K9.out⟩
end Go.Proofs.YtejllmjkeefloaaGreat.Q8
