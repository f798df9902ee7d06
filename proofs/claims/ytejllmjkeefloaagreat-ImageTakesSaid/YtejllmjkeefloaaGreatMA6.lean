/- May and Put of an image. quiltlaw09's head: the document's example. The reference's Put, Steps. The reference of layer 4: the reader; nums. The reference's at, wide. -/
import Derived.Deep.DeepCutAuto
import Derived.Laws.BytesArg
import Derived.Test.YtejllmjkeefloaaGreatMC2
import Derived.Test.YtejllmjkeefloaaGreatMI18
namespace Go.Proofs.YtejllmjkeefloaaGreat
open Go.ChangeShapes Go.WideShapes Go.ChangeAt Go.RowKit
set_option maxRecDepth 20000
set_option linter.unusedVariables false
set_option linter.unusedSimpArgs false
def PutI (i:ImgD) (W:World) (e:Ending) (w':World):Prop :=
 (mayI i=0∧∃ B,W.heap.size≤B∧e=.returned (.tuple #[.slice (some ⟨B,0,none⟩) ((imgB i).length+4) ((imgB i).length+4),.int .i64 0])∧Q7.Row w' B (Q7.sealD (nats (imgB i)))∧Past W w') ∨
 (mayI i≠0∧e=.returned (.tuple #[.slice none 0 0,.int .i64 (mayI i)])∧Past W w')
theorem putI_ok {i:ImgD} {W w':World} {B:Nat} {E:Int} (h:mayI i=E) (e0:E=0) (hB:W.heap.size<=B) (r:Q7.Row w' B (Q7.sealD (nats (imgB i)))) (p:Past W w'):PutI i W (.returned (.tuple #[.slice (some ⟨B,0,none⟩) ((imgB i).length+4) ((imgB i).length+4),.int .i64 0])) w':=.inl ⟨h.trans e0,B,hB,rfl,r,p⟩
theorem putI_no {i:ImgD}{W w':World}{E:Int}(h:mayI i=E)(e0:E≠0)(p:Past W w'):PutI i W (.returned (.tuple #[.slice none 0 0,.int .i64 E])) w':=.inr ⟨by rw [h];exact e0,by rw [h],p⟩
theorem imgB_len {i:ImgD}(h:mayI i=0)(hz:(graphB i.g).length<=500000):(imgB i).length<=999000:=by
 obtain⟨h1,h2,e0,e1,e2⟩:=may_parts h;have a:=(makes_facts h1).1;have b:=(begins_ok (values_ok h1).1).1;have c:=h2.1;have s:=streamsB_len i 3 (fun j hj=>by
  rcases (show j=0\/j=1\/j=2 by omega) with rfl|rfl|rfl
  ·exact(putE_ok e0).2.1
  ·exact(putE_ok e1).2.1
  ·exact(putE_ok e2).2.1)
 rw [<- imgB_eq,List.length_append,headB_len];omega
set_option maxHeartbeats 4000000 in
theorem iput_any (i : ImgD) (v : Value) (W : World) (h : IsImg W v i) (hc : Cut i.g) (hz : (graphB i.g).length ≤ 500000) : Calls Tryz.prog 10 #[v] W (PutI i W) := by
 have LA := LH (fun w (p : Past W w) => lay_any i v w (h.grow p) hc hz)
 unfold LayI at LA
 obtain ⟨A1, c1, A2, c2, A3, c3, A4, c4, A5, c5, A6, c6, A7, c7, rfl, hg, hp, h0, h1, h2⟩ := h.form
 obtain ⟨E, hE⟩ : ∃ E, mayI i = E := ⟨_, rfl⟩
 have HZ := LH (fun h => imgB_len (i := i) h hz)
 have HE := LH hE
 rw [hE] at LA HZ
 clear h hg hp h0 h1 h2 hc hz hE
 go_enter Tryz.func10, Tryz.ntmps10
 go_upto_region 1 with fail
 obtain ⟨Q, hQ⟩ : ∃ Q, W.heap.size = Q := ⟨_, rfl⟩
 refine opq (fun w' => (Bx w' Q #[.slice A1 i.g.ins.length c1, .slice A2 i.g.nodes.length c2, .slice A3 i.g.outs.length c3, .slice A4 i.pl.length c4, .slice A5 i.s0.length c5, .slice A6 i.s1.length c6, .slice A7 i.s2.length c7]) ∧ Past W w' ∧ Q + 1 ≤ w'.heap.size) (by
  subst hQ
  exact ⟨by (exact kKeep), by (exact kKeep), by (exact kKeep)⟩) ?_
 rintro w0 ⟨q0, p0, s0⟩
 try rw [hQ]
 go_wp2_with (first | refine wpList_load_box rfl 32 (.tmp 1) rfl Q _ rfl q0 Tryz.underlying32 rfl (by kernel_rfl) ?_)
 refine (LA.out _ p0).mono ?_
 rintro e w1 (⟨e0, bv, rfl, nb, pp1⟩ | ⟨e0, rfl, pp1⟩)
 ·have p1 := p0.trans pp1
  subst e0
  have hl := HZ.out rfl
  have NB : Hid (IsNums .u8 w1 bv (Q7.ints (nats (imgB i)))) := LH (by rw [ints_nats (imgB_bytes i)]; exact nb)
  have SE := LH (Q7.seal_any (nats (imgB i)) bv w1 NB.out (nats_bytes (imgB_bytes i)) (by rw [nats_len]; omega))
  unfold Q7.SealPost at SE
  rw [nats_len] at SE
  obtain ⟨A, cap, rfl, _, _, _, _, _⟩ := nb
  obtain ⟨S, hS⟩ : ∃ S, w1.heap.size = S := ⟨_, rfl⟩
  rw [hS] at SE
  have hWS : W.heap.size ≤ S := by have := p1.2.2.1; omega
  clear HZ LA NB hS q0
  go_wp2_with fail
  refine SE.out.mono ?_
  rintro e w2 ⟨rfl, row, pp2⟩
  have p2 := p1.trans pp2
  have RW := LH row
  clear row SE pp1 pp2
  go_wp2_with fail
  go_ret2
  exact putI_ok HE.out rfl hWS RW.out p2
 ·have p1 := p0.trans pp1
  have ne : (E != 0) = true := by simpa using e0
  go_wp2_with fail
  go_ret2
  exact putI_no HE.out e0 p1
end Go.Proofs.YtejllmjkeefloaaGreat
namespace Go.Proofs.YtejllmjkeefloaaGreat
open Go.ChangeShapes Go.WideShapes Go.ChangeAt Go.RowKit
set_option maxRecDepth 20000
set_option linter.unusedVariables false
set_option linter.unusedSimpArgs false
theorem nums_box1 {w:World}{b:Nat}{x:Int}(hb:(Bx w b #[.int .i64 x]))(hl:b<w.heap.size)(wf:(Lit.int .i64 x).wf=true):IsNums .i64 w (.slice (some ⟨b,0,none⟩) 1 1) [x]:=by
 have hm:(1:Nat)<=maxLen:=by unfold maxLen;omega
 refine⟨some ⟨b,0,none⟩,1,rfl,(by simp),hm,(fun h=>by cases h),(fun y hy=>by simp only [List.mem_cons,List.not_mem_nil,or_false] at hy;subst hy;exact wf),fun _=>⟨b,0,rfl,hl,?_⟩⟩;intro j hj;simp only [List.length_cons,List.length_nil] at hj;obtain rfl:j=0:=by omega
 exact hb 0
theorem cmds_nil (w:World):Q8.IsCmds w (.slice none 0 0) []:=⟨none,0,rfl,Nat.le_refl _,Nat.zero_le _,fun _=>rfl,by simp,by simp⟩
def ex9:GraphD:=⟨[⟨1,1,1,0⟩],[],[0]⟩
theorem ex9_E:valuesE ex9=0:=by
 have e:beginsE ex9=0:=begins_mk (by simp [ex9]) (below_one (by unfold mayV mayS;decide)) (below_one (by decide));have g:goS ex9.nodes ex9.ins=(0,[⟨1,1,1,0⟩]):=rfl;have s:sumW ex9.nodes=0:=rfl;unfold valuesE;rw [if_neg (by rw [e];decide),g,if_neg (by simp),s,if_neg (by decide),if_neg];intro f;apply f;exact below_one (by decide)
theorem ex9_B:graphB ex9=[1,1,1,1,0,0,1,0]:=by decide
theorem ex9_L:valuesL ex9=[⟨1,1,1,0⟩]:=by unfold valuesL;rw [if_pos ex9_E];rfl
def exI:ImgD:=⟨ex9,[5],[],[],[]⟩
theorem exI_len:(imgB exI).length=17:=by
 have:(graphB ex9).length=8:=by rw [ex9_B];rfl
 unfold imgB exI;simp only [List.length_append,this];decide
theorem exI_E:mayI exI=0:=by
 refine mayI_ok ex9_E ⟨by rw [show exI.g=ex9 from rfl,ex9_L];rfl,fun j hj=>?_⟩ (fun j hj=>?_)
 ·have hj:j<1:=hj;obtain rfl:j=0:=by omega
  rw [show exI.g=ex9 from rfl,ex9_L];have s:=sizeV_bd (⟨1,1,1,0⟩:ValD);show(0:Int)<=5/\(5:Int)<=65536-sizeV ⟨1,1,1,0⟩;omega
 ·rcases (show j=0\/j=1\/j=2 by omega) with rfl|rfl|rfl <;> decide
set_option maxHeartbeats 2000000 in
theorem shown9_any (W:World):Calls Tryz.prog 5 #[] W fun e w'=>e=.returned (.bool true)∧Past W w':=by
 have PU:=LH (fun w v (h:IsImg w v exI)=>iput_any exI v w h ⟨by simp [exI,ex9],by simp [exI,ex9]⟩ (by rw [show exI.g=ex9 from rfl,ex9_B];simp))
 obtain ⟨S,hS⟩:∃ S,W.heap.size=S:=⟨_,rfl⟩
 go_enter Tryz.func5,Tryz.ntmps5
 go_upto_region 2 with fail
 refine opq (fun w'=>(Bx w' S #[.int .i64 1,.int .i64 1,.int .i64 1,.int .i64 0])∧(Bx w' (S+1) #[.int .i64 0])∧(Bx w' (S+2) #[.slice (some ⟨S,0,none⟩) 1 1,.slice none 0 0,.slice (some ⟨S+1,0,none⟩) 1 1])∧Past W w'∧w'.heap.size=S+3) (by
  subst hS
  exact ⟨by (exact kKeep),by (exact kKeep),by (exact kKeep),by (exact kKeep),by simp⟩) ?_
 rintro w1 ⟨b0,b1,b2,p1,z1⟩
 try simp only [World.size_alloc,hS]
 have IM:IsImg (w1.alloc (.cells #[.int .i64 5] 3)) (.agg #[.slice (some ⟨S,0,none⟩) 1 1,.slice none 0 0,.slice (some ⟨S+1,0,none⟩) 1 1,.slice (some ⟨S+3,0,none⟩) 1 1,.slice none 0 0,.slice none 0 0,.slice none 0 0]) exI:=by
  have c0:=box_old (x:=.cells #[.int .i64 5] 3) b0 (by omega)
  have c1:=box_old (x:=.cells #[.int .i64 5] 3) b1 (by omega)
  have c3:∀ o:Nat,(w1.alloc (.cells #[.int .i64 5] 3)).cell? ⟨S+3,o,none⟩=(#[.int .i64 5]:Array Value)[o]?:=box_new (by omega)
  refine ⟨_,_,_,_,_,_,_,rfl,⟨_,_,_,rfl,vals_one (by simp;omega) (by unfold ValWf;decide) ⟨c0 0,c0 1,c0 2,c0 3⟩,⟨none,0,rfl,Nat.le_refl _,Nat.zero_le _,fun _=>rfl,by simp [exI,ex9],by simp [exI,ex9]⟩,nums_box1 c1 (by simp;omega) (by decide)⟩,nums_box1 c3 (by simp;omega) (by decide),cmds_nil _,cmds_nil _,cmds_nil _⟩
 have PV:=LH (PU.out _ _ IM)
 unfold PutI at PV
 rw [exI_len] at PV
 have B2:=LH b2
 clear PU IM b0 b1
 go_wp2_with (first|refine wpList_load_box rfl 28 (.tmp 1) rfl (S+2) _ rfl B2.out Tryz.underlying28 rfl (by kernel_rfl) ?_)
 try simp only [z1]
 refine PV.out.mono ?_
 rintro e w2 (⟨_,B,_,rfl,_,p2⟩|⟨hE,_⟩)
 ·have p3:Past W w2:=(p1.alloc _).trans p2
  clear PV B2 b2
  go_wp2_with fail
  go_ret
  exact ⟨rfl,p3⟩
 ·exact absurd exI_E hE
end Go.Proofs.YtejllmjkeefloaaGreat
namespace Go.Proofs.YtejllmjkeefloaaGreat.Q8
open Go.ChangeShapes Go.WideShapes Go.ChangeAt Go.RowKit
set_option maxRecDepth 20000
set_option linter.unusedVariables false
set_option linter.unusedSimpArgs false
def RPutPost2 (l:List (List Int))(W:World)(e:Ending)(w':World):Prop:=∃ v,e=.returned (.tuple #[v,.int .i64 (putE l)])/\IsNums .u8 w' v (putL l)/\Past W w'
theorem nums_nil (w:World):IsNums .u8 w (.slice none 0 0) []:=⟨none,0,rfl,Nat.le_refl _,Nat.zero_le _,fun _=>rfl,by simp,by simp⟩
theorem ownZ_low {w:World}{base base':Nat}{v:Value}{l:List Int}(h:OwnZ w base v l):OwnR w base v l:=h.1
set_option maxHeartbeats 1000000 in
theorem rPut_any (lv:Value)(l:List (List Int))(W:World)(h:IsCmds W lv l):Calls Tryz.prog 50 #[lv] W (RPutPost2 l W):=by
 have HC:=LH h;obtain⟨A,cap,rfl,h2,h3,h4⟩:=h.form;have hm:l.length<=9223372036854775807:=by unfold maxLen at h3;omega
 clear h;by_cases hb:4096<l.length
 ·obtain⟨e1,e2⟩:=put_big hb;unfold RPutPost2;rw [e1,e2];clear e1 e2;go_enter Tryz.func50,Tryz.ntmps50;go_wp2_with fail;go_ret2;exact⟨_,rfl,nums_nil _,Past.refl _⟩
 ·have WF:=LH HC.out.wf;have d1:decide ((l.length:Int)>4096)=false:=by simp;omega
  have RN:=LH (rnum_any W.heap.size 2 (.slice (some ⟨W.heap.size,0,none⟩) 0 0) [] l.length (W.alloc (.cells #[] 5)) (.inr (.inl rfl)) (len_wf _ (by omega)) (ownZ_lit W) (by simp) (by simp));go_enter Tryz.func50,Tryz.ntmps50;go_wp2_with fail;refine RN.out.mono ?_;rintro e w1 ⟨v1,rfl,o1,g1⟩;have R1:Hid (OwnZ w1 W.heap.size v1 (numB 2 l.length++(l.take 0).flatMap cmdB)/\Past W w1/\∀ c∈l.take 0,mayD c):=LH ⟨by simpa using o1,Lays.past ((Past.refl W).alloc _) g1,by simp⟩;clear RN o1 g1;go_wp2_with fail;go_loopw [2,3,4,5] (fun s2 s3 v i wr=>∃ n:Nat,n<=l.length/\i=.int .i64 n/\s2=.slice none 0 0/\s3=.int .i64 0/\Hid (OwnZ wr W.heap.size v (numB 2 l.length++(l.take n).flatMap cmdB)/\Past W wr/\∀ c∈l.take n,mayD c)) (fun _ _ _ i _=>l.length-(intOf i).toNat)
  case atStart=>exact⟨0,by omega,rfl,rfl,rfl,R1⟩
  case round =>
   obtain⟨n,hnl,rfl,rfl,rfl,R⟩:=hrel;by_cases h:n<l.length
   ·obtain⟨b,off,rfl,hbl,hr⟩:=(HC.out.grow R.out.2.1).at n h;have wc:=wfC_at WF.out h;have hnx:=flatB_take h;have hmem:l.getD n []∈l:=by
     have:l.getD n []=l[n]:=by simp [List.getD,h]
     rw [this];exact List.getElem_mem h
    have htk:∀ c∈l.take (n+1),c∈l.take n\/c=l.getD n []:=by
     intro c hc;rw [List.take_succ_eq_append_getElem h] at hc;rcases List.mem_append.1 hc with q|q
     ·exact .inl q
     ·right;simp only [List.mem_singleton] at q;rw [q];simp [List.getD,h]
    obtain⟨c,ec⟩:∃ c,l.getD n []=c:=⟨_,rfl⟩
    rw [ec] at hr wc hnx hmem htk;have hlen:(numB 2 l.length++(l.take n).flatMap cmdB).length<=1000000:=by
     have:=flatB_len (l.take n);simp only [List.length_append,numB_len,List.length_take] at *;omega
    have HR:=LH hr;have WC:=LH wc;have NX:=LH hnx;have HM:=LH hmem;have HT:=LH htk;have HL:=LH hlen;clear hr wc hnx hmem htk ec hlen hbl;have MA:=LH (fun w=>rmay_any c WC.out.1 w);by_cases hmd:mayD c
    ·rw [mayE_ok.2 hmd] at MA;have HD:=LH hmd;clear hmd;go_wp2_with (first|refine wpList_load_row rfl (.tmp 21) rfl b (off+n*14) rfl c WC.out.1 HR.out ?_);refine(MA.out wr).mono ?_;rintro e w3 ⟨rfl,p3⟩;have R3:Hid (OwnZ w3 W.heap.size u4 (numB 2 l.length++(l.take n).flatMap cmdB)/\Past W w3/\∀ c∈l.take n,mayD c):=LH ⟨R.out.1.past p3,R.out.2.1.trans p3,R.out.2.2⟩;have HR3:Hid (w3.rangeAt b (off+n*14) (cellC c)):=LH (fun j v hv=>(p3.cell (cell_lt (HR.out 0 _ (by rw [cellC_at c 0 (by rw [WC.out.1];omega)])))).trans (HR.out j v hv));have LC:=LH (rput_any W.heap.size u4 _ c w3 WC.out HD.out R3.out.1 R3.out.2.1.2.2.1 HL.out);clear R p3 HR MA;go_wp2_with (first|refine wpList_load_row rfl (.tmp 28) rfl b (off+n*14) rfl c WC.out.1 HR3.out ?_);refine LC.out.mono ?_;rintro e w4 ⟨v4,rfl,o4,g4⟩;have R4:Hid (OwnZ w4 W.heap.size v4 (numB 2 l.length++(l.take (n+1)).flatMap cmdB)/\Past W w4/\∀ c∈l.take (n+1),mayD c):=LH ⟨by rw [NX.out,<- List.append_assoc];exact o4,Lays.past R3.out.2.1 g4,fun d hd=>by
      rcases HT.out d hd with q|q
      ·exact R3.out.2.2 d q
      ·rw [q];exact HD.out⟩
     clear LC o4 g4 R3 HR3;go_wp2_with fail;go_roundw
     case rel=>exact⟨n+1,by omega,by go_num,rfl,rfl,R4⟩
     case measure=>simp [intOf];omega
    ·have e1:mayE c=1:=by unfold mayE;rw [if_neg hmd]
     rw [e1] at MA;have E:=LH (put_bad (by omega) HM.out hmd);clear hmd e1;go_wp2_with (first|refine wpList_load_row rfl (.tmp 21) rfl b (off+n*14) rfl c WC.out.1 HR.out ?_);refine(MA.out wr).mono ?_;rintro e w3 ⟨rfl,p3⟩;have P3:=LH (R.out.2.1.trans p3);clear R p3 HR MA;go_wp2_with fail;go_ret2;exact⟨_,by rw [E.out.2];rfl,by rw [E.out.1];exact nums_nil _,P3.out⟩
   ·have e0:l.take n=l:=List.take_of_length_le (by omega);rw [e0] at R;have E:=LH (put_ok (l:=l) (by omega) R.out.2.2);go_wp2_with fail;go_ret2;exact⟨_,by rw [E.out.2];rfl,by rw [E.out.1];exact(ownZ_low (base':=0) R.out.1).nums (putB_bytes l),R.out.2.1⟩
end Go.Proofs.YtejllmjkeefloaaGreat.Q8
namespace Go.Proofs.YtejllmjkeefloaaGreat
open Go.ChangeShapes Go.WideShapes Go.ChangeAt Go.RowKit
set_option maxRecDepth 20000
set_option linter.unusedVariables false
set_option linter.unusedSimpArgs false
theorem QRd.c2 {w:World}{B P cap:Nat}{A:Option Addr}{b:List Int}{s:Rd}(h:QRd w B P A cap b s):w.cell? ⟨P,2,none⟩=some (.bool s.short):=by
 obtain⟨k,bad,h,rfl⟩:=h;have e:(leftOf b k bad).short=bad:=by cases bad <;> rfl
 rw [e];exact h.1 2
def Stops {α:Type}(one:Rd->α×Rd)(n:Nat)(l:List α)(t:Rd)(g:List α×Rd):Prop:=if t.short then g.2=t else goR one n l t=g
theorem Stops.first {α:Type}{one:Rd->α×Rd}{n:Nat}{t:Rd}(h:t.short=true->n=0):Stops one n [] t (goR one n [] t):=by
 unfold Stops;split
 ·rename_i hs;rw [h hs];rfl
 ·rfl
theorem Stops.next {α:Type} {one:Rd->α×Rd} {n:Nat} {l:List α} {t:Rd} {g:List α×Rd} (h:Stops one (n+1) l t g) (hs:t.short=false):Stops one n (l++[(one t).1]) (one t).2 g:=by
 unfold Stops at h ⊢;rw [if_neg (by rw [hs];simp)] at h;split
 ·rename_i h2;rw [<- h,goR_short n l t h2]
 ·rename_i h2;rw [<- h,goR_more n l t (by simpa using h2)]
theorem Stops.done {α:Type}{one:Rd->α×Rd}{l:List α}{t:Rd}{g:List α×Rd}(h:Stops one 0 l t g):g.2=t/\(t.short=false->g.1=l):=by
 unfold Stops at h;split at h
 ·rename_i hs;exact⟨h,fun f=>by rw [hs] at f;cases f⟩
 ·rw [goR_end] at h;rw [<- h];exact⟨rfl,fun _=>rfl⟩
theorem Stops.over {α:Type}{one:Rd->α×Rd}{n:Nat}{l:List α}{t:Rd}{g:List α×Rd}(h:Stops one n l t g)(hs:t.short=true):g.2=t/\(t.short=false->g.1=l):=by
 unfold Stops at h;rw [if_pos hs] at h;exact⟨h,fun f=>by rw [hs] at f;cases f⟩
def QNums (base:Nat)(B P:Nat)(A:Option Addr)(cap:Nat)(b:List Int)(g:List Int×Rd)(W:World)(e:Ending)(w':World):Prop :=
 ∃ v l,e=.returned v/\OwnI .i64 3 w' base v l/\(∀ x∈l,0<=x/\x<256)/\l.length<=255/\(g.2.short=false->g.1=l)/\QRd w' B P A cap b g.2/\Keep P W w'
set_option maxHeartbeats 4000000 in
theorem qnums_rd (B P cap:Nat)(A:Option Addr)(b:List Int)(s:Rd)(W:World)(hr:QRd W B P A cap b s) :
  Calls Tryz.prog 42 #[.pointer (some ⟨P,0,none⟩)] W (QNums W.heap.size B P A cap b (listR 1 (numR 1) s) W):=by
 have hPW:=hr.lt;have C0:=LH (qnum_rd 1 (by omega) (by omega) B P cap A b s W hr);have C1:=LH (fun s w (k:QRd w B P A cap b s)=>qnum_rd 1 (by omega) (by omega) B P cap A b s w k);obtain⟨nb0,nb1⟩:=numR_bd 1 s hr.bytes;simp only [Int.reducePow] at nb1;obtain⟨N,hN⟩:∃ N:Nat,(numR 1 s).1=(N:Int):=⟨(numR 1 s).1.toNat,by omega⟩
 have hN2:N<=255:=by omega
 have hz:(numR 1 s).2.short=true->N=0:=fun h=>by
  unfold numR pieceR at h hN;split at h
  ·rename_i q;rw [if_pos q] at hN;simp [foldB] at hN;omega
  ·rename_i q;obtain⟨k,bad,_,rfl⟩:=hr;cases bad
   ·cases h
   ·exact absurd (by simp [leftOf]) q
 obtain⟨l0,s0⟩:∃ t,(numR 1 s).2=t:=⟨_,rfl⟩
 rw [s0] at hz;obtain⟨g,hg⟩:∃ g,goR (numR 1) N [] l0=g:=⟨_,rfl⟩
 have hl:listR 1 (numR 1) s=g:=by unfold listR;rw [hN,s0,Int.toNat_natCast,hg]
 rw [hl];rw [hN,s0] at C0;have ST:=LH (Stops.first (one:=numR 1) hz);rw [hg] at ST;obtain⟨i0,hi0,hz0,hz1,hz2⟩:=info_parts infoInt;have I1:=LH hi0;have I2:=LH hz0;have I3:=LH hz1;have I4:=LH hz2;clear hi0 hz0 hz1 hz2 hr nb0 nb1 hN s0 hl hg hz;go_enter Tryz.func42,Tryz.ntmps42;go_wp2_with fail;refine C0.out.mono ?_;rintro e w1 ⟨rfl,r1,k1⟩;have R1:=LH r1;have K1:=LH k1;have S1:W.heap.size<=w1.heap.size:=k1.2.2.1;clear r1 k1 C0;go_upto_region 3 with fail;refine opq (fun w'=>Hid (OwnI .i64 3 w' W.heap.size (.slice (some ⟨w1.heap.size,0,none⟩) 0 0) [])/\Hid (QRd w' B P A cap b l0)/\Hid (Keep P W w')/\W.heap.size<=w'.heap.size) ⟨LH (World.ownsRow_lit w1 #[] 0 S1 (by decide) rfl),LH (R1.out.alloc _),LH (K1.out.alloc _),by rw [World.size_alloc];omega⟩ ?_;rintro w2 ⟨OW2,R2,K2,S2⟩;clear R1 K1 S1;go_wp2_with fail;go_loopw [4,5] (fun v i wr=>∃ (k:Nat) (l:List Int) (st:Rd),k<=N/\i=.int .i64 k/\l.length=k/\Hid (∀ x∈l,0<=x/\x<256)/\Hid (Stops (numR 1) (N-k) l st g)/\Hid (OwnI .i64 3 wr W.heap.size v l)/\Hid (QRd wr B P A cap b st)/\Hid (Keep P W wr)/\W.heap.size<=wr.heap.size) (fun _ i _=>N-(intOf i).toNat)
 case atStart=>exact⟨0,[],l0,by omega,rfl,rfl,LH (by simp),ST,OW2,R2,K2,S2⟩
 case round =>
  clear OW2 R2 K2 S2 ST;obtain⟨k,l,st,hk,rfl,hll,hby,hgo,own,rr,kk,ss⟩:=hrel;have c2:=rr.out.c2;by_cases h:k<N
  ·obtain⟨m,hm⟩:∃ m,N-k=m+1:=⟨N-k-1,by omega⟩
   cases hs:st.short with
   | true =>
    have D:=LH (hgo.out.over hs);rw [hs] at c2;have rr':Hid (QRd wr B P A cap b g.2):=LH (by rw [D.out.1];exact rr.out);have D2:Hid (g.2.short=false->g.1=l):=LH (fun f=>D.out.2 (by rw [<- D.out.1];exact f));clear hgo hm hs rr D;go_wp2_with fail;go_ret;exact⟨_,l,rfl,own.out,hby.out,by omega,D2.out,rr'.out,kk.out⟩
   | false =>
    rw [hm] at hgo;have NX:=LH (hgo.out.next hs);rw [hs] at c2;have bd:=numR_bd 1 st rr.out.bytes;simp only [Int.reducePow] at bd;obtain⟨x,hx⟩:∃ x,(numR 1 st)=x:=⟨_,rfl⟩
    rw [hx] at NX bd;have HX:=LH hx;have BD:=LH bd;clear hx hgo hs bd;go_wp2_with fail;refine(C1.out _ _ rr.out).mono ?_;rw [HX.out];rintro e w2 ⟨rfl,r2,k2⟩;have OW2:=LH (own_keep own.out k2 hPW);have K2:=LH (kk.out.trans k2);have S2:W.heap.size<=w2.heap.size:=by have:=k2.2.2.1;omega
    have R2:=LH r2;have HLT:=LH (World.ownsRow.lt OW2.out);clear own rr kk ss k2 r2 c2;go_wp2_with (at_builtin;refine wpList_append_own _ rfl (.tmp 21) (.tmp 24) 26 rfl W.heap.size 3 i0 _ 1 8 Tryz.underlying26 I1.out I2.out I3.out I4.out rfl (by decide) _ _ _ rfl (World.ownsRow.alloc OW2.out _) ⟨w2.heap.size,0,none⟩ 1 1 [.int .i64 x.1] rfl rfl (fun j u hu=>cells_new' w2 _ 3 j u hu) (by intro u hu;simp at hu;subst hu;rfl) ?c4 ?c5 ?c6 ?_)
    case c4=>unfold maxLen;omega
    case c5=>omega
    case c6=>simp;omega
    intro v4 w4 hown4 hgrow _;have ho4:=LH (own_int hll.symm hown4);have R4:=LH ((R2.out.alloc (.cells #[.int .i64 x.1] 3)).grownBy hgrow (fun j hj=>by have:=(HLT.out j hj).1;omega));have K4:=LH ((K2.out.alloc (.cells #[.int .i64 x.1] 3)).grownBy hgrow (fun j hj=>(HLT.out j hj).1));have S4:W.heap.size<=w4.heap.size:=by have:=hgrow.size;simp only [World.size_alloc] at this;omega
    have BY4:Hid (∀ y∈l++[x.1],0<=y/\y<256):=LH (fun y hy=>by
     rcases List.mem_append.1 hy with hy|hy
     ·exact hby.out y hy
     ·simp only [List.mem_cons,List.not_mem_nil,or_false] at hy;subst hy;exact BD.out)
    clear hown4 hgrow HLT OW2 K2 R2 S2 hby BD HX;go_wp2_with fail;go_roundw
    case rel=>exact⟨k+1,l++[x.1],x.2,by omega,by go_num,by simp [hll],BY4,LH (by rw [show N-(k+1)=m by omega];exact NX.out),ho4,R4,K4,S4⟩
    case measure=>simp [intOf];omega
  ·have e:N-k=0:=by omega
   rw [e] at hgo;have D:=LH hgo.out.done;have rr':Hid (QRd wr B P A cap b g.2):=LH (by rw [D.out.1];exact rr.out);have D2:Hid (g.2.short=false->g.1=l):=LH (fun f=>D.out.2 (by rw [<- D.out.1];exact f));clear hgo e rr D c2;go_wp2_with fail;go_ret;exact⟨_,l,rfl,own.out,hby.out,by omega,D2.out,rr'.out,kk.out⟩
end Go.Proofs.YtejllmjkeefloaaGreat
namespace Go.Proofs.YtejllmjkeefloaaGreat.Q8
open Go.ChangeShapes Go.WideShapes Go.ChangeAt Go.RowKit
set_option maxRecDepth 20000
set_option linter.unusedVariables false
set_option linter.unusedSimpArgs false
def wideD (k:Int):Nat:=if kindP k then 1+restW k else 0
set_option maxHeartbeats 1000000 in
theorem rwide_any (k:Int)(h0:0<=k)(h1:k<256)(W:World):Calls Tryz.prog 45 #[.int .u8 k] W fun e w'=>e=.returned (.int .i64 (wideD k:Nat))/\W=w':=by
 have hw:IntKind.i64.wrap k=k:=IntWalk.i64_in _ (by omega);by_cases h:kindP k
 ·have e:wideD k=1+restW k:=if_pos h;rw [e];clear e;have h':=h;unfold kindP at h';rcases (show k=1\/k=2\/k=3\/k=4\/k=5\/k=6\/k=7 by omega) with rfl|rfl|rfl|rfl|rfl|rfl|rfl
  ·rw [show(1+restW 1)=9 from rfl];go_enter Tryz.func45,Tryz.ntmps45;go_wp2_with fail;go_ret;exact⟨rfl,rfl⟩
  ·rw [show(1+restW 2)=9 from rfl];go_enter Tryz.func45,Tryz.ntmps45;go_wp2_with fail;go_ret;exact⟨rfl,rfl⟩
  ·rw [show(1+restW 3)=14 from rfl];go_enter Tryz.func45,Tryz.ntmps45;go_wp2_with fail;go_ret;exact⟨rfl,rfl⟩
  ·rw [show(1+restW 4)=3 from rfl];go_enter Tryz.func45,Tryz.ntmps45;go_wp2_with fail;go_ret;exact⟨rfl,rfl⟩
  ·rw [show(1+restW 5)=2 from rfl];go_enter Tryz.func45,Tryz.ntmps45;go_wp2_with fail;go_ret;exact⟨rfl,rfl⟩
  ·rw [show(1+restW 6)=2 from rfl];go_enter Tryz.func45,Tryz.ntmps45;go_wp2_with fail;go_ret;exact⟨rfl,rfl⟩
  ·rw [show(1+restW 7)=1 from rfl];go_enter Tryz.func45,Tryz.ntmps45;go_wp2_with fail;go_ret;exact⟨rfl,rfl⟩
 ·have e:wideD k=0:=if_neg h;rw [e];have n1:(k==1)=false:=by unfold kindP at h;simp;omega
  have n2:(k==2)=false:=by unfold kindP at h;simp;omega
  have n3:(k==3)=false:=by unfold kindP at h;simp;omega
  have n4:(k==4)=false:=by unfold kindP at h;simp;omega
  have n5:(k==5)=false:=by unfold kindP at h;simp;omega
  have n6:(k==6)=false:=by unfold kindP at h;simp;omega
  have n7:(k==7)=false:=by unfold kindP at h;simp;omega
  clear e h;go_enter Tryz.func45,Tryz.ntmps45;go_wp2_with fail;go_ret;exact⟨rfl,rfl⟩
theorem getD_take_drop {b:List Int}{k w i:Nat}(hi:i<w)(h:k+w<=b.length):((b.drop k).take w).getD i 0=b.getD (k+i) 0:=by
 simp only [List.getD,List.getElem?_take,List.getElem?_drop];rw [if_pos hi]
set_option maxHeartbeats 1000000 in
theorem rat_any (bb bo cap k wd:Nat)(b:List Int)(W:World)(hb:IsNums .u8 W (.slice (some ⟨bb,bo,none⟩) b.length cap) b)(hk:k+wd<=b.length)(hw:wd<=3)(hlen:b.length<=100000) :
  Calls Tryz.prog 44 #[.slice (some ⟨bb,bo,none⟩) b.length cap,.int .i64 (k:Int),.int .i64 (wd:Int)] W fun e w'=>e=.returned (.int .i64 (foldB ((b.drop k).take wd)))/\W=w':=by
 have HB:=LH hb;have hlw:((b.drop k).take wd).length=wd:=by rw [List.length_take,List.length_drop];omega
 have HLW:=LH hlw;have GD:=LH (fun i (hi:i<wd)=>getD_take_drop (b:=b) (k:=k) hi hk);have BT:=LH (fun c (hc:c∈(b.drop k).take wd)=>by
  obtain⟨_,_,e,hB⟩:=nums_bytes HB.out;exact hB.bytesP c (List.mem_of_mem_drop (List.mem_of_mem_take hc)))
 obtain⟨t,ht⟩:∃ t,(b.drop k).take wd=t:=⟨_,rfl⟩
 rw [ht] at HLW GD BT;rw [ht];obtain⟨A',cap',e,h2,h3,h4,h5,h6⟩:=hb;simp only [Value.slice.injEq,true_and] at e;obtain⟨rfl,rfl⟩:=e;clear ht hlw h4;by_cases hp:0<b.length
 ·obtain⟨b1,o1,e1,hbl,hc⟩:=h6 hp;simp only [Option.some.injEq,Addr.mk.injEq,and_true] at e1;obtain⟨rfl,rfl⟩:=e1;have HC:=LH hc;have H5:=LH h5;obtain⟨m,hm⟩:∃ m,b.length=m:=⟨_,rfl⟩
  rw [hm] at hk h2 hlen;have HM:=LH hm;rw [hm];clear hc h5 h6 hp hm hbl;go_enter Tryz.func44,Tryz.ntmps44;go_wp2_with fail;go_loopw [7,8] (fun x i wr=>∃ n:Nat,n<=wd/\i=.int .i64 n/\x=.int .i64 (foldB (t.take n))/\Hid (0<=foldB (t.take n)/\foldB (t.take n)<256 ^ n)/\wr=W) (fun _ i _=>wd-(intOf i).toNat)
  case atStart=>exact⟨0,by omega,rfl,rfl,LH (by simp [foldB]),rfl⟩
  case round =>
   obtain⟨n,hn,rfl,rfl,hb,rfl⟩:=hrel;by_cases h:n<wd
   ·have c0:=HC.out (k+n) (by rw [HM.out];omega);rw [<- GD.out n h] at c0;have wc:=BT.out (t.getD n 0) (by simp [List.getD,show n<t.length by rw [HLW.out];exact h]);have hnext:=foldB_take t n (by rw [HLW.out];exact h);obtain⟨c,hc'⟩:∃ c,t.getD n 0=c:=⟨_,rfl⟩
    rw [hc'] at c0 wc hnext;obtain⟨x,hx⟩:∃ x,foldB (t.take n)=x:=⟨_,rfl⟩
    rw [hx] at hb hnext;rw [hx];have x1:x<16777216:=by
     have h2:=hb.out.2;rcases (show n=0\/n=1\/n=2 by omega) with rfl|rfl|rfl <;> simp at h2 <;> omega
    have x0:=hb.out.1;have hnb:0<=foldB (t.take (n+1))/\foldB (t.take (n+1))<256 ^ (n+1):=by
     rw [hnext,Int.pow_succ];have:=hb.out;omega
    have HNB:=LH hnb;have HNX:=LH hnext;have wc0:=wc.1;have wc1:=wc.2;clear hnb hnext hx hc' wc hb;go_wp2_with fail;go_roundw
    case rel=>exact⟨n+1,by omega,by go_num,by rw [HNX.out],HNB,trivial⟩
    case measure=>simp [intOf];omega
   ·have e:n=wd:=by omega
    subst e;have et:t.take n=t:=List.take_of_length_le (by rw [HLW.out];exact Nat.le_refl _);rw [et];clear hb;go_wp2_with fail;go_ret;exact⟨rfl,rfl⟩
 ·obtain rfl:wd=0:=by omega
  have e0:t=[]:=List.eq_nil_of_length_eq_zero HLW.out;subst e0;clear h6 h5 hp;go_enter Tryz.func44,Tryz.ntmps44;go_wp2_with fail;go_loopw [7,8] (fun x i wr=>i=.int .i64 0/\x=.int .i64 0/\wr=W) (fun _ i _=>0)
  case atStart=>exact⟨rfl,rfl,rfl⟩
  case round =>
   obtain⟨rfl,rfl,rfl⟩:=hrel;go_wp2_with fail;go_ret;exact⟨rfl,rfl⟩
end Go.Proofs.YtejllmjkeefloaaGreat.Q8
