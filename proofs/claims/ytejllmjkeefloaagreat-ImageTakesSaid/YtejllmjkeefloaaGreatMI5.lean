/- isa: May. isa: layCmd. -/
import Derived.Deep.MidRow
import Derived.Test.YtejllmjkeefloaaGreatMP1
import Derived.Test.YtejllmjkeefloaaGreatMI3
namespace Go.Proofs.YtejllmjkeefloaaGreat.Q8
open Go.ChangeShapes Go.WideShapes Go.ChangeAt Go.RowKit
set_option maxRecDepth 20000
set_option linter.unusedVariables false
set_option linter.unusedSimpArgs false
theorem C14:(Tryz.prog.info? 67).map (·.size)=some 14:=by kernel_rfl
theorem cmdSize {c:List Int}(hl:c.length=14):(Tryz.prog.info? 67).map (·.size)=some (⟨cellC c⟩:Array Value).size:=by rw [C14];simp [cellC_len,hl]
theorem size_cellC {c:List Int}(hl:c.length=14):(⟨cellC c⟩:Array Value).size=14:=by simp [cellC_len,hl]
theorem fldsC_at (P:Nat)(fs:List Fld)(k:Nat)(h:k<fs.length)(j:Nat)(v:Value)(hv:(fldC P (fs[k]'h))[j]? = some v):(fldsC P fs)[4*k+j]? = some v:=by
 induction fs generalizing k with
 | nil=>simp at h
 | cons f fs ih =>
  cases k with
  | zero =>
   have hj:j<(fldC P f).length:=by
    by_cases q:j<(fldC P f).length
    ·exact q
    ·rw [List.getElem?_eq_none (by simpa using q)] at hv;cases hv
   show((fldC P f)++fldsC P fs)[4*0+j]? = _;rw [List.getElem?_append_left (by simpa using hj)];simpa using hv
  | succ k =>
   show((fldC P f)++fldsC P fs)[4*(k+1)+j]? = _;rw [List.getElem?_append_right (by simp [fldC];omega)];have:=ih k (by simpa using h) (by simpa using hv);rw [<- this];congr 1;simp [fldC];omega
set_option maxHeartbeats 4000000 in
theorem may_no (c:List Int) (hl:c.length=14) (hk:¬ kindP (c.getD 0 0)) (W:World):Calls Tryz.prog 69 #[.agg ⟨cellC c⟩] W fun e w'=>e=.returned (.int .i64 1)∧Past W w':=by
 obtain ⟨k,hk'⟩:∃ k,c.getD 0 0=k:=⟨_,rfl⟩
 have sz:=size_cellC hl
 have FA:=LH (fields_any k)
 have DK:decide (kindP k)=false:=by rw [← hk'];simpa using hk
 unfold FieldsPost at FA
 rw [DK] at FA
 have HK:=LH hk'
 clear DK hk hk'
 go_enter Tryz.func69,Tryz.ntmps69
 go_upto_region 1 with fail
 obtain ⟨Q,hQ⟩:∃ Q,W.heap.size=Q:=⟨_,rfl⟩
 refine opq (fun w'=>(Bx w' Q ⟨cellC c⟩)∧Past W w') (by subst hQ;(exact kKeep)) ?_
 rintro w0 ⟨b0,p0⟩
 try simp only [hQ]
 have h0:=boxC_cell b0 (j:=0) (by omega)
 rw [HK.out] at h0
 have H0:=LH h0
 have P0:=LH p0
 clear h0 b0 p0
 go_wp2_with fail
 refine (FA.out Q w0 H0.out).mono ?_
 rintro e w1 ⟨v,rfl,hF,p1⟩
 have P1:=LH (P0.out.trans p1)
 clear hF p1
 go_wp2_with fail
 go_ret
 exact ⟨rfl,P1.out⟩
set_option maxHeartbeats 4000000 in
theorem may_yes (c:List Int) (hl:c.length=14) (hk:kindP (c.getD 0 0)) (W:World):Calls Tryz.prog 69 #[.agg ⟨cellC c⟩] W fun e w'=>e=.returned (.int .i64 (goE (fldsD (c.getD 0 0)) c))∧Past W w':=by
 obtain ⟨k,hk'⟩:∃ k,c.getD 0 0=k:=⟨_,rfl⟩
 have sz:=size_cellC hl
 have FA:=LH (fields_any k)
 have DK:decide (kindP k)=true:=by rw [← hk'];simpa using hk
 unfold FieldsPost at FA
 rw [DK] at FA
 have HP:=LH (fldsD_pos k).1
 have hn:=fldsD_len k
 rw [hk']
 obtain ⟨fs,hfs⟩:∃ fs,fldsD k=fs:=⟨_,rfl⟩
 rw [hfs] at FA HP hn
 rw [hfs]
 obtain ⟨m,hm⟩:∃ m,goE fs c=m:=⟨_,rfl⟩
 rw [hm]
 have HM:=LH hm
 have HK:=LH hk'
 have HL:=LH hl
 clear DK hk hk' hm hfs hl
 go_enter Tryz.func69,Tryz.ntmps69
 go_upto_region 1 with fail
 obtain ⟨Q,hQ⟩:∃ Q,W.heap.size=Q:=⟨_,rfl⟩
 refine opq (fun w'=>(Bx w' Q ⟨cellC c⟩)∧(Fr w' Q)∧Past W w'∧Q+1≤w'.heap.size) (by subst hQ;(exact kKeep)) ?_
 rintro w0 ⟨b0,f0,p0,z0⟩
 try simp only [hQ]
 have QW:W.heap.size≤Q:=by omega
 have h0:=boxC_cell b0 (j:=0) (by rw [HL.out];omega)
 rw [HK.out] at h0
 have H0:=LH h0
 have B0:=LH b0
 have F0:=LH f0
 have P0:=LH p0
 clear h0 b0 p0 f0 hQ
 go_wp2_with fail
 refine (FA.out Q w0 H0.out).mono ?_
 rintro e w1 ⟨v,rfl,hF,p1⟩
 obtain ⟨A,hv⟩:∃ A,v=.slice A fs.length fs.length:=by
  rcases hF with ⟨rfl,rfl⟩|⟨b,rfl,_⟩
  ·exact ⟨none,rfl⟩
  ·exact ⟨_,rfl⟩
 subst hv
 have REL:Hid (∃ c',c'.length=14∧c'.getD 0 0=k∧goE (fs.drop 0) c'=m∧(Bx w1 Q ⟨cellC c'⟩)∧(Fr w1 Q)∧Past W w1∧IsFlds w1 Q (.slice A fs.length fs.length) fs∧Q<w1.heap.size) :=
  LH ⟨c,HL.out,HK.out,HM.out,box_past p1 B0.out (by omega),free_past p1 F0.out (by omega),P0.out.trans p1,hF,Nat.le_trans z0 p1.2.2.1⟩
 clear hF p1 B0 F0 P0 z0
 go_wp2_with fail
 go_loopw [2,15] (fun s i wr=>∃ n:Nat,n≤fs.length∧i=.int .i64 n∧s=.int .i64 0∧Hid (∃ c',c'.length=14∧c'.getD 0 0=k∧goE (fs.drop n) c'=m∧(Bx wr Q ⟨cellC c'⟩)∧(Fr wr Q)∧Past W wr∧IsFlds wr Q (.slice A fs.length fs.length) fs∧Q<wr.heap.size)) (fun _ i _=>fs.length-(intOf i).toNat)
 case atStart=>exact ⟨0,by omega,rfl,rfl,REL⟩
 case round =>
  obtain ⟨n,hnl,rfl,rfl,R⟩:=hrel
  by_cases h:n<fs.length
  ·obtain ⟨c',l',k',g',b',f',p',F',q'⟩:=R.out
   obtain ⟨b,hb,hbl,hbc⟩:∃ b,A=some ⟨b,0,none⟩∧b<wr.heap.size∧(Bx wr b ⟨fldsC Q fs⟩):=by
    rcases F' with ⟨e,_⟩|⟨b,e,h1,h2⟩
    ·rw [e] at h;simp at h
    ·simp only [Value.slice.injEq,and_true] at e
     exact ⟨b,e,h1,h2⟩
   subst hb
   have hd:fs.drop n=fs[n] :: fs.drop (n+1):=List.drop_eq_getElem_cons h
   have hr:∀ j v,(fldC Q fs[n])[j]? = some v→wr.cell? ⟨b,n*4+j,none⟩=some v:=fun j v hv=>by rw [hbc,Nat.mul_comm];have:=fldsC_at Q fs n h j v hv;simpa using this
   have hfp:=HP.out fs[n] (List.getElem_mem h)
   obtain ⟨f,hf⟩:∃ f,fs[n]=f:=⟨_,rfl⟩
   rw [hf] at hd hr hfp
   have r0:=hr 0 _ rfl
   rw [Nat.add_zero] at r0
   have r1:=hr 1 _ rfl
   have r2:=hr 2 _ rfl
   have r3:=hr 3 _ rfl
   have hQb:b≠Q:=by
    intro e
    subst e
    have h1:=hbc 0
    rw [b' 0] at h1
    have h2:=cellC_at c' 0 (by omega)
    have h3:=fldsC_at b fs 0 (by omega) 0 _ rfl
    simp only [List.getElem?_toArray] at h1
    rw [h2] at h1
    rw [Nat.mul_zero,Nat.add_zero] at h3
    rw [h3] at h1
    simp at h1
   have hx:=boxC_cell b' (j:=f.pos) (by omega)
   rw [hd] at g'
   obtain ⟨x,ex⟩:∃ x,c'.getD f.pos 0=x:=⟨_,rfl⟩
   rw [ex] at hx
   have K1:=LH l'
   have K2:=LH k'
   have K3:=LH g'
   have K4:=LH ex
   have K5:=LH hfp
   have KP:=LH p'
   have KF:=LH hbc
   have KQ:=LH q'
   have KB:=LH b'
   have Kf:=LH f'
   have Kx:=LH hx
   have Kb:=LH hbl
   clear l' k' g' ex hfp p' hbc q' b' f' hx hbl hr hd hf F' R
   obtain ⟨po,lo,hi,wd⟩:=f
   simp only at r0 r1 r2 r3 Kx K4 K5
   go_upto_region 7 with fail
   refine opq (fun w'=>Hid (Past W w'∧(Bx w' Q ⟨cellC c'⟩)∧(Fr w' Q)∧(Bx w' b ⟨fldsC Q fs⟩)∧b<w'.heap.size∧Q<w'.heap.size)∧(Bx w' wr.heap.size #[.pointer (some ⟨Q,po,none⟩),.int .i64 lo,.int .i64 hi,.int .i64 (wd:Int)])∧wr.heap.size<w'.heap.size) (by
    have h1:=KP.out
    have h2:=KB.out
    have h3:=Kf.out
    have h4:=KF.out
    have h5:=Kb.out
    have h6:=KQ.out
    exact ⟨LH ⟨h1.alloc _,box_old h2 h6,free_alloc h3,box_old h4 h5,by simp;omega,by simp;omega⟩,box_new rfl,by simp⟩) ?_
   rintro w2 ⟨K6,bF,z2⟩
   have qlt:=KQ.out
   have blt:=Kb.out
   have CX:=boxC_cell K6.out.2.1 (j:=po) (by have:=K1.out;have:=K5.out.1;omega)
   rw [K4.out] at CX
   have CXH:=LH CX
   obtain ⟨B,hB⟩:∃ B,wr.heap.size=B:=⟨_,rfl⟩
   rw [hB] at bF z2 qlt blt
   try simp only [hB]
   clear CX KP KB Kf KF KQ Kx Kb hB r0 r1 r2 r3
   by_cases hin:lo≤x∧x≤hi
   ·have dB:(!decide (lo≤x∧x≤hi))=false:=by simp [hin]
    have BY:=LH (beyond_any Q ⟨po,lo,hi,wd⟩ x w2 CXH.out)
    simp only [dB] at BY
    have hinF:inF ⟨po,lo,hi,wd⟩ c':=by unfold inF;rw [K4.out];exact hin
    have K3':=K3.out
    rw [goE_yes hinF] at K3'
    have G:=LH K3'
    clear K3 K3' hin dB hinF K4
    go_wp2_with fail
    refine BY.out.mono ?_
    rintro e w3 ⟨rfl,p3⟩
    have b3:=box_past p3 bF z2
    obtain ⟨q1,q2,q3,q4,q5,q6⟩:=K6.out
    have f3:=free_past p3 q3 q6
    have cx3:=cell_past p3 CXH.out q6
    have K7:Hid (Past W w3∧(Bx w3 Q ⟨cellC c'⟩)∧(Fr w3 Q)∧(Bx w3 b ⟨fldsC Q fs⟩)∧b<w3.heap.size∧Q<w3.heap.size):=LH ⟨q1.trans p3,box_past p3 q2 q6,f3,box_past p3 q4 q5,Nat.lt_of_lt_of_le q5 p3.2.2.1,Nat.lt_of_lt_of_le q6 p3.2.2.1⟩
    clear BY K6 q1 q2 q3 q4 q5 q6 p3 bF CXH
    go_wp2_with fail
    go_roundw
    case rel =>
     obtain ⟨q1,q2,q3,q4,q5,q6⟩:=K7.out
     have l14:=K1.out
     have pp:=K5.out
     refine ⟨n+1,by omega,by go_num,rfl,LH ⟨c'.set po 0,by rw [List.length_set];exact l14,?_,G.out,boxC_set q2 (by omega),free_set q3,Past.setCell q1 (by exact QW) _,.inr ⟨b,rfl,by rw [World.size_setCell];exact q5,box_set q4 (by dsimp only;omega)⟩,by rw [World.size_setCell];exact q6⟩⟩
     rw [← K2.out]
     have:po≠0:=pp.2
     simp [List.getD,List.getElem?_set,this]
    case measure=>simp [intOf];omega
   ·have dB:(!decide (lo≤x∧x≤hi))=true:=by simp only [hin];simp
    have BY:=LH (beyond_any Q ⟨po,lo,hi,wd⟩ x w2 CXH.out)
    simp only [dB] at BY
    have hinF:¬ inF ⟨po,lo,hi,wd⟩ c':=by unfold inF;rw [K4.out];exact hin
    have K3':=K3.out
    rw [goE_no hinF] at K3'
    subst K3'
    clear K3 hin dB hinF K4
    go_wp2_with fail
    refine BY.out.mono ?_
    rintro e w3 ⟨rfl,p3⟩
    have P3:=LH (K6.out.1.trans p3)
    clear BY K6 p3 bF CXH
    go_wp2_with fail
    go_ret
    exact ⟨rfl,P3.out⟩
  ·obtain ⟨c',l',k',g',b',f',p',F',q'⟩:=R.out
   have e0:fs.drop n=[]:=List.drop_of_length_le (by omega)
   rw [e0,goE_nil] at g'
   have h0:=boxC_cell b' (j:=0) (by omega)
   rw [k'] at h0
   have sz':=cmdSize l'
   have SZ:=LH sz'
   have L':=LH l'
   have K':=LH k'
   have P':=LH p'
   have B':=LH b'
   have HM':=LH g'
   have h14:(k :: List.replicate 13 (0:Int)).length=14:=by simp
   have H14:=LH h14
   clear e0 sz' l' k' p' f' F' q' b' R g' h14
   have key:Hid (m=if c'=k :: List.replicate 13 0 then 0 else 1):=LH (by
    rw [← HM'.out]
    by_cases ht:c'=k :: List.replicate 13 0
    ·rw [if_pos ht,if_pos (by rw [ht];rfl)]
    ·rw [if_neg ht,if_neg]
     intro e
     apply ht
     have l:=L'.out
     have h:=K'.out
     match c',l,e,h with
     | a :: r,l,e,h=>simp at h;simp only [List.tail_cons] at e;rw [e,h])
   clear HM'
   go_upto_region 11 with fail
   go_wp2_with (first|refine wpList_load_box rfl 67 (.tmp 1) rfl Q ⟨cellC c'⟩ rfl B'.out Tryz.underlying67 rfl SZ.out ?_|refine wpList_neqC rfl (.tmp 25) (.tmp 28) 67 rfl c' (k :: List.replicate 13 0) L'.out H14.out rfl rfl ?_)
   all_goals
    go_ret
    refine ⟨?_,P'.out⟩
    rename_i ht
    have k2:=key.out
    simp only [List.replicate,ht] at k2
    first|(rw [if_pos (by simpa using ht)] at k2;rw [k2];rfl)|(rw [if_neg (by simpa using ht)] at k2;rw [k2];rfl)
theorem may_any (c:List Int)(hl:c.length=14)(W:World):Calls Tryz.prog 69 #[.agg ⟨cellC c⟩] W fun e w'=>e=.returned (.int .i64 (mayE c))/\Past W w':=by
 by_cases hk:kindP (c.getD 0 0)
 ·rw [mayE_kind hk];exact may_yes c hl hk W
 ·rw [mayE_none hk];exact may_no c hl hk W
end Go.Proofs.YtejllmjkeefloaaGreat.Q8
namespace Go.Proofs.YtejllmjkeefloaaGreat.Q8
open Go.ChangeShapes Go.WideShapes Go.ChangeAt Go.RowKit
set_option maxRecDepth 20000
set_option linter.unusedVariables false
set_option linter.unusedSimpArgs false
theorem OwnB.past {w w':World}{base:Nat}{v:Value}{l:List Int}(h:OwnB w base v l)(g:Past w w'):OwnB w' base v l:=by
 obtain⟨⟨hl,h⟩,h2⟩:=h;refine⟨⟨hl,?_⟩,h2⟩;rcases h with ⟨rfl,h0⟩|⟨b,cap,cur,rfl,hb,hg,hn,hm,hs,ht⟩
 ·exact .inl ⟨rfl,h0⟩
 ·exact .inr ⟨b,cap,cur,rfl,hb,(g.2.2.2 b (Array.getElem?_eq_some_iff.1 hg).1).trans hg,hn,hm,hs,ht⟩
theorem box_lays {base b:Nat}{w w':World}{cs:Array Value}(g:Lays base w w')(hN:NoRow w base b)(h:(Bx w b cs)):(Bx w' b cs):=fun o=>(g.cell hN).trans (h o)
theorem noRow_int {w:World}{base b:Nat}{x:Int}(hb:b<w.heap.size)(h:w.cell? ⟨b,0,none⟩=some (.int .i64 x)):NoRow w base b:=⟨hb,.inr ⟨_,h,fun n e=>by simp at e⟩⟩
theorem noRow_ptr {w:World}{base b:Nat}{p:Option Addr}(hb:b<w.heap.size)(h:w.cell? ⟨b,0,none⟩=some (.pointer p)):NoRow w base b:=⟨hb,.inr ⟨_,h,fun n e=>by simp at e⟩⟩
def FldsP (w:World)(P:Nat)(A:Option Addr)(fs:List Fld):Prop:=0<fs.length->∃ b,A=some ⟨b,0,none⟩/\b<w.heap.size/\(Bx w b ⟨fldsC P fs⟩)
theorem IsFlds.form {w:World}{P:Nat}{v:Value}{fs:List Fld}(h:IsFlds w P v fs):∃ A,v=.slice A fs.length fs.length/\FldsP w P A fs:=by
 rcases h with ⟨rfl,rfl⟩|⟨b,rfl,h1,h2⟩
 ·exact⟨none,rfl,fun h=>by simp at h⟩
 ·exact⟨_,rfl,fun _=>⟨b,rfl,h1,h2⟩⟩
theorem FldsP.past {w w':World}{P:Nat}{A:Option Addr}{fs:List Fld}(h:FldsP w P A fs)(g:Past w w'):FldsP w' P A fs:=fun q=>by
 obtain⟨b,e,h1,h2⟩:=h q;exact⟨b,e,Nat.lt_of_lt_of_le h1 g.2.2.1,box_past g h2 h1⟩
theorem FldsP.lays {base:Nat}{w w':World}{P:Nat}{A:Option Addr}{fs:List Fld}(h:FldsP w P A fs)(g:Lays base w w'):FldsP w' P A fs:=fun q=>by
 obtain⟨b,e,h1,h2⟩:=h q;refine⟨b,e,Nat.lt_of_lt_of_le h1 g.2.2.1,box_lays g (noRow_ptr (p:=some ⟨P,(fs[0]'q).pos,none⟩) h1 ?_) h2⟩;rw [h2];have:=fldsC_at P fs 0 q 0 _ rfl;simpa using this
theorem FldsP.at {w:World}{P:Nat}{A:Option Addr}{fs:List Fld}(h:FldsP w P A fs)(n:Nat)(hn:n<fs.length):∃ b,A=some ⟨b,0,none⟩/\b<w.heap.size/\w.cell? ⟨b,n*4,none⟩=some (.pointer (some ⟨P,(fs[n]).pos,none⟩))/\w.cell? ⟨b,n*4+1,none⟩=some (.int .i64 (fs[n]).lo)/\w.cell? ⟨b,n*4+2,none⟩=some (.int .i64 (fs[n]).hi)/\w.cell? ⟨b,n*4+3,none⟩=some (.int .i64 ((fs[n]).wide:Int)):=by
 obtain⟨b,e,h1,h2⟩:=h (by omega);have hr:∀ j v,(fldC P fs[n])[j]? = some v->w.cell? ⟨b,n*4+j,none⟩=some v:=fun j v hv=>by rw [h2,Nat.mul_comm];have:=fldsC_at P fs n hn j v hv;simpa using this
 exact⟨b,e,h1,hr 0 _ rfl,hr 1 _ rfl,hr 2 _ rfl,hr 3 _ rfl⟩
theorem fldsD_wide (k:Int):∀ f∈fldsD k,f.wide=1\/f.wide=2\/f.wide=3:=by
 unfold fldsD;split
 ·decide
 split
 ·decide
 split
 ·decide
 split
 ·decide
 ·decide
theorem wf_getD {c:List Int}(h:∀ x∈c,(Lit.int .i64 x).wf=true)(j:Nat):(Lit.int .i64 (c.getD j 0)).wf=true:=by
 by_cases q:j<c.length
 ·exact h _ (by simp [List.getD,q])
 ·simp only [List.getD,List.getElem?_eq_none (Nat.le_of_not_lt q),Option.getD_none];decide
theorem flat_take {c:List Int}{fs:List Fld}{n:Nat}(h:n<fs.length):(fs.take (n+1)).flatMap (fieldB c)=(fs.take n).flatMap (fieldB c)++fieldB c fs[n]:=by
 rw [List.take_succ_eq_append_getElem h,List.flatMap_append];simp
theorem flat_len {c:List Int}(fs:List Fld)(hw:∀ f∈fs,f.wide=1\/f.wide=2\/f.wide=3):(fs.flatMap (fieldB c)).length<=3*fs.length:=by
 induction fs with
 | nil=>simp
 | cons f fs ih =>
  have:=hw f (List.mem_cons_self ..);have:=ih (fun g hg=>hw g (List.mem_cons_of_mem _ hg));simp only [List.flatMap_cons,List.length_append,List.length_cons,fieldB,numB_len] at *;omega
def LayCPost (base:Nat)(bs:List Int)(c:List Int)(w:World)(e:Ending)(w':World):Prop:=∃ v',e=.returned v'/\OwnB w' base v' (bs++cmdB c)/\Lays base w w'
set_option maxHeartbeats 4000000 in
theorem layCmd_any (base:Nat) (bv:Value) (bs c:List Int) (W:World) (hl:c.length=14) (hw:∀ x∈c,(Lit.int .i64 x).wf=true) (ho:OwnB W base bv bs) (hb:base≤W.heap.size) (hm:bs.length≤1000000) :
  Calls Tryz.prog 84 #[bv,.agg ⟨cellC c⟩] W (LayCPost base bs c W):=by
 obtain ⟨k,hk'⟩:∃ k,c.getD 0 0=k:=⟨_,rfl⟩
 have sz:=size_cellC hl
 have FA:=LH (fields_any k)
 have WF:=LH (wf_getD hw)
 have HW:=LH (fldsD_wide k)
 have HP:=LH (fldsD_pos k).1
 have hn:=fldsD_len k
 have hres:cmdB c=numB 1 k++(fldsD k).flatMap (fieldB c):=by unfold cmdB;rw [hk']
 unfold LayCPost
 rw [hres]
 obtain ⟨fs,hfs⟩:∃ fs,fldsD k=fs:=⟨_,rfl⟩
 unfold FieldsPost at FA
 rw [hfs] at FA HW HP hn
 rw [hfs]
 have wk:=WF.out 0
 rw [hk'] at wk
 have WK:=LH wk
 have HK:=LH hk'
 have HL:=LH hl
 have HO:=LH ho
 obtain ⟨dk,hdk⟩:∃ d,decide (kindP k)=d:=⟨_,rfl⟩
 rw [hdk] at FA
 clear hk' hres hfs hl wk hw ho hdk
 go_enter Tryz.func84,Tryz.ntmps84
 go_upto_region 1 with fail
 obtain ⟨Q,hQ⟩:∃ Q,W.heap.size=Q:=⟨_,rfl⟩
 refine opq (fun w'=>(Bx w' Q ⟨cellC c⟩)∧Past W w'∧Q+1≤w'.heap.size) (by subst hQ;(exact kKeep)) ?_
 rintro w0 ⟨b0,p0,z0⟩
 try simp only [hQ]
 have QW:base≤Q:=by omega
 have h0:=boxC_cell b0 (j:=0) (by rw [HL.out];omega)
 rw [HK.out] at h0
 have LA:=LH (lay_any base 1 bv bs k w0 (.inl rfl) WK.out (HO.out.past p0) (by have:=p0.2.2.1;omega) (by omega))
 have B0:=LH b0
 have H0:=LH h0
 have P0:=LH p0
 clear hQ p0 b0
 go_wp2_with fail
 refine LA.out.mono ?_
 rintro e w1 ⟨v1,rfl,o1,g1⟩
 have hQ0:NoRow w0 base Q:=noRow_int (by omega) H0.out
 have c1:=(g1.cell (o:=0) hQ0).trans H0.out
 have R1:Hid ((Bx w1 Q ⟨cellC c⟩)∧OwnB w1 base v1 (bs++numB 1 k)∧Lays base W w1∧Q<w1.heap.size):=LH ⟨box_lays g1 hQ0 B0.out,o1,(Lays.of_past P0.out).trans g1,Nat.lt_of_lt_of_le z0 g1.2.2.1⟩
 have C1:=LH c1
 clear LA B0 H0 P0 o1 g1 hQ0 z0 c1 h0 HO
 go_wp2_with fail
 refine (FA.out Q w1 C1.out).mono ?_
 rintro e w2 ⟨vf,rfl,hF,p2⟩
 obtain ⟨A,rfl,FP⟩:=hF.form
 have REL:Hid ((Bx w2 Q ⟨cellC c⟩)∧OwnB w2 base v1 (bs++numB 1 k++(fs.take 0).flatMap (fieldB c))∧Lays base W w2∧Q<w2.heap.size∧FldsP w2 Q A fs):=by
  obtain ⟨q1,q2,q3,q4⟩:=R1.out
  exact LH ⟨box_past p2 q1 q4,by simpa using q2.past p2,q3.trans (Lays.of_past p2),Nat.lt_of_lt_of_le q4 p2.2.2.1,FP⟩
 clear hF p2 FP R1 C1 FA
 go_wp2_with fail
 go_loopw [0,19] (fun v i wr=>∃ n:Nat,n≤fs.length∧i=.int .i64 n∧Hid ((Bx wr Q ⟨cellC c⟩)∧OwnB wr base v (bs++numB 1 k++(fs.take n).flatMap (fieldB c))∧Lays base W wr∧Q<wr.heap.size∧FldsP wr Q A fs)) (fun _ i _=>fs.length-(intOf i).toNat)
 case atStart=>exact ⟨0,by omega,rfl,REL⟩
 case round =>
  obtain ⟨n,hnl,rfl,R⟩:=hrel
  by_cases h:n<fs.length
  ·obtain ⟨q1,q2,q3,q4,q5⟩:=R.out
   obtain ⟨b,rfl,hbl,r0,r1,r2,r3⟩:=q5.at n h
   have hfp:=HP.out fs[n] (List.getElem_mem h)
   have hfw:=HW.out fs[n] (List.getElem_mem h)
   have hnx:=flat_take (c:=c) h
   obtain ⟨f,hf⟩:∃ f,fs[n]=f:=⟨_,rfl⟩
   rw [hf] at r0 r1 r2 r3 hfp hfw hnx
   have hx:=boxC_cell q1 (j:=f.pos) (by rw [HL.out];omega)
   have wx:=WF.out f.pos
   obtain ⟨x,ex⟩:∃ x,c.getD f.pos 0=x:=⟨_,rfl⟩
   have hlen:(bs++numB 1 k++(fs.take n).flatMap (fieldB c)).length≤1000000000:=by
    have:=flat_len (c:=c) (fs.take n) (fun g hg=>HW.out g (List.mem_of_mem_take hg))
    simp only [List.length_append,numB_len,List.length_take] at *
    omega
   rw [show fieldB c f=numB f.wide (c.getD f.pos 0) from rfl] at hnx
   rw [ex] at hx wx hnx
   have NX:=LH hnx
   have WX:=LH wx
   have HX:=LH hx
   have HLN:=LH hlen
   have HFW:=LH hfw
   have Hbl:=LH hbl
   clear hfp hfw hnx hf hx wx ex hlen q1 q2 q3 q4 q5 hbl
   obtain ⟨po,lo,hi,wd⟩:=f
   simp only at r0 r1 r2 r3 NX HX HFW
   go_upto_region 6 with fail
   have RQ:=R.out.2.2.2.1
   obtain ⟨B,hB⟩:∃ B,wr.heap.size=B:=⟨_,rfl⟩
   refine opq (fun w'=>(Bx w' B #[.pointer (some ⟨Q,po,none⟩),.int .i64 lo,.int .i64 hi,.int .i64 (wd:Int)])∧w'.cell? ⟨Q,po,none⟩=some (.int .i64 x)∧Past wr w'∧B<w'.heap.size) (by subst hB;have:=HX.out;exact ⟨box_new rfl,cell_alloc this RQ,(Past.refl _).alloc _,by simp⟩) ?_
   rintro w3 ⟨b3,c3,p3,z3⟩
   try simp only [hB]
   have hQ3:Q<w3.heap.size:=Nat.lt_of_lt_of_le RQ p3.2.2.1
   have NB:NoRow w3 base B:=noRow_ptr z3 (b3 0)
   have R3:Hid ((Bx w3 Q ⟨cellC c⟩)∧OwnB w3 base u0 (bs++numB 1 k++(fs.take n).flatMap (fieldB c))∧Lays base W w3∧Q<w3.heap.size∧FldsP w3 Q (some ⟨b,0,none⟩) fs):=by
    obtain ⟨q1,q2,q3,q4,q5⟩:=R.out
    exact LH ⟨box_past p3 q1 q4,q2.past p3,q3.trans (Lays.of_past p3),hQ3,q5.past p3⟩
   have NQ:NoRow w3 base Q:=noRow_int hQ3 (boxC_cell R3.out.1 (j:=0) (by rw [HL.out];omega))
   have b3d:(Bx w3.drew B #[.pointer (some ⟨Q,po,none⟩),.int .i64 lo,.int .i64 hi,.int .i64 (wd:Int)]):=b3
   have LA:=LH (lay_any base wd u0 (bs++numB 1 k++(fs.take n).flatMap (fieldB c)) x w3.drew HFW.out WX.out (R3.out.2.1.past ((Past.refl w3).drew)) (show base≤w3.heap.size by omega) HLN.out)
   have NB':=LH (show NoRow w3.drew base B from NB)
   have NQ':=LH (show NoRow w3.drew base Q from NQ)
   have B3:=LH b3d
   have C3:=LH (show w3.drew.cell? ⟨Q,po,none⟩=some (.int .i64 x) from c3)
   have Z3:=LH z3
   clear NB NQ p3 z3 r0 r1 r2 r3 HX Hbl R hB RQ hQ3 b3d
   refine wp_region_lastn 8 _ rfl (by kernel_rfl) (by kernel_rfl) ?za
   case za =>
    simp only [List.take_succ_cons,List.take_zero]
    refine any_mixd [7] (fun w'=>(Bx w' B #[.pointer (some ⟨Q,po,none⟩),.int .i64 lo,.int .i64 hi,.int .i64 (wd:Int)])∧w'.cell? ⟨Q,po,none⟩=some (.int .i64 x)) [(23,?va23),(24,?va24),(25,?va25),(26,?va26),(27,?va27),(28,?va28),(29,?va29)] [23,24,25,26,27,28,29] (by kernel_rfl) rfl (by kernel_rfl) ⟨b3,c3⟩ (fun w h=>h) ?alla ?fina
    case alla =>
     simp only [fillA,Act.put,List.setIfInBounds_toArray,List.set_cons_zero,List.set_cons_succ]
     iterate 8 (first|refine forced rfl ?_|(refine reads (fun w hw K hK=>?_) ?_;focus ((have hS:=LH hw);go_split_ands;go_simp;(try go_frame);exact hK)))
     exact True.intro
    case fina =>
     simp only [fillA,Act.put,List.setIfInBounds_toArray,List.set_cons_zero,List.set_cons_succ]
     refine mix_at 30 rfl rfl (fun K hK=>?_)
     simp only [Act.put,List.setIfInBounds_toArray,List.set_cons_zero,List.set_cons_succ] at hK
     go_simp
     refine LA.out.mono ?_
     rintro e w4 ⟨v4,rfl,o4,g4⟩
     have R4:Hid ((Bx w4 Q ⟨cellC c⟩)∧OwnB w4 base v4 (bs++numB 1 k++(fs.take (n+1)).flatMap (fieldB c))∧Lays base W w4∧Q<w4.heap.size∧FldsP w4 Q (some ⟨b,0,none⟩) fs):=by
      obtain ⟨q1,q2,q3,q4,q5⟩:=R3.out
      have g5:Lays base w3 w4:=(Lays.of_past ((Past.refl w3).drew)).trans g4
      exact LH ⟨box_lays g4 NQ'.out q1,by rw [NX.out,← List.append_assoc];exact o4,q3.trans g5,Nat.lt_of_lt_of_le q4 g5.2.2.1,q5.lays g5⟩
     refine hK _ _ ⟨box_lays g4 NB'.out B3.out,(g4.cell NQ'.out).trans C3.out⟩ ?_
     clear LA NB' NQ' B3 C3 Z3 R3 g4 o4 hK b3 c3
     (try go_frame)
     refine mix_nil ?_
     show Oper.wp _ _ _ _ _ _
     go_simp
     go_wp2_with fail
     go_roundw
     case rel=>exact ⟨n+1,by omega,by go_num,R4⟩
     case measure=>simp [intOf];omega
  ·have e:fs.take n=fs:=List.take_of_length_le (by omega)
   rw [e] at R
   go_wp2_with fail
   go_ret
   exact ⟨_,rfl,by have:=R.out.2.1;rwa [List.append_assoc] at this,R.out.2.2.1⟩
end Go.Proofs.YtejllmjkeefloaaGreat.Q8
