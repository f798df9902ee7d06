/- Rows of commands in memory; how they are read off an argument. The walk's steps over commands: one loaded out of a row, a box of its own for one, one loaded out of its box; a row of commands that a call owns. The reference's Sum. Put. -/
import Derived.Test.YtejllmjkeefloaaGreatMI8
import Derived.Deep.DeepCutAuto
import Derived.Test.YtejllmjkeefloaaGreatMV4
namespace Go.Proofs.YtejllmjkeefloaaGreat.Q8
open Go.ChangeShapes Go.WideShapes Go.ChangeAt Go.RowKit
set_option maxRecDepth 20000
set_option linter.unusedVariables false
set_option linter.unusedSimpArgs false
def wfC (c:List Int):Prop:=c.length=14/\∀ x∈c,(Lit.int .i64 x).wf=true
def IsCmds (w:World)(v:Value)(l:List (List Int)):Prop :=
 ∃ (A:Option Addr) (cap:Nat),v=.slice A l.length cap/\l.length<=cap/\cap<=maxLen/\(A=none->cap=0)/\(∀ c∈l,wfC c) /\
  (0<l.length->∃ b off,A=some ⟨b,off,none⟩/\b<w.heap.size/\∀ i,i<l.length->w.rangeAt b (off+i*14) (cellC (l.getD i [])))
theorem IsCmds.grow {w w':World}{v:Value}{l:List (List Int)}(h:IsCmds w v l)(g:Past w w'):IsCmds w' v l:=by
 obtain⟨A,cap,h1,h2,h3,h4,h5,h6⟩:=h;refine⟨A,cap,h1,h2,h3,h4,h5,fun hp=>?_⟩;obtain⟨b,off,e,hb,hc⟩:=h6 hp;exact⟨b,off,e,Nat.lt_of_lt_of_le hb g.2.2.1,fun i hi j v hv=>(g.cell hb).trans (hc i hi j v hv)⟩
theorem IsCmds.form {w:World}{v:Value}{l:List (List Int)}(h:IsCmds w v l):∃ A cap,v=.slice A l.length cap/\l.length<=cap/\cap<=maxLen/\(A=none->cap=0):=by
 obtain⟨A,cap,h1,h2,h3,h4,_⟩:=h;exact⟨A,cap,h1,h2,h3,h4⟩
theorem IsCmds.wf {w:World}{v:Value}{l:List (List Int)}(h:IsCmds w v l):∀ c∈l,wfC c:=h.choose_spec.choose_spec.2.2.2.2.1
theorem IsCmds.at {w:World} {A:Option Addr} {len cap:Nat} {l:List (List Int)} (h:IsCmds w (.slice A len cap) l) (i:Nat) (hi:i<l.length):∃ b off,A=some ⟨b,off,none⟩/\b<w.heap.size/\w.rangeAt b (off+i*14) (cellC (l.getD i [])):=by
 obtain ⟨A',cap',e,h2,h3,h4,h5,h6⟩:=h;simp only [Value.slice.injEq] at e;obtain ⟨rfl,_,rfl⟩:=e;obtain ⟨b,off,e,hb,hc⟩:=h6 (by omega);exact ⟨b,off,e,hb,hc i hi⟩
theorem wfC_at {l:List (List Int)}(h:∀ c∈l,wfC c){i:Nat}(hi:i<l.length):wfC (l.getD i []):=by
 have:l.getD i []=l[i]:=by simp [List.getD,hi]
 rw [this];exact h _ (List.getElem_mem hi)
variable {H:Type} {enc:TypeId×Value->H} {W:World}
theorem field {t:TypeId}{fs:Array Field}{fuel:Nat}{cs:List Value}{x:DataW H×List MemPlace}(ht:Tryz.prog.underlying t=some (.struct fs))(h:DataW.trod enc Tryz.prog W 0 (fun _=>true) true fuel t cs=some x)(i:Nat)(f:Field)(hi:fs[i]? = some f) :
  ∃ n y,DataW.trod enc Tryz.prog W 0 (fun _=>true) true n f.type ((cs.drop f.offset).take (Tryz.prog.cellsOf f.type))=some y:=by
 obtain⟨xs,n,_,_,_,hs,hf⟩:=DataW.trod_struct ht h;have l:i<xs.length:=by rw [hs];exact(Array.getElem?_eq_some_iff.mp hi).1
 exact⟨n,xs[i],by rw [hf i f hi,List.getElem?_eq_getElem l]⟩
end Go.Proofs.YtejllmjkeefloaaGreat.Q8
namespace Go.Proofs.YtejllmjkeefloaaGreat.Q8
open Go.ChangeShapes Go.WideShapes Go.ChangeAt Go.RowKit
set_option maxRecDepth 20000
set_option linter.unusedVariables false
set_option linter.unusedSimpArgs false
theorem len_wf (n:Nat)(h:n<=1000000000):(Lit.int .i64 (n:Int)).wf=true:=by simp [Lit.wf,IntKind.min,IntKind.max,IntKind.bits,IntKind.signed];omega
theorem zeroV:(Tryz.prog.info? 67).map (·.zero)=some (some (.agg ⟨cellC zeros⟩)):=by kernel_rfl
section
variable {ops:Array Oper} {Q:Exit->Act->World->Prop}
theorem wpList_load_row {rest:List Oper}{op:Oper}{a:Act}{w:World}(hgd:op.guard=none)(x:Operand)(ho:op.op=.load 67 x)(b o:Nat)(hx:a.eval x=.pointer (some ⟨b,o,none⟩))(c:List Int)(hl:c.length=14)(hc:w.rangeAt b o (cellC c))
  (h:wpList Tryz.prog ops Q rest (a.put op.dst (.agg ⟨cellC c⟩)) w):wpList Tryz.prog ops Q (op :: rest) a w :=
 wpList_load_mid hgd 67 x ho b o hx (cellC c) _ hc Tryz.underlying67 rfl (by rw [C14,cellC_len,hl]) h
theorem wpList_load_cmd {rest:List Oper}{op:Oper}{a:Act}{w:World}(hgd:op.guard=none)(x:Operand)(ho:op.op=.load 67 x)(b:Nat)(hx:a.eval x=.pointer (some ⟨b,0,none⟩))(c:List Int)(hl:c.length=14)(hb:(Bx w b ⟨cellC c⟩))
  (h:wpList Tryz.prog ops Q rest (a.put op.dst (.agg ⟨cellC c⟩)) w):wpList Tryz.prog ops Q (op :: rest) a w :=
 wpList_load_box hgd 67 x ho b ⟨cellC c⟩ hx hb Tryz.underlying67 rfl (cmdSize hl) h
theorem wpList_new_cmd {rest:List Oper} {o1 o2:Oper} {a:Act} {w:World} (t:Tmp) (h1:o1.guard=none) (h2:o2.guard=none) (e1:o1.op=.alloc 67) (d1:o1.dst=some t) (y:Operand) (e2:o2.op=.store 67 (.tmp t) y) (d2:o2.dst=none)
  (c:List Int) (hl:c.length=14) (hx:(a.put (some t) (.pointer (some ⟨w.heap.size,0,none⟩))).eval (.tmp t)=.pointer (some ⟨w.heap.size,0,none⟩)) (hy:(a.put (some t) (.pointer (some ⟨w.heap.size,0,none⟩))).eval y=.agg ⟨cellC c⟩)
  (h:∀ w',Past w w'→(Bx w' w.heap.size ⟨cellC c⟩)→(Fr w' w.heap.size)→w.heap.size<w'.heap.size→wpList Tryz.prog ops Q rest (a.put (some t) (.pointer (some ⟨w.heap.size,0,none⟩))) w'):wpList Tryz.prog ops Q (o1 :: o2 :: rest) a w:=by
 refine wpList_alloc_box h1 67 e1 (.agg ⟨cellC zeros⟩) zeroV (fun w'=>Past w w'∧(Bx w' w.heap.size ⟨cellC zeros⟩)∧(Fr w' w.heap.size)∧w.heap.size<w'.heap.size) ⟨(Past.refl w).alloc _,box_new rfl,free_alloc (free_new (Nat.le_refl _)),by simp⟩ ?_
 rintro w' ⟨p,b,f,z⟩
 rw [d1]
 have hs:(⟨cellC zeros⟩:Array Value).size=(⟨cellC c⟩:Array Value).size:=by rw [size_cellC hl];rfl
 refine wpList_store_box h2 67 (.tmp t) y e2 w.heap.size ⟨cellC c⟩ _ hx hy b f hs (cmdSize hl) (one_cellC c) (fun w'=>Past w w'∧(Bx w' w.heap.size ⟨cellC c⟩)∧(Fr w' w.heap.size)∧w.heap.size<w'.heap.size) ⟨past_setAll (Nat.le_refl _) _ _ _ p,box_setAll b hs,free_setAll _ f,size_setAll _ _ _ z⟩ ?_
 rintro w2 ⟨p2,b2,f2,z2⟩
 rw [d2]
 exact h w2 p2 b2 f2 z2
end
def OwnC (w:World)(base:Nat)(v:Value)(l:List (List Int)):Prop:=w.ownsRow base 67 14 v l.length (l.flatMap cellC)/\∀ c∈l,wfC c
theorem flatC_at {l:List (List Int)}(h:∀ c∈l,wfC c){i:Nat}(hi:i<l.length)(j:Nat)(v:Value)(hv:(cellC (l.getD i []))[j]? = some v):(l.flatMap cellC)[i*14+j]? = some v:=by
 induction l generalizing i with
 | nil=>simp at hi
 | cons c l ih =>
  have hc:=(h c (List.mem_cons_self ..)).1;cases i with
  | zero =>
   have hj:j<(cellC c).length:=by
    by_cases q:j<(cellC c).length
    ·exact q
    ·rw [List.getD_cons_zero,List.getElem?_eq_none (by simpa using q)] at hv;cases hv
   rw [List.flatMap_cons,Nat.zero_mul,Nat.zero_add,List.getElem?_append_left hj];simpa using hv
  | succ i =>
   rw [List.flatMap_cons,List.getElem?_append_right (by rw [cellC_len,hc];omega),cellC_len,hc];have:=ih (fun d hd=>h d (List.mem_cons_of_mem _ hd)) (by simpa using hi) (by simpa using hv);rw [<- this];congr 1;omega
theorem OwnC.cmds {w:World}{base:Nat}{v:Value}{l:List (List Int)}(h:OwnC w base v l):IsCmds w v l:=by
 obtain⟨⟨hl,h⟩,hw⟩:=h;rcases h with ⟨rfl,h0⟩|⟨b,cap,cur,rfl,hbb,hg,hn,hm,hs,ht⟩
 ·have:l=[]:=List.eq_nil_of_length_eq_zero h0;subst this;exact⟨none,0,rfl,Nat.le_refl _,Nat.zero_le _,fun _=>rfl,by simp,by simp⟩
 ·refine⟨some ⟨b,0,none⟩,cap,rfl,hn,hm,(fun h=>by cases h),hw,fun hp=>⟨b,0,rfl,(Array.getElem?_eq_some_iff.1 hg).1,fun i hi j v hv=>?_⟩⟩;have:=flatC_at hw hi j v hv;rw [<- ht] at this;rw [Nat.zero_add];have hlt:i*14+j<l.length*14:=by
   have hj:j<14:=by
    have hc:=(wfC_at hw hi).1;by_cases q:j<14
    ·exact q
    ·rw [List.getElem?_eq_none (by rw [cellC_len,hc];omega)] at hv;cases hv
   omega
  rw [List.getElem?_take_of_lt (by omega)] at this;simpa [World.cell?,hg] using this
theorem OwnC.past {w w':World}{base:Nat}{v:Value}{l:List (List Int)}(h:OwnC w base v l)(g:Past w w'):OwnC w' base v l:=by
 obtain⟨⟨hl,h⟩,hw⟩:=h;refine⟨⟨hl,?_⟩,hw⟩;rcases h with ⟨rfl,h0⟩|⟨b,cap,cur,rfl,hb,hg,hn,hm,hs,ht⟩
 ·exact .inl ⟨rfl,h0⟩
 ·exact .inr ⟨b,cap,cur,rfl,hb,(g.2.2.2 b (Array.getElem?_eq_some_iff.1 hg).1).trans hg,hn,hm,hs,ht⟩
theorem OwnC.nil (w:World)(base:Nat):OwnC w base (.slice none 0 0) []:=⟨World.ownsRow_nil _ _ _ _,by simp⟩
theorem infoC:(Tryz.prog.info? 67).map (fun i=>(i.zero,i.size,i.bytes))=some (some (.agg ⟨cellC zeros⟩),14,112):=by kernel_rfl
theorem oneC (c:List Int):∀ u∈cellC c,u.oneCell'=true:=by
 intro u hu;simp only [cellC,List.mem_map] at hu;obtain⟨x,_,rfl⟩:=hu;rfl
end Go.Proofs.YtejllmjkeefloaaGreat.Q8
namespace Go.Proofs.YtejllmjkeefloaaGreat.Q7
open Go.ChangeShapes Go.WideShapes Go.ChangeAt Go.RowKit
set_option maxRecDepth 20000
set_option linter.unusedVariables false
set_option maxHeartbeats 2000000 in
theorem rsum_same (bs:List Nat)(v:Value)(W:World)(h:IsNums .u8 W v (ints bs))(hb:Bytes bs)(hl:bs.length<=1000000):Calls Tryz.prog 71 #[v] W fun e w'=>e=.returned (.int .u32 ((sumD bs:Nat):Int))/\w'=W:=by
 obtain⟨A,cap,rfl,h2,h3,h4,h5,h6⟩:=h;rw [ints_len] at h6 ⊢;have L6:=LH h6;have HB:=LH hb;clear h6 h5 h2 h4 hb;go_enter Tryz.func71,Tryz.ntmps71;go_wp2_with fail;go_loopw [3,4] (fun r i wr=>∃ (k R:Nat),k<=bs.length/\i=.int .i64 (k:Int)/\r=.int .u32 (R:Int)/\R<4294967296/\Hid (R=crc 4294967295 (bs.take k))/\Hid (wr=W)) (fun _ i _=>bs.length-(intOf i).toNat)
 case atStart=>exact⟨0,4294967295,by omega,rfl,rfl,by omega,LH (by simp [crc]),LH rfl⟩
 case round =>
  obtain⟨k,R,hk,rfl,rfl,hR,eR,g⟩:=hrel;by_cases c:k<bs.length
  ·obtain⟨b,off,rfl,hbb,hc⟩:=L6.out (by omega);have c0:=(congrArg (fun x:World=>x.cell? ⟨b,off+k,none⟩) g.out).trans (hc k c);rw [ints_at] at c0;have hx:=HB.out.at k;have nx:crc 4294967295 (bs.take (k+1))=byteD R (bs.getD k 0):=by
    rw [List.take_succ_eq_append_getElem c,crc_snoc,<- eR.out];simp [List.getD,c]
   obtain⟨x,ex⟩:∃ x,bs.getD k 0=x:=⟨_,rfl⟩
   rw [ex] at c0 hx nx;have NX:=LH nx;have e1:=xor32 (a:=R) (b:=x) (by omega) (by omega);have b1:=Nat.xor_lt_two_pow (x:=R) (y:=x) (n:=32) (by omega) (by omega);clear nx ex hc eR;obtain⟨Y,eY⟩:∃ Y,R ^^^ x=Y:=⟨_,rfl⟩
   rw [eY] at e1 b1;have EY:=LH eY;clear eY;go_wp2_with fail;go_loopw [3,5] (fun r i wr=>∃ (m q:Nat),m<=8/\i=.int .i64 (m:Int)/\r=.int .u32 (q:Int)/\q<4294967296/\Hid (q=hvs m Y)/\Hid (wr=W)) (fun _ i _=>8-(intOf i).toNat)
   case atStart=>exact⟨0,Y,by omega,rfl,by first|rfl|(rw [e1]),by omega,LH rfl,g⟩
   case round =>
    clear g;obtain⟨m,q,hm,rfl,rfl,hq,eq,g⟩:=hrel;by_cases d:m<8
    ·have e2:(q:Int)%2=((q%2:Nat):Int):=by simp
     by_cases odd:q%2=1
     ·have nx:hv q=(q / 2) ^^^ 3988292384:=by unfold hv;rw [if_pos odd]
      have e3:=xor32 (a:=q / 2) (b:=3988292384) (by omega) (by omega);have b3:(q / 2) ^^^ 3988292384<4294967296:=Nat.xor_lt_two_pow (n:=32) (by omega) (by omega);rw [<- nx] at e3 b3;rw [odd] at e2;have st:Hid (hv q=hvs (m+1) Y):=LH (by rw [hvs_snoc,<- eq.out]);clear nx eq;obtain⟨q',hq'⟩:∃ q',hv q=q':=⟨_,rfl⟩
      rw [hq'] at e3 b3 st;clear hq';go_wp2_with fail;exact⟨⟨m+1,q',by omega,by simp,by simpa using e3,b3,st,g⟩,by simp [intOf];omega⟩
     ·have nx:hv q=q / 2:=by unfold hv;rw [if_neg odd]
      have ev:q%2=0:=by omega
      rw [ev] at e2;have st:Hid (q / 2=hvs (m+1) Y):=LH (by rw [hvs_snoc,<- eq.out,nx]);clear nx eq;go_wp2_with fail;exact⟨⟨m+1,q / 2,by omega,by simp,by simp,by omega,st,g⟩,by simp [intOf];omega⟩
    ·go_wp2_with fail;refine⟨⟨k+1,q,by omega,by simp,rfl,hq,?_,g⟩,?_⟩
     ·refine LH ?_;rw [NX.out,eq.out];have:m=8:=by omega
      rw [this];unfold byteD;rw [EY.out]
     ·simp [intOf];omega
  ·have e4:Hid (bits .xor .u32 (R:Int) 4294967295=((sumD bs:Nat):Int)):=LH (by
    have:=xor32 (a:=R) (b:=4294967295) (by omega) (by omega);rw [show(4294967295:Int)=((4294967295:Nat):Int) by decide,this];unfold sumD;rw [eR.out,List.take_of_length_le (by omega)])
   go_wp2_with fail;go_ret;exact⟨by rw [e4.out];rfl,g.out⟩
theorem rsum_any (bs:List Nat)(v:Value)(W:World)(h:IsNums .u8 W v (ints bs))(hb:Bytes bs)(hl:bs.length<=1000000):Calls Tryz.prog 71 #[v] W fun e w'=>e=.returned (.int .u32 ((sumD bs:Nat):Int))/\Grown W w' :=
 (rsum_same bs v W h hb hl).mono fun e w' he=>⟨he.1,by rw [he.2];exact Grown.refl _⟩
end Go.Proofs.YtejllmjkeefloaaGreat.Q7
namespace Go.Proofs.YtejllmjkeefloaaGreat
open Go.ChangeShapes Go.WideShapes Go.ChangeAt Go.RowKit
set_option maxRecDepth 20000
set_option linter.unusedVariables false
theorem flat_take {α:Type} [Inhabited α] (f:α->List Int)(xs:List α)(k:Nat)(h:k<xs.length):(xs.take (k+1)).flatMap f=(xs.take k).flatMap f++f (xs.getD k default):=by
 rw [List.take_succ_eq_append_getElem h,List.flatMap_append];simp [List.getD,h]
theorem flat_le {α:Type}(f:α->List Int)(xs:List α)(k:Nat):((xs.take k).flatMap f).length<=(xs.flatMap f).length:=by
 conv=>rhs;rw [<- List.take_append_drop k xs,List.flatMap_append]
 simp
def PutPost (g:GraphD) (W:World) (e:Ending) (w':World):Prop :=
 (valuesE g=0∧∃ v,e=.returned (.tuple #[v,.int .i64 0])∧OwnB w' W.heap.size v (graphB g)∧Past W w') ∨
 (valuesE g≠0∧e=.returned (.tuple #[.slice none 0 0,.int .i64 (valuesE g)])∧Past W w')
theorem put_err {g:GraphD}{W w':World}{q:Int}(h:valuesE g=q)(h0:q≠0)(p:Past W w'):PutPost g W (.returned (.tuple #[.slice none 0 0,.int .i64 q])) w' :=
 .inr ⟨by rw [h];exact h0,by rw [h],p⟩
theorem put_ok {g:GraphD}{W w':World}{v:Value}(h:valuesE g=0)(o:OwnB w' W.heap.size v (graphB g))(p:Past W w'):PutPost g W (.returned (.tuple #[v,.int .i64 0])) w' :=
 .inl ⟨h,v,rfl,o,p⟩
set_option maxHeartbeats 8000000 in
theorem put_any (g : GraphD) (gv : Value) (W : World) (hg : IsGraph W gv g) (hc : Cut g) (hz : (graphB g).length ≤ 900000000) : Calls Tryz.prog 54 #[gv] W (PutPost g W) := by
 have HG := LH hg
 obtain ⟨iv, nv, ov, rfl, hi, hn, ho⟩ := hg
 have HO := LH ho
 obtain ⟨A1, c1, rfl, i1, i2, _, iw, i5⟩ := hi
 obtain ⟨A2, c2, rfl, n1, n2, _, nw, n5⟩ := hn
 obtain ⟨A3, c3, rfl, o1, o2, _, _, _⟩ := ho
 have m1 : g.ins.length ≤ 9223372036854775807 := by unfold maxLen at i2; omega
 have m2 : g.nodes.length ≤ 9223372036854775807 := by unfold maxLen at n2; omega
 have l1 : 4 * g.ins.length ≤ 900000000 := by rw [graphB_len] at hz; omega
 have l2 : g.nodes.length ≤ 900000000 := by
  have : ∀ ns : List NodeD, ns.length ≤ nodesLen ns := by
   intro ns
   induction ns with
   | nil => simp [nodesLen]
   | cons x xs ih => simp only [nodesLen, List.map_cons, List.sum_cons, List.length_cons] at ih ⊢; omega
  have := this g.nodes
  rw [graphB_len] at hz; omega
 have HZ := LH hz
 have I5 := LH i5
 have IW := LH iw
 have N5 := LH n5
 have NW := LH nw
 have CK := LH (fun w (p : Past W w) => check_any g _ w (HG.out.grow p) hc)
 clear i1 i2 n1 n2 o1 o2 i5 iw n5 nw hc hz
 go_enter Tryz.func54, Tryz.ntmps54
 go_upto_region 1 with fail
 obtain ⟨P, hP⟩ : ∃ P, W.heap.size = P := ⟨_, rfl⟩
 refine opq (fun w' => (Bx w' P #[.slice A1 g.ins.length c1, .slice A2 g.nodes.length c2, .slice A3 g.outs.length c3]) ∧ Past W w' ∧ P + 1 ≤ w'.heap.size) (by subst hP; exact ⟨box_new rfl, by (exact kKeep), by (exact kKeep)⟩) ?_
 rintro w0 ⟨b0, p0, s0⟩
 try rw [hP]
 go_wp2_with fail
 refine (CK.out _ p0).mono ?_
 rintro e w1 ⟨rfl, q1⟩
 obtain ⟨q, hq⟩ : ∃ q, valuesE g = q := ⟨_, rfl⟩
 rw [hq]
 have b1 := box_past q1 b0 (by omega)
 have p1 := p0.trans q1
 have s1 : P + 1 ≤ w1.heap.size := by have := q1.2.2.1; omega
 have HQ := LH hq
 clear b0 p0 s0 q1 hq CK
 cases e0 : (q == 0) with
 | false =>
  have e1 : (q != 0) = true := by simp [bne, e0]
  have q0 : q ≠ 0 := by simpa using e0
  have Q0 := LH q0
  clear q0
  go_wp2_with fail
  go_ret2
  exact put_err HQ.out Q0.out p1
 | true =>
  have e1 : (q != 0) = false := by simp [bne, e0]
  have q0 : q = 0 := by simpa using e0
  subst q0
  clear e0
  have nb : NoRow w1 P P := noRow_box b1 (.slice A1 g.ins.length c1) (by simp) (by simp)
  have NB := LH nb
  have C0 := LH (lay_int P 1 (.slice none 0 0) (.slice (some ⟨w1.heap.size, 0, none⟩) 1 1) [] [(g.ins.length : Int)] (w1.alloc (.cells #[.int .i64 (g.ins.length : Int)] 3)) (by omega) (OwnB.nil _ _)
   (nums_new .i64 w1 3 [(g.ins.length : Int)] (by simp) (by simp [maxLen]) (by simp; exact len_wf _ (by omega))) (fun _ => apart0 _ _ _ _) (by simp; omega) (by simp))
  go_wp2_with fail
  refine C0.out.mono ?_
  rintro e w2 ⟨v2, rfl, o2, k2⟩
  have k2 := ((Lays.refl P w1).alloc (.cells #[.int .i64 (g.ins.length : Int)] 3)).trans k2
  have g2 : Lays P W w2 := (Lays.of_past p1).trans k2
  have b2 := box_lays b1 NB.out k2
  have s2 : P + 1 ≤ w2.heap.size := by have := k2.2.2.1; omega
  have o2 := LH o2
  have g2 := LH g2
  clear C0 k2 b1 p1 s1 nb NB e1
  go_wp2_with fail
  go_loopw [5, 23] (fun v i wr => ∃ k : Nat, k ≤ g.ins.length ∧ i = .int .i64 k ∧ Hid (OwnB wr P v (numsB 1 [(g.ins.length : Int)] ++ (g.ins.take k).flatMap valB)) ∧ Hid (Lays P W wr) ∧ (Bx wr P #[.slice A1 g.ins.length c1, .slice A2 g.nodes.length c2, .slice A3 g.outs.length c3]) ∧ P + 1 ≤ wr.heap.size) (fun _ i _ => g.ins.length - (intOf i).toNat)
  case atStart => exact ⟨0, by omega, rfl, LH (by simpa using o2.out), g2, b2, s2⟩
  case round =>
   clear b2 o2 g2 s2
   obtain ⟨k, hk, rfl, own, gg, b3, s3⟩ := hrel
   by_cases h : k < g.ins.length
   ·have p3 : Past W wr := (Past.refl W).trans (by have := gg.out; rw [← hP] at this; exact Lays.past (Past.refl W) this)
    obtain ⟨nb, no, rfl, hnb, hnc⟩ := I5.out (by omega)
    obtain ⟨x0, x1, x2, x3⟩ := (hnc k h).grow hnb p3
    obtain ⟨x, hxk⟩ : ∃ x, g.ins.getD k default = x := ⟨_, rfl⟩
    rw [hxk] at x0 x1 x2 x3
    have wx : ValWf x := IW.out x (by rw [← hxk]; simp [List.getD, h])
    have hnext := flat_take valB g.ins k h
    rw [hxk] at hnext
    have HNX := LH hnext
    have WX := LH wx
    have hlen : ((g.ins.take k).flatMap valB).length ≤ 900000000 := by
     have := flat_le valB g.ins k
     have h2 := HZ.out
     simp only [graphB, List.length_append] at h2
     omega
    have HLEN := LH hlen
    have n1 : P ≠ wr.heap.size := by omega
    have n2 : P < wr.heap.size := by omega
    obtain ⟨P8, hP8⟩ : ∃ P8, wr.heap.size = P8 := ⟨_, rfl⟩
    clear hxk wx hnext hlen hnc
    go_upto_region 8 with fail
    refine opq (fun w' => ((Bx w' P #[.slice (some ⟨nb, no, none⟩) g.ins.length c1, .slice A2 g.nodes.length c2, .slice A3 g.outs.length c3]) ∧ (Bx w' P8 #[.int .i64 x.h, .int .i64 x.w, .int .i64 x.c, .int .i64 x.z]) ∧ Past wr w' ∧ P8 + 1 ≤ w'.heap.size) ∧ OwnB w' P u5 (numsB 1 [(g.ins.length : Int)] ++ (g.ins.take k).flatMap valB)) ⟨by
     subst hP8
     (exact kKeep), own.out.alloc _⟩ ?_
    rintro w4 ⟨⟨b4, y4, p4, s4⟩, o4⟩
    have gg4 := LH (gg.out.trans (Lays.of_past p4))
    have C1 := LH (lay_int P 1 u5 (.slice (some ⟨w4.heap.size, 0, none⟩) 4 4) _ [x.h, x.w, x.c, x.z] (w4.alloc (.cells #[.int .i64 x.h, .int .i64 x.w, .int .i64 x.c, .int .i64 x.z] 3)) (by omega) (o4.alloc _)
     (nums_new .i64 w4 3 [x.h, x.w, x.c, x.z] (by simp) (by simp [maxLen]) (by
      intro y hy
      simp only [List.mem_cons, List.not_mem_nil, or_false] at hy
      rcases hy with rfl | rfl | rfl | rfl
      ·exact WX.out.1
      ·exact WX.out.2.1
      ·exact WX.out.2.2.1
      ·exact WX.out.2.2.2)) (fun _ => apart0 _ _ _ _) (by simp; omega) (by have := HLEN.out; simp only [List.length_append, numsB_len, List.length_cons, List.length_nil]; omega))
    clear own b3 s3 gg p3 x0 x1 x2 x3 hP8 n1 n2 p4 o4
    go_wp2_with fail
    refine C1.out.mono ?_
    rintro e w5 ⟨v5, rfl, o5, k5⟩
    have k5 := ((Lays.refl P w4).alloc (.cells #[.int .i64 x.h, .int .i64 x.w, .int .i64 x.c, .int .i64 x.z] 3)).trans k5
    have g5 := LH (gg4.out.trans k5)
    have b5 := box_lays b4 (noRow_box b4 (.slice (some ⟨nb, no, none⟩) g.ins.length c1) (by simp) (by simp)) k5
    have s5 : P + 1 ≤ w5.heap.size := by have := k5.2.2.1; have := cell_lt ((b4 0).trans rfl); omega
    have o5 := LH (show OwnB w5 P v5 (numsB 1 [(g.ins.length : Int)] ++ (g.ins.take (k + 1)).flatMap valB) by
     rw [HNX.out, ← List.append_assoc]
     exact o5)
    clear C1 k5 b4 y4 gg4 s4
    go_wp2_with fail
    go_roundw
    case rel => exact ⟨k + 1, by omega, by go_num, o5, g5, b5, s5⟩
    case measure => simp [intOf]; omega
   ·have e : g.ins.take k = g.ins := List.take_of_length_le (by omega)
    rw [e] at own
    clear e I5 IW
    have nb : NoRow wr P P := noRow_box b3 (.slice A1 g.ins.length c1) (by simp) (by simp)
    have NB := LH nb
    have hl0 : (g.ins.flatMap valB).length ≤ 900000000 := by
     have h2 := HZ.out
     simp only [graphB, List.length_append] at h2
     omega
    have C0 := LH (lay_int P 1 u5 (.slice (some ⟨wr.heap.size, 0, none⟩) 1 1) _ [(g.nodes.length : Int)] (wr.alloc (.cells #[.int .i64 (g.nodes.length : Int)] 3)) (by omega) (own.out.alloc _)
     (nums_new .i64 wr 3 [(g.nodes.length : Int)] (by simp) (by simp [maxLen]) (by simp; exact len_wf _ (by omega))) (fun _ => apart0 _ _ _ _) (by simp; omega) (by simp only [List.length_append, numsB_len, List.length_cons, List.length_nil]; omega))
    clear own hl0 nb
    go_wp2_with fail
    refine C0.out.mono ?_
    rintro e w2 ⟨v2, rfl, o2, k2⟩
    have k2 := ((Lays.refl P wr).alloc (.cells #[.int .i64 (g.nodes.length : Int)] 3)).trans k2
    have g2 := LH (gg.out.trans k2)
    have b2 := box_lays b3 NB.out k2
    have s2 : P + 1 ≤ w2.heap.size := by have := k2.2.2.1; omega
    have o2 := LH o2
    clear C0 k2 b3 s3 gg NB
    go_wp2_with fail
    go_loopw [5, 51] (fun v i wr => ∃ k : Nat, k ≤ g.nodes.length ∧ i = .int .i64 k ∧ Hid (OwnB wr P v (numsB 1 [(g.ins.length : Int)] ++ g.ins.flatMap valB ++ numsB 1 [(g.nodes.length : Int)] ++ (g.nodes.take k).flatMap nodeB)) ∧ Hid (Lays P W wr) ∧ (Bx wr P #[.slice A1 g.ins.length c1, .slice A2 g.nodes.length c2, .slice A3 g.outs.length c3]) ∧ P + 1 ≤ wr.heap.size) (fun _ i _ => g.nodes.length - (intOf i).toNat)
    case atStart => exact ⟨0, by omega, rfl, LH (by simpa using o2.out), g2, b2, s2⟩
    case round =>
     clear b2 o2 g2 s2 h hk
     obtain ⟨k, hk, rfl, own, gg, b3, s3⟩ := hrel
     by_cases h : k < g.nodes.length
     ·have p3 : Past W wr := (Past.refl W).trans (by have := gg.out; rw [← hP] at this; exact Lays.past (Past.refl W) this)
      obtain ⟨nb, no, rfl, hnb, hnc⟩ := N5.out (by omega)
      obtain ⟨vi, vw, vb, hin0, hcell⟩ := hnc k h
      obtain ⟨n, hnk⟩ : ∃ n, g.nodes.getD k default = n := ⟨_, rfl⟩
      rw [hnk] at hin0 hcell
      have mem : n ∈ g.nodes := by rw [← hnk]; simp [List.getD, h]
      have ai := LH (fun h0 => apart_old (base := P) (by omega) hin0.1 h0)
      have aw := LH (fun h0 => apart_old (base := P) (by omega) hin0.2.1 h0)
      have ab := LH (fun h0 => apart_old (base := P) (by omega) hin0.2.2 h0)
      have hin := hin0.grow p3
      have IN := LH hin
      obtain ⟨Ai, ci, rfl, f1, f2, _, _, _⟩ := hin.1
      obtain ⟨Aw, cw, rfl, f3, f4, _, _, _⟩ := hin.2.1
      obtain ⟨Ab, cb, rfl, f5, f6, _, _, _⟩ := hin.2.2
      have hcell := fun j (hj : j < 14) => (p3.cell hnb).trans (hcell j hj)
      have x0 := hcell 0 (by omega)
      have x1 := hcell 1 (by omega)
      have x2 := hcell 2 (by omega)
      have x3 := hcell 3 (by omega)
      have x4 := hcell 4 (by omega)
      have x5 := hcell 5 (by omega)
      have x6 := hcell 6 (by omega)
      have x7 := hcell 7 (by omega)
      have x8 := hcell 8 (by omega)
      have x9 := hcell 9 (by omega)
      have x10 := hcell 10 (by omega)
      have x11 := hcell 11 (by omega)
      have x12 := hcell 12 (by omega)
      have x13 := hcell 13 (by omega)
      simp only [nodeCells, List.getElem?_cons_zero, List.getElem?_cons_succ, Nat.add_zero] at x0 x1 x2 x3 x4 x5 x6 x7 x8 x9 x10 x11 x12 x13
      have hnext := flat_take nodeB g.nodes k h
      rw [hnk] at hnext
      have HNX := LH hnext
      have WN := LH (NW.out n mem)
      have hlen : ((g.ins.flatMap valB).length + ((g.nodes.take k).flatMap nodeB).length) + (nodeB n).length ≤ 900000000 := by
       have h1 := flat_le nodeB g.nodes (k + 1)
       rw [hnext, List.length_append] at h1
       have h2 := HZ.out
       simp only [graphB, List.length_append] at h2
       omega
      have HLEN := LH hlen
      have n1 : P ≠ wr.heap.size := by omega
      have n2 : P < wr.heap.size := by omega
      have i1 : (0 : Int) ≤ (k : Int) := by omega
      have i2 : (k : Int) < (g.nodes.length : Int) := by omega
      obtain ⟨P8, hP8⟩ : ∃ P8, wr.heap.size = P8 := ⟨_, rfl⟩
      clear hnk hnext hlen hnc hin0 hin hcell mem f1 f2 f3 f4 f5 f6
      go_upto_region 14 with fail
      refine opq (fun w' => ((Bx w' P #[.slice A1 g.ins.length c1, .slice (some ⟨nb, no, none⟩) g.nodes.length c2, .slice A3 g.outs.length c3]) ∧ (Bx w' P8 (nC n (.slice Ai n.ins.length ci) (.slice Aw n.ws.length cw) (.slice Ab n.bs.length cb))) ∧ Past wr w' ∧ P8 + 1 ≤ w'.heap.size) ∧ OwnB w' P u5 (numsB 1 [(g.ins.length : Int)] ++ g.ins.flatMap valB ++ numsB 1 [(g.nodes.length : Int)] ++ (g.nodes.take k).flatMap nodeB)) ⟨by
       subst hP8
       (exact kKeep), own.out.alloc _⟩ ?_
      rintro w4 ⟨⟨b4, y4, p4, s4⟩, o4⟩
      have gg4 := LH (gg.out.trans (Lays.of_past p4))
      have C1 := LH (layNode_any P u5 _ n _ _ _ w4 o4 (IN.out.grow p4) WN.out ai.out aw.out ab.out (by omega) (by have := HLEN.out; simp only [List.length_append, numsB_len, List.length_cons, List.length_nil]; omega))
      clear own b3 s3 gg p3 x0 x1 x2 x3 x4 x5 x6 x7 x8 x9 x10 x11 x12 x13 hP8 n1 n2 p4 o4 ai aw ab IN
      go_wp2_with fail
      refine C1.out.mono ?_
      rintro e w5 ⟨v5, rfl, o5, k5⟩
      have g5 := LH (gg4.out.trans k5)
      have b5 := box_lays b4 (noRow_box b4 (.slice A1 g.ins.length c1) (by simp) (by simp)) k5
      have s5 : P + 1 ≤ w5.heap.size := by have := k5.2.2.1; have := cell_lt ((b4 0).trans rfl); omega
      have o5 := LH (show OwnB w5 P v5 (numsB 1 [(g.ins.length : Int)] ++ g.ins.flatMap valB ++ numsB 1 [(g.nodes.length : Int)] ++ (g.nodes.take (k + 1)).flatMap nodeB) by
       rw [HNX.out, ← List.append_assoc]
       exact o5)
      clear C1 k5 b4 y4 gg4 s4 i1 i2
      go_wp2_with fail
      go_roundw
      case rel => exact ⟨k + 1, by omega, by go_num, o5, g5, b5, s5⟩
      case measure => simp [intOf]; omega
     ·have e : g.nodes.take k = g.nodes := List.take_of_length_le (by omega)
      rw [e] at own
      clear e N5 NW
      have p3 : Past W wr := (Past.refl W).trans (by have := gg.out; rw [← hP] at this; exact Lays.past (Past.refl W) this)
      have hl0 := HZ.out
      simp only [graphB, List.length_append, numsB_len, listB_len, List.length_cons, List.length_nil] at hl0
      have C0 := LH (list_int P 1 1 u5 (.slice A3 g.outs.length c3) _ g.outs wr (by omega) (by omega) own.out (HO.out.grow p3) (fun h0 => apart_old (w := W) (by omega) HO.out h0) (by omega) (by simp only [List.length_append, numsB_len, List.length_cons, List.length_nil]; omega))
      clear own hl0
      go_wp2_with fail
      refine C0.out.mono ?_
      rintro e w2 ⟨v2, rfl, o2, k2⟩
      have g2 := gg.out.trans k2
      subst hP
      have pf := LH (Lays.past (Past.refl W) g2)
      have of := LH o2
      clear C0 k2 b3 s3 gg g2 o2 p3
      go_wp2_with fail
      go_ret2
      exact put_ok HQ.out of.out pf.out
end Go.Proofs.YtejllmjkeefloaaGreat
