/- The reference's Same: two rows of commands. quiltlaw04's less: a graph of at most 6 values, 14 nodes, 6 that come out. Rows of bytes: appends of bytes, slices of them; wide, as a table. -/
import Derived.Test.YtejllmjkeefloaaGreatMN17
namespace Go.Proofs.YtejllmjkeefloaaGreat.Q8
open Go.ChangeShapes Go.WideShapes Go.ChangeAt Go.RowKit
set_option maxRecDepth 20000
set_option linter.unusedVariables false
set_option linter.unusedSimpArgs false
theorem owes_row {ops:Array Oper}{S:World->Prop}{aF:Act}{o:Oper}{l:List Oper}(hg:o.guard=none)(x:Operand)(ho:o.op=.load 67 x)(b off:Nat)(hx:aF.eval x=.pointer (some ⟨b,off,none⟩))(c:List Int)(hl:c.length=14)(hb:∀ w,S w->w.rangeAt b off (cellC c))
  (hp:aF.put o.dst (.agg ⟨cellC c⟩)=aF) (k:OwesAll Tryz.prog ops S aF l):OwesAll Tryz.prog ops S aF (o :: l):=by
 refine⟨fun w hw=>?_,k⟩;have hwant:Region.wanted o (yielded ops aF.tmps)=true:=by unfold Region.wanted;rw [hg]
 rw [if_pos hwant];exact wp_load_mid 67 x ho b off hx (cellC c) _ (hb w hw) Tryz.underlying67 rfl (by rw [C14,cellC_len,hl]) ⟨hp,hw⟩
theorem owes_neqC {ops:Array Oper}{S:World->Prop}{aF:Act}{o:Oper}{l:List Oper}(hg:o.guard=none)(x y:Operand)(ty2:TypeId)(ho:o.op=.binOp .neq 67 x y ty2)(c d:List Int)(hc:c.length=14)(hd:d.length=14)(hx:aF.eval x=.agg ⟨cellC c⟩)(hy:aF.eval y=.agg ⟨cellC d⟩)
  (hp:aF.put o.dst (.bool (!decide (c=d)))=aF) (k:OwesAll Tryz.prog ops S aF l):OwesAll Tryz.prog ops S aF (o :: l):=by
 refine⟨fun w hw=>?_,k⟩;have hwant:Region.wanted o (yielded ops aF.tmps)=true:=by unfold Region.wanted;rw [hg]
 rw [if_pos hwant];exact wp_neqC x y ty2 ho c d hc hd hx hy ⟨hp,hw⟩
theorem take_eq_next {l m:List (List Int)}{n:Nat}(h:l.take n=m.take n)(hl:n<l.length)(hm:n<m.length)(e:l.getD n []=m.getD n []):l.take (n+1)=m.take (n+1):=by
 rw [List.take_succ_eq_append_getElem hl,List.take_succ_eq_append_getElem hm,h];simp [List.getD,hl,hm] at e;rw [e]
set_option maxHeartbeats 1000000 in
theorem same_any (u v:Value)(l m:List (List Int))(W:World)(hu:IsCmds W u l)(hv:IsCmds W v m):Calls Tryz.prog 12 #[u,v] W fun e w'=>e=.returned (.bool (decide (l=m)))/\Past W w':=by
 have HU:=LH hu;have HV:=LH hv;obtain⟨A,ca,rfl,a2,a3,_⟩:=hu.form;obtain⟨B,cb,rfl,b2,b3,_⟩:=hv.form;have WL:=LH hu.wf;have WM:=LH hv.wf;have hm1:l.length<=9223372036854775807:=by unfold maxLen at a3;omega
 have hm2:m.length<=9223372036854775807:=by unfold maxLen at b3;omega
 clear hu hv;by_cases hlen:l.length=m.length
 ·obtain⟨L,hL⟩:∃ L,l.length=L:=⟨_,rfl⟩
  have hM:m.length=L:=by omega
  rw [hL] at hlen HU a2 hm1;rw [hM] at HV b2;obtain⟨d,hd⟩:∃ d,decide (l=m)=d:=⟨_,rfl⟩
  rw [hL,hM,hd];have HD:=LH hd;have HL:=LH hL;have HM:=LH hM;clear hlen hL hM hd hm2;go_enter Tryz.func12,Tryz.ntmps12;go_wp2_with fail;go_loopw [4,5] (fun s i wr=>∃ n:Nat,n<=L/\i=.int .i64 n/\s=.bool false/\Hid (l.take n=m.take n)/\Hid (Past W wr)) (fun _ i _=>L-(intOf i).toNat)
  case atStart=>exact⟨0,by omega,rfl,rfl,LH rfl,LH (Past.refl W)⟩
  case round =>
   obtain⟨n,hnl,rfl,rfl,heq,hp⟩:=hrel;by_cases h:n<L
   ·obtain⟨ba,oa,rfl,hba,ra⟩:=(HU.out.grow hp.out).at n (by rw [HL.out];omega);obtain⟨bb,ob,rfl,hbb,rb⟩:=(HV.out.grow hp.out).at n (by rw [HM.out];omega);have wl:=wfC_at WL.out (i:=n) (by rw [HL.out];omega);have wm:=wfC_at WM.out (i:=n) (by rw [HM.out];omega);have nx:l.getD n []=m.getD n []->l.take (n+1)=m.take (n+1):=fun e=>take_eq_next heq.out (by rw [HL.out];omega) (by rw [HM.out];omega) e
    have no:l.getD n []≠m.getD n []->d=false:=fun e=>by rw [<- HD.out];exact decide_eq_false (fun q=>e (by rw [q]))
    obtain⟨c,hc⟩:∃ c,l.getD n []=c:=⟨_,rfl⟩
    obtain⟨e,he⟩:∃ e,m.getD n []=e:=⟨_,rfl⟩
    rw [hc] at ra wl nx no;rw [he] at rb wm nx no;have RA:=LH ra;have RB:=LH rb;have LC:=LH wl.1;have LE:=LH wm.1;have NX:=LH nx;have NO:=LH no;clear ra rb wl wm nx no hc he hba hbb;go_upto_region 6 with fail;refine wp_region_fill (fun w'=>Hid (w'.rangeAt ba (oa+n*14) (cellC c))/\Hid (w'.rangeAt bb (ob+n*14) (cellC e))/\Hid (Past W w')) [(17,?v17),(18,?v18),(19,?v19),(20,?v20),(21,?v21),(22,?v22),(23,?v23),(24,?v24),(25,?v25)] [17,18,19,20,21,22,23,24,25] (by kernel_rfl) (by kernel_rfl) rfl (by kernel_rfl) ⟨RA,RB,hp⟩ (fun w h=>h) ?all ?fin
    case all =>
     simp only [fillA,Act.put,List.setIfInBounds_toArray,List.set_cons_zero,List.set_cons_succ];iterate 3 (refine owes_cons (fun w hw K hK=>?_) ?_;focus ((have hS:=LH hw);go_simp;(try go_frame);exact hK _ hS.out))
     refine owes_row rfl (.tmp 19) rfl ba (oa+n*14) rfl c LC.out (fun w h=>h.1.out) (by go_frame <;> rfl) ?_;iterate 3 (refine owes_cons (fun w hw K hK=>?_) ?_;focus ((have hS:=LH hw);go_simp;(try go_frame);exact hK _ hS.out))
     refine owes_row rfl (.tmp 23) rfl bb (ob+n*14) rfl e LE.out (fun w h=>h.2.1.out) (by go_frame <;> rfl) ?_;refine owes_neqC rfl (.tmp 20) (.tmp 24) 67 rfl c e LC.out LE.out rfl rfl (by go_frame <;> rfl) ?_;exact True.intro
    case fin =>
     rintro w8 ⟨_,_,p8⟩;simp only [fillA,Act.put,List.setIfInBounds_toArray,List.set_cons_zero,List.set_cons_succ];by_cases q:c=e
     ·have d1:(!decide (c=e))=false:=by simp [q]
      have NX2:=LH (NX.out q);rw [d1];clear d1 q NX NO;go_wp2_with fail;go_roundw
      case rel=>exact⟨n+1,by omega,by go_num,rfl,NX2,p8⟩
      case measure=>simp [intOf];omega
     ·have d1:(!decide (c=e))=true:=by simp [q]
      have ED:=LH (NO.out q);rw [d1];clear d1 q NX NO;go_wp2_with fail;go_ret;exact⟨by rw [ED.out];rfl,p8.out⟩
   ·have e1:l=m:=by
     have q:=heq.out;rw [List.take_of_length_le (by rw [HL.out];omega),List.take_of_length_le (by rw [HM.out];omega)] at q;exact q
    have ED:Hid (d=true):=LH (by rw [<- HD.out];exact decide_eq_true e1);clear e1 heq;go_wp2_with fail;go_ret;exact⟨by rw [ED.out];rfl,hp.out⟩
 ·have d1:decide (l=m)=false:=decide_eq_false (fun e=>hlen (by rw [e]));have d2:((l.length:Int)!=(m.length:Int))=true:=by simp;omega
  rw [d1];clear d1 hlen;go_enter Tryz.func12,Tryz.ntmps12;go_wp2_with fail;go_ret;exact⟨rfl,Past.refl _⟩
end Go.Proofs.YtejllmjkeefloaaGreat.Q8
namespace Go.Proofs.YtejllmjkeefloaaGreat
open Go.ChangeShapes Go.WideShapes Go.ChangeAt Go.RowKit
set_option maxRecDepth 20000
set_option linter.unusedVariables false
def RowsO (w:World)(l:List NodeD)(xs:List Value):Prop :=
 ∀ j,j<l.length->∃ vi vw vb,NodeIn w (l.getD j default) vi vw vb/\(xs.drop (j*14)).take 14=nodeCells (l.getD j default) vi vw vb
theorem RowsO.more {w:World} {l:List NodeD} {n:NodeD} {xs:List Value} {vi vw vb:Value} (h:RowsO w l xs) (hl:xs.length=l.length*14) (hn:NodeIn w n vi vw vb):RowsO w (l++[n]) (xs++nodeCells n vi vw vb):=by
 intro j hj;simp only [List.length_append,List.length_cons,List.length_nil] at hj;by_cases c:j<l.length
 ·obtain ⟨a1,a2,a3,k1,k2⟩:=h j c;have e:(l++[n]).getD j default=l.getD j default:=by simp [List.getD,List.getElem?_append_left c]
  rw [e];refine ⟨a1,a2,a3,k1,?_⟩;rw [List.drop_append_of_le_length (by omega),List.take_append_of_le_length (by rw [List.length_drop];omega)];exact k2
 ·obtain rfl:j=l.length:=by omega
  have e:(l++[n]).getD l.length default=n:=by simp [List.getD]
  rw [e];refine ⟨vi,vw,vb,hn,?_⟩;rw [<- hl,List.drop_left];rfl
end Go.Proofs.YtejllmjkeefloaaGreat
namespace Go.Proofs.YtejllmjkeefloaaGreat.Q8
open Go.ChangeShapes Go.WideShapes Go.ChangeAt Go.RowKit
set_option maxRecDepth 20000
set_option linter.unusedVariables false
set_option linter.unusedSimpArgs false
def OwnR (w:World)(base:Nat)(v:Value)(xs:List Int):Prop:=w.ownsRow base 5 1 v xs.length (xs.map (Value.int .u8))
theorem OwnR.past {w w':World}{base:Nat}{v:Value}{l:List Int}(h:OwnR w base v l)(g:Past w w'):OwnR w' base v l:=by
 obtain⟨hl,h⟩:=h;refine⟨hl,?_⟩;rcases h with ⟨rfl,h0⟩|⟨b,cap,cur,rfl,hb,hg,hn,hm,hs,ht⟩
 ·exact .inl ⟨rfl,h0⟩
 ·exact .inr ⟨b,cap,cur,rfl,hb,(g.2.2.2 b (Array.getElem?_eq_some_iff.1 hg).1).trans hg,hn,hm,hs,ht⟩
theorem wf_u8_of {l:List Int}(h:bytesP l):∀ x∈l,(Lit.int .u8 x).wf=true:=fun x hx=>by
 have:=h x hx;simp [Lit.wf,IntKind.min,IntKind.max,IntKind.bits,IntKind.signed];omega
theorem OwnR.nums {w:World}{base:Nat}{v:Value}{l:List Int}(h:OwnR w base v l)(hb:bytesP l):IsNums .u8 w v l:=nums_of_ownI (t:=5) h (wf_u8_of hb)
theorem OwnR.lt {w:World}{base:Nat}{v:Value}{l:List Int}(h:OwnR w base v l){k:Nat}(hk:v.ownBlock=some k):base<=k:=(World.ownsRow.lt h k hk).1
theorem ownR_lit (w:World):OwnR (w.alloc (.cells #[] 5)) w.heap.size (.slice (some ⟨w.heap.size,0,none⟩) 0 0) []:=World.ownsRow_lit w #[] 0 (Nat.le_refl _) (by decide) rfl
theorem OwnR.alloc {w:World}{base:Nat}{v:Value}{l:List Int}(h:OwnR w base v l)(x:Obj):OwnR (w.alloc x) base v l:=World.ownsRow.alloc h x
theorem nums_form {w:World}{v:Value}{l:List Int}(h:IsNums .u8 w v l):∃ A cap,v=.slice A l.length cap/\l.length<=cap/\cap<=maxLen/\(A=none->cap=0):=by
 obtain⟨A,cap,rfl,h2,h3,h4,_⟩:=h;exact⟨A,cap,rfl,h2,h3,h4⟩
theorem nums_cut {w:World} {A:Option Addr} {len cap:Nat} {l:List Int} (m:Nat) (hm:m<=l.length) (h:IsNums .u8 w (.slice A len cap) l):IsNums .u8 w (.slice A m cap) (l.take m):=by
 obtain ⟨A',cap',e,h2,h3,h4,h5,h6⟩:=h;simp only [Value.slice.injEq] at e;obtain ⟨rfl,rfl,rfl⟩:=e;have e1:(l.take m).length=m:=by simp;omega
 refine ⟨A,cap,by rw [e1],by omega,h3,h4,fun x hx=>h5 x (List.mem_of_mem_take hx),fun hp=>?_⟩;rw [e1] at hp;obtain ⟨b,off,rfl,hb,hc⟩:=h6 (by omega);refine ⟨b,off,rfl,hb,fun i hi=>?_⟩;rw [e1] at hi;rw [hc i (by omega)];simp [List.getD,hi]
theorem nums_drop {w:World} {b off len cap n:Nat} {l:List Int} (h:IsNums .u8 w (.slice (some ⟨b,off,none⟩) len cap) l) (hn:n<l.length):IsNums .u8 w (.slice (some ⟨b,off+n,none⟩) (len-n) (cap-n)) (l.drop n):=by
 obtain ⟨A',cap',e,h2,h3,h4,h5,h6⟩:=h;simp only [Value.slice.injEq] at e;obtain ⟨rfl,rfl,rfl⟩:=e;refine ⟨_,cap-n,by rw [List.length_drop],by rw [List.length_drop];omega,by omega,(fun h=>by cases h),fun x hx=>h5 x (List.mem_of_mem_drop hx),fun hp=>?_⟩;obtain ⟨b',off',e,hb,hc⟩:=h6 (by omega);simp only [Option.some.injEq,Addr.mk.injEq,and_true] at e;obtain ⟨rfl,rfl⟩:=e;refine ⟨b,off+n,rfl,hb,fun i hi=>?_⟩;rw [List.length_drop] at hi;rw [Nat.add_assoc,hc (n+i) (by omega)];simp [List.getD]
theorem wpList_append_b {ops:Array Oper} {Q:Exit→Act→World→Prop} {rest:List Oper} {o:Oper} {a:Act} {w:World} (hgd:o.guard=none) (s x:Operand) (ho:o.op=.call { callee:=.builtin .append,args:=#[s,x],argTypes:=#[22,22] })
  (base:Nat) (v:Value) (xs:List Int) (hs:a.eval s=v) (hown:OwnR w base v xs) (ys:List Int) (A:Option Addr) (n cap:Nat) (hx:a.eval x=.slice A n cap) (hy:IsNums .u8 w (.slice A n cap) ys) (hm:xs.length+ys.length≤1000000) (hbase:base≤w.heap.size)
  (h:∀ v' w',OwnR w' base v' (xs++ys)→w.grownBy w' v.ownBlock→wpList Tryz.prog ops Q rest (a.put o.dst v') w'):wpList Tryz.prog ops Q (o :: rest) a w:=by
 obtain ⟨i,hi,hz,hsz,hb⟩:=info_parts info8
 obtain ⟨A',cap',e,h2,h3,h4,h5,h6⟩:=hy
 simp only [Value.slice.injEq] at e
 obtain ⟨rfl,rfl,rfl⟩:=e
 by_cases hp:0<ys.length
 ·obtain ⟨b,off,rfl,hbl,hc⟩:=h6 hp
  refine wpList_append_own _ hgd s x 22 ho base 5 i _ 1 1 Tryz.underlying22 hi hz hsz hb rfl (by decide) v xs.length (xs.map (Value.int .u8)) hs hown ⟨b,off,none⟩ ys.length cap (ys.map (Value.int .u8)) hx (by simp) (fun j u hu=>?_) (by intro u hu;simp only [List.mem_map] at hu;obtain ⟨z,_,rfl⟩:=hu;rfl) (by unfold maxLen;omega) (by omega) hbase ?_
  ·rw [add_plain]
   have hj:j<ys.length:=by
    by_cases q:j<ys.length
    ·exact q
    ·rw [List.getElem?_eq_none (by simpa using q)] at hu;cases hu
   rw [hc j hj]
   rw [← hu]
   simp [List.getD,hj]
  ·intro v' w' ow g _
   exact h v' w' (by unfold OwnR;simpa using ow) g
 ·have e0:ys=[]:=List.eq_nil_of_length_eq_zero (by omega)
  subst e0
  simp only [List.length_nil] at hx h4
  cases A with
  | none =>
   obtain rfl:=h4 rfl
   have hr:=run_append_owned_none (P:=Tryz.prog) w base 22 o.type 5 i 1 Tryz.underlying22 hi v xs.length (xs.map (Value.int .u8)) hown
   refine wpList_plain hgd fun K hK=>?_
   unfold Oper.wp execOp
   simp only [ho,resolve,invoke,builtin,Sem.run_bind,Sem.run_pure,Result.andThen_ok,List.map_toArray,List.map_cons,List.map_nil,hs,hx,hr]
   exact hK _ _ (h v w (by simpa using hown) (World.grownBy.refl _ _))
  | some ad =>
   refine wpList_append_own _ hgd s x 22 ho base 5 i _ 1 1 Tryz.underlying22 hi hz hsz hb rfl (by decide) v xs.length (xs.map (Value.int .u8)) hs hown ad 0 cap [] hx rfl (fun j u hu=>by simp at hu) (by simp) (by unfold maxLen;omega) (by omega) hbase ?_
   intro v' w' ow g _
   exact h v' w' (by unfold OwnR;simpa using ow) g
end Go.Proofs.YtejllmjkeefloaaGreat.Q8
