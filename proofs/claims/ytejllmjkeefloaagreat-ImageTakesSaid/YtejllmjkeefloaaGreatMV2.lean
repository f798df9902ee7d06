/- Clone; begins. A region whose order is open and whose operations leave what was there alone: calls that make memory, guarded or not, and those that lean on what they made. A region whose order is open, with some operations in one forced order (calls that make memory, stores): these are walked one behind the other; all others only read, and are told by the frame that they leave. Sums of bytes in plain numbers: halving with a pattern is linear over XOR, and one to one below 2^32; what is turned within four bytes turns what is left. -/
import Derived.WalkSpells
import Derived.Lib.BufferMore
import Derived.Test.YtejllmjkeefloaaGreatMG8
import Derived.Test.YtejllmjkeefloaaGreatMG6
import Derived.Test.YtejllmjkeefloaaGreatMFixR
import Derived.StillTail
import Derived.Test.YtejllmjkeefloaaGreatProg
namespace Go.Proofs.YtejllmjkeefloaaGreat
open Go.ChangeShapes Go.WideShapes Go.ChangeAt Go.RowKit
set_option maxRecDepth 20000
set_option linter.unusedVariables false
def ClonePost (xs:List ValD)(W:World)(e:Ending)(w':World):Prop:=∃ v,e=.returned v/\OwnVals w' W.heap.size v xs/\Past W w'
set_option maxHeartbeats 1000000 in
theorem clone_any (xs:List ValD) (b off cap:Nat) (W:World) (h0:0<xs.length) (h1:xs.length<=1000) (hc:xs.length<=cap) (hbb:b<W.heap.size) (hx:∀ i,i<xs.length->ValAt W b (off+i*4) (xs.getD i default)) :
  Calls Tryz.prog 64 #[.slice (some ⟨b,off,none⟩) xs.length cap] W (ClonePost xs W):=by
 obtain ⟨i0,hi0,hz0,hz1,hz2⟩:=info_parts info32;have I1:=LH hi0;have I2:=LH hz0;have I3:=LH hz1;have I4:=LH hz2;have HX:=LH (fun i hi=>(hx i hi).grow hbb ((Past.refl W).alloc (.cells #[] 47)));have own:(W.alloc (.cells #[] 47)).ownsRow W.heap.size 47 4 (.slice (some ⟨W.heap.size,0,none⟩) 0 0) 0 []:=by
  have:=World.ownsRow_made (base:=W.heap.size) (e:=47) (size:=4) W #[] 0 (by simp) (by simp) (by simp);simpa using this
 have OW:=LH own;have eN:=fun (w:World)=>Lib.run_eql_slice_some_nil (P:=Tryz.prog) w (t:=24) ⟨b,off,none⟩ xs.length cap Tryz.underlying24
 clear hi0 hz0 hz1 hz2 hx own;go_enter Tryz.func64,Tryz.ntmps64;go_wp2_with (at_builtin;refine wpList_append_own _ rfl (.tmp 5) (.tmp 6) 24 rfl W.heap.size 47 i0 _ 4 32 Tryz.underlying24 I1.out I2.out I3.out I4.out rfl (by decide) _ 0 [] rfl OW.out ⟨b,off,none⟩ xs.length cap (valsCells xs) rfl (valsCells_len xs) (news_of_vals HX.out) (vals_one' xs) ?c4 ?c5 ?c6 ?_)
 case c4=>unfold maxLen;omega
 case c5=>omega
 case c6=>simp
 intro v4 w4 hown4 hgrow _;have hp4:Past W w4:=((Past.refl W).alloc _).grownBy hgrow (fun j hj=>by simp [Value.ownBlock] at hj;omega);have ho4:OwnVals w4 W.heap.size v4 xs:=by
  unfold OwnVals;simpa using hown4
 clear hown4 hgrow;go_wp2_with fail;go_ret;exact ⟨_,rfl,ho4,hp4⟩
theorem zeros_eq (w:World):Calls Tryz.prog 97 #[] w fun e w'=>e=.returned (.agg #[.int .i64 (-128),.int .i64 127])/\w'=w.alloc (.cells #[.int .i64 (-128),.int .i64 127] 135):=by
 go_enter Tryz.func97,Tryz.ntmps97;go_wp2;exact bodyPost_ret (v:=.agg #[.int .i64 (-128),.int .i64 127]) (by simp [results,Tryz.results97,go_sem]) rfl ⟨rfl,rfl⟩
theorem badZero_any (h w c z:Int)(W:World) :
  Calls Tryz.prog 96 #[.agg #[.int .i64 h,.int .i64 w,.int .i64 c,.int .i64 z]] W fun e w'=>e=.returned (.bool (!holdB (-128) 127 z))/\Grown W w':=by
 go_enter Tryz.func96,Tryz.ntmps96;go_wp2_with fail
 go_region_held3 (fun w'=>w'.cell? ⟨W.heap.size,3,none⟩=some (.int .i64 z)) (((try dsimp only) <;> go_cell))
  (first|(go_at_call 97;with_reducible refine(zeros_eq _).mono ?_;rintro e w1 ⟨rfl,rfl⟩)|(go_at_call 98;with_reducible refine(hold_any _ _ _ _).mono ?_;rintro e w1 ⟨rfl,rfl⟩))
 all_goals
  go_wp2_with fail;go_ret;exact⟨rfl,by go_grown⟩
end Go.Proofs.YtejllmjkeefloaaGreat
namespace Go.Proofs.YtejllmjkeefloaaGreat
open Go
def LateP (P:Program)(ops:Array Oper)(W:World)(F:(Nat->Value)->Act)(J:Nat->Value->World->Prop)(deps:List (Nat×List Nat))(late:List Nat):Nat->List Oper->Prop
 | _,[]=>True
 | k,o :: l=>(late.contains k=false\/∀ v w,Past W w->(∀ i,(deps.lookup k |>.getD []).contains i=true->J i (v i) w)->Region.wanted o (yielded ops (F v).tmps)=true/\∀ K:Act->World->Prop,(∀ x w',Past w w'->J k x w'->K ((F v).put o.dst x) w')->o.wp P (F v) w K noPost)/\LateP P ops W F J deps late (k+1) l
theorem lateP_skip {P:Program}{ops:Array Oper}{W:World}{F:(Nat->Value)->Act}{J:Nat->Value->World->Prop}{deps:List (Nat×List Nat)}{late:List Nat}{k:Nat}{o:Oper}{l:List Oper}(h:late.contains k=false)(g:LateP P ops W F J deps late (k+1) l):LateP P ops W F J deps late k (o :: l):=⟨.inl h,g⟩
theorem lateP_cons {P:Program}{ops:Array Oper}{W:World}{F:(Nat->Value)->Act}{J:Nat->Value->World->Prop}{deps:List (Nat×List Nat)}{late:List Nat}{k:Nat}{o:Oper}{l:List Oper}
  (h:∀ v w,Past W w->(∀ i,(deps.lookup k |>.getD []).contains i=true->J i (v i) w)->Region.wanted o (yielded ops (F v).tmps)=true/\∀ K:Act->World->Prop,(∀ x w',Past w w'->J k x w'->K ((F v).put o.dst x) w')->o.wp P (F v) w K noPost) (g:LateP P ops W F J deps late (k+1) l):LateP P ops W F J deps late k (o :: l):=⟨.inr h,g⟩
theorem lateP_x {P:Program}{ops:Array Oper}{W:World}{F:(Nat->Value)->Act}{J:Nat->Value->World->Prop}{deps:List (Nat×List Nat)}{late:List Nat}(hJ:∀ i x w w',Past w w'->J i x w->J i x w'){l:List Oper}:∀ {k:Nat},LateP P ops W F J deps late k l->LateX P ops (Past W) F (fun i v w=>J i (v i) w) deps [] [] late k l:=by
 induction l with
 | nil=>intro k _;trivial
 | cons o l ih =>
  intro k h;refine⟨?_,ih h.2⟩;rcases h.1 with h|h
  ·exact .inl h
  ·refine .inr (fun v w hS hd=>?_);obtain⟨h1,h2⟩:=h v w hS hd;refine⟨h1,fun K hK=>h2 K (fun x w' p hj=>?_)⟩;refine hK x w' (hS.trans p) (by show J k (updV v k x k) w';rw [updV_same];exact hj) (fun i hi _ _ hI=>?_);show J i (updV v k x i) w';rw [updV_ne v x hi];exact hJ i _ _ _ p hI
theorem wp_region_past {P:Program} {Q:Exit→Act→World→Prop} {ops:List Oper} {id:Nat} {a:Act} {w:World} (W:World) (ups:List (Tmp×Value)) (lates:List (Nat×Tmp)) (J:Nat→Value→World→Prop) (deps:List (Nat×List Nat)) (fin:List Nat) (hJ:∀ i x w w',Past w w'→J i x w→J i x w')
  (hm:P.follows .mixedOrders=true) (hok:leanOK .any ops.toArray lates [] deps [] [] fin=true) (hu:((ups.map (·.1)++lates.map (·.2)).all fun t=>ops.any fun o=>o.dst==some t)=true) (hd:∀ q∈lates,q.2<a.tmps.size) (hS:Past W w)
  (hE:EarlyX P ops.toArray (Past W) (fun v=>fillA (fillA a ups) (latesV lates v)) (fun i v w=>J i (v i) w) deps (lates.map (·.1)++[]) 0 ops) (hL:LateP P ops.toArray W (fun v=>fillA (fillA a ups) (latesV lates v)) J deps (lates.map (·.1)++[]) 0 ops)
  (hQ:∀ v w,Past W w→(∀ i,fin.contains i=true→J i (v i) w)→Q .normal (fillA (fillA a ups) (latesV lates v)) w):(Code.region id ops.toArray true).wp P Q a w :=
 wp_region_lean (Past W) ups lates [] (fun i v w=>J i (v i) w) deps [] [] fin hm hok hu hd hS (fun _ h=>h) hE (lateP_x hJ hL) hQ
end Go.Proofs.YtejllmjkeefloaaGreat
namespace Go.Proofs.YtejllmjkeefloaaGreat
open Go
section
variable {P:Program} {ops:Array Oper} {Q:Exit->Act->World->Prop} {md:Region.Mode}
def OwesR (P:Program)(ops:Array Oper)(S:World->Prop)(aF:Act)(o:Oper):Prop :=
 ∀ w,S w->if Region.wanted o (yielded ops aF.tmps)=true then o.wp P aF w (fun a' w'=>a'=aF/\w'=w) noPost else aF.put o.dst undef=aF
def chainW (md:Region.Mode)(ops:Array Oper):List Nat->Bool
 | i :: j :: l=>Region.waitsFor md ops j i && chainW md ops (j :: l)
 | _=>true
def mixOK (md : Region.Mode) (ops : Array Oper) (bs : List Nat) : Bool :=
 fixOK md ops && chainW md ops bs &&
 ((List.range ops.size).all fun i => match ops[i]? with
  | none => true
  | some o => bs.contains i || ((o.looksAt ops).all fun t => bs.all fun j => match ops[j]? with
   | none => true
   | some p => p.dst != some t)) &&
 (bs.all fun i => match ops[i]? with
  | none => false
  | some o => o.guard.isNone) && decide bs.Nodup
def mixList (P:Program)(ops:Array Oper)(S:World->Prop)(Q:Exit->Act->World->Prop):List Nat->Act->World->Prop
 | [],a,w=>Q .normal a w
 | i :: l,a,w=>∃ o,ops[i]? = some o/\o.wp P a w (fun a' w'=>a'.defers=a.defers/\(∃ v,a'=a.put o.dst v)/\S w'/\mixList P ops S Q l a' w') noPost
theorem mix_cons {S:World->Prop}{i:Nat}{l:List Nat}{a:Act}{w:World}{o:Oper}(ho:ops[i]? = some o)
  (h:∀ K:Act->World->Prop,(∀ v w',S w'->mixList P ops S Q l (a.put o.dst v) w'->K (a.put o.dst v) w')->o.wp P a w K noPost):mixList P ops S Q (i :: l) a w :=
 ⟨o,ho,h _ fun v w' hS hm=>⟨by cases hd:o.dst <;> simp [Act.put],⟨v,rfl⟩,hS,hm⟩⟩
theorem upon_mix {S:World->Prop}{aF a:Act}{o:Oper}{K R:Act->World->Prop}{r:Result Next}
  (hK:∀ v w',S w'->R (aF.put o.dst v) w'->K (a.put o.dst v) w') (h:o.upon P aF (fun a' w'=>a'.defers=aF.defers/\(∃ v,a'=aF.put o.dst v)/\S w'/\R a' w') noPost r):o.upon P a K Q r:=by
 cases r with
 | ok n w' =>
  cases n with
  | value v=>exact hK v w' h.2.2.1 h.2.2.2
  | skip=>exact hK undef w' h.2.2.1 h.2.2.2
  | defer d =>
   exfalso;have h1:(({ aF with defers:=d :: aF.defers }:Act).put o.dst undef).defers=aF.defers:=h.1;cases hd:o.dst <;> simp [Act.put,hd] at h1
  | enter f args =>
   refine Calls.mono h fun e w'' he=>?_
   cases e with
   | returned v=>exact hK v w'' he.2.2.1 he.2.2.2
   | panicked c=>exact he.elim
   | outgrown=>obtain⟨_,_,hf⟩:=he;exact hf.elim
  | row row args=>exact Rows.mono h fun v w'' he=>hK v w'' he.2.2.1 he.2.2.2
  | _=>exact h.elim
 | halt x w' =>
  cases x with
  | panic v=>exact h.elim
  | _=>exact h.elim
theorem upon_read {w:World}{aF a:Act}{o:Oper}{K:Act->World->Prop}{r:Result Next}
  (hK:∀ v,aF.put o.dst v=aF->K (a.put o.dst v) w) (h:o.upon P aF (fun a' w'=>a'=aF/\w'=w) noPost r):o.upon P a K Q r :=
 upon_fix (S:=fun w'=>w'=w) (fun v w' hp hw=>by subst hw;exact hK v hp) h
theorem chain_head {b:Nat}{l:List Nat}(h:chainW md ops (b :: l)=true){i:Nat}(hi:i∈l):∃ p,p∈b :: l/\Region.waitsFor md ops i p=true:=by
 induction l generalizing b with
 | nil=>cases hi
 | cons c l ih =>
  simp only [chainW,Bool.and_eq_true] at h;rcases List.mem_cons.1 hi with rfl|hi
  ·exact⟨b,List.mem_cons_self,h.1⟩
  ·obtain⟨p,hp,hw⟩:=ih h.2 hi;exact⟨p,List.mem_cons_of_mem _ hp,hw⟩
theorem chain_tail {b:Nat}{l:List Nat}(h:chainW md ops (b :: l)=true):chainW md ops l=true:=by
 cases l with
 | nil=>rfl
 | cons c l=>simp only [chainW,Bool.and_eq_true] at h;exact h.2
def MeetsM (ops:Array Oper)(listed:Array Bool)(rest:List Nat)(aF a:Act):Prop :=
 a.defers=aF.defers/\a.tmps.size=aF.tmps.size/\∀ t,(∀ j o,ops[j]? = some o->o.dst=some t->listed.getD j true=true\/j∈rest)->a.tmps[t]? = aF.tmps[t]?
theorem wpAny_mix {S:World->Prop}{a0:Act}{bs:List Nat}(hok:mixOK md ops bs=true)(hv:∀ (i:Nat)(o:Oper),i∉bs->ops[i]? = some o->OwesR P ops S a0 o) :
  ∀ (fuel:Nat) (listed:Array Bool) (rest:List Nat) (aF a:Act) (w:World),listed.size=ops.size->(left ops listed).length<=fuel->chainW md ops rest=true->rest.Nodup->(∀ i,i∈rest↔(i∈bs/\listed.getD i true=false)) ->
   aF.defers=a0.defers->aF.tmps.size=a0.tmps.size->(∀ t,(∀ j∈bs,∀ p,ops[j]? = some p->p.dst≠some t)->aF.tmps[t]? = a0.tmps[t]?)->MeetsM ops listed rest aF a->S w->mixList P ops S Q rest aF w->wpAny P md ops Q fuel listed a w:=by
 have lt:∀ {j p},ops[j]? = some p->j<ops.size:=fun h=>(Array.getElem?_eq_some_iff.1 h).1
 simp only [mixOK,Bool.and_eq_true] at hok;obtain⟨⟨⟨⟨hfix,hch⟩,hlook⟩,hgu⟩,hnd⟩:=hok;have noB:∀ {i o},i∉bs->ops[i]? = some o->∀ t∈o.looksAt ops,∀ j∈bs,∀ p,ops[j]? = some p->p.dst≠some t:=by
  intro i o hi ho t ht j hj p hp;rw [List.all_eq_true] at hlook;have h:=hlook i (List.mem_range.2 (lt ho));simp only [ho,Bool.or_eq_true,List.contains_iff_mem,hi,false_or] at h;rw [List.all_eq_true] at h;have h:=h t ht;rw [List.all_eq_true] at h;have h:=h j hj;simpa [hp] using h
 have noG:∀ {i o},i∈bs->ops[i]? = some o->o.guard=none:=by
  intro i o hi ho;rw [List.all_eq_true] at hgu;have h:=hgu i hi;simp only [ho] at h;exact Option.isNone_iff_eq_none.1 h
 have ready:∀ (listed:Array Bool),listed.size=ops.size->Region.ready md ops listed=[]->∀ j o,ops[j]? = some o->listed.getD j true=true:=by
  intro listed hsz hr j;induction j using Nat.strongRecOn with
  | ind j ih =>
   intro o hj;apply Classical.byContradiction;intro c;have c':listed.getD j true=false:=by simpa using c
   have:j∈Region.ready md ops listed:=mem_ready.2 ⟨c',o,hj,fun e he hb=>by
    have hlt:=(fixOK_at hfix hj).2.2.2 e he hb;have he2:ops[e.on]? = some (ops[e.on]'(Nat.lt_trans hlt (lt hj))):=Array.getElem?_eq_getElem (Nat.lt_trans hlt (lt hj));have:=ih e.on hlt _ he2;rw [Array.getD_eq_getD_getElem?] at this ⊢;rw [Array.getElem?_eq_getElem (by rw [hsz];exact Nat.lt_trans hlt (lt hj))] at this ⊢;exact this⟩
   rw [hr] at this;cases this
 have done:∀ (listed:Array Bool) (rest:List Nat) (aF a:Act) (w:World),(∀ j o,ops[j]? = some o->listed.getD j true=true)->(∀ i,i∈rest↔(i∈bs/\listed.getD i true=false))->MeetsM ops listed rest aF a->mixList P ops S Q rest aF w->Q .normal a w:=by
  intro listed rest aF a w hall hrest hm hx;have e:rest=[]:=by
   cases rest with
   | nil=>rfl
   | cons b l =>
    obtain⟨o,ho,_⟩:=hx;have:=(hrest b).1 List.mem_cons_self;rw [hall b o ho] at this;cases this.2
  subst e;have:a=aF:=by
   obtain⟨h1,h2,h3⟩:=hm;obtain⟨t1,d1⟩:=a;obtain⟨t2,d2⟩:=aF;simp only at h1 h2 h3;subst h1;have:t1=t2:=Array.ext_getElem? fun t=>h3 t fun j o hj _=>.inl (hall j o hj)
   subst this;rfl
  rw [this];exact hx
 intro fuel;induction fuel with
 | zero =>
  intro listed rest aF a w hsz hl _ _ hrest _ _ _ hm _ hx;have hn:left ops listed=[]:=List.eq_nil_of_length_eq_zero (by omega);have hall:∀ j o,ops[j]? = some o->listed.getD j true=true:=by
   intro j o hj;apply Classical.byContradiction;intro c;have:j∈left ops listed:=List.mem_filter.2 ⟨List.mem_range.2 (lt hj),by simpa using c⟩;rw [hn] at this;cases this
  refine⟨?_,done listed rest aF a w hall hrest hm hx⟩;cases hr:Region.ready md ops listed with
  | nil=>rfl
  | cons x xs =>
   have:x∈Region.ready md ops listed:=by rw [hr];exact List.mem_cons_self
   obtain⟨h0,o,ho,_⟩:=mem_ready.1 this;rw [hall x o ho] at h0;cases h0
 | succ fuel ih =>
  intro listed rest aF a w hsz hl hcr hndr hrest hdf hsf hag hm hS hx;refine⟨fun hr=>done listed rest aF a w (ready listed hsz hr) hrest hm hx,fun i hi=>?_⟩;obtain⟨hu,o,ho,hall⟩:=mem_ready.1 hi;obtain⟨k1,k2,k3,_⟩:=fixOK_at hfix ho;have waits:∀ {j:Nat} {e:Edge},e∈o.after->Region.binds md e=true->e.on=j->(∃ p,ops[j]? = some p)->listed.getD j true=true:=by
   rintro j e he hb rfl ⟨p,hp⟩;have:=hall e he hb;rw [Array.getD_eq_getD_getElem?] at this ⊢;rw [Array.getElem?_eq_getElem (by rw [hsz];exact lt hp)] at this ⊢;exact this
  have look:∀ t∈o.looksAt ops,a.tmps[t]? = aF.tmps[t]?:=fun t ht=>hm.2.2 t fun j p hj hd=>by
   obtain⟨e,he,hb,he2⟩:=k2 t ht j p hj hd;exact .inl (waits he hb he2 ⟨p,hj⟩)
  have getS:∀ {j:Nat},i≠j->(listed.setIfInBounds i true).getD j true=listed.getD j true:=fun c=>getD_set_ne true c
  have getI:(listed.setIfInBounds i true).getD i true=true:=by simp [hsz,lt ho]
  by_cases hB:i∈bs
  · -- one of the forced ones
   have him:i∈rest:=(hrest i).2 ⟨hB,hu⟩;obtain⟨b,l,rfl⟩:∃ b l,rest=b :: l:=by
    cases rest with
    | nil=>cases him
    | cons b l=>exact⟨b,l,rfl⟩
   have hib:i=b:=by
    rcases List.mem_cons.1 him with h|h
    ·exact h
    ·exfalso;obtain⟨p,hp,hw⟩:=chain_head hcr h;obtain⟨oi,hoi,e,he,hb,hon⟩:=Region.waitsFor_spec hw;have:oi=o:=Option.some.inj (hoi.symm.trans ho);subst this;have hpl:=((hrest p).1 hp).2;have hps:p<ops.size:=by
      have hpb:=((hrest p).1 hp).1;rw [List.all_eq_true] at hgu;have h:=hgu p hpb;cases hq:ops[p]? with
      | none=>simp [hq] at h
      | some q=>exact lt hq
     rw [waits he hb hon ⟨_,Array.getElem?_eq_getElem hps⟩] at hpl;cases hpl
   subst hib;obtain⟨ee,ew⟩:=eval_eq (ops:=ops) k1 look;obtain⟨o',ho',hwp⟩:=hx;have:o'=o:=Option.some.inj (ho'.symm.trans ho);subst this;have hwant:Region.wanted o' (yielded ops a.tmps)=true:=by unfold Region.wanted;rw [noG hB ho]
   unfold wpOp;simp only [ho];rw [if_pos hwant];refine .inl ?_;unfold Oper.wp at hwp ⊢;rw [ee];refine upon_mix (S:=S) (R:=fun a' w'=>mixList P ops S Q l a' w') (fun v w' hS' hm'=>?_) hwp;refine ih (listed.setIfInBounds i true) l (aF.put o'.dst v) (a.put o'.dst v) w' (by simpa using hsz) (by have:=left_set (ops:=ops) (lt ho) hu;omega) (chain_tail hcr) (List.nodup_cons.1 hndr).2 (fun j=>?_) ?_ ?_ ?_ ?_ hS' hm'
   ·by_cases c:i=j
    ·subst c;rw [getI];simp only [Bool.true_eq_false,and_false,iff_false];exact(List.nodup_cons.1 hndr).1
    ·rw [getS c,<- hrest j,List.mem_cons];constructor
     ·exact fun h=>.inr h
     ·rintro(h|h)
      ·exact absurd h.symm c
      ·exact h
   ·cases hd:o'.dst <;> simpa [Act.put] using hdf
   ·cases hd:o'.dst <;> simpa [Act.put] using hsf
   ·intro t ht;have hne:o'.dst≠some t:=ht i hB o' ho;rw [<- hag t ht];cases hd:o'.dst with
    | none=>rfl
    | some d=>simp [Act.put,Array.getElem?_setIfInBounds_ne (show d≠t from fun e=>hne (by rw [hd,e]))]
   ·obtain⟨m1,m2,m3⟩:=hm;refine⟨?_,?_,fun t ht=>?_⟩
    ·cases hd:o'.dst <;> simpa [Act.put] using m1
    ·cases hd:o'.dst <;> simpa [Act.put] using m2
    ·cases hd:o'.dst with
     | none =>
      refine m3 t fun j p hj hp=>?_
      by_cases c:i=j
      ·subst c;exact .inr List.mem_cons_self
      ·rcases ht j p hj hp with h|h
       ·rw [getS c] at h;exact .inl h
       ·exact .inr (List.mem_cons_of_mem _ h)
     | some d =>
      by_cases c:d=t
      ·subst c;simp [Act.put,Array.getElem?_setIfInBounds,m2]
      ·have e1:(a.put (some d) v).tmps[t]? = a.tmps[t]?:=by simp [Act.put,Array.getElem?_setIfInBounds_ne c]
       have e2:(aF.put (some d) v).tmps[t]? = aF.tmps[t]?:=by simp [Act.put,Array.getElem?_setIfInBounds_ne c]
       rw [e1,e2];refine m3 t fun j p hj hp=>?_
       by_cases c2:i=j
       ·subst c2;exact .inr List.mem_cons_self
       ·rcases ht j p hj hp with h|h
        ·rw [getS c2] at h;exact .inl h
        ·exact .inr (List.mem_cons_of_mem _ h)
  · -- one that only reads
   have look0:∀ t∈o.looksAt ops,a.tmps[t]? = a0.tmps[t]?:=fun t ht=>(look t ht).trans (hag t (noB hB ho t ht))
   obtain⟨ee,ew⟩:=eval_eq (ops:=ops) k1 look0;have hdst:∀ t,o.dst=some t->∀ j∈bs,∀ p,ops[j]? = some p->p.dst≠some t:=fun t hd j hj p hp hpd=>hB (by rw [k3 j p t hp hpd hd];exact hj)
   have next:∀ v,a0.put o.dst v=a0->wpAny P md ops Q fuel (listed.setIfInBounds i true) (a.put o.dst v) w:=by
    intro v hp;refine ih _ rest aF _ _ (by simpa using hsz) (by have:=left_set (ops:=ops) (lt ho) hu;omega) hcr hndr (fun j=>?_) hdf hsf hag ?_ hS hx
    ·by_cases c:i=j
     ·subst c;rw [getI];simp only [Bool.true_eq_false,and_false,iff_false];exact fun h=>hB ((hrest i).1 h).1
     ·rw [getS c];exact hrest j
    ·obtain⟨m1,m2,m3⟩:=hm;refine⟨?_,?_,fun t ht=>?_⟩
     ·cases hd:o.dst <;> simpa [Act.put] using m1
     ·cases hd:o.dst <;> simpa [Act.put] using m2
     ·cases hd:o.dst with
      | none =>
       refine m3 t fun j p hj hpd=>?_
       by_cases c:i=j
       ·subst c;rw [ho] at hj;injection hj with hj;rw [<- hj,hd] at hpd;cases hpd
       ·rw [<- getS c];exact ht j p hj hpd
      | some d =>
       by_cases c:d=t
       ·subst c;by_cases l:d<a0.tmps.size
        ·have e0:=put_fix hp hd l;rw [hag d (hdst d hd),e0];simp [Act.put,m2,hsf,l]
        ·have l':aF.tmps.size<=d:=by rw [hsf];exact Nat.le_of_not_lt l
         have l2:(a.put (some d) v).tmps.size<=d:=by
          simp only [Act.put,Array.size_setIfInBounds,m2];exact l'
         rw [Array.getElem?_eq_none l2,Array.getElem?_eq_none l']
       ·have:(a.put (some d) v).tmps[t]? = a.tmps[t]?:=by simp [Act.put,Array.getElem?_setIfInBounds_ne c]
        rw [this];refine m3 t fun j p hj hpd=>?_
        by_cases c2:i=j
        ·subst c2;rw [ho] at hj;injection hj with hj;rw [<- hj,hd] at hpd;injection hpd with hpd;exact absurd hpd c
        ·rw [<- getS c2];exact ht j p hj hpd
   have h:=hv i o hB ho w hS;unfold wpOp;simp only [ho];rw [ew];by_cases hw:Region.wanted o (yielded ops a0.tmps)=true
   ·rw [if_pos hw] at h ⊢;refine .inl ?_;unfold Oper.wp at h ⊢;rw [ee];exact upon_read next h
   ·rw [if_neg hw] at h ⊢;exact next undef h
end
def OwesRI (P:Program)(ops:Array Oper)(S:World->Prop)(aF:Act)(bs:List Nat):Nat->List Oper->Prop
 | _,[]=>True
 | i,o :: l=>(bs.contains i=true\/OwesR P ops S aF o)/\OwesRI P ops S aF bs (i+1) l
theorem OwesRI.at_ {P:Program}{ops:Array Oper}{S:World->Prop}{aF:Act}{bs:List Nat}{l:List Oper}:∀ {k:Nat},OwesRI P ops S aF bs k l->∀ {j:Nat}{o:Oper},l[j]? = some o->k+j∉bs->OwesR P ops S aF o:=by
 induction l with
 | nil=>intro k h j o hj;simp at hj
 | cons x l ih =>
  intro k h j o hj hn;cases j with
  | zero =>
   simp only [List.getElem?_cons_zero,Option.some.injEq] at hj;subst hj;rcases h.1 with c|c
   ·exact absurd (by simpa using c) hn
   ·exact c
  | succ j=>exact ih h.2 (by simpa using hj) (by rw [show k+1+j=k+(j+1) by omega];exact hn)
theorem forced {P:Program}{ops:Array Oper}{S:World->Prop}{aF:Act}{bs:List Nat}{i:Nat}{o:Oper}{l:List Oper}(h:bs.contains i=true)(k:OwesRI P ops S aF bs (i+1) l):OwesRI P ops S aF bs i (o :: l):=⟨.inl h,k⟩
theorem reads {P:Program}{ops:Array Oper}{S:World->Prop}{aF:Act}{bs:List Nat}{i:Nat}{o:Oper}{l:List Oper}
  (h:∀ w,S w->∀ K:Act->World->Prop,K aF w->if Region.wanted o (yielded ops aF.tmps)=true then o.wp P aF w K noPost else K (aF.put o.dst undef) w) (k:OwesRI P ops S aF bs (i+1) l):OwesRI P ops S aF bs i (o :: l):=by
 refine⟨.inr fun w hw=>?_,k⟩;have:=h w hw (fun a' w'=>a'=aF/\w'=w) ⟨rfl,rfl⟩;by_cases c:Region.wanted o (yielded ops aF.tmps)=true
 ·rw [if_pos c] at this ⊢;exact this
 ·rw [if_neg c] at this ⊢;exact this.1
theorem mix_at {P:Program}{ops:Array Oper}{S:World->Prop}{Q:Exit->Act->World->Prop}{i:Nat}{l:List Nat}{a:Act}{w:World}{o:Oper}(d:Tmp)(ho:ops[i]? = some o)(hd:o.dst=some d)
  (h:∀ K:Act->World->Prop,(∀ v w',S w'->mixList P ops S Q l (a.put (some d) v) w'->K (a.put (some d) v) w')->o.wp P a w K noPost):mixList P ops S Q (i :: l) a w :=
 mix_cons ho (fun K hK=>h K (by rw [<- hd];exact hK))
theorem mix_store {P:Program}{ops:Array Oper}{S:World->Prop}{Q:Exit->Act->World->Prop}{i:Nat}{l:List Nat}{a:Act}{w:World}{o:Oper}(ho:ops[i]? = some o)(hd:o.dst=none)
  (h:∀ K:Act->World->Prop,(∀ w',S w'->mixList P ops S Q l a w'->K a w')->o.wp P a w K noPost):mixList P ops S Q (i :: l) a w :=
 mix_cons ho (fun K hK=>h K (by rw [hd] at hK;exact fun w'=>hK undef w'))
theorem mix_nil {P:Program}{ops:Array Oper}{S:World->Prop}{Q:Exit->Act->World->Prop}{a:Act}{w:World}(h:Q .normal a w):mixList P ops S Q [] a w:=h
def readSlots (bs:List Nat):Nat->List Oper->List Tmp
 | _,[]=>[]
 | i,o :: l=>if bs.contains i then readSlots bs (i+1) l else (match o.dst with|some t=>[t]|none=>[])++readSlots bs (i+1) l
theorem readSlots_mem {bs:List Nat}{t:Tmp}{l:List Oper}:∀ {k:Nat},t∈readSlots bs k l->∃ j o,l[j]? = some o/\k+j∉bs/\o.dst=some t:=by
 induction l with
 | nil=>intro k h;cases h
 | cons x l ih =>
  intro k h;unfold readSlots at h;split at h
  ·obtain⟨j,o,h1,h2,h3⟩:=ih h;exact⟨j+1,o,by simpa using h1,by rw [show k+(j+1)=k+1+j by omega];exact h2,h3⟩
  ·rename_i c;rcases List.mem_append.1 h with h|h
   ·refine⟨0,x,rfl,by simpa using c,?_⟩;cases hd:x.dst with
    | none=>simp [hd] at h
    | some d=>simp [hd] at h;rw [h]
   ·obtain⟨j,o,h1,h2,h3⟩:=ih h;exact⟨j+1,o,by simpa using h1,by rw [show k+(j+1)=k+1+j by omega];exact h2,h3⟩
end Go.Proofs.YtejllmjkeefloaaGreat
namespace Go.Proofs.YtejllmjkeefloaaGreat.Q7
def hv (r:Nat):Nat:=if r%2=1 then (r / 2) ^^^ 3988292384 else r / 2
def hvs:Nat->Nat->Nat
 | 0,r=>r
 | n+1,r=>hvs n (hv r)
def byteD (r c:Nat):Nat:=hvs 8 (r ^^^ c)
def crc (r:Nat)(l:List Nat):Nat:=l.foldl byteD r
def sumD (l:List Nat):Nat:=crc 4294967295 l ^^^ 4294967295
theorem hv_xor (x y:Nat):hv (x ^^^ y)=hv x ^^^ hv y:=by
 have e:(x ^^^ y) / 2=x / 2 ^^^ y / 2:=by
  apply Nat.eq_of_testBit_eq;intro i;simp [Nat.testBit_xor,Nat.testBit_div_two]
 have m:(x ^^^ y)%2=(x%2+y%2)%2:=by
  have:=@Nat.xor_mod_two_eq_one x y;omega
 unfold hv;rcases Nat.mod_two_eq_zero_or_one x with hx|hx <;> rcases Nat.mod_two_eq_zero_or_one y with hy|hy <;> simp only [m,hx,hy,e] <;> simp
 ·rw [Nat.xor_assoc]
 ·rw [Nat.xor_assoc,Nat.xor_assoc,Nat.xor_comm 3988292384 (y / 2)]
 ·rw [Nat.xor_assoc,<- Nat.xor_assoc 3988292384,Nat.xor_comm 3988292384 (y / 2),Nat.xor_assoc (y / 2)];simp
theorem xor_zero_eq {x y:Nat}(h:x ^^^ y=0):x=y:=by
 have:=congrArg (· ^^^ y) h;simpa [Nat.xor_assoc] using this
theorem hv_lt {x:Nat}(h:x<2 ^ 32):hv x<2 ^ 32:=by
 unfold hv;split
 ·exact Nat.xor_lt_two_pow (by omega) (by decide)
 ·omega
theorem hv_eq_zero {x:Nat}(h:x<2 ^ 32)(z:hv x=0):x=0:=by
 unfold hv at z;split at z
 ·have:=xor_zero_eq z;omega
 ·omega
theorem hvs_xor (n:Nat)(x y:Nat):hvs n (x ^^^ y)=hvs n x ^^^ hvs n y:=by
 induction n generalizing x y with
 | zero=>rfl
 | succ n ih=>show hvs n (hv _)=hvs n (hv _) ^^^ hvs n (hv _);rw [hv_xor,ih]
theorem hvs_lt (n:Nat){x:Nat}(h:x<2 ^ 32):hvs n x<2 ^ 32:=by
 induction n generalizing x with
 | zero=>exact h
 | succ n ih=>exact ih (hv_lt h)
theorem hvs_eq_zero (n:Nat){x:Nat}(h:x<2 ^ 32)(z:hvs n x=0):x=0:=by
 induction n generalizing x with
 | zero=>exact z
 | succ n ih=>exact hv_eq_zero h (ih (hv_lt h) z)
theorem hvs_add (m n x:Nat):hvs (m+n) x=hvs n (hvs m x):=by
 induction m generalizing x with
 | zero=>simp [hvs]
 | succ m ih=>rw [show m+1+n=(m+n)+1 by omega];exact ih (hv x)
theorem hvs_snoc (n x:Nat):hvs (n+1) x=hv (hvs n x):=hvs_add n 1 x
theorem hv_two (y:Nat):hv (2*y)=y:=by unfold hv;rw [if_neg (by omega)];omega
theorem hvs8 (y:Nat):hvs 8 (256*y)=y:=by
 show hv (hv (hv (hv (hv (hv (hv (hv (256*y))))))))=y;rw [show 256*y=2*(2*(2*(2*(2*(2*(2*(2*y))))))) by omega];simp only [hv_two]
theorem byte_lt {r c:Nat}(h:r<2 ^ 32)(hc:c<256):byteD r c<2 ^ 32:=hvs_lt 8 (Nat.xor_lt_two_pow h (by omega))
theorem crc_lt {r:Nat}{l:List Nat}(h:r<2 ^ 32)(hl:∀ c∈l,c<256):crc r l<2 ^ 32:=by
 induction l generalizing r with
 | nil=>exact h
 | cons c l ih=>exact ih (byte_lt h (hl c (List.mem_cons_self ..))) (fun d hd=>hl d (List.mem_cons_of_mem _ hd))
theorem crc_app (r:Nat)(l m:List Nat):crc r (l++m)=crc (crc r l) m:=List.foldl_append ..
theorem crc_snoc (r:Nat)(l:List Nat)(c:Nat):crc r (l++[c])=byteD (crc r l) c:=by rw [crc_app];rfl
theorem sum_lt {l:List Nat} (hl:∀ c∈l,c<256):sumD l<2 ^ 32:=Nat.xor_lt_two_pow (crc_lt (by decide) hl) (by decide)
def word (a b c d:Nat):Nat:=a ^^^ (256*b) ^^^ (65536*c) ^^^ (16777216*d)
theorem crc_four (r a b c d:Nat):crc r [a,b,c,d]=hvs 32 (r ^^^ word a b c d):=by
 have e:∀ x y:Nat,hvs 8 (x ^^^ 256*y)=hvs 8 x ^^^ y:=fun x y=>by rw [hvs_xor,hvs8]
 show byteD (byteD (byteD (byteD r a) b) c) d=_;unfold byteD word;rw [show 32=8+(8+(8+8)) from rfl,hvs_add,hvs_add,hvs_add];rw [<- Nat.xor_assoc,<- Nat.xor_assoc,<- Nat.xor_assoc];rw [show 16777216*d=256*(256*(256*d)) by omega,show 65536*c=256*(256*c) by omega];rw [e,e,e,e,e,e]
theorem word_add {a b c d:Nat}(ha:a<256)(hb:b<256)(hc:c<256)(_hd:d<256):word a b c d=a+256*b+65536*c+16777216*d:=by
 have e:∀ k x y:Nat,x<2 ^ k->x ^^^ (2 ^ k*y)=x+2 ^ k*y:=by
  intro k x y h;rw [Nat.add_comm,Nat.two_pow_add_eq_or_of_lt h];apply Nat.eq_of_testBit_eq;intro i;simp only [Nat.testBit_xor,Nat.testBit_or,Nat.testBit_two_pow_mul];by_cases k<=i
  ·rw [Nat.testBit_lt_two_pow (Nat.lt_of_lt_of_le h (Nat.pow_le_pow_right (by omega) (by assumption)))];simp
  ·simp [*]
 unfold word;rw [e 8 a b (by omega),e 16 (a+256*b) c (by omega),e 24 (a+256*b+65536*c) d (by omega)]
theorem word_lt {a b c d:Nat}(ha:a<256)(hb:b<256)(hc:c<256)(hd:d<256):word a b c d<2 ^ 32:=by rw [word_add ha hb hc hd];omega
def le4 (r:Nat):List Nat:=[r%256,r / 256%256,r / 65536%256,r / 16777216%256]
def sealD (l:List Nat):List Nat:=l++le4 (sumD l)
theorem word_le4 {r:Nat} (h:r<2 ^ 32):word (r%256) (r / 256%256) (r / 65536%256) (r / 16777216%256)=r:=by
 rw [word_add (by omega) (by omega) (by omega) (by omega)];omega
theorem hvs_inj (n:Nat){x y:Nat}(hx:x<2 ^ 32)(hy:y<2 ^ 32)(h:hvs n x=hvs n y):x=y:=by
 have:hvs n (x ^^^ y)=0:=by rw [hvs_xor,h,Nat.xor_self]
 exact xor_zero_eq (hvs_eq_zero n (Nat.xor_lt_two_pow hx hy) this)
theorem sealed_iff {s:List Nat}(hs:∀ c∈s,c<256)(h4:4<=s.length):sealD (s.take (s.length-4))=s↔crc 4294967295 s=hvs 32 4294967295:=by
 obtain⟨t,a,b,c,d,rfl⟩:∃ t a b c d,s=t++[a,b,c,d]:=by
  have e:=List.take_append_drop (s.length-4) s;have l:(s.drop (s.length-4)).length=4:=by rw [List.length_drop];omega
  match hq:s.drop (s.length-4),l with
  | [a,b,c,d],_=>exact⟨_,a,b,c,d,by rw [<- hq,e]⟩
 have ht:∀ c∈t,c<256:=fun c hc=>hs c (List.mem_append_left _ hc)
 have ha:=hs a (by simp);have hb:=hs b (by simp);have hc:=hs c (by simp);have hd:=hs d (by simp);have e:(t++[a,b,c,d]).take ((t++[a,b,c,d]).length-4)=t:=by simp
 rw [e,crc_app,crc_four];have lt:=crc_lt (r:=4294967295) (by decide) ht;have ls:=sum_lt ht;have key:crc 4294967295 t ^^^ sumD t=4294967295:=by
  unfold sumD;rw [<- Nat.xor_assoc,Nat.xor_self,Nat.zero_xor]
 constructor
 ·intro h;have h:=List.append_cancel_left h;simp only [le4,List.cons.injEq,and_true] at h;obtain⟨h1,h2,h3,h4⟩:=h;rw [<- h1,<- h2,<- h3,<- h4,word_le4 ls,key]
 ·intro h;have h:=hvs_inj 32 (Nat.xor_lt_two_pow lt (word_lt ha hb hc hd)) (by decide) h;have h2:word a b c d=sumD t:=by
   have:crc 4294967295 t ^^^ (crc 4294967295 t ^^^ word a b c d)=crc 4294967295 t ^^^ 4294967295:=by rw [h]
   rw [<- Nat.xor_assoc,Nat.xor_self,Nat.zero_xor] at this;exact this
  have w:=word_add ha hb hc hd;clear h;have h3:le4 (sumD t)=[a,b,c,d]:=by
   rw [<- h2,w];simp only [le4,List.cons.injEq,and_true];omega
  unfold sealD;rw [h3]
theorem seal_len (l:List Nat):(sealD l).length=l.length+4:=by simp [sealD,le4]
theorem seal_lt {l:List Nat}(hl:∀ c∈l,c<256):∀ c∈sealD l,c<256:=by
 intro c hc;rcases List.mem_append.1 hc with h|h
 ·exact hl c h
 ·simp only [le4,List.mem_cons,List.not_mem_nil,or_false] at h;omega
end Go.Proofs.YtejllmjkeefloaaGreat.Q7
