/- What Value answers at the examples and pairs of the laws: plain numbers. Value at nodes without slices. Two commands compared, in the walk. Layer 8 in numbers: May, field by field. -/
import Derived.Test.YtejllmjkeefloaaGreatMG12
import Derived.Test.YtejllmjkeefloaaGreatMI1
namespace Go.Proofs.YtejllmjkeefloaaGreat
open Go.ChangeShapes Go.WideShapes Go.ChangeAt Go.RowKit
set_option linter.unusedVariables false
theorem valueE_mk11 {n:NodeD}{vs:List ValD}(h:¬ (hasOp n.op/\takesP (opD n.op) n vs)):valueE n vs=11:=by unfold valueE;rw [if_pos h]
theorem valueE_mk10 {n:NodeD}{vs:List ValD}(h:hasOp n.op/\takesP (opD n.op) n vs)(k:¬ ∀ j,j<vs.length->mayV (vs.getD j default)):valueE n vs=10:=by unfold valueE;rw [if_neg (fun f=>f h),if_pos k]
theorem valueE_mk10' {n:NodeD}{vs:List ValD}(h:hasOp n.op/\takesP (opD n.op) n vs)(m:¬ mayT (madeS n vs)):valueE n vs=10:=by
 by_cases k:∀ j,j<vs.length->mayV (vs.getD j default)
 ·unfold valueE;rw [if_neg (fun f=>f h),if_neg (fun f=>f k),if_pos m]
 ·exact valueE_mk10 h k
theorem valueV_mk {n:NodeD}{vs:List ValD}(h:valueE n vs=0):valueV n vs=⟨(madeS n vs).1,(madeS n vs).2.1,(madeS n vs).2.2,n.zero⟩:=by unfold valueV;rw [if_pos h]
theorem below_one {p:Nat->Prop}(h:p 0):∀ j,j<1->p j:=fun j hj=>by
 obtain rfl:j=0:=by omega
 exact h
theorem below_two {p:Nat->Prop}(h:p 0)(k:p 1):∀ j,j<2->p j:=fun j hj=>by
 match j,hj with
 | 0,_=>exact h
 | 1,_=>exact k
theorem alike_two {a b:ValD}(h:a.h=b.h/\a.w=b.w/\a.c=b.c):alikeS [a,b]=(a.h,a.w,a.c):=by
 unfold alikeS;rw [if_pos]
 ·rfl
 ·exact below_two (p:=fun j=>shD ([a,b].getD j default)=shD ([a,b].getD 0 default)) rfl (by simp [shD,h.1,h.2.1,h.2.2])
theorem alike_not {a b:ValD}(h:¬ (a.h=b.h/\a.w=b.w/\a.c=b.c)):alikeS [a,b]=(0,0,0):=by
 unfold alikeS;rw [if_neg];intro k;have:=k 1 (by simp);simp only [shD,List.getD,List.getElem?_cons_succ,List.getElem?_cons_zero,Option.getD_some,Prod.mk.injEq] at this;exact h ⟨this.1.symm,this.2.1.symm,this.2.2.symm⟩
end Go.Proofs.YtejllmjkeefloaaGreat
namespace Go.Proofs.YtejllmjkeefloaaGreat
open Go.ChangeShapes Go.WideShapes Go.ChangeAt Go.RowKit
set_option maxRecDepth 20000
set_option linter.unusedVariables false
theorem vals_one {w:World}{b:Nat}{x:ValD}(hb:b<w.heap.size)(wf:ValWf x)(h:ValAt w b 0 x):IsVals w (.slice (some ⟨b,0,none⟩) 1 1) [x] :=
 ⟨some ⟨b,0,none⟩,1,rfl,Nat.le_refl _,by decide,(fun h=>by cases h),by simpa using wf,fun _=>⟨b,0,rfl,hb,fun i hi=>by
  simp only [List.length_cons,List.length_nil] at hi;obtain rfl:i=0:=by omega
  simpa using h⟩⟩
end Go.Proofs.YtejllmjkeefloaaGreat
namespace Go.Proofs.YtejllmjkeefloaaGreat.Q8
open Go.ChangeShapes Go.WideShapes Go.ChangeAt Go.RowKit
set_option maxRecDepth 20000
set_option linter.unusedVariables false
set_option linter.unusedSimpArgs false
theorem guardC:Tryz.prog.eqGuardType Tryz.prog.depth 67=false:=by kernel_rfl
theorem wp_neqC {o:Oper}{a:Act}{w:World}{K:Act->World->Prop}{Q:Exit->Act->World->Prop}(x y:Operand)(ty2:TypeId)(ho:o.op=.binOp .neq 67 x y ty2)
  (c d:List Int) (hc:c.length=14) (hd:d.length=14) (hx:a.eval x=.agg ⟨cellC c⟩) (hy:a.eval y=.agg ⟨cellC d⟩) (h:K (a.put o.dst (.bool (!decide (c=d)))) w):o.wp Tryz.prog a w K Q:=by
 have e:=eqC hc hd w;unfold Oper.wp execOp;simp only [ho,hx,hy,Sem.run_bind,run_eqGuard_agg _ _ _ _ _ _ _ guardC,Result.andThen_ok,run_neq_struct,e,Sem.run_pure];exact h
theorem wpList_neqC {ops:Array Oper}{rest:List Oper}{o:Oper}{a:Act}{w:World}{Q:Exit->Act->World->Prop}(hgd:o.guard=none)(x y:Operand)(ty2:TypeId)(ho:o.op=.binOp .neq 67 x y ty2)
  (c d:List Int) (hc:c.length=14) (hd:d.length=14) (hx:a.eval x=.agg ⟨cellC c⟩) (hy:a.eval y=.agg ⟨cellC d⟩) (h:wpList Tryz.prog ops Q rest (a.put o.dst (.bool (!decide (c=d)))) w):wpList Tryz.prog ops Q (o :: rest) a w :=
 wpList_plain hgd fun _ hK=>wp_neqC x y ty2 ho c d hc hd hx hy (hK _ _ h)
end Go.Proofs.YtejllmjkeefloaaGreat.Q8
namespace Go.Proofs.YtejllmjkeefloaaGreat.Q8
open Go.ChangeShapes Go.WideShapes Go.ChangeAt Go.RowKit
set_option linter.unusedVariables false
def goE (fs:List Fld)(c:List Int):Int:=if mayGo fs c then 0 else 1
theorem mayE_kind {c:List Int}(h:kindP (c.getD 0 0)):mayE c=goE (fldsD (c.getD 0 0)) c:=by
 unfold mayE goE;by_cases q:mayGo (fldsD (c.getD 0 0)) c
 ·rw [if_pos ⟨h,q⟩,if_pos q]
 ·rw [if_neg (fun k=>q k.2),if_neg q]
theorem mayE_none {c:List Int}(h:¬ kindP (c.getD 0 0)):mayE c=1:=if_neg (fun k=>h k.1)
theorem goE_yes {f:Fld}{fs:List Fld}{c:List Int}(h:inF f c):goE (f :: fs) c=goE fs (c.set f.pos 0):=by
 unfold goE;by_cases q:mayGo fs (c.set f.pos 0)
 ·rw [if_pos ⟨h,q⟩,if_pos q]
 ·rw [if_neg (fun k=>q k.2),if_neg q]
theorem goE_no {f:Fld}{fs:List Fld}{c:List Int}(h:¬ inF f c):goE (f :: fs) c=1:=if_neg (fun k=>h k.1)
theorem goE_nil (c:List Int):goE [] c=if c.tail=List.replicate 13 0 then 0 else 1:=by
 unfold goE;by_cases q:bareP c
 ·exact(if_pos q).trans (if_pos q).symm
 ·exact(if_neg q).trans (if_neg q).symm
theorem mayE_ok {c:List Int}:mayE c=0↔mayD c:=by unfold mayE;split <;> simp_all
theorem fldsD_len (k:Int):(fldsD k).length<=10:=by
 unfold fldsD;split
 ·decide
 split
 ·decide
 split
 ·decide
 split
 ·decide
 ·decide
end Go.Proofs.YtejllmjkeefloaaGreat.Q8
