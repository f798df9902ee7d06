/- graph: opOf. graph in numbers: which nodes may be, what they make, how many weights: P3.1's answer as plain data. -/
import Derived.Laws.EntriesVeiled
import Derived.Test.YtejllmjkeefloaaGreatMG4
import Derived.Test.YtejllmjkeefloaaGreatMG5
namespace Go.Proofs.YtejllmjkeefloaaGreat
open Go.ChangeShapes Go.WideShapes Go.ChangeAt Go.RowKit
set_option maxRecDepth 20000
set_option linter.unusedVariables false
theorem slid_any (f:FuncId)(w:World):Calls Tryz.prog 120 #[.func (.func f) #[] #[]] w fun e w'=>e=.returned (.func (.func 146) #[] #[.pointer (some ⟨w.heap.size,0,none⟩)])/\w'=w.alloc (.cells #[.func (.func f) #[] #[]] 168):=by
 go_enter Tryz.func120,Tryz.ntmps120;go_wp2;go_ret;exact⟨rfl,rfl⟩
theorem ofChannels_any (f:FuncId)(w:World):Calls Tryz.prog 122 #[.func (.func f) #[] #[]] w fun e w'=>e=.returned (.func (.func 149) #[] #[.pointer (some ⟨w.heap.size,0,none⟩)])/\w'=w.alloc (.cells #[.func (.func f) #[] #[]] 168):=by
 go_enter Tryz.func122,Tryz.ntmps122;go_wp2;go_ret;exact⟨rfl,rfl⟩
theorem always_any (m:Int)(w:World):Calls Tryz.prog 128 #[.int .i64 m] w fun e w'=>e=.returned (.func (.func 150) #[] #[.pointer (some ⟨w.heap.size,0,none⟩)])/\w'=w.alloc (.cells #[.int .i64 m] 3):=by
 go_enter Tryz.func128,Tryz.ntmps128;go_wp2;go_ret;exact⟨rfl,rfl⟩
structure OpD where
 vals:Int
 k1:Int
 k2:Int
 s1:Int
 s2:Int
 p1:Int
 p2:Int
 o1:Int
 o2:Int
 resh:Bool
 keeps:Bool
abbrev rC (r:OpD) (mk ct:Value):Array Value:=#[.int .i64 r.vals,.int .i64 r.k1,.int .i64 r.k2,.int .i64 r.s1,.int .i64 r.s2,.int .i64 r.p1,.int .i64 r.p2,.int .i64 r.o1,.int .i64 r.o2,.bool r.resh,.bool r.keeps,mk,ct]
def opV (r:OpD)(mk ct:Value):Value:=.agg (rC r mk ct)
def Made0 (r:OpD) (mf cf:FuncId) (cv:Value) (w:World) (e:Ending) (w':World):Prop:=∃ q:Nat,e=.returned (.tuple #[opV r (.func (.func mf) #[] #[]) (.func (.func cf) #[] #[.pointer (some ⟨q,0,none⟩)]),.bool true])/\w'.cell? ⟨q,0,none⟩=some cv/\q<w'.heap.size/\Grown w w'
def Made1 (r:OpD) (mf cf:FuncId) (mv cv:Value) (w:World) (e:Ending) (w':World):Prop:=∃ p q:Nat,e=.returned (.tuple #[opV r (.func (.func mf) #[] #[.pointer (some ⟨p,0,none⟩)]) (.func (.func cf) #[] #[.pointer (some ⟨q,0,none⟩)]),.bool true])/\w'.cell? ⟨p,0,none⟩=some mv/\p<w'.heap.size/\w'.cell? ⟨q,0,none⟩=some cv/\q<w'.heap.size/\Grown w w'
end Go.Proofs.YtejllmjkeefloaaGreat
namespace Go.Proofs.YtejllmjkeefloaaGreat
open Go.ChangeShapes Go.WideShapes Go.ChangeAt Go.RowKit
set_option linter.unusedVariables false
def opD (o:Int):OpD :=
 if o=1 then ⟨1,1,3,1,2,0,1,1,8,false,false⟩ else
 if o=2 then ⟨1,1,3,1,2,0,1,0,0,false,false⟩ else
 if o=3 then ⟨1,0,0,0,0,0,0,1,8,false,false⟩ else
 if o=4 then ⟨1,1,3,1,2,0,0,0,0,false,true⟩ else
 if o=5 then ⟨1,1,3,1,2,0,0,0,0,false,true⟩ else
 if o=6 then ⟨2,0,0,0,0,0,0,0,0,false,false⟩ else
 if o=7 then ⟨2,0,0,0,0,0,0,0,0,false,false⟩ else
 if o=8 then ⟨1,0,0,0,0,0,0,0,0,false,true⟩ else
 if o=9 then ⟨1,0,0,0,0,1,1,0,0,false,true⟩ else
 if o=10 then ⟨2,0,0,0,0,0,0,0,0,false,true⟩ else
 if o=11 then ⟨1,0,0,0,0,0,0,0,0,true,true⟩ else
 ⟨1,0,0,0,0,0,0,0,0,false,false⟩
def setP (r:OpD)(n:NodeD):Prop:=((r.k1<=n.k/\n.k<=r.k2)/\(r.s1<=n.stride/\n.stride<=r.s2)/\(r.p1<=n.pad/\n.pad<=r.p2)/\(r.o1<=n.out/\n.out<=r.o2))/\¬ (0<r.k2/\n.k<=n.pad)/\(r.resh=true\/(n.th=0/\n.tw=0/\n.tc=0))
def scaledP (n:NodeD):Prop:=(1<=n.mul/\n.mul<=32767)/\(0<=n.shift/\n.shift<=31)/\(-128<=n.zero/\n.zero<=127)
def takesP (r:OpD)(n:NodeD)(vs:List ValD):Prop:=(vs.length:Int)=r.vals/\(∀ j,j<vs.length->¬ (r.keeps=true/\(vs.getD j default).z≠n.zero))/\scaledP n/\setP r n
def hasOp (o:Int):Prop:=1<=o/\o<=12
noncomputable def madeS (n:NodeD)(vs:List ValD):Int×Int×Int :=
 let x:=vs.getD 0 default;let y:=vs.getD 1 default;if n.op=1 then (outI x.h n.k n.stride n.pad,outI x.w n.k n.stride n.pad,n.out) else
 if n.op=2\/n.op=4\/n.op=5 then (outI x.h n.k n.stride n.pad,outI x.w n.k n.stride n.pad,x.c) else
 if n.op=3 then (1,1,n.out) else
 if n.op=9 then (x.h+2,x.w+2,x.c) else
 if n.op=10 then (if x.h=y.h/\x.w=y.w then (x.h,x.w,x.c+y.c) else (0,0,0)) else
 if n.op=11 then (if sizeI n.th n.tw n.tc=sizeI x.h x.w x.c then (n.th,n.tw,n.tc) else (0,0,0)) else
 alikeS vs
noncomputable def wantS (n:NodeD)(x:ValD)(c:Int):Int×Int :=
 if n.op=1 then (n.k*n.k*x.c*c,c) else
 if n.op=2 then (n.k*n.k*c,c) else
 if n.op=3 then (sizeI x.h x.w x.c*c,c) else
 if n.op=12 then (256,0) else (0,0)
def mayV (x:ValD):Prop:=mayS x.h x.w x.c
def mayT (s:Int×Int×Int):Prop:=mayS s.1 s.2.1 s.2.2
def nearB (b:Int):Prop:=-16777216<=b/\b<=16777216
open Classical in
/-- P3.1: the error's number. -/
noncomputable def valueE (n:NodeD)(vs:List ValD):Int :=
 if ¬ (hasOp n.op/\takesP (opD n.op) n vs) then 11 else
 if ¬ ∀ j,j<vs.length->mayV (vs.getD j default) then 10 else
 if ¬ mayT (madeS n vs) then 10 else
 if ¬ ((n.ws.length:Int)=(wantS n (vs.getD 0 default) (madeS n vs).2.2).1/\(n.bs.length:Int)=(wantS n (vs.getD 0 default) (madeS n vs).2.2).2/\∀ j,j<n.bs.length->nearB (n.bs.getD j 0)) then 12 else 0
open Classical in
/-- P3.1: the value. -/
noncomputable def valueV (n:NodeD)(vs:List ValD):ValD:=if valueE n vs=0 then ⟨(madeS n vs).1,(madeS n vs).2.1,(madeS n vs).2.2,n.zero⟩ else ⟨0,0,0,0⟩
end Go.Proofs.YtejllmjkeefloaaGreat
