/- api's values, nodes and graphs as plain data: how they lie in memory; from an argument's reading to that. model in numbers: the bytes of a graph, and how bytes are read; what was put is read as it was, what is read is put as the same bytes. -/
import Derived.Test.YtejllmjkeefloaaGreatChecked
import Derived.OpenShut
import Derived.ChangeSlices
import Derived.Deep.Slices
import Derived.Deep.Strs
import Derived.Lib.SmallJoins
import Derived.Carry
import Derived.Below
import Derived.Test.YtejllmjkeefloaaGreatMWorld
namespace Go.Proofs.YtejllmjkeefloaaGreat
open Go.ChangeShapes Go.WideShapes Go.ChangeAt Go.RowKit
set_option maxRecDepth 20000
structure ValD where
 h:Int
 w:Int
 c:Int
 z:Int
deriving Inhabited
structure NodeD where
 op:Int
 ins:List Int
 k:Int
 stride:Int
 pad:Int
 out:Int
 mul:Int
 shift:Int
 zero:Int
 th:Int
 tw:Int
 tc:Int
 ws:List Int
 bs:List Int
deriving Inhabited
abbrev nC (n:NodeD) (vi vw vb:Value):Array Value:=#[.int .i64 n.op,vi,.int .i64 n.k,.int .i64 n.stride,.int .i64 n.pad,.int .i64 n.out,.int .i64 n.mul,.int .i64 n.shift,.int .i64 n.zero,.int .i64 n.th,.int .i64 n.tw,.int .i64 n.tc,vw,vb]
structure GraphD where
 ins:List ValD
 nodes:List NodeD
 outs:List Int
deriving Inhabited
def IsNums (k:IntKind)(w:World)(v:Value)(xs:List Int):Prop :=
 ∃ (A:Option Addr) (cap:Nat),v=.slice A xs.length cap/\xs.length<=cap/\cap<=maxLen/\(A=none->cap=0)/\(∀ x∈xs,(Lit.int k x).wf=true) /\
  (0<xs.length->∃ b off,A=some ⟨b,off,none⟩/\b<w.heap.size/\∀ i,i<xs.length->w.cell? ⟨b,off+i,none⟩=some (.int k (xs.getD i 0)))
def ValAt (w:World)(b off:Nat)(x:ValD):Prop :=
 w.cell? ⟨b,off,none⟩=some (.int .i64 x.h)/\w.cell? ⟨b,off+1,none⟩=some (.int .i64 x.w)/\w.cell? ⟨b,off+2,none⟩=some (.int .i64 x.c)/\w.cell? ⟨b,off+3,none⟩=some (.int .i64 x.z)
def ValWf (x:ValD):Prop:=(Lit.int .i64 x.h).wf=true/\(Lit.int .i64 x.w).wf=true/\(Lit.int .i64 x.c).wf=true/\(Lit.int .i64 x.z).wf=true
def IsVals (w:World)(v:Value)(xs:List ValD):Prop :=
 ∃ (A:Option Addr) (cap:Nat),v=.slice A xs.length cap/\xs.length<=cap/\cap<=maxLen/\(A=none->cap=0)/\(∀ x∈xs,ValWf x) /\
  (0<xs.length->∃ b off,A=some ⟨b,off,none⟩/\b<w.heap.size/\∀ i,i<xs.length->ValAt w b (off+i*4) (xs.getD i default))
theorem cell_lt {w:World}{b off:Nat}{v:Value}(h:w.cell? ⟨b,off,none⟩=some v):b<w.heap.size:=by
 unfold World.cell? at h;by_cases c:b<w.heap.size
 ·exact c
 ·simp [Array.getElem?_eq_none (Nat.le_of_not_lt c)] at h
variable {H:Type} {enc:TypeId×Value->H} {W:World}
theorem open_nums {k:IntKind}{t e:TypeId}{fuel:Nat}{v:Value}{x:DataW H×List MemPlace}(ht:Tryz.prog.underlying t=some (.slice e))(he:Tryz.prog.underlying e=some (.int k))(hc:Tryz.prog.cellsOf e=1)
  (h:DataW.trod enc Tryz.prog W 0 (fun _=>true) true fuel t [v]=some x):∃ xs,IsNums k W v xs:=by
 rcases open_ints ht he hc h with ⟨hcs,_⟩|⟨a,len,cap,zs,hcs,_,hl,hm,hz,_,hcell,hwf⟩
 ·simp at hcs;exact⟨[],none,0,by simpa using hcs,by simp,by simp,fun _=>rfl,by simp,by simp⟩
 ·simp at hcs hz;have hlen:(zs.take len).length=len:=by rw [List.length_take];omega
  refine⟨zs.take len,some a,cap,by rw [hlen,hcs],by omega,hm,(fun h=>by cases h),fun x hx=>hwf x (List.mem_of_mem_take hx),fun hp=>?_⟩;rw [hlen] at hp;obtain⟨b,off,spot⟩:=a;have h0:=hcell 0 (by omega);have hs:spot=none:=by simpa [Addr.add] using World.cell?_spot h0
  subst hs;refine⟨b,off,rfl,cell_lt (by rw [add_plain] at h0;exact h0),fun i hi=>?_⟩;rw [hlen] at hi;have hi':=hcell i (by omega);rw [add_plain] at hi';rw [hi'];simp [List.getD,hi]
theorem three {α:Type}{l:List α}(h:l.length=3):∃ a b c,l=[a,b,c]:=by
 match l,h with
 | [a,b,c],_=>exact⟨a,b,c,rfl⟩
def NodeWf (n:NodeD):Prop:=(Lit.int .i64 n.op).wf=true/\(Lit.int .i64 n.k).wf=true/\(Lit.int .i64 n.stride).wf=true/\(Lit.int .i64 n.pad).wf=true/\(Lit.int .i64 n.out).wf=true/\(Lit.int .i64 n.mul).wf=true/\(Lit.int .i64 n.shift).wf=true/\(Lit.int .i64 n.zero).wf=true /\
 (Lit.int .i64 n.th).wf=true/\(Lit.int .i64 n.tw).wf=true/\(Lit.int .i64 n.tc).wf=true
def nodeCells (n:NodeD)(vi vw vb:Value):List Value:=[.int .i64 n.op,vi,.int .i64 n.k,.int .i64 n.stride,.int .i64 n.pad,.int .i64 n.out,.int .i64 n.mul,.int .i64 n.shift,.int .i64 n.zero,.int .i64 n.th,.int .i64 n.tw,.int .i64 n.tc,vw,vb]
def NodeIn (w:World)(n:NodeD)(vi vw vb:Value):Prop:=IsNums .i64 w vi n.ins/\IsNums .i8 w vw n.ws/\IsNums .i32 w vb n.bs
def NodeAt (w:World)(b off:Nat)(n:NodeD):Prop :=
 ∃ vi vw vb:Value,NodeIn w n vi vw vb/\∀ j,j<14->w.cell? ⟨b,off+j,none⟩=(nodeCells n vi vw vb)[j]?
def IsNodes (w:World)(v:Value)(ns:List NodeD):Prop :=
 ∃ (A:Option Addr) (cap:Nat),v=.slice A ns.length cap/\ns.length<=cap/\cap<=maxLen/\(A=none->cap=0)/\(∀ n∈ns,NodeWf n) /\
  (0<ns.length->∃ b off,A=some ⟨b,off,none⟩/\b<w.heap.size/\∀ i,i<ns.length->NodeAt w b (off+i*14) (ns.getD i default))
def IsGraph (w:World)(v:Value)(g:GraphD):Prop :=
 ∃ a b c:Value,v=.agg #[a,b,c]/\IsVals w a g.ins/\IsNodes w b g.nodes/\IsNums .i64 w c g.outs
def IsNode (w:World)(v:Value)(n:NodeD):Prop:=∃ vi vw vb:Value,v=.agg ⟨nodeCells n vi vw vb⟩/\NodeIn w n vi vw vb/\NodeWf n
/-! ### Nothing of what was there has turned (new blocks may be written, and may be frozen: an append's). -/
def Past (w w':World):Prop:=w'.os=w.os/\w'.output=w.output/\w.heap.size<=w'.heap.size/\∀ k,k<w.heap.size->w'.heap[k]? = w.heap[k]?
theorem Past.refl (w:World):Past w w:=⟨rfl,rfl,Nat.le_refl _,fun _ _=>rfl⟩
theorem Past.trans {a b c:World}(h:Past a b)(k:Past b c):Past a c :=
 ⟨k.1.trans h.1,k.2.1.trans h.2.1,Nat.le_trans h.2.2.1 k.2.2.1,fun i hi=>(k.2.2.2 i (Nat.lt_of_lt_of_le hi h.2.2.1)).trans (h.2.2.2 i hi)⟩
theorem Past.drew {a w:World}(h:Past a w):Past a w.drew:=h
theorem Past.alloc {a w:World}(h:Past a w)(o:Obj):Past a (w.alloc o) :=
 ⟨h.1,h.2.1,by simp;have:=h.2.2.1;omega,fun k hk=>(Below.heap_alloc w o k (Nat.lt_of_lt_of_le hk h.2.2.1)).trans (h.2.2.2 k hk)⟩
theorem Past.setCell {a w:World}(h:Past a w){p:Addr}(hp:a.heap.size<=p.block)(u:Value):Past a (w.setCell p u):=by
 obtain⟨h1,h2,h3,h4⟩:=h;have b:=Below.setCell (B:=a.heap.size) (Below.refl _ w) hp u;exact⟨b.os.trans h1,b.output.trans h2,Nat.le_trans h3 b.size,fun k hk=>(b.block k hk).trans (h4 k hk)⟩
theorem Past.grownBy {a w w':World}{row:Option Nat}(h:Past a w)(g:w.grownBy w' row)(hr:∀ k,row=some k->a.heap.size<=k):Past a w' :=
 ⟨g.os.trans h.1,g.output.trans h.2.1,Nat.le_trans h.2.2.1 g.size,fun k hk=>(g.block k (Nat.lt_of_lt_of_le hk h.2.2.1) (fun e=>by have:=hr k e.symm;omega)).trans (h.2.2.2 k hk)⟩
theorem Past.cell {w w':World}(h:Past w w'){p:Addr}(hp:p.block<w.heap.size):w'.cell? p=w.cell? p:=World.cell?_of_block (h.2.2.2 p.block hp)
theorem Past.free {w w':World}(h:Past w w'){p:Addr}(hp:p.block<w.heap.size):w'.frozen? p=w.frozen? p:=World.frozen?_of_block (h.2.2.2 p.block hp)
theorem Past.frame {w w':World}(h:Past w w')(may:MemPlace->Prop):w.keptBut w' may:=by
 refine⟨h.1,h.2.1,fun i hi=>?_⟩;rw [h.2.2.2 i hi];split <;> simp_all
theorem Past.same {w w':World}(h:Past w w'){p:MemPlace}(hp:p.block<w.heap.size):w.sameAt w' p:=by
 cases p with
 | cell b o=>exact World.cell?_of_block (w:=w) (h.2.2.2 b hp)
 | map b=>exact h.2.2.2 b hp
theorem Grown.past {w w':World}(h:Grown w w'):Past w w':=by
 refine⟨h.1.1,h.1.2.1,h.2.2,fun b hp=>?_⟩;have k:=h.1.2.2 b hp;have hp':b<w.heap.size:=hp;cases e1:w.heap[b]? with
 | none=>rw [Array.getElem?_eq_none_iff] at e1;omega
 | some o =>
  rw [e1] at k;cases e2:w'.heap[b]? with
  | none=>rw [e2] at k;cases o <;> simp at k
  | some o' =>
   rw [e2] at k;cases o with
   | cells c t fr =>
    cases o' with
    | cells c' t' fr' =>
     obtain⟨h1,h2,h3,h4⟩:=k;have:c'=c:=Array.ext_getElem? (fun i=>h4 i (fun f=>f));subst h1 h2 this;rfl
    | map es clock=>simp at k
    | _=>simp_all
   | map es clock=>cases o' <;> simp_all
   | _=>cases o' <;> simp_all
/-! ### What lies in old blocks lies there in a world that has grown. -/
theorem IsNums.grow {k:IntKind}{w w':World}{v:Value}{xs:List Int}(h:IsNums k w v xs)(g:Past w w'):IsNums k w' v xs:=by
 obtain⟨A,cap,h1,h2,h3,h4,h5,h6⟩:=h;refine⟨A,cap,h1,h2,h3,h4,h5,fun hp=>?_⟩;obtain⟨b,off,e,hb,hc⟩:=h6 hp;exact⟨b,off,e,Nat.lt_of_lt_of_le hb g.2.2.1,fun i hi=>(g.cell hb).trans (hc i hi)⟩
theorem ValAt.grow {w w':World}{b off:Nat}{x:ValD}(h:ValAt w b off x)(hb:b<w.heap.size)(g:Past w w'):ValAt w' b off x:=by
 obtain⟨h1,h2,h3,h4⟩:=h;exact⟨(g.cell hb).trans h1,(g.cell hb).trans h2,(g.cell hb).trans h3,(g.cell hb).trans h4⟩
theorem IsVals.grow {w w':World}{v:Value}{xs:List ValD}(h:IsVals w v xs)(g:Past w w'):IsVals w' v xs:=by
 obtain⟨A,cap,h1,h2,h3,h4,h5,h6⟩:=h;refine⟨A,cap,h1,h2,h3,h4,h5,fun hp=>?_⟩;obtain⟨b,off,e,hb,hc⟩:=h6 hp;exact⟨b,off,e,Nat.lt_of_lt_of_le hb g.2.2.1,fun i hi=>(hc i hi).grow hb g⟩
theorem NodeIn.grow {w w':World}{n:NodeD}{vi vw vb:Value}(h:NodeIn w n vi vw vb)(g:Past w w'):NodeIn w' n vi vw vb:=⟨h.1.grow g,h.2.1.grow g,h.2.2.grow g⟩
theorem NodeAt.grow {w w':World}{b off:Nat}{n:NodeD}(h:NodeAt w b off n)(hb:b<w.heap.size)(g:Past w w'):NodeAt w' b off n:=by
 obtain⟨vi,vw,vb,h1,h2⟩:=h;exact⟨vi,vw,vb,h1.grow g,fun j hj=>(g.cell hb).trans (h2 j hj)⟩
theorem IsNodes.grow {w w':World}{v:Value}{ns:List NodeD}(h:IsNodes w v ns)(g:Past w w'):IsNodes w' v ns:=by
 obtain⟨A,cap,h1,h2,h3,h4,h5,h6⟩:=h;refine⟨A,cap,h1,h2,h3,h4,h5,fun hp=>?_⟩;obtain⟨b,off,e,hb,hc⟩:=h6 hp;exact⟨b,off,e,Nat.lt_of_lt_of_le hb g.2.2.1,fun i hi=>(hc i hi).grow hb g⟩
theorem IsNode.grow {w w':World}{v:Value}{n:NodeD}(h:IsNode w v n)(g:Past w w'):IsNode w' v n:=by
 obtain⟨vi,vw,vb,h1,h2,h3⟩:=h;exact⟨vi,vw,vb,h1,h2.grow g,h3⟩
theorem IsGraph.grow {w w':World}{v:Value}{g:GraphD}(h:IsGraph w v g)(k:Past w w'):IsGraph w' v g:=by
 obtain⟨a,b,c,h1,h2,h3,h4⟩:=h;exact⟨a,b,c,h1,h2.grow k,h3.grow k,h4.grow k⟩
/-! ### An argument reads behind the call as it did. -/
theorem laidOut:laidOutB Tryz.prog=true:=by kernel_rfl
theorem stays {H:Type}{enc:TypeId×Value->H}{t:TypeId}(hr:Tryz.prog.readableRec t=true)(hrow:t<Tryz.prog.types.size){W W':World}{sp:Nat->Bool}{v:Value}{d:DataW H}{ps:List MemPlace}
  (h:DataW.Trod enc Tryz.prog W 0 (fun _=>true) true t v d ps) (g:Past W W') (hlt:∀ p∈ps,p.block<W.heap.size) (hs:∀ p∈ps,sp p.block=true):DataW.Trod enc Tryz.prog W' 0 sp true t v d ps :=
 WideElems.Trod_stays laidOut hr hrow h (fun p hp=>g.same (hlt p hp)) hs
end Go.Proofs.YtejllmjkeefloaaGreat
namespace Go.Proofs.YtejllmjkeefloaaGreat
open Go.ChangeShapes Go.WideShapes Go.ChangeAt Go.RowKit
set_option linter.unusedVariables false
def numB:Nat->Int->List Int
 | 0,_=>[]
 | k+1,x=>x / 256 ^ k%256 :: numB k x
def numsB (k:Nat)(xs:List Int):List Int:=xs.flatMap (numB k)
def listB (many k:Nat)(xs:List Int):List Int:=numsB many [(xs.length:Int)]++numsB k xs
def nodeB (n:NodeD):List Int :=
 numsB 1 [n.op]++listB 1 1 n.ins++numsB 1 [n.k,n.stride,n.pad,n.out]++numsB 2 [n.mul]++numsB 1 [n.shift,n.zero,n.th,n.tw,n.tc]++listB 2 1 n.ws++listB 1 4 n.bs
def valB (v:ValD):List Int:=numsB 1 [v.h,v.w,v.c,v.z]
def graphB (g:GraphD):List Int :=
 numsB 1 [(g.ins.length:Int)]++g.ins.flatMap valB++numsB 1 [(g.nodes.length:Int)]++g.nodes.flatMap nodeB++listB 1 1 g.outs
theorem numB_len (k:Nat)(x:Int):(numB k x).length=k:=by
 induction k with
 | zero=>rfl
 | succ k ih=>simp [numB,ih]
theorem numsB_len (k:Nat)(xs:List Int):(numsB k xs).length=k*xs.length:=by
 induction xs with
 | nil=>simp [numsB]
 | cons x xs ih=>simp only [numsB,List.flatMap_cons,List.length_append,numB_len,List.length_cons] at ih ⊢;rw [ih];rw [Nat.mul_add];omega
theorem listB_len (m k:Nat)(xs:List Int):(listB m k xs).length=m+k*xs.length:=by simp [listB,numsB_len]
theorem nodeB_len (n:NodeD):(nodeB n).length=16+n.ins.length+n.ws.length+4*n.bs.length:=by
 simp only [nodeB,List.length_append,numsB_len,listB_len,List.length_cons,List.length_nil];omega
theorem valB_len (v:ValD):(valB v).length=4:=by simp [valB,numsB_len]
def nodesLen (ns:List NodeD):Nat:=(ns.map fun n=>16+n.ins.length+n.ws.length+4*n.bs.length).sum
theorem graphB_len (g:GraphD):(graphB g).length=3+4*g.ins.length+g.outs.length+nodesLen g.nodes:=by
 have h1:(g.ins.flatMap valB).length=4*g.ins.length:=by
  induction g.ins with
  | nil=>rfl
  | cons v vs ih=>simp only [List.flatMap_cons,List.length_append,valB_len,ih,List.length_cons];omega
 have h2:(g.nodes.flatMap nodeB).length=nodesLen g.nodes:=by
  induction g.nodes with
  | nil=>rfl
  | cons v vs ih=>simp only [nodesLen,List.flatMap_cons,List.length_append,nodeB_len,List.map_cons,List.sum_cons] at ih ⊢;omega
 simp only [graphB,List.length_append,numsB_len,listB_len,List.length_cons,List.length_nil,h1,h2];omega
def bytesP (l:List Int):Prop:=∀ c∈l,0<=c/\c<256
theorem bytesP_app {a b:List Int}(ha:bytesP a)(hb:bytesP b):bytesP (a++b):=fun c hc=>by
 rcases List.mem_append.1 hc with h|h
 ·exact ha c h
 ·exact hb c h
theorem numB_bytes (k:Nat)(x:Int):bytesP (numB k x):=by
 induction k with
 | zero=>intro c hc;simp [numB] at hc
 | succ k ih =>
  intro c hc;simp only [numB,List.mem_cons] at hc;rcases hc with rfl|hc
  ·omega
  ·exact ih c hc
theorem flat_bytes {α:Type}{f:α->List Int}{l:List α}(h:∀ x,bytesP (f x)):bytesP (l.flatMap f):=by
 intro c hc;obtain⟨x,_,hx⟩:=List.mem_flatMap.1 hc;exact h x c hx
theorem numsB_bytes (k:Nat)(xs:List Int):bytesP (numsB k xs):=flat_bytes (numB_bytes k)
theorem listB_bytes (m k:Nat) (xs:List Int):bytesP (listB m k xs):=bytesP_app (numsB_bytes _ _) (numsB_bytes _ _)
theorem nodeB_bytes (n:NodeD):bytesP (nodeB n):=by
 unfold nodeB;repeat' with_reducible apply bytesP_app
 all_goals first|exact numsB_bytes _ _|exact listB_bytes _ _ _
theorem graphB_bytes (g:GraphD):bytesP (graphB g):=by
 unfold graphB;repeat' with_reducible apply bytesP_app
 all_goals first|exact numsB_bytes _ _|exact listB_bytes _ _ _|exact flat_bytes (fun _=>numsB_bytes _ _)|exact flat_bytes nodeB_bytes
/-! ### Reading. -/
structure Rd where
 rest:List Int
 short:Bool
def pieceR (k:Nat)(s:Rd):List Int×Rd:=if s.rest.length<k then ([],⟨[],true⟩) else (s.rest.take k,⟨s.rest.drop k,s.short⟩)
def foldB (l:List Int):Int:=l.foldl (fun x c=>256*x+c) 0
def numR (k:Nat)(s:Rd):Int×Rd:=(foldB (pieceR k s).1,(pieceR k s).2)
def smallR (s:Rd):Int×Rd:=(IntKind.i8.wrap (numR 1 s).1,(numR 1 s).2)
def wideR (s:Rd):Int×Rd:=(IntKind.i32.wrap (numR 4 s).1,(numR 4 s).2)
def goR {α:Type}(one:Rd->α×Rd):Nat->List α->Rd->List α×Rd
 | 0,l,s=>(l,s)
 | n+1,l,s=>if (one s).2.short then ([],(one s).2) else goR one n (l++[(one s).1]) (one s).2
def listR {α:Type}(many:Nat)(one:Rd->α×Rd)(s:Rd):List α×Rd:=goR one (numR many s).1.toNat [] (numR many s).2
def shapeR (s:Rd):(Int×Int×Int)×Rd :=
 (((numR 1 s).1,(numR 1 (numR 1 s).2).1,(numR 1 (numR 1 (numR 1 s).2).2).1),(numR 1 (numR 1 (numR 1 s).2).2).2)
def valR (s:Rd):ValD×Rd :=
 (⟨(shapeR s).1.1,(shapeR s).1.2.1,(shapeR s).1.2.2,(smallR (shapeR s).2).1⟩,(smallR (shapeR s).2).2)
def nodeR (s:Rd):NodeD×Rd :=
 let a:=numR 1 s;let b:=listR 1 (numR 1) a.2;let c:=numR 1 b.2;let d:=numR 1 c.2;let e:=numR 1 d.2;let f:=numR 1 e.2;let g:=numR 2 f.2;let h:=numR 1 g.2;let i:=smallR h.2;let j:=shapeR i.2;let k:=listR 2 smallR j.2;let l:=listR 1 wideR k.2;(⟨a.1,b.1,c.1,d.1,e.1,f.1,g.1,h.1,i.1,j.1.1,j.1.2.1,j.1.2.2,k.1,l.1⟩,l.2)
def graphR (s:Rd):GraphD×Rd :=
 let a:=listR 1 valR s;let b:=listR 1 nodeR a.2;let c:=listR 1 (numR 1) b.2;(⟨a.1,b.1,c.1⟩,c.2)
structure Inv {α:Type} (one:Rd->α×Rd) (e:α->List Int) (ok:α->Prop):Prop where
 forth:∀ x rest,ok x->one ⟨e x++rest,false⟩=(x,⟨rest,false⟩)
 back:∀ s x t,one s=(x,t)->bytesP s.rest->t.short=false->s.short=false/\ok x/\s.rest=e x++t.rest
theorem Inv.at {α:Type}{one:Rd->α×Rd}{e:α->List Int}{ok:α->Prop}(h:Inv one e ok)(s:Rd)(hb:bytesP s.rest)(ht:(one s).2.short=false):s.short=false/\ok (one s).1/\s.rest=e (one s).1++(one s).2.rest :=
 h.back s (one s).1 (one s).2 (Prod.eta _).symm hb ht
theorem Inv.of {α:Type}{one:Rd->α×Rd}{e:α->List Int}{ok:α->Prop}(h1:∀ x rest,ok x->one ⟨e x++rest,false⟩=(x,⟨rest,false⟩))
  (h2:∀ s,bytesP s.rest->(one s).2.short=false->s.short=false/\ok (one s).1/\s.rest=e (one s).1++(one s).2.rest):Inv one e ok :=
 ⟨h1,fun s x t h hb ht=>by have:=h2 s hb (by rw [h];exact ht);rw [h] at this;exact this⟩
theorem bytesP_tail {a b:List Int}(h:bytesP (a++b)):bytesP b:=fun c hc=>h c (List.mem_append_right _ hc)
theorem fold_num (k:Nat)(x a:Int):(numB k x).foldl (fun x c=>256*x+c) a=a*256 ^ k+x%256 ^ k:=by
 induction k generalizing a with
 | zero=>simp [numB]
 | succ k ih =>
  simp only [numB,List.foldl_cons];rw [ih];have hp:(0:Int)<256 ^ k:=Int.pow_pos (by omega);have e1:x%256 ^ (k+1)=256 ^ k*(x / 256 ^ k%256)+x%256 ^ k:=by
   rw [Int.pow_succ];have h1:=Int.emod_add_mul_ediv x (256 ^ k);have h2:=Int.emod_add_mul_ediv (x / 256 ^ k) 256;have h3:x=256 ^ k*256*(x / 256 ^ k / 256)+(256 ^ k*(x / 256 ^ k%256)+x%256 ^ k):=by
    conv=>lhs;rw [<- h1,<- h2]
    rw [Int.mul_add,Int.mul_assoc];try omega
   have b1:=Int.emod_nonneg x (Int.ne_of_gt hp);have b2:=Int.emod_lt_of_pos x hp;have b3:0<=x / 256 ^ k%256:=by omega
   have b4:x / 256 ^ k%256<=255:=by omega
   have b5:0<=256 ^ k*(x / 256 ^ k%256):=Int.mul_nonneg (Int.le_of_lt hp) b3;have b6:256 ^ k*(x / 256 ^ k%256)<=256 ^ k*255:=Int.mul_le_mul_of_nonneg_left b4 (Int.le_of_lt hp);have b7:(0:Int)<=256 ^ k*(x / 256 ^ k%256)+x%256 ^ k:=by omega
   have b8:256 ^ k*(x / 256 ^ k%256)+x%256 ^ k<256 ^ k*256:=by omega
   conv=>lhs;rw [h3]
   rw [Int.add_comm,Int.add_mul_emod_self_left];exact Int.emod_eq_of_lt b7 b8
  rw [e1,Int.pow_succ,Int.add_mul,Int.mul_comm 256 a,Int.mul_assoc,Int.mul_comm 256 (256 ^ k),Int.mul_comm (x / 256 ^ k%256) (256 ^ k)];omega
theorem num_fold (l:List Int)(a:Int)(hl:bytesP l):numB l.length (l.foldl (fun x c=>256*x+c) a)=l/\l.foldl (fun x c=>256*x+c) a / 256 ^ l.length=a/\0<=l.foldl (fun x c=>256*x+c) a-a*256 ^ l.length/\l.foldl (fun x c=>256*x+c) a-a*256 ^ l.length<256 ^ l.length:=by
 induction l generalizing a with
 | nil=>simp [numB]
 | cons c l ih =>
  obtain⟨c0,c1⟩:=hl c (List.mem_cons_self ..);obtain⟨i1,i2,i3,i4⟩:=ih (256*a+c) (fun d hd=>hl d (List.mem_cons_of_mem _ hd));simp only [List.foldl_cons,List.length_cons,numB];have hp:(0:Int)<256 ^ l.length:=Int.pow_pos (by omega);refine⟨?_,?_,?_,?_⟩
  ·rw [i1,i2];congr 1;omega
  ·rw [Int.pow_succ,<- Int.ediv_ediv_of_nonneg (Int.le_of_lt hp),i2];omega
  ·rw [Int.pow_succ];rw [Int.add_mul] at i3;have e:a*(256 ^ l.length*256)=256*a*256 ^ l.length:=by rw [Int.mul_comm (256 ^ l.length) 256,<- Int.mul_assoc,Int.mul_comm a 256]
   have:0<=c*256 ^ l.length:=Int.mul_nonneg c0 (Int.le_of_lt hp);rw [e];omega
  ·rw [Int.pow_succ];rw [Int.add_mul] at i4;have e:a*(256 ^ l.length*256)=256*a*256 ^ l.length:=by rw [Int.mul_comm (256 ^ l.length) 256,<- Int.mul_assoc,Int.mul_comm a 256]
   have:c*256 ^ l.length<=255*256 ^ l.length:=Int.mul_le_mul_of_nonneg_right (by omega) (Int.le_of_lt hp);rw [e];omega
theorem pieceR_app (k:Nat)(l rest:List Int)(b:Bool)(h:l.length=k):pieceR k ⟨l++rest,b⟩=(l,⟨rest,b⟩):=by
 unfold pieceR;subst h;rw [if_neg (by simp)];simp
theorem numR_app (k:Nat)(x:Int)(rest:List Int)(b:Bool):numR k ⟨numB k x++rest,b⟩=(x%256 ^ k,⟨rest,b⟩):=by
 unfold numR;rw [pieceR_app k _ _ _ (numB_len k x)];simp [foldB,fold_num]
theorem numR_back (k:Nat)(s:Rd)(x:Int)(t:Rd)(h:numR k s=(x,t))(hb:bytesP s.rest)(ht:t.short=false):s.short=false/\(0<=x/\x<256 ^ k)/\s.rest=numB k x++t.rest:=by
 unfold numR pieceR at h;split at h
 ·simp only [Prod.mk.injEq] at h;rw [<- h.2] at ht;cases ht
 ·rename_i hl;simp only [Prod.mk.injEq] at h;obtain⟨rfl,rfl⟩:=h;have hl2:(s.rest.take k).length=k:=by simp;omega
  obtain⟨i1,i2,i3,i4⟩:=num_fold (s.rest.take k) 0 (fun c hc=>hb c (List.mem_of_mem_take hc));rw [hl2] at i1 i3 i4;refine⟨ht,⟨by simpa [foldB] using i3,by simpa [foldB] using i4⟩,?_⟩;unfold foldB;rw [i1];simp
theorem numR_inv (k:Nat):Inv (numR k) (numB k) (fun x=>0<=x/\x<256 ^ k) :=
 ⟨fun x rest h=>by rw [numR_app,Int.emod_eq_of_lt h.1 h.2],fun s x t h hb ht=>numR_back k s x t h hb ht⟩
theorem numB_mod (k:Nat)(x y:Int)(h:x%256 ^ k=y%256 ^ k):numB k x=numB k y:=by
 have hx:=(numR_app k x [] false)
 have hy:=(numR_app k y [] false)
 have bx:=numR_back k _ _ _ hx (by simpa using numB_bytes k x) rfl;have by':=numR_back k _ _ _ hy (by simpa using numB_bytes k y) rfl
 simp only [List.append_nil] at bx by'
 rw [bx.2.2,by'.2.2,h]
theorem wrap8_mod (x:Int):IntKind.i8.wrap x%256=x%256:=by simp only [IntKind.wrap,IntKind.bits,IntKind.signed];simp;split <;> omega
theorem wrap8_bd (x:Int) : -128<=IntKind.i8.wrap x/\IntKind.i8.wrap x<128:=by simp only [IntKind.wrap,IntKind.bits,IntKind.signed];simp;split <;> omega
theorem wrap8_id (x:Int)(h : -128<=x/\x<128):IntKind.i8.wrap (x%256)=x:=by simp only [IntKind.wrap,IntKind.bits,IntKind.signed];simp;split <;> omega
theorem wrap32_mod (x:Int):IntKind.i32.wrap x%4294967296=x%4294967296:=by simp only [IntKind.wrap,IntKind.bits,IntKind.signed];simp;split <;> omega
theorem wrap32_bd (x:Int) : -2147483648<=IntKind.i32.wrap x/\IntKind.i32.wrap x<2147483648:=by simp only [IntKind.wrap,IntKind.bits,IntKind.signed];simp;split <;> omega
theorem wrap32_id (x:Int)(h : -2147483648<=x/\x<2147483648):IntKind.i32.wrap (x%4294967296)=x:=by simp only [IntKind.wrap,IntKind.bits,IntKind.signed];simp;split <;> omega
theorem numR_back' (k:Nat)(s:Rd)(hb:bytesP s.rest)(ht:(numR k s).2.short=false):s.short=false/\(0<=(numR k s).1/\(numR k s).1<256 ^ k)/\s.rest=numB k (numR k s).1++(numR k s).2.rest:=numR_back k s (numR k s).1 (numR k s).2 (by rfl) hb ht
theorem smallR_inv:Inv smallR (numB 1) (fun x=>-128<=x/\x<128):=by
 constructor
 ·intro x rest h;unfold smallR;rw [numR_app];simp only [Int.reducePow];rw [wrap8_id x h]
 ·intro s x t h hb ht;unfold smallR at h;simp only [Prod.mk.injEq] at h;obtain ⟨rfl,rfl⟩:=h;obtain ⟨h1,h2,h3⟩:=numR_back' 1 s hb ht;refine ⟨h1,wrap8_bd _,?_⟩;rw [h3,numB_mod 1 (IntKind.i8.wrap (numR 1 s).1) (numR 1 s).1 (by simpa using wrap8_mod _)]
theorem wideR_inv:Inv wideR (numB 4) (fun x=>-2147483648<=x/\x<2147483648):=by
 constructor
 ·intro x rest h;unfold wideR;rw [numR_app];simp only [Int.reducePow];rw [wrap32_id x h]
 ·intro s x t h hb ht;unfold wideR at h;simp only [Prod.mk.injEq] at h;obtain ⟨rfl,rfl⟩:=h;obtain ⟨h1,h2,h3⟩:=numR_back' 4 s hb ht;refine ⟨h1,wrap32_bd _,?_⟩;rw [h3,numB_mod 4 (IntKind.i32.wrap (numR 4 s).1) (numR 4 s).1 (by simpa using wrap32_mod _)]
theorem goR_forth {α:Type}{one:Rd->α×Rd}{e:α->List Int}{ok:α->Prop}(h:Inv one e ok)(xs acc:List α)(rest:List Int)(hx:∀ x∈xs,ok x):goR one xs.length acc ⟨xs.flatMap e++rest,false⟩=(acc++xs,⟨rest,false⟩):=by
 induction xs generalizing acc with
 | nil=>simp [goR]
 | cons x xs ih =>
  have:=h.forth x (xs.flatMap e++rest) (hx x (List.mem_cons_self ..));simp only [List.flatMap_cons,List.length_cons,goR,List.append_assoc,this];rw [if_neg (by simp),ih _ (fun y hy=>hx y (List.mem_cons_of_mem _ hy))];simp
theorem goR_back {α:Type}{one:Rd->α×Rd}{e:α->List Int}{ok:α->Prop}(h:Inv one e ok)(n:Nat)(acc:List α)(s:Rd)(l:List α)(t:Rd)(hg:goR one n acc s=(l,t))(hb:bytesP s.rest)(ht:t.short=false) :
  s.short=false/\∃ xs,l=acc++xs/\xs.length=n/\(∀ x∈xs,ok x)/\s.rest=xs.flatMap e++t.rest:=by
 induction n generalizing acc s with
 | zero =>
  simp only [goR,Prod.mk.injEq] at hg;obtain⟨rfl,rfl⟩:=hg;exact⟨ht,[],by simp,rfl,by simp,by simp⟩
 | succ n ih =>
  simp only [goR] at hg;split at hg
  ·rename_i hc;simp only [Prod.mk.injEq] at hg;rw [<- hg.2,hc] at ht;cases ht
  ·rename_i hc;obtain⟨h1,h2,h3⟩:=h.back s _ _ rfl hb (by simpa using hc);rw [h3] at hb;obtain⟨_,xs,k1,k2,k3,k4⟩:=ih _ _ hg (bytesP_tail hb);refine⟨h1,(one s).1 :: xs,by simp [k1],by simp [k2],?_,by rw [h3,k4];simp⟩;intro x hx;rcases List.mem_cons.1 hx with rfl|hx
   ·exact h2
   ·exact k3 x hx
theorem listR_inv {α:Type} {one:Rd->α×Rd} {e:α->List Int} {ok:α->Prop} (h:Inv one e ok) (many:Nat):Inv (listR many one) (fun xs=>numB many xs.length++xs.flatMap e) (fun xs=>(xs.length:Int)<256 ^ many/\∀ x∈xs,ok x):=by
 constructor
 ·intro xs rest hx;unfold listR;simp only [List.append_assoc];rw [numR_app,Int.emod_eq_of_lt (by omega) hx.1];simp only [Int.toNat_natCast];rw [goR_forth h xs [] rest hx.2];simp
 ·intro s l t hs hb ht;unfold listR at hs;have hn:(numR many s).2.rest=(numR many s).2.rest:=rfl;have hb':bytesP (numR many s).2.rest:=by
   unfold numR pieceR;split
   ·intro c hc;simp at hc
   ·intro c hc;exact hb c (List.mem_of_mem_drop hc)
  obtain ⟨h1,xs,h2,h3,h4,h5⟩:=goR_back h _ _ _ _ _ hs hb' ht;obtain ⟨k1,k2,k3⟩:=numR_back' many s hb h1;simp only [List.nil_append] at h2;subst h2;have e1:((l.length:Nat):Int)=(numR many s).1:=by rw [h3];omega
  refine ⟨k1,⟨by rw [e1];exact k2.2,h4⟩,?_⟩;rw [k3,h5,e1];simp
theorem numR_rest (k:Nat)(s:Rd)(hb:bytesP s.rest):bytesP (numR k s).2.rest:=by
 unfold numR pieceR;split
 ·intro c hc;simp at hc
 ·intro c hc;exact hb c (List.mem_of_mem_drop hc)
theorem smallR_rest (s:Rd)(hb:bytesP s.rest):bytesP (smallR s).2.rest:=numR_rest 1 s hb
theorem wideR_rest (s:Rd)(hb:bytesP s.rest):bytesP (wideR s).2.rest:=numR_rest 4 s hb
theorem shapeR_rest (s:Rd)(hb:bytesP s.rest):bytesP (shapeR s).2.rest:=numR_rest 1 _ (numR_rest 1 _ (numR_rest 1 s hb))
theorem valR_rest (s:Rd)(hb:bytesP s.rest):bytesP (valR s).2.rest:=smallR_rest _ (shapeR_rest s hb)
theorem goR_rest {α:Type}{one:Rd->α×Rd}(h:∀ s:Rd,bytesP s.rest->bytesP (one s).2.rest)(n:Nat)(l:List α)(s:Rd)(hb:bytesP s.rest):bytesP (goR one n l s).2.rest:=by
 induction n generalizing l s with
 | zero=>exact hb
 | succ n ih =>
  unfold goR;split
  ·exact h s hb
  ·exact ih _ _ (h s hb)
theorem listR_rest {α:Type}{one:Rd->α×Rd}(h:∀ s:Rd,bytesP s.rest->bytesP (one s).2.rest)(many:Nat)(s:Rd)(hb:bytesP s.rest):bytesP (listR many one s).2.rest:=goR_rest h _ _ _ (numR_rest many s hb)
def okB (k:Nat)(x:Int):Prop:=0<=x/\x<256 ^ k
def okS (x:Int):Prop:=-128<=x/\x<128
def okW (x:Int):Prop:=-2147483648<=x/\x<2147483648
def okV (v:ValD):Prop:=okB 1 v.h/\okB 1 v.w/\okB 1 v.c/\okS v.z
def okL (many:Nat)(ok:Int->Prop)(xs:List Int):Prop:=(xs.length:Int)<256 ^ many/\∀ x∈xs,ok x
def okN (n:NodeD):Prop :=
 okB 1 n.op/\okL 1 (okB 1) n.ins/\okB 1 n.k/\okB 1 n.stride/\okB 1 n.pad/\okB 1 n.out/\okB 2 n.mul/\okB 1 n.shift/\okS n.zero/\okB 1 n.th/\okB 1 n.tw/\okB 1 n.tc/\okL 2 okS n.ws/\okL 1 okW n.bs
def okG (g:GraphD):Prop :=
 ((g.ins.length:Int)<256/\∀ v∈g.ins,okV v)/\((g.nodes.length:Int)<256/\∀ n∈g.nodes,okN n)/\okL 1 (okB 1) g.outs
theorem shapeR_inv:Inv shapeR (fun p=>numB 1 p.1++numB 1 p.2.1++numB 1 p.2.2) (fun p=>okB 1 p.1/\okB 1 p.2.1/\okB 1 p.2.2):=by
 constructor
 ·rintro ⟨a,b,c⟩ rest ⟨h1,h2,h3⟩;simp only at h1 h2 h3;simp only [shapeR,List.append_assoc,(numR_inv 1).forth a _ h1,(numR_inv 1).forth b _ h2,(numR_inv 1).forth c _ h3]
 ·intro s p t h hb ht;simp only [shapeR,Prod.mk.injEq] at h;obtain ⟨rfl,rfl⟩:=h;have b0:=fun (s:Rd) (hb:bytesP s.rest)=>numR_rest 1 s hb
  have b1:=b0 s hb;have b2:=b0 _ b1;obtain ⟨f3,o3,e3⟩:=numR_back' 1 _ b2 ht;obtain ⟨f2,o2,e2⟩:=numR_back' 1 _ b1 f3;obtain ⟨f1,o1,e1⟩:=numR_back' 1 _ hb f2;exact ⟨f1,⟨o1,o2,o3⟩,by rw [e1,e2,e3];simp⟩
theorem valB_eq (v:ValD):valB v=numB 1 v.h++numB 1 v.w++numB 1 v.c++numB 1 v.z:=by simp [valB,numsB]
theorem valR_inv:Inv valR valB okV:=by
 refine .of ?_ ?_
 ·rintro⟨a,b,c,d⟩ rest ⟨h1,h2,h3,h4⟩;have k1:=shapeR_inv.forth (a,b,c) (numB 1 d++rest) ⟨h1,h2,h3⟩;simp only [List.append_assoc] at k1;simp only [valB_eq,valR,List.append_assoc,k1,smallR_inv.forth d rest h4]
 ·intro s hb ht;obtain⟨sa,ha⟩:∃ x,shapeR s=x:=⟨_,rfl⟩
  obtain⟨sb,hb'⟩:∃ x,smallR sa.2=x:=⟨_,rfl⟩
  have e:valR s=(⟨sa.1.1,sa.1.2.1,sa.1.2.2,sb.1⟩,sb.2):=by simp only [valR,ha,hb']
  rw [e] at ht ⊢;simp only at ht ⊢;have ra:bytesP sa.2.rest:=by rw [<- ha];exact shapeR_rest s hb
  obtain⟨f2,o2,e2⟩:=smallR_inv.at sa.2 ra (by rw [hb'];exact ht);obtain⟨f1,o1,e1⟩:=shapeR_inv.at s hb (by rw [ha];exact f2);rw [hb'] at o2 e2;rw [ha] at o1 e1;refine⟨f1,⟨o1.1,o1.2.1,o1.2.2,o2⟩,?_⟩;rw [valB_eq,e1,e2];simp only [List.append_assoc]
theorem listB_eq (many k:Nat)(xs:List Int):listB many k xs=numB many xs.length++xs.flatMap (numB k):=by simp [listB,numsB]
theorem nodeB_eq (n:NodeD):nodeB n=numB 1 n.op++((numB 1 n.ins.length++n.ins.flatMap (numB 1))++(numB 1 n.k++(numB 1 n.stride++(numB 1 n.pad++(numB 1 n.out++(numB 2 n.mul++(numB 1 n.shift++(numB 1 n.zero++((numB 1 n.th++numB 1 n.tw++numB 1 n.tc)++((numB 2 n.ws.length++n.ws.flatMap (numB 1))++(numB 1 n.bs.length++n.bs.flatMap (numB 4)))))))))))):=by
 simp only [nodeB,listB_eq,numsB,List.flatMap_cons,List.flatMap_nil,List.append_nil,List.append_assoc]
theorem graphB_eq (g:GraphD):graphB g=(numB 1 g.ins.length++g.ins.flatMap valB)++((numB 1 g.nodes.length++g.nodes.flatMap nodeB)++(numB 1 g.outs.length++g.outs.flatMap (numB 1))):=by
 simp only [graphB,listB_eq,numsB,List.flatMap_cons,List.flatMap_nil,List.append_nil,List.append_assoc]
theorem listR_rest1 (s:Rd)(hb:bytesP s.rest):bytesP (listR 1 (numR 1) s).2.rest:=listR_rest (numR_rest 1) 1 s hb
theorem listR_rest2 (s:Rd)(hb:bytesP s.rest):bytesP (listR 2 smallR s).2.rest:=listR_rest smallR_rest 2 s hb
theorem nodeR_inv:Inv nodeR nodeB okN:=by
 refine .of ?_ ?_
 ·rintro⟨op,ins,k,stride,pad,out,mul,shift,zero,th,tw,tc,ws,bs⟩ rest ⟨h1,h2,h3,h4,h5,h6,h7,h8,h9,h10,h11,h12,h13,h14⟩;simp only at h1 h2 h3 h4 h5 h6 h7 h8 h9 h10 h11 h12 h13 h14;rw [nodeB_eq];have I1:=numR_inv 1;have I2:=numR_inv 2;have L1:=(listR_inv I1 1).forth ins;have L2:=(listR_inv smallR_inv 2).forth ws;have L3:=(listR_inv wideR_inv 1).forth bs;have S:=fun rest=>shapeR_inv.forth (th,tw,tc) rest ⟨h10,h11,h12⟩
  simp only [List.append_assoc] at L1 L2 L3 S;simp only [nodeR,List.append_assoc,I1.forth op _ h1,L1 _ h2,I1.forth k _ h3,I1.forth stride _ h4,I1.forth pad _ h5,I1.forth out _ h6,I2.forth mul _ h7,I1.forth shift _ h8,smallR_inv.forth zero _ h9,S,L2 _ h13,L3 _ h14]
 ·intro s hb ht;obtain⟨sa,ha⟩:∃ x,numR 1 s=x:=⟨_,rfl⟩
  obtain⟨sb,hb'⟩:∃ x,listR 1 (numR 1) sa.2=x:=⟨_,rfl⟩
  obtain⟨sc,hc⟩:∃ x,numR 1 sb.2=x:=⟨_,rfl⟩
  obtain⟨sd,hd⟩:∃ x,numR 1 sc.2=x:=⟨_,rfl⟩
  obtain⟨se,he⟩:∃ x,numR 1 sd.2=x:=⟨_,rfl⟩
  obtain⟨sf,hf⟩:∃ x,numR 1 se.2=x:=⟨_,rfl⟩
  obtain⟨sg,hg⟩:∃ x,numR 2 sf.2=x:=⟨_,rfl⟩
  obtain⟨sh,hh⟩:∃ x,numR 1 sg.2=x:=⟨_,rfl⟩
  obtain⟨si,hi⟩:∃ x,smallR sh.2=x:=⟨_,rfl⟩
  obtain⟨sj,hj⟩:∃ x,shapeR si.2=x:=⟨_,rfl⟩
  obtain⟨sk,hk⟩:∃ x,listR 2 smallR sj.2=x:=⟨_,rfl⟩
  obtain⟨sl,hl⟩:∃ x,listR 1 wideR sk.2=x:=⟨_,rfl⟩
  have e:nodeR s=(⟨sa.1,sb.1,sc.1,sd.1,se.1,sf.1,sg.1,sh.1,si.1,sj.1.1,sj.1.2.1,sj.1.2.2,sk.1,sl.1⟩,sl.2):=by
   simp only [nodeR,ha,hb',hc,hd,he,hf,hg,hh,hi,hj,hk,hl]
  rw [e] at ht ⊢;simp only at ht ⊢;have ra:bytesP sa.2.rest:=by rw [<- ha];exact numR_rest 1 s hb
  have rb:bytesP sb.2.rest:=by rw [<- hb'];exact listR_rest1 _ ra
  have rc:bytesP sc.2.rest:=by rw [<- hc];exact numR_rest 1 _ rb
  have rd':bytesP sd.2.rest:=by rw [<- hd];exact numR_rest 1 _ rc
  have re:bytesP se.2.rest:=by rw [<- he];exact numR_rest 1 _ rd'
  have rf:bytesP sf.2.rest:=by rw [<- hf];exact numR_rest 1 _ re
  have rg:bytesP sg.2.rest:=by rw [<- hg];exact numR_rest 2 _ rf
  have rh:bytesP sh.2.rest:=by rw [<- hh];exact numR_rest 1 _ rg
  have ri:bytesP si.2.rest:=by rw [<- hi];exact smallR_rest _ rh
  have rj:bytesP sj.2.rest:=by rw [<- hj];exact shapeR_rest _ ri
  have rk:bytesP sk.2.rest:=by rw [<- hk];exact listR_rest2 _ rj
  obtain⟨fl,ol,el⟩:=(listR_inv wideR_inv 1).at sk.2 rk (by rw [hl];exact ht);obtain⟨fk,ok,ek⟩:=(listR_inv smallR_inv 2).at sj.2 rj (by rw [hk];exact fl);obtain⟨fj,oj,ej⟩:=shapeR_inv.at si.2 ri (by rw [hj];exact fk);obtain⟨fi,oi,ei⟩:=smallR_inv.at sh.2 rh (by rw [hi];exact fj);obtain⟨fh,oh,eh⟩:=(numR_inv 1).at sg.2 rg (by rw [hh];exact fi);obtain⟨fg,og,eg⟩:=(numR_inv 2).at sf.2 rf (by rw [hg];exact fh);obtain⟨ff,of,ef⟩:=(numR_inv 1).at se.2 re (by rw [hf];exact fg);obtain⟨fe,oe,ee⟩:=(numR_inv 1).at sd.2 rd' (by rw [he];exact ff);obtain⟨fd,od,ed⟩:=(numR_inv 1).at sc.2 rc (by rw [hd];exact fe);obtain⟨fc,oc,ec⟩:=(numR_inv 1).at sb.2 rb (by rw [hc];exact fd);obtain⟨fb,ob,eb⟩:=(listR_inv (numR_inv 1) 1).at sa.2 ra (by rw [hb'];exact fc);obtain⟨fa,oa,ea⟩:=(numR_inv 1).at s hb (by rw [ha];exact fb);rw [hl] at ol el;rw [hk] at ok ek;rw [hj] at oj ej;rw [hi] at oi ei;rw [hh] at oh eh;rw [hg] at og eg;rw [hf] at of ef;rw [he] at oe ee;rw [hd] at od ed;rw [hc] at oc ec;rw [hb'] at ob eb;rw [ha] at oa ea;refine⟨fa,⟨oa,ob,oc,od,oe,of,og,oh,oi,oj.1,oj.2.1,oj.2.2,ok,ol⟩,?_⟩;rw [nodeB_eq,ea,eb,ec,ed,ee,ef,eg,eh,ei,ej,ek,el];simp only [List.append_assoc]
theorem nodeR_rest (s:Rd)(hb:bytesP s.rest):bytesP (nodeR s).2.rest:=by
 simp only [nodeR];exact listR_rest wideR_rest 1 _ (listR_rest2 _ (shapeR_rest _ (smallR_rest _ (numR_rest 1 _ (numR_rest 2 _ (numR_rest 1 _ (numR_rest 1 _ (numR_rest 1 _ (numR_rest 1 _ (listR_rest1 _ (numR_rest 1 s hb)))))))))))
theorem graphR_inv:Inv graphR graphB okG:=by
 refine .of ?_ ?_
 ·rintro⟨ins,nodes,outs⟩ rest ⟨h1,h2,h3⟩;simp only at h1 h2 h3;rw [graphB_eq];have L1:=(listR_inv valR_inv 1).forth ins;have L2:=(listR_inv nodeR_inv 1).forth nodes;have L3:=(listR_inv (numR_inv 1) 1).forth outs;simp only [List.append_assoc] at L1 L2 L3;simp only [graphR,List.append_assoc,L1 _ h1,L2 _ h2,L3 _ h3]
 ·intro s hb ht;obtain⟨sa,ha⟩:∃ x,listR 1 valR s=x:=⟨_,rfl⟩
  obtain⟨sb,hb'⟩:∃ x,listR 1 nodeR sa.2=x:=⟨_,rfl⟩
  obtain⟨sc,hc⟩:∃ x,listR 1 (numR 1) sb.2=x:=⟨_,rfl⟩
  have e:graphR s=(⟨sa.1,sb.1,sc.1⟩,sc.2):=by simp only [graphR,ha,hb',hc]
  rw [e] at ht ⊢;simp only at ht ⊢;have ra:bytesP sa.2.rest:=by rw [<- ha];exact listR_rest valR_rest 1 s hb
  have rb:bytesP sb.2.rest:=by rw [<- hb'];exact listR_rest nodeR_rest 1 _ ra
  obtain⟨fc,oc,ec⟩:=(listR_inv (numR_inv 1) 1).at sb.2 rb (by rw [hc];exact ht);obtain⟨fb,ob,eb⟩:=(listR_inv nodeR_inv 1).at sa.2 ra (by rw [hb'];exact fc);obtain⟨fa,oa,ea⟩:=(listR_inv valR_inv 1).at s hb (by rw [ha];exact fb);rw [hc] at oc ec;rw [hb'] at ob eb;rw [ha] at oa ea;refine⟨fa,⟨oa,ob,oc⟩,?_⟩;rw [graphB_eq,ea,eb,ec];simp only [List.append_assoc]
end Go.Proofs.YtejllmjkeefloaaGreat
