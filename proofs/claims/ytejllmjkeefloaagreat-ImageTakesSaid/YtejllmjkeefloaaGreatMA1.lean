/- An image in memory; placed. -/
import Derived.Deep.DeepCutAuto
import Derived.Test.YtejllmjkeefloaaGreatMN17
namespace Go.Proofs.YtejllmjkeefloaaGreat
open Go.ChangeShapes Go.WideShapes Go.ChangeAt Go.RowKit
set_option maxRecDepth 20000
set_option linter.unusedVariables false
set_option linter.unusedSimpArgs false
def IsImg (w:World)(v:Value)(i:ImgD):Prop:=∃ iv nv ov pv u0 u1 u2:Value,v=.agg #[iv,nv,ov,pv,u0,u1,u2]/\IsGraph w (.agg #[iv,nv,ov]) i.g/\IsNums .i64 w pv i.pl/\Q8.IsCmds w u0 i.s0/\Q8.IsCmds w u1 i.s1/\Q8.IsCmds w u2 i.s2
theorem IsImg.grow {w w':World}{v:Value}{i:ImgD}(h:IsImg w v i)(g:Past w w'):IsImg w' v i:=by
 obtain⟨iv,nv,ov,pv,u0,u1,u2,rfl,a,b,c,d,e⟩:=h;exact⟨iv,nv,ov,pv,u0,u1,u2,rfl,a.grow g,b.grow g,c.grow g,d.grow g,e.grow g⟩
theorem graph_form {w:World}{iv nv ov:Value}{g:GraphD}(h:IsGraph w (.agg #[iv,nv,ov]) g):∃ A1 c1 A2 c2 A3 c3,iv=.slice A1 g.ins.length c1/\nv=.slice A2 g.nodes.length c2/\ov=.slice A3 g.outs.length c3:=by
 obtain⟨a,b,c,e,hi,hn,ho⟩:=h;simp only [Value.agg.injEq,Array.mk.injEq,List.cons.injEq,and_true] at e;obtain⟨rfl,rfl,rfl⟩:=e;obtain⟨A1,c1,rfl,_⟩:=hi;obtain⟨A2,c2,rfl,_⟩:=hn;obtain⟨A3,c3,rfl,_⟩:=ho;exact⟨A1,c1,A2,c2,A3,c3,rfl,rfl,rfl⟩
theorem IsImg.form {w:World}{v:Value}{i:ImgD}(h:IsImg w v i):∃ A1 c1 A2 c2 A3 c3 A4 c4 A5 c5 A6 c6 A7 c7,v=.agg #[.slice A1 i.g.ins.length c1,.slice A2 i.g.nodes.length c2,.slice A3 i.g.outs.length c3,.slice A4 i.pl.length c4,.slice A5 i.s0.length c5,.slice A6 i.s1.length c6,.slice A7 i.s2.length c7]/\IsGraph w (.agg #[.slice A1 i.g.ins.length c1,.slice A2 i.g.nodes.length c2,.slice A3 i.g.outs.length c3]) i.g/\IsNums .i64 w (.slice A4 i.pl.length c4) i.pl/\Q8.IsCmds w (.slice A5 i.s0.length c5) i.s0/\Q8.IsCmds w (.slice A6 i.s1.length c6) i.s1/\Q8.IsCmds w (.slice A7 i.s2.length c7) i.s2:=by
 obtain⟨iv,nv,ov,pv,u0,u1,u2,rfl,hg,hp,h0,h1,h2⟩:=h;obtain⟨A1,c1,A2,c2,A3,c3,rfl,rfl,rfl⟩:=graph_form hg;obtain⟨A4,c4,rfl,q⟩:=id hp;obtain⟨A5,c5,rfl,_⟩:=h0.form;obtain⟨A6,c6,rfl,_⟩:=h1.form;obtain⟨A7,c7,rfl,_⟩:=h2.form;exact⟨A1,c1,A2,c2,A3,c3,A4,c4,A5,c5,A6,c6,A7,c7,rfl,hg,hp,h0,h1,h2⟩
theorem idx3_0 (x0 x1 x2:Value) (w:World):(Instr.index 30 (.agg #[x0,x1,x2]) (.int .i64 0)).run Tryz.prog w=.ok x0 w:=by kernel_rfl
theorem idx3_1 (x0 x1 x2:Value) (w:World):(Instr.index 30 (.agg #[x0,x1,x2]) (.int .i64 1)).run Tryz.prog w=.ok x1 w:=by kernel_rfl
theorem idx3_2 (x0 x1 x2:Value) (w:World):(Instr.index 30 (.agg #[x0,x1,x2]) (.int .i64 2)).run Tryz.prog w=.ok x2 w:=by kernel_rfl
theorem placed_end {g:GraphD}{pl:List Int}(hl:pl.length=(valuesL g).length)(h:∀ j,j<(valuesL g).length->0<=pl.getD j 0/\pl.getD j 0<=65536-sizeV ((valuesL g).getD j default)):placedP g pl:=⟨hl,fun j hj=>h j (by omega)⟩
theorem sizeV_bd (v:ValD):0<=sizeV v/\sizeV v<=2048:=by
 unfold sizeV sizeI;split
 ·rename_i h;obtain⟨h1,h2,h3,h4,h5,h6⟩:=h;have a:v.h*(v.w*v.c)<=16*(v.w*v.c):=Int.mul_le_mul_of_nonneg_right (by omega) (Int.mul_nonneg (by omega) (by omega));have b:v.w*v.c<=16*v.c:=Int.mul_le_mul_of_nonneg_right (by omega) (by omega);have c:0<=v.h*(v.w*v.c):=Int.mul_nonneg (by omega) (Int.mul_nonneg (by omega) (by omega));have e:v.h*v.w*v.c=v.h*(v.w*v.c):=Int.mul_assoc ..;first|omega|(rw [e];omega)
 ·omega
set_option maxHeartbeats 4000000 in
theorem placed_any (i:ImgD) (v:Value) (t:Bool) (W:World) (h:IsImg W v i) (hc:Cut i.g) (ht:t=true↔placedP i.g i.pl):Calls Tryz.prog 15 #[v] W fun e w'=>e=.returned (.bool t)∧Past W w':=by
 obtain ⟨A1,c1,A2,c2,A3,c3,A4,c4,A5,c5,A6,c6,A7,c7,rfl,hg,hp,h0,h1,h2⟩:=h.form
 have VA:=LH (fun w (p:Past W w)=>values_any i.g _ w (hg.grow p) hc)
 have HP:=LH hp
 have HT:=LH ht
 have hm1:i.pl.length≤9223372036854775807:=by obtain ⟨_,_,e,k1,k2,_⟩:=hp;unfold maxLen at k2;omega
 unfold ValuesPost at VA
 clear h hg hp h0 h1 h2 hc ht
 go_enter Tryz.func15,Tryz.ntmps15
 go_upto_region 1 with fail
 obtain ⟨Q,hQ⟩:∃ Q,W.heap.size=Q:=⟨_,rfl⟩
 refine opq (fun w'=>(Bx w' Q #[.slice A1 i.g.ins.length c1,.slice A2 i.g.nodes.length c2,.slice A3 i.g.outs.length c3,.slice A4 i.pl.length c4,.slice A5 i.s0.length c5,.slice A6 i.s1.length c6,.slice A7 i.s2.length c7])∧Past W w'∧Q+1≤w'.heap.size) (by
  subst hQ
  exact ⟨by (exact kKeep),by (exact kKeep),by (exact kKeep)⟩) ?_
 rintro w0 ⟨q0,p0,s0⟩
 try rw [hQ]
 go_wp2_with fail
 refine (VA.out _ p0).mono ?_
 rintro e w1 ⟨vv,rfl,vs,pp1⟩
 have q1:=box_past pp1 q0 (by omega)
 have p1:=p0.trans pp1
 have s1:Q+1≤w1.heap.size:=by have:=pp1.2.2.1;omega
 obtain ⟨L,hL⟩:∃ L,valuesL i.g=L:=⟨_,rfl⟩
 rw [hL] at vs
 have VS:=LH vs
 obtain ⟨V,cv,rfl,_,vm,_,_,_⟩:=vs
 have HL:=LH hL
 have hm2:L.length≤9223372036854775807:=by unfold maxLen at vm;omega
 clear q0 p0 s0 pp1 VA vm hL
 by_cases hl:i.pl.length=L.length
 ·have HLL:=LH hl
  have d1:((i.pl.length:Int)!=(L.length:Int))=false:=by rw [hl];simp
  have d1':((L.length:Int)!=(L.length:Int))=false:=by simp
  clear hl
  go_wp2_with fail
  go_loopw [2,5,6,7,22] (fun s _ _ _ j wr=>∃ k:Nat,k≤L.length∧j=.int .i64 k∧s=.bool false∧Hid (∀ j,j<k→0≤i.pl.getD j 0∧i.pl.getD j 0≤65536-sizeV (L.getD j default))∧Past w1 wr) (fun _ _ _ _ j _=>L.length-(intOf j).toNat)
  case atStart=>exact ⟨0,by omega,rfl,rfl,LH (fun j h=>by omega),Past.refl _⟩
  case round =>
   obtain ⟨k,hk,rfl,rfl,hx,hp⟩:=hrel
   have qr:=box_past hp q1 (by omega)
   have pr:=p1.trans hp
   have sr:Q+1≤wr.heap.size:=by have:=hp.2.2.1;omega
   by_cases l:k<L.length
   ·obtain ⟨Vx,cvx,ev,vl,vm,vn,vw,vc⟩:=VS.out.grow hp
    simp only [Value.slice.injEq,true_and] at ev
    obtain ⟨rfl,rfl⟩:=ev
    obtain ⟨b,o,rfl,hb,hc⟩:=vc (by omega)
    obtain ⟨y0,y1,y2,y3⟩:=hc k l
    obtain ⟨Px,cpx,ep,pl1,pl2,pl3,pw,pc⟩:=HP.out.grow pr
    simp only [Value.slice.injEq,true_and] at ep
    obtain ⟨rfl,rfl⟩:=ep
    obtain ⟨b',o',rfl,hb',hc'⟩:=pc (by rw [HLL.out];omega)
    have z0:=hc' k (by rw [HLL.out];omega)
    obtain ⟨a,ha⟩:∃ a,i.pl.getD k 0=a:=⟨_,rfl⟩
    obtain ⟨y,hy⟩:∃ y,L.getD k default=y:=⟨_,rfl⟩
    have hk2:k<i.pl.length:=by have:=HLL.out;omega
    have wa:(Lit.int .i64 a).wf=true:=pw a (by
     rw [← ha]
     have e9:i.pl.getD k 0=i.pl[k]:=by simp [List.getD,hk2]
     rw [e9]
     exact List.getElem_mem hk2)
    rw [ha] at z0
    rw [hy] at y0 y1 y2 y3
    obtain ⟨q,hq⟩:∃ q,q=sizeI y.h y.w y.c:=⟨_,rfl⟩
    have SZ:=LH (fun w=>size_any y.h y.w y.c q w (LH hq))
    have qb:0≤q∧q≤2048:=by rw [hq];exact sizeV_bd y
    have HA:=LH ha
    have HY:=LH hy
    have HQ:=LH hq
    have ab : -9223372036854775808≤a∧a≤9223372036854775807:=by simpa [Lit.wf,IntKind.min,IntKind.max,IntKind.bits,IntKind.signed] using wa
    have e1:IntKind.i64.wrap (65536-q)=65536-q:=IntWalk.i64_in _ (by omega)
    have i1:(0:Int)≤(k:Int):=by omega
    have i3:(k:Int)<(L.length:Int):=by omega
    have i4:(k:Int)<(i.pl.length:Int):=by rw [HLL.out];omega
    have nx:Hid (0≤a∧a≤65536-q→∀ j,j<k+1→0≤i.pl.getD j 0∧i.pl.getD j 0≤65536-sizeV (L.getD j default)):=LH (fun hh j hj=>by
     by_cases c:j=k
     ·subst c
      rw [HA.out,HY.out]
      show _∧_≤65536-sizeI y.h y.w y.c
      rw [← HQ.out]
      exact hh
     ·exact hx.out j (by omega))
    have no:Hid (¬ (0≤a∧a≤65536-q)→t=false):=LH (fun hn=>by
     cases ht:t with
     | false=>rfl
     | true =>
      exfalso
      apply hn
      have:=(HT.out.1 ht).2 k (by rw [HLL.out];omega)
      rw [HL.out,HA.out,HY.out] at this
      rw [HQ.out]
      exact this)
    clear hc hc' ha hy hq vc pc wa pw vw hx
    go_upto_region 7 with fail
    refine opq (fun w'=>(Bx w' wr.heap.size #[.int .i64 y.h,.int .i64 y.w,.int .i64 y.c,.int .i64 y.z])∧(Bx w' Q #[.slice A1 i.g.ins.length c1,.slice A2 i.g.nodes.length c2,.slice A3 i.g.outs.length c3,.slice (some ⟨b',o',none⟩) i.pl.length c4,.slice A5 i.s0.length c5,.slice A6 i.s1.length c6,.slice A7 i.s2.length c7])∧w'.cell? ⟨b',o'+k,none⟩=some (.int .i64 a)∧Past wr w'∧wr.heap.size+1≤w'.heap.size) ?_ ?_
    ·(exact kKeep)
    rintro w2 ⟨b2,q2,z2,p2,s2⟩
    have pp2:=hp.trans p2
    obtain ⟨X,hX⟩:∃ X,wr.heap.size=X:=⟨_,rfl⟩
    rw [hX] at b2 s2
    try simp only [hX]
    clear y0 y1 y2 y3 z0 qr p2 hX
    by_cases hn:a<0
    ·have d2:decide (a<0)=true:=by simpa using hn
     have hf:=no.out (by omega)
     subst hf
     go_wp2_with fail
     go_ret
     exact ⟨rfl,p1.trans pp2⟩
    ·have d2:decide (a<0)=false:=by simpa using hn
     by_cases hm:a>65536-q
     ·have d3:decide (a>65536-q)=true:=by simpa using hm
      have hf:=no.out (by omega)
      subst hf
      go_wp2_with fail
      refine (SZ.out _).mono ?_
      rintro e w3 ⟨rfl,g3⟩
      have p3:=(p1.trans pp2).trans (Grown.past g3)
      clear b2 q2 g3
      go_wp2_with fail
      go_ret
      exact ⟨rfl,p3⟩
     ·have d3:decide (a>65536-q)=false:=by simpa using hm
      have NX:=LH (nx.out (by omega))
      go_wp2_with fail
      refine (SZ.out _).mono ?_
      rintro e w3 ⟨rfl,g3⟩
      have p3:=pp2.trans (Grown.past g3)
      clear b2 q2 g3 nx no
      go_wp2_with fail
      go_roundw
      case rel=>exact ⟨k+1,by omega,by go_num,rfl,NX,p3⟩
      case measure=>simp [intOf];omega
   ·have hk2:k=L.length:=by omega
    have hf:t=true:=HT.out.2 (placed_end (by rw [HLL.out,HL.out]) (fun j hj=>by rw [HL.out] at hj ⊢;exact hx.out j (by omega)))
    subst hf
    go_wp2_with fail
    go_ret
    exact ⟨rfl,pr⟩
 ·have d1:((i.pl.length:Int)!=(L.length:Int))=true:=by simp only [bne_iff_ne,ne_eq];omega
  have hf:t=false:=by
   cases ht:t with
   | false=>rfl
   | true=>exact absurd (by have:=(HT.out.1 ht).1;rw [HL.out] at this;exact this) hl
  subst hf
  clear hl
  go_wp2_with fail
  go_ret
  exact ⟨rfl,p1⟩
end Go.Proofs.YtejllmjkeefloaaGreat
