/- isa: a field, whether it is beyond its bounds; told; the closures. isa: fields of a kind. Commands as values: boxes of fourteen numbers; two commands compared. The reference of layer 3: ints, SameValues. The reference of layer 4: node. -/
import Derived.Laws.ResultCell
import Derived.Test.YtejllmjkeefloaaGreatMG6B
import Derived.Test.YtejllmjkeefloaaGreatMG6C
import Derived.OpenShut
import Derived.Deep.QuietTactic
import Derived.BigQuiet
namespace Go.Proofs.YtejllmjkeefloaaGreat.Q8
open Go.ChangeShapes Go.WideShapes Go.ChangeAt Go.RowKit
set_option maxRecDepth 20000
set_option linter.unusedVariables false
set_option linter.unusedSimpArgs false
theorem box_set4 {w:World}{b:Nat}{x0 x1 x2 x3 y0 y1 y2 y3:Value}(h:(Bx w b #[x0,x1,x2,x3])):(Bx ((((w.setCell ⟨b,0,none⟩ y0).setCell ⟨b,1,none⟩ y1).setCell ⟨b,2,none⟩ y2).setCell ⟨b,3,none⟩ y3) b #[y0,y1,y2,y3]):=by
 have h0:=h 0;have h1:=h 1;have h2:=h 2;have h3:=h 3;have c0:(((w.setCell ⟨b,0,none⟩ y0).setCell ⟨b,1,none⟩ y1).setCell ⟨b,2,none⟩ y2).cell? ⟨b,3,none⟩=some x3:=by
  rw [World.cell?_setCell_other _ _ _ _ (by simp),World.cell?_setCell_other _ _ _ _ (by simp),World.cell?_setCell_other _ _ _ _ (by simp)];exact h3
 have c1:((w.setCell ⟨b,0,none⟩ y0).setCell ⟨b,1,none⟩ y1).cell? ⟨b,2,none⟩=some x2:=by
  rw [World.cell?_setCell_other _ _ _ _ (by simp),World.cell?_setCell_other _ _ _ _ (by simp)];exact h2
 have c2:(w.setCell ⟨b,0,none⟩ y0).cell? ⟨b,1,none⟩=some x1:=by
  rw [World.cell?_setCell_other _ _ _ _ (by simp)];exact h1
 intro o;match o with
 | 0 =>
  rw [World.cell?_setCell_other _ _ _ _ (by simp),World.cell?_setCell_other _ _ _ _ (by simp),World.cell?_setCell_other _ _ _ _ (by simp)];exact World.cell?_setCell_same w _ _ h0
 | 1 =>
  rw [World.cell?_setCell_other _ _ _ _ (by simp),World.cell?_setCell_other _ _ _ _ (by simp)];exact World.cell?_setCell_same _ _ _ c2
 | 2 =>
  rw [World.cell?_setCell_other _ _ _ _ (by simp)];exact World.cell?_setCell_same _ _ _ c1
 | 3=>exact World.cell?_setCell_same _ _ _ c0
 | k+4 =>
  rw [World.cell?_setCell_other _ _ _ _ (by simp),World.cell?_setCell_other _ _ _ _ (by simp),World.cell?_setCell_other _ _ _ _ (by simp),World.cell?_setCell_other _ _ _ _ (by simp)];have:=h (k+4);simpa using this
theorem box_setAll {w:World}{b:Nat}{old new:Array Value}(h:(Bx w b old))(hl:old.size=new.size):(Bx (w.setCells b 0 new.toList) b new):=by
 intro k;by_cases c:k<new.size
 ·have:=World.cell?_setCells_in b new.toList 0 w (fun i hi=>by
   rw [Nat.zero_add,h i,Array.getElem?_eq_getElem (by simpa [hl] using hi)];rfl) k (by simpa using c)
  rw [Nat.zero_add] at this;rw [this,Array.getElem?_eq_getElem c];simp
 ·rw [World.cell?_setCells_out b new.toList 0 w ⟨b,k,none⟩ (fun _ _=>Or.inr (by simp;omega)),h k,Array.getElem?_eq_none (by omega),Array.getElem?_eq_none (by omega)]
theorem past_setAll {W:World}{b:Nat}(hb:W.heap.size<=b):∀ (l:List Value)(w:World)(o:Nat),Past W w->Past W (w.setCells b o l)
 | [],_,_,g=>g
 | v :: l,w,o,g=>by simp only [World.setCells];exact past_setAll hb l _ _ (Past.setCell g (by simpa using hb) _)
theorem free_setAll {b b2:Nat}(l:List Value){w:World}{s:Nat}(h:(Fr w b2)):(Fr (w.setCells b s l) b2):=fun k=>(World.frozen?_setCells b l s w _).trans (h k)
theorem size_setAll {b m:Nat}:∀ (l:List Value)(w:World)(o:Nat),m<=w.heap.size->m<=(w.setCells b o l).heap.size
 | [],_,_,g=>g
 | v :: l,w,o,g=>by simp only [World.setCells];exact size_setAll l _ _ (size_set g)
theorem wpList_store_box {P:Program} {ops:Array Oper} {rest:List Oper} {op:Oper} {a:Act} {w:World} {Q:Exit→Act→World→Prop} (hgd:op.guard=none) (ty:TypeId) (x y:Operand) (ho:op.op=.store ty x y)
  (b:Nat) (cells old:Array Value) (hx:a.eval x=.pointer (some ⟨b,0,none⟩)) (hy:a.eval y=.agg cells) (hb:(Bx w b old)) (hf:(Fr w b)) (hs:old.size=cells.size)
  (hi:(P.info? ty).map (·.size)=some cells.size) (h1:cells.all (·.oneCell')=true) (S:World→Prop) (hS:S (w.setCells b 0 cells.toList)) (h:∀ w',S w'→wpList P ops Q rest (a.put op.dst undef) w'):wpList P ops Q (op :: rest) a w :=
 wpList_store_mid hgd ty x y ho b 0 cells hx hy (fun j hj=>⟨by rw [Nat.zero_add,hb j,Array.getElem?_eq_getElem (by omega)];rfl,by rw [Nat.zero_add];exact hf j⟩) hi h1 (h _ hS)
def fldC (P:Nat)(f:Fld):List Value:=[.pointer (some ⟨P,f.pos,none⟩),.int .i64 f.lo,.int .i64 f.hi,.int .i64 (f.wide:Int)]
def fldV (P:Nat)(f:Fld):Value:=.agg ⟨fldC P f⟩
def fldsC (P:Nat)(fs:List Fld):List Value:=fs.flatMap (fldC P)
def IsFlds (w:World)(P:Nat)(v:Value)(fs:List Fld):Prop :=
 (fs=[]/\v=.slice none 0 0)\/∃ b,v=.slice (some ⟨b,0,none⟩) fs.length fs.length/\b<w.heap.size/\(Bx w b ⟨fldsC P fs⟩)
theorem IsFlds.past {w w':World}{P:Nat}{v:Value}{fs:List Fld}(h:IsFlds w P v fs)(g:Past w w'):IsFlds w' P v fs:=by
 rcases h with h|⟨b,e,hb,hc⟩
 ·exact .inl h
 ·exact .inr ⟨b,e,Nat.lt_of_lt_of_le hb g.2.2.1,box_past g hc hb⟩
set_option maxHeartbeats 1000000 in
theorem beyond_any (P:Nat)(f:Fld)(x:Int)(W:World)(hx:W.cell? ⟨P,f.pos,none⟩=some (.int .i64 x)) :
  Calls Tryz.prog 104 #[fldV P f] W fun e w'=>e=.returned (.bool (!decide (f.lo<=x/\x<=f.hi)))/\Past W w':=by
 obtain⟨po,lo,hi,wd⟩:=f;simp only at hx ⊢;show Calls _ _ #[.agg #[.pointer (some ⟨P,po,none⟩),.int .i64 lo,.int .i64 hi,.int .i64 (wd:Int)]] _ _;have hP:=cell_lt hx;by_cases h1:x<lo
 ·have d1:decide (x<lo)=true:=by simpa using h1
  have d2:(!decide (lo<=x/\x<=hi))=true:=by simp;omega
  rw [d2];clear d2;go_enter Tryz.func104,Tryz.ntmps104;go_upto_region 1 with fail;refine opq (fun w'=>(Bx w' W.heap.size #[.pointer (some ⟨P,po,none⟩),.int .i64 lo,.int .i64 hi,.int .i64 (wd:Int)])/\w'.cell? ⟨P,po,none⟩=some (.int .i64 x)/\Past W w') kKeep ?_;rintro w1 ⟨b1,c1,p1⟩;have P1:=LH p1;clear p1 hx hP;go_quiet (fail);go_wp2_with fail;go_ret;exact⟨rfl,P1.out⟩
 ·have d1:decide (x<lo)=false:=by simpa using h1
  have d2:(!decide (lo<=x/\x<=hi))=decide (hi<x):=by
   have:lo<=x:=by omega
   simp only [this,true_and];by_cases q:x<=hi
   ·have:¬ hi<x:=by omega
    simp [q,this]
   ·have:hi<x:=by omega
    simp [q,this]
  rw [d2];clear d2;go_enter Tryz.func104,Tryz.ntmps104;go_upto_region 1 with fail;refine opq (fun w'=>(Bx w' W.heap.size #[.pointer (some ⟨P,po,none⟩),.int .i64 lo,.int .i64 hi,.int .i64 (wd:Int)])/\w'.cell? ⟨P,po,none⟩=some (.int .i64 x)/\Past W w') kKeep ?_;rintro w1 ⟨b1,c1,p1⟩;have P1:=LH p1;clear p1 hx hP;go_quiet (fail);go_wp2_with fail;go_ret;exact⟨rfl,P1.out⟩
theorem told_any (v:Value)(A:Option Addr)(n c:Nat)(hv:v=.slice A n c)(W:World):Calls Tryz.prog 138 #[v] W fun e w'=>e=.returned (.tuple #[v,.bool true])/\w'=W:=by
 subst hv;go_enter Tryz.func138,Tryz.ntmps138;go_wp2_with fail;go_ret2;exact⟨rfl,rfl⟩
end Go.Proofs.YtejllmjkeefloaaGreat.Q8
namespace Go.Proofs.YtejllmjkeefloaaGreat.Q8
open Go.ChangeShapes Go.WideShapes Go.ChangeAt Go.RowKit
set_option maxRecDepth 20000
set_option linter.unusedVariables false
set_option linter.unusedSimpArgs false
set_option maxHeartbeats 1000000 in
theorem part1_any (i:Nat)(hi:i=0\/i=1)(P Q:Nat)(W:World)(hq:(Bx W Q #[.pointer (some ⟨P,0,none⟩)])) :
  Calls Tryz.prog 135 #[.int .i64 (i:Int),.pointer (some ⟨Q,0,none⟩)] W fun e w'=>e=.returned (fldV P ⟨8+i,0,1023,2⟩)/\Past W w':=by
 have hQ:Q<W.heap.size:=cell_lt (hq 0);rcases hi with rfl|rfl
 all_goals
  go_enter Tryz.func135,Tryz.ntmps135;go_upto_region 1 with fail;refine opq (fun w'=>(Bx w' Q #[.pointer (some ⟨P,0,none⟩)])/\(Bx w' W.heap.size #[.pointer none,.int .i64 0,.int .i64 0,.int .i64 0])/\(Fr w' W.heap.size)/\Past W w'/\W.heap.size+1<=w'.heap.size) kKeep ?_;rintro w1 ⟨b1,b2,f2,p1,z1⟩;have P1:=LH p1;clear p1;go_wp2_with fail
 ·have b4:=box_set4 (y0:=.pointer (some ⟨P,8+0,none⟩)) (y1:=.int .i64 0) (y2:=.int .i64 1023) (y3:=.int .i64 2) b2;exact bodyPost_ret (v:=.agg #[.pointer (some ⟨P,8+0,none⟩),.int .i64 0,.int .i64 1023,.int .i64 2]) (by simp [results,Tryz.results135,go_sem,b4]) rfl ⟨rfl,by have:=P1.out;(exact kKeep)⟩
 ·have b4:=box_set4 (y0:=.pointer (some ⟨P,8+1,none⟩)) (y1:=.int .i64 0) (y2:=.int .i64 1023) (y3:=.int .i64 2) b2;exact bodyPost_ret (v:=.agg #[.pointer (some ⟨P,8+1,none⟩),.int .i64 0,.int .i64 1023,.int .i64 2]) (by simp [results,Tryz.results135,go_sem,b4]) rfl ⟨rfl,by have:=P1.out;(exact kKeep)⟩
set_option maxHeartbeats 1000000 in
theorem part2_any (i:Nat)(hi:i=0\/i=1)(P Q:Nat)(W:World)(hq:(Bx W Q #[.pointer (some ⟨P,0,none⟩)])) :
  Calls Tryz.prog 136 #[.int .i64 (i:Int),.pointer (some ⟨Q,0,none⟩)] W fun e w'=>e=.returned (fldV P ⟨10+i,0,15,1⟩)/\Past W w':=by
 have hQ:Q<W.heap.size:=cell_lt (hq 0);rcases hi with rfl|rfl
 all_goals
  go_enter Tryz.func136,Tryz.ntmps136;go_upto_region 1 with fail;refine opq (fun w'=>(Bx w' Q #[.pointer (some ⟨P,0,none⟩)])/\(Bx w' W.heap.size #[.pointer none,.int .i64 0,.int .i64 0,.int .i64 0])/\(Fr w' W.heap.size)/\Past W w'/\W.heap.size+1<=w'.heap.size) kKeep ?_;rintro w1 ⟨b1,b2,f2,p1,z1⟩;have P1:=LH p1;clear p1;go_wp2_with fail
 ·have b4:=box_set4 (y0:=.pointer (some ⟨P,10+0,none⟩)) (y1:=.int .i64 0) (y2:=.int .i64 15) (y3:=.int .i64 1) b2;exact bodyPost_ret (v:=.agg #[.pointer (some ⟨P,10+0,none⟩),.int .i64 0,.int .i64 15,.int .i64 1]) (by simp [results,Tryz.results136,go_sem,b4]) rfl ⟨rfl,by have:=P1.out;(exact kKeep)⟩
 ·have b4:=box_set4 (y0:=.pointer (some ⟨P,10+1,none⟩)) (y1:=.int .i64 0) (y2:=.int .i64 15) (y3:=.int .i64 1) b2;exact bodyPost_ret (v:=.agg #[.pointer (some ⟨P,10+1,none⟩),.int .i64 0,.int .i64 15,.int .i64 1]) (by simp [results,Tryz.results136,go_sem,b4]) rfl ⟨rfl,by have:=P1.out;(exact kKeep)⟩
set_option maxHeartbeats 1000000 in
theorem part3_any (i:Nat)(hi:i=0\/i=1)(P Q:Nat)(W:World)(hq:(Bx W Q #[.pointer (some ⟨P,0,none⟩)])) :
  Calls Tryz.prog 137 #[.int .i64 (i:Int),.pointer (some ⟨Q,0,none⟩)] W fun e w'=>e=.returned (fldV P ⟨12+i,0,16,1⟩)/\Past W w':=by
 have hQ:Q<W.heap.size:=cell_lt (hq 0);rcases hi with rfl|rfl
 all_goals
  go_enter Tryz.func137,Tryz.ntmps137;go_upto_region 1 with fail;refine opq (fun w'=>(Bx w' Q #[.pointer (some ⟨P,0,none⟩)])/\(Bx w' W.heap.size #[.pointer none,.int .i64 0,.int .i64 0,.int .i64 0])/\(Fr w' W.heap.size)/\Past W w'/\W.heap.size+1<=w'.heap.size) kKeep ?_;rintro w1 ⟨b1,b2,f2,p1,z1⟩;have P1:=LH p1;clear p1;go_wp2_with fail
 ·have b4:=box_set4 (y0:=.pointer (some ⟨P,12+0,none⟩)) (y1:=.int .i64 0) (y2:=.int .i64 16) (y3:=.int .i64 1) b2;exact bodyPost_ret (v:=.agg #[.pointer (some ⟨P,12+0,none⟩),.int .i64 0,.int .i64 16,.int .i64 1]) (by simp [results,Tryz.results137,go_sem,b4]) rfl ⟨rfl,by have:=P1.out;(exact kKeep)⟩
 ·have b4:=box_set4 (y0:=.pointer (some ⟨P,12+1,none⟩)) (y1:=.int .i64 0) (y2:=.int .i64 16) (y3:=.int .i64 1) b2;exact bodyPost_ret (v:=.agg #[.pointer (some ⟨P,12+1,none⟩),.int .i64 0,.int .i64 16,.int .i64 1]) (by simp [results,Tryz.results137,go_sem,b4]) rfl ⟨rfl,by have:=P1.out;(exact kKeep)⟩
end Go.Proofs.YtejllmjkeefloaaGreat.Q8
namespace Go.Proofs.YtejllmjkeefloaaGreat.Q8
open Go.ChangeShapes Go.WideShapes Go.ChangeAt Go.RowKit
set_option maxRecDepth 20000
set_option linter.unusedVariables false
set_option linter.unusedSimpArgs false
def cellC (c:List Int):List Value:=c.map (Value.int .i64)
theorem cellC_len (c:List Int):(cellC c).length=c.length:=by simp [cellC]
theorem cellC_at (c:List Int)(j:Nat)(h:j<c.length):(cellC c)[j]? = some (.int .i64 (c.getD j 0)):=by simp [cellC,List.getD,h]
theorem boxC_cell {w:World}{Q j:Nat}{c:List Int}(h:(Bx w Q ⟨cellC c⟩))(hj:j<c.length):w.cell? ⟨Q,j,none⟩=some (.int .i64 (c.getD j 0)):=by
 rw [h j];have:=cellC_at c j hj;simpa using this
theorem boxC_set {w:World}{Q j:Nat}{c:List Int}{x:Int}(h:(Bx w Q ⟨cellC c⟩))(hj:j<c.length):(Bx (w.setCell ⟨Q,j,none⟩ (.int .i64 x)) Q ⟨cellC (c.set j x)⟩):=by
 intro i;by_cases e:i=j
 ·subst e;rw [World.cell?_setCell_same w _ _ (boxC_cell h hj)];simp [cellC,hj]
 ·rw [World.cell?_setCell_other _ _ _ _ (by simp <;> omega),h i];simp [cellC,List.getElem?_set,show ¬ j=i by omega]
set_option maxHeartbeats 4000000 in
theorem eq2 (a b c d:Int) (w:World):(Op.equalIn 9999 65 (.agg #[.int .i64 a,.int .i64 b]) (.agg #[.int .i64 c,.int .i64 d])).run Tryz.prog w=.ok (a==c && b==d) w:=by
 have ku:=Tryz.underlying3;have ka:=Tryz.isAgg3;have kz:=Tryz.sizeOf3;rw [show (9999:Nat)=9998+1 from rfl,Op.equalIn];simp only [Sem.run_bind,run_underlying Tryz.underlying65,Result.andThen_ok];simp only [Std.Legacy.Range.forIn_eq_forIn_range',Std.Legacy.Range.size,Nat.sub_zero,Nat.add_sub_cancel,Nat.div_one,List.range'_succ,List.range'_zero,List.forIn_cons,List.forIn_nil];cases e0:(a==c)
 ·go_simp
 cases e1:(b==d)
 ·go_simp
 ·go_simp
set_option maxHeartbeats 4000000 in
theorem eqC_raw (a0 a1 a2 a3 a4 a5 a6 a7 a8 a9 a10 a11 a12 a13 b0 b1 b2 b3 b4 b5 b6 b7 b8 b9 b10 b11 b12 b13:Int) (w:World):(Op.equalIn 10000 67 (.agg #[.int .i64 a0,.int .i64 a1,.int .i64 a2,.int .i64 a3,.int .i64 a4,.int .i64 a5,.int .i64 a6,.int .i64 a7,.int .i64 a8,.int .i64 a9,.int .i64 a10,.int .i64 a11,.int .i64 a12,.int .i64 a13]) (.agg #[.int .i64 b0,.int .i64 b1,.int .i64 b2,.int .i64 b3,.int .i64 b4,.int .i64 b5,.int .i64 b6,.int .i64 b7,.int .i64 b8,.int .i64 b9,.int .i64 b10,.int .i64 b11,.int .i64 b12,.int .i64 b13])).run Tryz.prog w=.ok (a0==b0 && (a1==b1 && (a2==b2 && (a3==b3 && (a4==b4 && (a5==b5 && (a6==b6 && (a7==b7 && ((a8==b8 && a9==b9) && ((a10==b10 && a11==b11) && (a12==b12 && a13==b13))))))))))) w:=by
 have ku:=Tryz.underlying3;have ka:=Tryz.isAgg3;have kz:=Tryz.sizeOf3;have ku2:=Tryz.underlying65;have ka2:=Tryz.isAgg65;have kz2:=Tryz.sizeOf65;have ef:Tryz.prog.underlying 67=some (.struct (Tryz.prog.fieldsOf 67)):=by kernel_rfl
 have ef2:=Tryz.underlying67;rw [show (10000:Nat)=9999+1 from rfl,run_equalIn_struct w 9999 _ _ _ ef (by kernel_rfl)];rw [ef] at ef2;simp only [Option.some.injEq,TypeDesc.struct.injEq] at ef2;rw [ef2];clear ef ef2;cases e0:(a0==b0)
 ·go_simp
 cases e1:(a1==b1)
 ·go_simp
 cases e2:(a2==b2)
 ·go_simp
 cases e3:(a3==b3)
 ·go_simp
 cases e4:(a4==b4)
 ·go_simp
 cases e5:(a5==b5)
 ·go_simp
 cases e6:(a6==b6)
 ·go_simp
 cases e7:(a7==b7)
 ·go_simp
 have q1:=eq2 a8 a9 b8 b9 w;cases e8:(a8==b8 && a9==b9)
 ·rw [e8] at q1;go_simp
 rw [e8] at q1;have q2:=eq2 a10 a11 b10 b11 w;cases e10:(a10==b10 && a11==b11)
 ·rw [e10] at q2;go_simp
 rw [e10] at q2;have q3:=eq2 a12 a13 b12 b13 w;cases e12:(a12==b12 && a13==b13)
 ·rw [e12] at q3;go_simp
 rw [e12] at q3
 ·go_simp
theorem eqC {a b:List Int} (ha:a.length=14) (hb:b.length=14) (w:World):(Op.equalIn 10000 67 (.agg ⟨cellC a⟩) (.agg ⟨cellC b⟩)).run Tryz.prog w=.ok (decide (a=b)) w:=by
 obtain ⟨a0,a1,a2,a3,a4,a5,a6,a7,a8,a9,a10,a11,a12,a13,rfl⟩:=fourteen ha;obtain ⟨b0,b1,b2,b3,b4,b5,b6,b7,b8,b9,b10,b11,b12,b13,rfl⟩:=fourteen hb;have h:=eqC_raw a0 a1 a2 a3 a4 a5 a6 a7 a8 a9 a10 a11 a12 a13 b0 b1 b2 b3 b4 b5 b6 b7 b8 b9 b10 b11 b12 b13 w;refine h.trans ?_;congr 1;rw [Bool.eq_iff_iff];simp;intro _ _ _ _ _ _ _ _;constructor
 ·rintro ⟨⟨h9,h10⟩,⟨h11,h12⟩,h13,h14⟩;exact ⟨h9,h10,h11,h12,h13,h14⟩
 ·rintro ⟨h9,h10,h11,h12,h13,h14⟩;exact ⟨⟨h9,h10⟩,⟨h11,h12⟩,h13,h14⟩
end Go.Proofs.YtejllmjkeefloaaGreat.Q8
namespace Go.Proofs.YtejllmjkeefloaaGreat
open Go.ChangeShapes Go.WideShapes Go.ChangeAt Go.RowKit
set_option linter.unusedVariables false
theorem getD_ext {xs ys:List Int}(h:xs.length=ys.length):xs=ys↔∀ j,j<xs.length->xs.getD j 0=ys.getD j 0:=by
 constructor
 ·rintro rfl j _;rfl
 ·intro k;refine List.ext_getElem h (fun i h1 h2=>?_);have:=k i h1;simpa [List.getD,h1,h2] using this
set_option maxHeartbeats 1000000 in
theorem ints_any (w:World)(v u:Value)(xs ys:List Int)(t:Bool)(hv:IsNums .i64 w v xs)(hu:IsNums .i64 w u ys)(ht:Hid (t=true↔xs=ys)) :
  Calls Tryz.prog 52 #[v,u] w fun e w'=>e=.returned (.bool t)/\Grown w w':=by
 obtain⟨A,c1,rfl,a1,a2,a3,a4,a5⟩:=hv;obtain⟨B,c2,rfl,b1,b2,b3,b4,b5⟩:=hu;have hm:maxLen<=9223372036854775807:=by decide
 have hl1:xs.length<=9223372036854775807:=by omega
 have hl2:ys.length<=9223372036854775807:=by omega
 clear hm a2 b2;by_cases hl:xs.length=ys.length
 ·have HE:=LH (getD_ext hl);have e0:((xs.length:Int)==(ys.length:Int))=true:=by simp only [beq_iff_eq];omega
  go_enter Tryz.func52,Tryz.ntmps52;go_wp2_with fail;go_loopw [5] (fun i wr=>∃ k:Nat,k<=xs.length/\i=.int .i64 k/\Hid (∀ j,j<k->xs.getD j 0=ys.getD j 0)/\Grown w wr) (fun i _=>xs.length-(intOf i).toNat)
  case atStart=>exact⟨0,by omega,rfl,LH (fun j h=>by omega),Grown.refl _⟩
  case round =>
   obtain⟨k,hk,rfl,hx,hg⟩:=hrel;by_cases l:k<xs.length
   ·obtain⟨p,o,rfl,hp,hc⟩:=a5 (by omega);obtain⟨p',o',rfl,hp',hc'⟩:=b5 (by omega);have x1:=(grown_cell hg (p:=⟨p,o+k,none⟩) hp).trans (hc k l);have x2:=(grown_cell hg (p:=⟨p',o'+k,none⟩) hp').trans (hc' k (by omega));obtain⟨x,hxx⟩:∃ x,xs.getD k 0=x:=⟨_,rfl⟩
    obtain⟨y,hyy⟩:∃ y,ys.getD k 0=y:=⟨_,rfl⟩
    rw [hxx] at x1;rw [hyy] at x2;have i1:(0:Int)<=(k:Int):=by omega
    have i2:(k:Int)<(xs.length:Int):=by omega
    have i3:(k:Int)<(ys.length:Int):=by omega
    by_cases q:x=y
    ·have E:Hid (∀ j,j<k+1->xs.getD j 0=ys.getD j 0):=LH (fun j h=>by
      by_cases c:j=k
      ·subst c;rw [hxx,hyy,q]
      ·exact hx.out j (by omega))
     clear hc hc' hxx hyy;subst q;go_wp2_with fail;go_region;go_wp2_with fail;go_roundw
     case rel=>exact⟨k+1,by omega,by go_num,E,hg.drew⟩
     case measure=>simp [intOf];omega
    ·have T:t=false:=by
      cases t with
      | false=>rfl
      | true=>exact absurd (by rw [<- hxx,<- hyy];exact(HE.out.1 (ht.out.1 rfl)) k l) q
     subst T;have e1:(x==y)=false:=by simpa using q
     clear hc hc' hxx hyy;go_wp2_with fail;go_region;go_wp2_with fail;go_ret;exact⟨rfl,hg.drew⟩
   ·have T:t=true:=ht.out.2 (HE.out.2 (fun j h=>hx.out j (by omega)));subst T;go_wp2_with fail;go_ret;exact⟨rfl,hg⟩
 ·have T:t=false:=by
   cases t with
   | false=>rfl
   | true=>exact absurd (congrArg List.length (ht.out.1 rfl)) hl
  subst T;have e0:((xs.length:Int)==(ys.length:Int))=false:=by simp only [beq_eq_false_iff_ne,ne_eq];omega
  go_enter Tryz.func52,Tryz.ntmps52;go_wp2_with fail;go_ret;exact⟨rfl,Grown.refl _⟩
theorem vals_ext {xs ys:List ValD}(h:xs.length=ys.length):xs=ys↔∀ j,j<xs.length->xs.getD j default=ys.getD j default:=by
 constructor
 ·rintro rfl j _;rfl
 ·intro k;refine List.ext_getElem h (fun i h1 h2=>?_);have:=k i h1;simpa [List.getD,h1,h2] using this
set_option maxHeartbeats 1000000 in
theorem vals_any (w:World)(v u:Value)(xs ys:List ValD)(t:Bool)(hv:IsVals w v xs)(hu:IsVals w u ys)(ht:Hid (t=true↔xs=ys)) :
  Calls Tryz.prog 51 #[v,u] w fun e w'=>e=.returned (.bool t)/\Grown w w':=by
 obtain⟨A,c1,rfl,a1,a2,a3,a4,a5⟩:=hv;obtain⟨B,c2,rfl,b1,b2,b3,b4,b5⟩:=hu;have hm:maxLen<=9223372036854775807:=by decide
 have hl1:xs.length<=9223372036854775807:=by omega
 have hl2:ys.length<=9223372036854775807:=by omega
 clear hm a2 b2;by_cases hl:xs.length=ys.length
 ·have HE:=LH (vals_ext hl);have e0:((xs.length:Int)==(ys.length:Int))=true:=by simp only [beq_iff_eq];omega
  go_enter Tryz.func51,Tryz.ntmps51;go_wp2_with fail;go_loopw [5] (fun i wr=>∃ k:Nat,k<=xs.length/\i=.int .i64 k/\Hid (∀ j,j<k->xs.getD j default=ys.getD j default)/\Grown w wr) (fun i _=>xs.length-(intOf i).toNat)
  case atStart=>exact⟨0,by omega,rfl,LH (fun j h=>by omega),Grown.refl _⟩
  case round =>
   obtain⟨k,hk,rfl,hx,hg⟩:=hrel;by_cases l:k<xs.length
   ·obtain⟨p,o,rfl,hp,hc⟩:=a5 (by omega);obtain⟨p',o',rfl,hp',hc'⟩:=b5 (by omega);obtain⟨m0,m1,m2,m3⟩:=(hc k l).grow hp (Grown.past hg);obtain⟨n0,n1,n2,n3⟩:=(hc' k (by omega)).grow hp' (Grown.past hg);obtain⟨x,hxx⟩:∃ x,xs.getD k default=x:=⟨_,rfl⟩
    obtain⟨y,hyy⟩:∃ y,ys.getD k default=y:=⟨_,rfl⟩
    rw [hxx] at m0 m1 m2 m3;rw [hyy] at n0 n1 n2 n3;obtain⟨xh,xw,xc,xz⟩:=x;obtain⟨yh,yw,yc,yz⟩:=y;simp only at m0 m1 m2 m3 n0 n1 n2 n3;have i1:(0:Int)<=(k:Int):=by omega
    have i2:(k:Int)<(xs.length:Int):=by omega
    have i3:(k:Int)<(ys.length:Int):=by omega
    by_cases q:(⟨xh,xw,xc,xz⟩:ValD)=⟨yh,yw,yc,yz⟩
    ·have E:Hid (∀ j,j<k+1->xs.getD j default=ys.getD j default):=LH (fun j h=>by
      by_cases c:j=k
      ·subst c;rw [hxx,hyy,q]
      ·exact hx.out j (by omega))
     clear hc hc' hxx hyy;simp only [ValD.mk.injEq] at q;obtain⟨rfl,rfl,rfl,rfl⟩:=q;go_wp2_with fail;go_region;go_wp2_with fail;go_roundw
     case rel=>exact⟨k+1,by omega,by go_num,E,hg.drew⟩
     case measure=>simp [intOf];omega
    ·have T:t=false:=by
      cases t with
      | false=>rfl
      | true=>exact absurd (by rw [<- hxx,<- hyy];exact(HE.out.1 (ht.out.1 rfl)) k l) q
     subst T;clear hc hc' hxx hyy;simp only [ValD.mk.injEq] at q;by_cases q1:xh=yh
     ·subst q1;by_cases q2:xw=yw
      ·subst q2;by_cases q3:xc=yc
       ·subst q3;have q4:¬ xz=yz:=fun e=>q ⟨rfl,rfl,rfl,e⟩
        go_wp2_with fail;go_region;go_wp2_with fail;go_ret;exact⟨rfl,hg.drew⟩
       ·go_wp2_with fail;go_region;go_wp2_with fail;go_ret;exact⟨rfl,hg.drew⟩
      ·go_wp2_with fail;go_region;go_wp2_with fail;go_ret;exact⟨rfl,hg.drew⟩
     ·go_wp2_with fail;go_region;go_wp2_with fail;go_ret;exact⟨rfl,hg.drew⟩
   ·have T:t=true:=ht.out.2 (HE.out.2 (fun j h=>hx.out j (by omega)));subst T;go_wp2_with fail;go_ret;exact⟨rfl,hg⟩
 ·have T:t=false:=by
   cases t with
   | false=>rfl
   | true=>exact absurd (congrArg List.length (ht.out.1 rfl)) hl
  subst T;have e0:((xs.length:Int)==(ys.length:Int))=false:=by simp only [beq_eq_false_iff_ne,ne_eq];omega
  go_enter Tryz.func51,Tryz.ntmps51;go_wp2_with fail;go_ret;exact⟨rfl,Grown.refl _⟩
end Go.Proofs.YtejllmjkeefloaaGreat
namespace Go.Proofs.YtejllmjkeefloaaGreat
open Go.ChangeShapes Go.WideShapes Go.ChangeAt Go.RowKit
set_option maxRecDepth 20000
set_option linter.unusedVariables false
set_option linter.unusedSimpArgs false
theorem wf64r {x:Int}(h : -9223372036854775808<=x/\x<=9223372036854775807):(Lit.int .i64 x).wf=true:=by simpa [Lit.wf,IntKind.min,IntKind.max,IntKind.bits,IntKind.signed] using h
set_option maxHeartbeats 4000000 in
theorem rnode_any (base:Nat) (bv:Value) (bs:List Int) (n:NodeD) (vi vw vb:Value) (W:World) (ho:OwnB W base bv bs) (hin:NodeIn W n vi vw vb) (wf:NodeWf n)
  (ai:0<n.ins.length→Apart base vi) (aw:0<n.ws.length→Apart base vw) (ab:0<n.bs.length→Apart base vb) (hb:base≤W.heap.size) (hm:bs.length+(nodeB n).length≤900000100) :
  Calls Tryz.prog 73 #[bv,.agg (nC n vi vw vb)] W (RNumPost base (bs++nodeB n) W):=by
 obtain ⟨f0,f2,f3,f4,f5,f6,f7,f8,f9,f10,f11⟩:=wf
 rw [nodeB_len] at hm
 have HO:=LH ho
 have hin':=hin
 obtain ⟨⟨Ai,ci,rfl,i2,i3,_⟩,⟨Aw,cw,rfl,j2,j3,_,j5,j6⟩,⟨Ab,cb,rfl,q2,q3,_,q5,q6⟩⟩:=hin'
 have HI:=LH hin.1
 have HW:=LH hin.2.1
 have HB:=LH hin.2.2
 have W6:=LH j6
 have V5:=LH q5
 have V6:=LH q6
 have AI:=LH ai
 have AW:=LH aw
 have AB:=LH ab
 have F:=LH (And.intro f0 (And.intro f2 (And.intro f3 (And.intro f4 (And.intro f5 (And.intro f6 (And.intro f7 (And.intro f8 (And.intro f9 (And.intro f10 f11))))))))))
 have mi:n.ins.length≤9223372036854775807:=by omega
 have mw:n.ws.length≤9223372036854775807:=by omega
 have mb:n.bs.length≤9223372036854775807:=by omega
 obtain ⟨i0,hi0,hz0,hz1,hz2⟩:=info_parts info8
 have I1:=LH hi0
 have I2:=LH hz0
 have I3:=LH hz1
 have I4:=LH hz2
 clear hi0 hz0 hz1 hz2 f0 f2 f3 f4 f5 f6 f7 f8 f9 f10 f11 ho hin ai aw ab j5 j6 q5 q6 i2 i3 j2 j3 q2 q3
 go_enter Tryz.func73,Tryz.ntmps73
 go_upto_region 1 with fail
 obtain ⟨P,hP⟩:∃ P,W.heap.size=P:=⟨_,rfl⟩
 refine opq (fun w'=>(Bx w' P (nC n (.slice Ai n.ins.length ci) (.slice Aw n.ws.length cw) (.slice Ab n.bs.length cb)))∧OwnB w' base bv bs∧Hid (Lays base W w')∧base≤w'.heap.size) (by
  subst hP
  exact ⟨box_new rfl,HO.out.alloc _,LH ((Lays.refl base W).alloc _),by simp;omega⟩) ?_
 rintro w0 ⟨b0,o0,g0,s0⟩
 rw [hP]
 have C0:=LH (rsome_any base bv (.slice (some ⟨w0.heap.size,0,none⟩) 2 2) (bs) [n.op,(n.ins.length:Int)] (w0.alloc (.cells #[.int .i64 n.op,.int .i64 (n.ins.length:Int)] 3)) (o0.alloc _)
  (nums_new .i64 w0 3 [n.op,(n.ins.length:Int)] (by simp) (by simp [maxLen]) (by
  intro x hx
  simp only [List.mem_cons,List.not_mem_nil,or_false] at hx
  rcases hx with rfl|rfl
  ·exact F.out.1
  ·exact len_wf _ (by omega))) (fun _=>apart0 _ _ _ _) (by simp;omega) (by simp only [List.length_append,numsB_len,numB_len,List.length_cons,List.length_nil];omega))
 go_wp2_with fail
 refine C0.out.mono ?_
 rintro e w1 ⟨v1,rfl,o1,h1⟩
 have k1:=((Lays.refl base w0).alloc (.cells #[.int .i64 n.op,.int .i64 (n.ins.length:Int)] 3)).trans h1
 have b1:=box_lays b0 (noRow_node b0) k1
 have g1:=LH (g0.out.trans k1)
 have s1:base≤w1.heap.size:=by have:=k1.2.2.1;omega
 clear C0 k1 b0 o0 g0 s0 h1
 have C1:=LH (rsome_any base v1 (.slice Ai n.ins.length ci) (bs++numsB 1 [n.op,(n.ins.length:Int)]) n.ins w1 o1 (nums_lays (by decide) HI.out AI.out g1.out) AI.out s1 (by simp only [List.length_append,numsB_len,numB_len,List.length_cons,List.length_nil];omega))
 go_wp2_with fail
 refine C1.out.mono ?_
 rintro e w2 ⟨v2,rfl,o2,k2⟩
 have b2:=box_lays b1 (noRow_node b1) k2
 have g2:=LH (g1.out.trans k2)
 have s2:base≤w2.heap.size:=by have:=k2.2.2.1;omega
 clear C1 k2 b1 o1 g1 s1
 have C2:=LH (rsome_any base v2 (.slice (some ⟨w2.heap.size,0,none⟩) 4 4) (bs++numsB 1 [n.op,(n.ins.length:Int)]++numsB 1 n.ins) [n.k,n.stride,n.pad,n.out] (w2.alloc (.cells #[.int .i64 n.k,.int .i64 n.stride,.int .i64 n.pad,.int .i64 n.out] 3)) (o2.alloc _)
  (nums_new .i64 w2 3 [n.k,n.stride,n.pad,n.out] (by simp) (by simp [maxLen]) (by
  intro x hx
  simp only [List.mem_cons,List.not_mem_nil,or_false] at hx
  rcases hx with rfl|rfl|rfl|rfl
  ·exact F.out.2.1
  ·exact F.out.2.2.1
  ·exact F.out.2.2.2.1
  ·exact F.out.2.2.2.2.1)) (fun _=>apart0 _ _ _ _) (by simp;omega) (by simp only [List.length_append,numsB_len,numB_len,List.length_cons,List.length_nil];omega))
 go_wp2_with fail
 refine C2.out.mono ?_
 rintro e w3 ⟨v3,rfl,o3,h3⟩
 have k3:=((Lays.refl base w2).alloc (.cells #[.int .i64 n.k,.int .i64 n.stride,.int .i64 n.pad,.int .i64 n.out] 3)).trans h3
 have b3:=box_lays b2 (noRow_node b2) k3
 have g3:=LH (g2.out.trans k3)
 have s3:base≤w3.heap.size:=by have:=k3.2.2.1;omega
 clear C2 k3 b2 o2 g2 s2 h3
 have C3:=LH (rnum_any base 2 v3 (bs++numsB 1 [n.op,(n.ins.length:Int)]++numsB 1 n.ins++numsB 1 [n.k,n.stride,n.pad,n.out]) n.mul w3 (by omega) F.out.2.2.2.2.2.1 o3 s3 (by simp only [List.length_append,numsB_len,numB_len,List.length_cons,List.length_nil];omega))
 go_wp2_with fail
 refine C3.out.mono ?_
 rintro e w4 ⟨v4,rfl,o4,k4⟩
 have b4:=box_lays b3 (noRow_node b3) k4
 have g4:=LH (g3.out.trans k4)
 have s4:base≤w4.heap.size:=by have:=k4.2.2.1;omega
 clear C3 k4 b3 o3 g3 s3
 have C4:=LH (rsome_any base v4 (.slice (some ⟨w4.heap.size,0,none⟩) 5 5) (bs++numsB 1 [n.op,(n.ins.length:Int)]++numsB 1 n.ins++numsB 1 [n.k,n.stride,n.pad,n.out]++numB 2 n.mul) [n.shift,n.zero,n.th,n.tw,n.tc] (w4.alloc (.cells #[.int .i64 n.shift,.int .i64 n.zero,.int .i64 n.th,.int .i64 n.tw,.int .i64 n.tc] 3)) (o4.alloc _)
  (nums_new .i64 w4 3 [n.shift,n.zero,n.th,n.tw,n.tc] (by simp) (by simp [maxLen]) (by
  intro x hx
  simp only [List.mem_cons,List.not_mem_nil,or_false] at hx
  rcases hx with rfl|rfl|rfl|rfl|rfl
  ·exact F.out.2.2.2.2.2.2.1
  ·exact F.out.2.2.2.2.2.2.2.1
  ·exact F.out.2.2.2.2.2.2.2.2.1
  ·exact F.out.2.2.2.2.2.2.2.2.2.1
  ·exact F.out.2.2.2.2.2.2.2.2.2.2)) (fun _=>apart0 _ _ _ _) (by simp;omega) (by simp only [List.length_append,numsB_len,numB_len,List.length_cons,List.length_nil];omega))
 go_wp2_with fail
 refine C4.out.mono ?_
 rintro e w5 ⟨v5,rfl,o5,h5⟩
 have k5:=((Lays.refl base w4).alloc (.cells #[.int .i64 n.shift,.int .i64 n.zero,.int .i64 n.th,.int .i64 n.tw,.int .i64 n.tc] 3)).trans h5
 have b5:=box_lays b4 (noRow_node b4) k5
 have g5:=LH (g4.out.trans k5)
 have s5:base≤w5.heap.size:=by have:=k5.2.2.1;omega
 clear C4 k5 b4 o4 g4 s4 h5
 have C5:=LH (rnum_any base 2 v5 (bs++numsB 1 [n.op,(n.ins.length:Int)]++numsB 1 n.ins++numsB 1 [n.k,n.stride,n.pad,n.out]++numB 2 n.mul++numsB 1 [n.shift,n.zero,n.th,n.tw,n.tc]) (n.ws.length:Int) w5 (by omega) (len_wf _ (by omega)) o5 s5 (by simp only [List.length_append,numsB_len,numB_len,List.length_cons,List.length_nil];omega))
 go_wp2_with fail
 refine C5.out.mono ?_
 rintro e w6 ⟨v6,rfl,o6,k6⟩
 have b6:=box_lays b5 (noRow_node b5) k6
 have g6:=LH (g5.out.trans k6)
 have s6:base≤w6.heap.size:=by have:=k6.2.2.1;omega
 clear C5 k6 b5 o5 g5 s5
 obtain ⟨cs,ecs⟩:∃ cs,bs++numsB 1 [n.op,(n.ins.length:Int)]++numsB 1 n.ins++numsB 1 [n.k,n.stride,n.pad,n.out]++numB 2 n.mul++numsB 1 [n.shift,n.zero,n.th,n.tw,n.tc]++numB 2 (n.ws.length:Int)=cs:=⟨_,rfl⟩
 rw [ecs] at o6
 have ECS:=LH ecs
 have lcs:Hid (cs.length≤bs.length+15+n.ins.length):=LH (by rw [← ecs];simp only [List.length_append,numsB_len,numB_len,List.length_cons,List.length_nil];omega)
 have O6:=LH o6
 clear ecs o6
 go_wp2_with fail
 go_loopw [0,5] (fun v i wr=>∃ k:Nat,k≤n.ws.length∧i=.int .i64 k∧(Bx wr P (nC n (.slice Ai n.ins.length ci) (.slice Aw n.ws.length cw) (.slice Ab n.bs.length cb)))∧Hid (OwnB wr base v (cs++numsB 1 (n.ws.take k)))∧Hid (Lays base W wr)∧base≤wr.heap.size) (fun _ i _=>n.ws.length-(intOf i).toNat)
 case atStart=>exact ⟨0,by omega,rfl,b6,LH (by simpa [numsB] using O6.out),g6,s6⟩
 case round =>
  clear b6 O6 g6 s6
  obtain ⟨k,hk,rfl,bk,hown,hp,hbs⟩:=hrel
  by_cases h:k<n.ws.length
  ·obtain ⟨b,off,rfl,hbb,hc⟩:=W6.out (by omega)
   have hN:=nums_noRow (by decide) HW.out (AW.out (by omega)) (by omega)
   have c0:=(hp.out.cell hN).trans (hc k h)
   have hnext:=numsB_one n.ws k h
   obtain ⟨x,hx⟩:∃ x,n.ws.getD k 0=x:=⟨_,rfl⟩
   rw [hx] at c0 hnext
   have HX:=LH hnext
   clear hx hc hnext hN
   have HLEN:Hid ((cs++numsB 1 (n.ws.take k)).length+1≤1000000000):=LH (by
    rw [List.length_append,numsB_len,List.length_take,Nat.min_eq_left (by omega)]
    have:=lcs.out
    omega)
   obtain ⟨ds,hds⟩:∃ ds,cs++numsB 1 (n.ws.take k)=ds:=⟨_,rfl⟩
   have EC:=LH hds
   rw [hds] at hown HLEN
   clear hds
   go_wp2_with (at_builtin;refine wpList_append_own _ rfl (.tmp 62) (.tmp 69) 22 rfl base 5 i0 _ 1 1 Tryz.underlying22 I1.out I2.out I3.out I4.out rfl (by decide) _ _ _ rfl (World.ownsRow.alloc hown.out.1 _) ⟨wr.heap.size,0,none⟩ 1 1 [.int .u8 (x%256)] rfl rfl (fun j u hu=>cells_new' wr _ 5 j u hu) (by intro u hu;simp at hu;subst hu;rfl) ?c4 ?c5 ?c6 ?_)
   case c4=>have:=HLEN.out;unfold maxLen;omega
   case c5=>have:=HLEN.out;omega
   case c6=>simp;omega
   intro v4 w4 hown4 hgrow _
   have ho4:=LH (own_bytes rfl hown4)
   have hl4:=LH (Lays.grownBy (hp.out.alloc _) (hown.out.alloc _) hgrow)
   have k4:=Lays.grownBy ((Lays.refl base wr).alloc _) (hown.out.alloc _) hgrow
   have b4:=box_lays bk (noRow_node bk) k4
   have hs4:base≤w4.heap.size:=by have:=hgrow.size;simp only [World.size_alloc] at this;omega
   clear hown4 hgrow k4 bk
   go_wp2_with fail
   go_roundw
   case rel=>exact ⟨k+1,by omega,by go_num,b4,LH (by rw [HX.out,← List.append_assoc,EC.out];exact ho4.out),hl4,hs4⟩
   case measure=>simp [intOf];omega
  ·have hk':n.ws.take k=n.ws:=List.take_of_length_le (by omega)
   rw [hk'] at hown
   clear hk' W6 AW HW
   have HLEN:Hid ((cs++numsB 1 n.ws).length+1≤1000000000):=LH (by
    rw [List.length_append,numsB_len]
    have:=lcs.out
    omega)
   obtain ⟨ds,hds⟩:∃ ds,cs++numsB 1 n.ws=ds:=⟨_,rfl⟩
   have EC:=LH hds
   have lds:Hid (ds.length=cs.length+n.ws.length):=LH (by rw [← hds,List.length_append,numsB_len];omega)
   rw [hds] at hown HLEN
   clear hds
   go_wp2_with (at_builtin;refine wpList_append_own _ rfl (.tmp 71) (.tmp 76) 22 rfl base 5 i0 _ 1 1 Tryz.underlying22 I1.out I2.out I3.out I4.out rfl (by decide) _ _ _ rfl (World.ownsRow.alloc hown.out.1 _) ⟨wr.heap.size,0,none⟩ 1 1 [.int .u8 ((n.bs.length:Int)%256)] rfl rfl (fun j u hu=>cells_new' wr _ 5 j u hu) (by intro u hu;simp at hu;subst hu;rfl) ?c4 ?c5 ?c6 ?_)
   case c4=>have:=HLEN.out;unfold maxLen;omega
   case c5=>have:=HLEN.out;omega
   case c6=>simp;omega
   intro v4 w4 hown4 hgrow _
   have O4:=LH (own_bytes rfl hown4)
   have l4:=LH (Lays.grownBy (hp.out.alloc _) (hown.out.alloc _) hgrow)
   have k4:=Lays.grownBy ((Lays.refl base wr).alloc _) (hown.out.alloc _) hgrow
   have b4:=box_lays bk (noRow_node bk) k4
   have hs4:base≤w4.heap.size:=by have:=hgrow.size;simp only [World.size_alloc] at this;omega
   clear hown4 hgrow k4 bk hown hp hbs HLEN
   go_wp2_with fail
   go_loopw [0,6] (fun v i wr=>∃ k:Nat,k≤n.bs.length∧i=.int .i64 k∧(Bx wr P (nC n (.slice Ai n.ins.length ci) (.slice Aw n.ws.length cw) (.slice Ab n.bs.length cb)))∧Hid (OwnB wr base v (ds++[(n.bs.length:Int)%256]++numsB 4 (n.bs.take k)))∧Hid (Lays base W wr)∧base≤wr.heap.size) (fun _ i _=>n.bs.length-(intOf i).toNat)
   case atStart=>exact ⟨0,by omega,rfl,b4,LH (by simpa [numsB] using O4.out),l4,hs4⟩
   case round =>
    clear b4 O4 l4 hs4
    obtain ⟨m,hmk,rfl,bk,hown,hp,hbs⟩:=hrel
    by_cases h:m<n.bs.length
    ·obtain ⟨b,off,rfl,hbb,hc⟩:=V6.out (by omega)
     have hN:=nums_noRow (by decide) HB.out (AB.out (by omega)) (by omega)
     have c0:=(hp.out.cell hN).trans (hc m h)
     have wx:=V5.out (n.bs.getD m 0) (by simp [List.getD,h])
     have hnext:=numsB_take 4 n.bs m h
     obtain ⟨x,hx⟩:∃ x,n.bs.getD m 0=x:=⟨_,rfl⟩
     rw [hx] at c0 hnext wx
     have HX:=LH hnext
     have xb : -2147483648≤x∧x≤2147483647:=by simpa [Lit.wf,IntKind.min,IntKind.max,IntKind.bits,IntKind.signed] using wx
     have ew:IntKind.i64.wrap x=x:=IntWalk.i64_in _ (by omega)
     have C:=LH (rnum_any base 4 u0 (ds++[(n.bs.length:Int)%256]++numsB 4 (n.bs.take m)) x wr (by omega) (wf64r (by omega)) hown.out hbs (by
      simp only [List.length_append,numsB_len,List.length_take,List.length_cons,List.length_nil]
      have:=lds.out
      have:=lcs.out
      have:min m n.bs.length=m:=Nat.min_eq_left (by omega)
      omega))
     clear hx hc hnext hN wx xb
     go_wp2_with fail
     refine C.out.mono ?_
     rintro e w5 ⟨v5,rfl,o5,k5⟩
     have b5:=box_lays bk (noRow_node bk) k5
     have O5:=LH o5
     have L5:=LH (hp.out.trans k5)
     have hs5:base≤w5.heap.size:=by have:=k5.2.2.1;omega
     clear C bk k5 o5 hown hp
     go_wp2_with fail
     go_roundw
     case rel=>exact ⟨m+1,by omega,by go_num,b5,LH (by rw [HX.out,← List.append_assoc];exact O5.out),L5,hs5⟩
     case measure=>simp [intOf];omega
    ·have hk':n.bs.take m=n.bs:=List.take_of_length_le (by omega)
     rw [hk',← EC.out,← ECS.out] at hown
     clear hk'
     go_wp2_with fail
     go_ret
     have ho:=hown.out
     have e1:[(n.bs.length:Int)%256]=numB 1 (n.bs.length:Int):=by rw [numB_1];rfl
     rw [e1] at ho
     exact ⟨_,rfl,by simpa [nodeB,listB,numsB] using ho,hp.out⟩
end Go.Proofs.YtejllmjkeefloaaGreat
