/- graph: opOf, 5, 6, 7, 8. The reference of layer 2: May, Size, Row, Out. A struct or an array of many cells that is loaded, whole, from the beginning of a box: told at once (the walk's own simp takes twice as long for each cell more). A box of many cells that is made: the world behind it is a letter. -/
import Derived.Deep.MidRow
import Derived.Test.YtejllmjkeefloaaGreatMV2
import Derived.WalkKit
namespace Go.Proofs.YtejllmjkeefloaaGreat
open Go.ChangeShapes Go.WideShapes Go.ChangeAt Go.RowKit
set_option maxRecDepth 20000
set_option linter.unusedVariables false
set_option maxHeartbeats 2000000 in
theorem opOf_5 (w:World):Calls Tryz.prog 99 #[.int .i64 5] w (Made1 ⟨1,1,3,1,2,0,0,0,0,false,true⟩ 146 150 (.func (.func 124) #[] #[]) (.int .i64 0) w):=by
 go_enter Tryz.func99,Tryz.ntmps99;go_wp2_with (first|(go_at_call 128;with_reducible refine (always_any _ _).mono ?_;rintro e w1 ⟨rfl,rfl⟩)|(go_at_call 120;with_reducible refine (slid_any _ _).mono ?_;rintro e w1 ⟨rfl,rfl⟩)|(go_at_call 122;with_reducible refine (ofChannels_any _ _).mono ?_;rintro e w1 ⟨rfl,rfl⟩));exact bodyPost_ret (by simp [results,Tryz.results99,go_sem];rfl) rfl ⟨_,_,rfl,by go_cell,by simp,by go_cell,by simp,by go_grown⟩
set_option maxHeartbeats 2000000 in
theorem opOf_6 (w:World):Calls Tryz.prog 99 #[.int .i64 6] w (Made0 ⟨2,0,0,0,0,0,0,0,0,false,false⟩ 129 150 (.int .i64 0) w):=by
 go_enter Tryz.func99,Tryz.ntmps99;go_wp2_with (first|(go_at_call 128;with_reducible refine(always_any _ _).mono ?_;rintro e w1 ⟨rfl,rfl⟩)|(go_at_call 120;with_reducible refine(slid_any _ _).mono ?_;rintro e w1 ⟨rfl,rfl⟩)|(go_at_call 122;with_reducible refine(ofChannels_any _ _).mono ?_;rintro e w1 ⟨rfl,rfl⟩));exact bodyPost_ret (by simp [results,Tryz.results99,go_sem];rfl) rfl ⟨_,rfl,by go_cell,by simp,by go_grown⟩
set_option maxHeartbeats 2000000 in
theorem opOf_7 (w:World):Calls Tryz.prog 99 #[.int .i64 7] w (Made0 ⟨2,0,0,0,0,0,0,0,0,false,false⟩ 129 150 (.int .i64 0) w):=by
 go_enter Tryz.func99,Tryz.ntmps99;go_wp2_with (first|(go_at_call 128;with_reducible refine(always_any _ _).mono ?_;rintro e w1 ⟨rfl,rfl⟩)|(go_at_call 120;with_reducible refine(slid_any _ _).mono ?_;rintro e w1 ⟨rfl,rfl⟩)|(go_at_call 122;with_reducible refine(ofChannels_any _ _).mono ?_;rintro e w1 ⟨rfl,rfl⟩));exact bodyPost_ret (by simp [results,Tryz.results99,go_sem];rfl) rfl ⟨_,rfl,by go_cell,by simp,by go_grown⟩
set_option maxHeartbeats 2000000 in
theorem opOf_8 (w:World):Calls Tryz.prog 99 #[.int .i64 8] w (Made0 ⟨1,0,0,0,0,0,0,0,0,false,true⟩ 129 150 (.int .i64 0) w):=by
 go_enter Tryz.func99,Tryz.ntmps99;go_wp2_with (first|(go_at_call 128;with_reducible refine(always_any _ _).mono ?_;rintro e w1 ⟨rfl,rfl⟩)|(go_at_call 120;with_reducible refine(slid_any _ _).mono ?_;rintro e w1 ⟨rfl,rfl⟩)|(go_at_call 122;with_reducible refine(ofChannels_any _ _).mono ?_;rintro e w1 ⟨rfl,rfl⟩));exact bodyPost_ret (by simp [results,Tryz.results99,go_sem];rfl) rfl ⟨_,rfl,by go_cell,by simp,by go_grown⟩
end Go.Proofs.YtejllmjkeefloaaGreat
namespace Go.Proofs.YtejllmjkeefloaaGreat
open Go.ChangeShapes Go.WideShapes Go.ChangeAt Go.RowKit
theorem rmay_yes (H W C:Int)(w:World)(h:mayS H W C) :
  Calls Tryz.prog 75 #[.agg #[.int .i64 H,.int .i64 W,.int .i64 C]] w fun e w'=>e=.returned (.int .i64 0)/\Grown w w':=by
 obtain⟨h1,h2,h3,h4,h5,h6⟩:=h;go_enter Tryz.func75,Tryz.ntmps75;go_wp2;go_ret;exact⟨rfl,by go_grown⟩
theorem rmay_no (H W C:Int)(w:World)(h:¬ mayS H W C) :
  Calls Tryz.prog 75 #[.agg #[.int .i64 H,.int .i64 W,.int .i64 C]] w fun e w'=>e=.returned (.int .i64 10)/\Grown w w':=by
 by_cases c1:H<1
 ·go_enter Tryz.func75,Tryz.ntmps75;go_wp2;go_ret;exact⟨rfl,by go_grown⟩
 by_cases c2:16<H
 ·go_enter Tryz.func75,Tryz.ntmps75;go_wp2;go_ret;exact⟨rfl,by go_grown⟩
 by_cases c3:W<1
 ·go_enter Tryz.func75,Tryz.ntmps75;go_wp2;go_ret;exact⟨rfl,by go_grown⟩
 by_cases c4:16<W
 ·go_enter Tryz.func75,Tryz.ntmps75;go_wp2;go_ret;exact⟨rfl,by go_grown⟩
 by_cases c5:C<1
 ·go_enter Tryz.func75,Tryz.ntmps75;go_wp2;go_ret;exact⟨rfl,by go_grown⟩
 by_cases c6:8<C
 ·go_enter Tryz.func75,Tryz.ntmps75;go_wp2;go_ret;exact⟨rfl,by go_grown⟩
 exact absurd ⟨by omega,by omega,by omega,by omega,by omega,by omega⟩ h
theorem rsize_any (H W C q:Int)(w:World)(hq:Hid (q=sizeI H W C)) :
  Calls Tryz.prog 49 #[.agg #[.int .i64 H,.int .i64 W,.int .i64 C]] w fun e w'=>e=.returned (.int .i64 q)/\Grown w w':=by
 rw [hq.out];by_cases h:mayS H W C
 ·have e:sizeI H W C=H*W*C:=by unfold sizeI;rw [if_pos h]
  rw [e];obtain⟨h1,h2,h3,h4,h5,h6⟩:=id h;obtain⟨m1,m2⟩:=mul_bd h1 h2 h3 h4;obtain⟨m3,m4⟩:=mul_bd m1 m2 h5 h6;go_enter Tryz.func49,Tryz.ntmps49;go_wp2_with fail;refine(rmay_yes H W C _ h).mono ?_;rintro e w1 ⟨rfl,g1⟩;have c0:w1.cell? ⟨w.heap.size,0,none⟩=some (.int .i64 H):=(grown_cell g1 (by simp)).trans (by go_cell);have c1:w1.cell? ⟨w.heap.size,1,none⟩=some (.int .i64 W):=(grown_cell g1 (by simp)).trans (by go_cell);have c2:w1.cell? ⟨w.heap.size,2,none⟩=some (.int .i64 C):=(grown_cell g1 (by simp)).trans (by go_cell);clear h;go_wp2_with fail;go_ret;exact⟨rfl,grown_trans (by go_grown) g1⟩
 ·have e:sizeI H W C=0:=by unfold sizeI;rw [if_neg h]
  rw [e];go_enter Tryz.func49,Tryz.ntmps49;go_wp2_with fail;refine(rmay_no H W C _ h).mono ?_;rintro e w1 ⟨rfl,g1⟩;go_wp2_with fail;go_ret;exact⟨rfl,grown_trans (by go_grown) g1⟩
theorem rout_yes (size k stride pad n:Int) (w:World) (u1:1≤size) (u2:size≤64) (v1:1≤k) (v2:k≤16) (x1:1≤stride) (x2:stride≤16) (y1:0≤pad) (y2:pad≤16)
  (n1:0≤n) (n2:n≤97) (hn:Hid (∀ j:Nat,(j:Int)≤n→(-pad+j*stride≤4000∧-16≤-pad+j*stride∧(-pad+j*stride+k≤size+pad↔(j:Int)<n)))) :
  Calls Tryz.prog 142 #[.int .i64 size,.int .i64 k,.int .i64 stride,.int .i64 pad] w fun e w'=>e=.returned (.int .i64 n)∧Grown w w':=by
 go_enter Tryz.func142,Tryz.ntmps142
 go_wp2_with fail
 go_loop [9,10] (fun c a=>∃ j:Nat,(j:Int)≤n∧c=.int .i64 j∧a=.int .i64 (-pad+j*stride)) (fun c _=>(n-intOf c).toNat)
 case atStart=>exact ⟨0,by omega,rfl,by simp⟩
 case round =>
  obtain ⟨j,hj,rfl,rfl⟩:=hrel
  obtain ⟨b1,b2,b3⟩:=hn.out j hj
  by_cases hlt:(j:Int)<n
  ·have b4:=b3.mpr hlt
   clear b3
   go_wp2_with fail
   go_round
   case rel=>exact ⟨j+1,by omega,by go_num,by congr 1;rw [Int.natCast_add,Int.add_mul];omega⟩
   case measure=>simp [intOf];omega
  ·have b4:¬ (-pad+j*stride+k≤size+pad):=fun h=>hlt (b3.mp h)
   obtain rfl:n=j:=by omega
   clear b3
   go_wp2_with fail
   go_ret
   exact ⟨rfl,by go_grown⟩
theorem rout_any (size k stride pad q:Int)(w:World)(hq:Hid (q=outI size k stride pad)) :
  Calls Tryz.prog 142 #[.int .i64 size,.int .i64 k,.int .i64 stride,.int .i64 pad] w fun e w'=>e=.returned (.int .i64 q)/\Grown w w':=by
 by_cases c:(1<=size/\size<=64)/\(1<=k/\k<=16)/\(1<=stride/\stride<=16)/\(0<=pad/\pad<=16)
 ·obtain⟨⟨u1,u2⟩,⟨v1,v2⟩,⟨x1,x2⟩,⟨y1,y2⟩⟩:=c;have q0:0<=q/\q<=97:=by rw [hq.out];exact out_ge
  refine rout_yes size k stride pad q w u1 u2 v1 v2 x1 x2 y1 y2 q0.1 q0.2 (LH (fun j hj=>?_));have e : -pad+j*stride+k<=size+pad↔j*stride<=size+2*pad-k:=by constructor <;> intro h <;> omega
  rw [e];by_cases c5:k<=size+2*pad
  ·have hw:mayWin size k stride pad:=⟨u1,u2,v1,v2,x1,x2,y1,y2,c5⟩
   have hq':=hq.out;rw [outI_yes hw] at hq';have e2:=Int.le_ediv_iff_mul_le (a:=(j:Int)) (b:=size+2*pad-k) (c:=stride) (by omega);have b1:0<=(j:Int)*stride:=Int.mul_nonneg (by omega) (by omega);have b2:(j:Int)*stride<=97*16:=Int.mul_le_mul (by omega) x2 (by omega) (by omega);refine⟨by omega,by omega,?_⟩;rw [<- e2];constructor <;> intro h <;> omega
  ·have hq':=hq.out;rw [outI_no (fun h=>c5 h.2.2.2.2.2.2.2.2)] at hq';obtain rfl:j=0:=by omega
   simp;omega
 ·have q0:q=0:=by rw [hq.out];exact outI_no (fun h=>c ⟨⟨h.1,h.2.1⟩,⟨h.2.2.1,h.2.2.2.1⟩,⟨h.2.2.2.2.1,h.2.2.2.2.2.1⟩,⟨h.2.2.2.2.2.2.1,h.2.2.2.2.2.2.2.1⟩⟩)
  subst q0;clear hq;by_cases c1:size<1
  ·clear c;go_enter Tryz.func142,Tryz.ntmps142;go_wp2;go_ret;exact⟨rfl,by go_grown⟩
  by_cases c2:64<size
  ·clear c;go_enter Tryz.func142,Tryz.ntmps142;go_wp2;go_ret;exact⟨rfl,by go_grown⟩
  by_cases c3:k<1
  ·clear c;go_enter Tryz.func142,Tryz.ntmps142;go_wp2;go_ret;exact⟨rfl,by go_grown⟩
  by_cases c4:16<k
  ·clear c;go_enter Tryz.func142,Tryz.ntmps142;go_wp2;go_ret;exact⟨rfl,by go_grown⟩
  by_cases c5:stride<1
  ·clear c;go_enter Tryz.func142,Tryz.ntmps142;go_wp2;go_ret;exact⟨rfl,by go_grown⟩
  by_cases c6:16<stride
  ·clear c;go_enter Tryz.func142,Tryz.ntmps142;go_wp2;go_ret;exact⟨rfl,by go_grown⟩
  by_cases c7:pad<0
  ·clear c;go_enter Tryz.func142,Tryz.ntmps142;go_wp2;go_ret;exact⟨rfl,by go_grown⟩
  by_cases c8:16<pad
  ·clear c;go_enter Tryz.func142,Tryz.ntmps142;go_wp2;go_ret;exact⟨rfl,by go_grown⟩
  exact absurd ⟨⟨by omega,by omega⟩,⟨by omega,by omega⟩,⟨by omega,by omega⟩,⟨by omega,by omega⟩⟩ c
end Go.Proofs.YtejllmjkeefloaaGreat
namespace Go.Proofs.YtejllmjkeefloaaGreat
open Go
section
variable {P:Program} {ops:Array Oper} {Q:Exit->Act->World->Prop}
theorem range_box {w:World}{b o:Nat}{cells:Array Value}(h:∀ k:Nat,w.cell? ⟨b,k,none⟩=cells[k]?)(l:List Value)(hl:∀ j v,l[j]? = some v->cells[o+j]? = some v):w.rangeAt b o l:=fun j v hv=>by rw [h (o+j)];exact hl j v hv
theorem wpList_load_box {rest:List Oper}{op:Oper}{a:Act}{w:World}(hgd:op.guard=none)(ty:TypeId)(x:Operand)(ho:op.op=.load ty x)(b:Nat)(cells:Array Value){d:TypeDesc}(hx:a.eval x=.pointer (some ⟨b,0,none⟩))(hb:∀ k:Nat,w.cell? ⟨b,k,none⟩=cells[k]?)
  (hu:P.underlying ty=some d) (hd:d.isRow=true) (hi:(P.info? ty).map (·.size)=some cells.size) (h:wpList P ops Q rest (a.put op.dst (.agg cells)) w):wpList P ops Q (op :: rest) a w :=
 wpList_load_mid hgd ty x ho b 0 hx cells.toList d (range_box hb _ (fun j v hv=>by rw [Nat.zero_add];simpa using hv)) hu hd (by simpa using hi) h
theorem wp_load_box {op:Oper}{a:Act}{w:World}{K:Act->World->Prop}(ty:TypeId)(x:Operand)(ho:op.op=.load ty x)(b:Nat)(cells:Array Value){d:TypeDesc}(hx:a.eval x=.pointer (some ⟨b,0,none⟩))(hb:∀ k:Nat,w.cell? ⟨b,k,none⟩=cells[k]?)
  (hu:P.underlying ty=some d) (hd:d.isRow=true) (hi:(P.info? ty).map (·.size)=some cells.size) (h:K (a.put op.dst (.agg cells)) w):op.wp P a w K Q :=
 wp_load_mid ty x ho b 0 hx cells.toList d (range_box hb _ (fun j v hv=>by rw [Nat.zero_add];simpa using hv)) hu hd (by simpa using hi) h
end
end Go.Proofs.YtejllmjkeefloaaGreat
namespace Go.Proofs.YtejllmjkeefloaaGreat
open Go
section
variable {P:Program} {ops:Array Oper} {Q:Exit->Act->World->Prop}
theorem wpList_alloc_box {rest:List Oper}{op:Oper}{a:Act}{w:World}(hgd:op.guard=none)(ty:TypeId)(ho:op.op=.alloc ty)(z:Value)(hz:(P.info? ty).map (·.zero)=some (some z))(S:World->Prop)(hS:S (w.alloc (.cells z.cells ty)))
  (h:∀ w',S w'->wpList P ops Q rest (a.put op.dst (.pointer (some ⟨w.heap.size,0,none⟩))) w'):wpList P ops Q (op :: rest) a w:=by
 refine wpList_plain hgd fun K hK=>?_
 obtain⟨i,hi,hiz⟩:∃ i,P.info? ty=some i/\i.zero=some z:=by
  cases hq:P.info? ty with
  | none=>simp [hq] at hz
  | some i=>exact⟨i,rfl,by simpa [hq] using hz⟩
 have hrun:(Instr.alloc ty true (.tuple #[])).run P w=.ok (.pointer (some ⟨w.heap.size,0,none⟩)) (w.alloc (.cells z.cells ty)):=by
  simp [Instr.alloc,zeroValue,typeInfo,newVar,newRow,Sem.run_bind,hi,hiz,go_sem]
 unfold Oper.wp execOp;simp only [ho];simp only [hrun,Sem.run_bind,Sem.run_pure,Result.andThen_ok];exact hK _ _ (h _ hS)
end
end Go.Proofs.YtejllmjkeefloaaGreat
