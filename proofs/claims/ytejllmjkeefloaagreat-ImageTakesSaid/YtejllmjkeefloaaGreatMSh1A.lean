/- shape: May of a shape whose H or W is out of bounds. shape: May, Size, Row. graph: bounds.hold, zeros, tooFar, mayNotBe. graph: the small functions behind the makers and the counters. -/
import Derived.Test.YtejllmjkeefloaaGreatMSh1
import Derived.Test.YtejllmjkeefloaaGreatMRead
import Derived.Deep.QuietTactic
import Derived.BigQuiet
import Derived.Deep.DeepCutAuto
namespace Go.Proofs.YtejllmjkeefloaaGreat
open Go.ChangeShapes Go.WideShapes Go.ChangeAt Go.RowKit
set_option maxHeartbeats 1000000 in
theorem may_no1 (H W C:Int)(w:World)(h:¬ ((1<=H/\H<=16)/\(1<=W/\W<=16))) :
  Calls Tryz.prog 105 #[.agg #[.int .i64 H,.int .i64 W,.int .i64 C]] w fun e w'=>e=.returned (.int .i64 10)/\Grown w w':=by
 go_enter Tryz.func105,Tryz.ntmps105;go_wp2;first|(go_region_with (first|(go_at_call 139;refine(between_any _ _ _).mono ?_;rintro e w' ⟨rfl,rfl⟩)|(go_at_call 151;with_reducible refine(inb2n 1 16 H W _ _ _ _ h (by go_cell) (by go_cell) (by go_cell) (by go_cell)).mono ?_;rintro e w' ⟨rfl,rfl⟩)))|fail
 all_goals
  go_wp2;go_ret;exact⟨rfl,by go_grown⟩
end Go.Proofs.YtejllmjkeefloaaGreat
namespace Go.Proofs.YtejllmjkeefloaaGreat
open Go.ChangeShapes Go.WideShapes Go.ChangeAt Go.RowKit
set_option maxHeartbeats 1000000 in
theorem may_no2 (H W C:Int)(w:World)(u1:1<=H)(u2:H<=16)(v1:1<=W)(v2:W<=16)(h:¬ (1<=C/\C<=8)) :
  Calls Tryz.prog 105 #[.agg #[.int .i64 H,.int .i64 W,.int .i64 C]] w fun e w'=>e=.returned (.int .i64 10)/\Grown w w':=by
 go_enter Tryz.func105,Tryz.ntmps105;go_wp2
 first|(go_region_held3 (fun w'=>w'.cell? ⟨w.heap.size,0,none⟩=some (.int .i64 H)/\w'.cell? ⟨w.heap.size,1,none⟩=some (.int .i64 W)/\w'.cell? ⟨w.heap.size,2,none⟩=some (.int .i64 C)) ((refine⟨?_,?_,?_⟩ <;> go_cell))
  (first|(go_at_call 139;refine(between_any _ _ _).mono ?_;rintro e w' ⟨rfl,rfl⟩)|(go_at_call 151;with_reducible refine(inb2y 1 16 H W _ _ _ _ u1 u2 v1 v2 (by go_cell) (by go_cell) (by go_cell) (by go_cell)).mono ?_;rintro e w' ⟨rfl,rfl⟩)|(go_at_call 151;with_reducible refine(inb1n 1 8 C _ _ _ _ h (by go_cell) (by go_cell) (by go_cell)).mono ?_;rintro e w' ⟨rfl,rfl⟩)))
 all_goals
  go_wp2;go_ret;exact⟨rfl,by go_grown⟩
set_option maxHeartbeats 1000000 in
theorem may_ok (H W C:Int)(w:World)(u1:1<=H)(u2:H<=16)(v1:1<=W)(v2:W<=16)(x1:1<=C)(x2:C<=8) :
  Calls Tryz.prog 105 #[.agg #[.int .i64 H,.int .i64 W,.int .i64 C]] w fun e w'=>e=.returned (.int .i64 0)/\Grown w w':=by
 go_enter Tryz.func105,Tryz.ntmps105;go_wp2
 first|(go_region_held3 (fun w'=>w'.cell? ⟨w.heap.size,0,none⟩=some (.int .i64 H)/\w'.cell? ⟨w.heap.size,1,none⟩=some (.int .i64 W)/\w'.cell? ⟨w.heap.size,2,none⟩=some (.int .i64 C)) ((refine⟨?_,?_,?_⟩ <;> go_cell))
  (first|(go_at_call 139;refine(between_any _ _ _).mono ?_;rintro e w' ⟨rfl,rfl⟩)|(go_at_call 151;with_reducible refine(inb2y 1 16 H W _ _ _ _ u1 u2 v1 v2 (by go_cell) (by go_cell) (by go_cell) (by go_cell)).mono ?_;rintro e w' ⟨rfl,rfl⟩)|(go_at_call 151;with_reducible refine(inb1y 1 8 C _ _ _ _ x1 x2 (by go_cell) (by go_cell) (by go_cell)).mono ?_;rintro e w' ⟨rfl,rfl⟩)))
 all_goals
  go_wp2;go_ret;exact⟨rfl,by go_grown⟩
theorem may_yes (H W C:Int)(w:World)(h:mayS H W C) :
  Calls Tryz.prog 105 #[.agg #[.int .i64 H,.int .i64 W,.int .i64 C]] w fun e w'=>e=.returned (.int .i64 0)/\Grown w w':=by
 obtain⟨h1,h2,h3,h4,h5,h6⟩:=h;exact may_ok H W C w h1 h2 h3 h4 h5 h6
theorem may_no (H W C:Int)(w:World)(h:¬ mayS H W C) :
  Calls Tryz.prog 105 #[.agg #[.int .i64 H,.int .i64 W,.int .i64 C]] w fun e w'=>e=.returned (.int .i64 10)/\Grown w w':=by
 by_cases c:(1<=H/\H<=16)/\(1<=W/\W<=16)
 ·exact may_no2 H W C w c.1.1 c.1.2 c.2.1 c.2.2 (fun hc=>h ⟨c.1.1,c.1.2,c.2.1,c.2.2,hc.1,hc.2⟩)
 ·exact may_no1 H W C w c
theorem numbers_no (H W C:Int)(v:Value)(w:World)(h:¬ mayS H W C) :
  Calls Tryz.prog 70 #[.agg #[.int .i64 H,.int .i64 W,.int .i64 C],v] w fun e w'=>e=.returned (.int .i64 0)/\Grown w w':=by
 go_enter Tryz.func70,Tryz.ntmps70;go_wp2_with fail;refine(may_no H W C _ h).mono ?_;rintro e w1 ⟨rfl,g1⟩;go_wp2_with fail;go_ret;exact⟨rfl,grown_trans (by go_grown) g1⟩
theorem numbers_yes (H W C:Int) (n:Nat) (f:Nat→Int) (b:Nat) (w:World) (h:mayS H W C) (hn:n≤3) (hb:b<w.heap.size)
  (hp:Hid (∀ i,i≤n→1≤prodN f i∧prodN f i≤4096)) (hr:Hid (∀ i,i<n→w.cell? ⟨b,i,none⟩=some (.int .i64 (f i)))) :
  Calls Tryz.prog 70 #[.agg #[.int .i64 H,.int .i64 W,.int .i64 C],.slice (some ⟨b,0,none⟩) n n] w fun e w'=>e=.returned (.int .i64 (prodN f n))∧Grown w w':=by
 go_enter Tryz.func70,Tryz.ntmps70
 go_wp2_with fail
 refine (may_yes H W C _ h).mono ?_;rintro e w1 ⟨rfl,g1⟩
 have g:Grown w w1:=grown_trans (by go_grown) g1
 have hr1:Hid (∀ i,i<n→w1.cell? ⟨b,i,none⟩=some (.int .i64 (f i))):=LH (fun i hi=>(grown_cell g hb).trans (hr.out i hi))
 clear g1 hr
 go_wp2_with fail
 go_loop [5,13] (fun a i=>∃ k:Nat,k≤n∧i=.int .i64 k∧a=.int .i64 (prodN f k)) (fun _ i=>n-(intOf i).toNat)
 case atStart=>exact ⟨0,by omega,rfl,rfl⟩
 case round =>
  obtain ⟨k,hk,rfl,rfl⟩:=hrel
  by_cases hlt:k<n
  ·have hc:=hr1.out k hlt
   have hq:=hp.out (k+1) hlt
   simp only [prodN] at hq
   obtain ⟨hq1,hq2⟩:=hq
   go_wp2_with fail
   go_round
   case rel=>exact ⟨k+1,by omega,by go_num,rfl⟩
   case measure=>simp [intOf];omega
  ·obtain rfl:k=n:=by omega
   go_wp2_with fail
   go_ret
   exact ⟨rfl,g⟩
theorem size_any (H W C q:Int)(w:World)(hq:Hid (q=sizeI H W C)) :
  Calls Tryz.prog 36 #[.agg #[.int .i64 H,.int .i64 W,.int .i64 C]] w fun e w'=>e=.returned (.int .i64 q)/\Grown w w':=by
 rw [hq.out];by_cases h:mayS H W C
 ·have e:sizeI H W C=prodN (fun i=>if i=0 then H else if i=1 then W else C) 3:=by
   unfold sizeI;rw [if_pos h];simp [prodN]
  rw [e];have hp:Hid (∀ i,i<=3->1<=prodN (fun i=>if i=0 then H else if i=1 then W else C) i/\prodN (fun i=>if i=0 then H else if i=1 then W else C) i<=4096):=LH (fun i hi=>by
   obtain⟨h1,h2,h3,h4,h5,h6⟩:=h;have m1:=mul_bd h1 h2 h3 h4;have m2:=mul_bd m1.1 m1.2 h5 h6;match i,hi with
   | 0,_=>simp [prodN]
   | 1,_=>simp [prodN];omega
   | 2,_=>simp [prodN];omega
   | 3,_=>simp [prodN];omega)
  go_enter Tryz.func36,Tryz.ntmps36;go_wp2_with fail;refine(numbers_yes H W C 3 (fun i=>if i=0 then H else if i=1 then W else C) (w.heap.size+1) _ h (by omega) (by simp) hp (LH (fun i hi=>?_))).mono ?_
  ·match i,hi with
   | 0,_=>go_cell
   | 1,_=>go_cell
   | 2,_=>go_cell
  rintro e w1 ⟨rfl,g1⟩;go_wp2_with fail;go_ret;exact⟨rfl,grown_trans (by go_grown) g1⟩
 ·have e:sizeI H W C=0:=by unfold sizeI;rw [if_neg h]
  rw [e];go_enter Tryz.func36,Tryz.ntmps36;go_wp2_with fail;refine(numbers_no H W C _ _ h).mono ?_;rintro e w1 ⟨rfl,g1⟩;go_wp2_with fail;go_ret;exact⟨rfl,grown_trans (by go_grown) g1⟩
end Go.Proofs.YtejllmjkeefloaaGreat
namespace Go.Proofs.YtejllmjkeefloaaGreat
open Go.ChangeShapes Go.WideShapes Go.ChangeAt Go.RowKit
def holdB (lo hi x:Int):Bool:=decide (lo<=x/\x<=hi)
theorem holdB_t {lo hi x:Int}:holdB lo hi x=true↔lo<=x/\x<=hi:=by unfold holdB;simp
theorem holdB_f {lo hi x:Int}:holdB lo hi x=false↔¬ (lo<=x/\x<=hi):=by unfold holdB;simp
theorem hold_any (lo hi x:Int)(w:World) :
  Calls Tryz.prog 98 #[.agg #[.int .i64 lo,.int .i64 hi],.int .i64 x] w fun e w'=>e=.returned (.bool (holdB lo hi x))/\w'=w.alloc (.cells #[.int .i64 lo,.int .i64 hi] 135):=by
 by_cases h1:lo<=x
 ·by_cases h2:x<=hi
  ·rw [holdB_t.mpr ⟨h1,h2⟩];go_enter Tryz.func98,Tryz.ntmps98;go_wp2;go_ret;exact⟨rfl,rfl⟩
  ·rw [holdB_f.mpr (fun h=>h2 h.2)];go_enter Tryz.func98,Tryz.ntmps98;go_wp2;go_ret;exact⟨rfl,rfl⟩
 ·rw [holdB_f.mpr (fun h=>h1 h.1)];go_enter Tryz.func98,Tryz.ntmps98;go_wp2;go_ret;exact⟨rfl,rfl⟩
theorem tooFar_any (x:Int)(w:World)(h:(Lit.int .i32 x).wf=true) :
  Calls Tryz.prog 102 #[.int .i32 x] w fun e w'=>e=.returned (.bool (!holdB (-16777216) 16777216 x))/\Grown w w':=by
 have hx : -2147483648<=x/\x<=2147483647:=by simpa [Lit.wf,IntKind.min,IntKind.max,IntKind.bits,IntKind.signed] using h
 obtain⟨hx1,hx2⟩:=hx;clear h;go_enter Tryz.func102,Tryz.ntmps102;go_wp2_with (first|(go_at_call 98;refine(hold_any _ _ _ _).mono ?_;rintro e w' ⟨rfl,rfl⟩));go_ret;exact⟨rfl,by go_grown⟩
open Classical in
noncomputable def mayB (s:Int×Int×Int):Bool:=decide (mayS s.1 s.2.1 s.2.2)
theorem mayB_t {a b c:Int}(m:mayS a b c):mayB (a,b,c)=true:=by unfold mayB;simpa using m
theorem mayB_f {a b c:Int}(m:¬ mayS a b c):mayB (a,b,c)=false:=by unfold mayB;simpa using m
theorem mayNotBe_any (h w c z:Int)(W:World) :
  Calls Tryz.prog 95 #[.agg #[.int .i64 h,.int .i64 w,.int .i64 c,.int .i64 z]] W fun e w'=>e=.returned (.bool (!mayB (h,w,c)))/\Grown W w':=by
 by_cases m:mayS h w c
 ·rw [mayB_t m];go_enter Tryz.func95,Tryz.ntmps95;go_wp2_with fail;refine(may_yes h w c _ m).mono ?_;rintro e w1 ⟨rfl,g⟩;go_wp2_with fail;go_ret;exact⟨rfl,grown_trans (by go_grown) g⟩
 ·rw [mayB_f m];go_enter Tryz.func95,Tryz.ntmps95;go_wp2_with fail;refine(may_no h w c _ m).mono ?_;rintro e w1 ⟨rfl,g⟩;go_wp2_with fail;go_ret;exact⟨rfl,grown_trans (by go_grown) g⟩
end Go.Proofs.YtejllmjkeefloaaGreat
namespace Go.Proofs.YtejllmjkeefloaaGreat
open Go.ChangeShapes Go.WideShapes Go.ChangeAt Go.RowKit
theorem outChans_any (n:NodeD)(vi vw vb:Value)(h w c:Int)(W:World) :
  Calls Tryz.prog 121 #[.agg (nC n vi vw vb),.agg #[.int .i64 h,.int .i64 w,.int .i64 c]] W fun e w'=>e=.returned (.int .i64 n.out)/\Grown W w':=by
 go_enter Tryz.func121,Tryz.ntmps121;go_wp2;go_ret;exact⟨rfl,by go_grown⟩
theorem sameChans_any (n:NodeD)(vi vw vb:Value)(h w c:Int)(W:World) :
  Calls Tryz.prog 124 #[.agg (nC n vi vw vb),.agg #[.int .i64 h,.int .i64 w,.int .i64 c]] W fun e w'=>e=.returned (.int .i64 c)/\Grown W w':=by
 go_enter Tryz.func124,Tryz.ntmps124;go_wp2;go_ret;exact⟨rfl,by go_grown⟩
theorem flatWindow_any (n:NodeD)(vi vw vb:Value)(h w c:Int)(W:World)(k1:1<=n.k)(k2:n.k<=3) :
  Calls Tryz.prog 125 #[.agg (nC n vi vw vb),.agg #[.int .i64 h,.int .i64 w,.int .i64 c]] W fun e w'=>e=.returned (.int .i64 (n.k*n.k))/\Grown W w':=by
 have m:=mul_bd k1 k2 k1 k2;obtain⟨m1,m2⟩:=m;go_enter Tryz.func125,Tryz.ntmps125;go_wp2;go_ret;exact⟨rfl,by go_grown⟩
theorem everything_any (n:NodeD)(vi vw vb:Value)(h w c q:Int)(W:World)(hq:Hid (q=sizeI h w c)) :
  Calls Tryz.prog 127 #[.agg (nC n vi vw vb),.agg #[.int .i64 h,.int .i64 w,.int .i64 c]] W fun e w'=>e=.returned (.int .i64 q)/\Grown W w':=by
 go_enter Tryz.func127,Tryz.ntmps127;go_wp2_with fail;refine(size_any h w c q _ hq).mono ?_;rintro e w1 ⟨rfl,g⟩;go_wp2_with fail;go_ret;exact⟨rfl,grown_trans (by go_grown) g⟩
theorem box_new {w:World}{cs:Array Value}{t:TypeId}{b:Nat}(hb:w.heap.size=b):∀ o:Nat,(w.alloc (.cells cs t)).cell? ⟨b,o,none⟩=cs[o]?:=by
 intro o;subst hb;unfold World.cell?;simp only [heap_alloc_new w];rfl
theorem box_old {w:World}{b:Nat}{cs:Array Value}{x:Obj}(h:∀ o:Nat,w.cell? ⟨b,o,none⟩=cs[o]?)(hb:b<w.heap.size):∀ o:Nat,(w.alloc x).cell? ⟨b,o,none⟩=cs[o]? :=
 fun o=>(World.cell?_alloc_lt w x ⟨b,o,none⟩ hb).trans (h o)
theorem box_grown {w w':World}{b:Nat}{cs:Array Value}(g:Grown w w')(h:∀ o:Nat,w.cell? ⟨b,o,none⟩=cs[o]?)(hb:b<w.heap.size):∀ o:Nat,w'.cell? ⟨b,o,none⟩=cs[o]? :=
 fun o=>(grown_cell (p:=⟨b,o,none⟩) g hb).trans (h o)
theorem box_past {w w':World}{b:Nat}{cs:Array Value}(g:Past w w')(h:∀ o:Nat,w.cell? ⟨b,o,none⟩=cs[o]?)(hb:b<w.heap.size):∀ o:Nat,w'.cell? ⟨b,o,none⟩=cs[o]? :=
 fun o=>(g.cell (p:=⟨b,o,none⟩) hb).trans (h o)
theorem box_drew {w:World}{b:Nat}{cs:Array Value}(h:∀ o:Nat,w.cell? ⟨b,o,none⟩=cs[o]?):∀ o:Nat,w.drew.cell? ⟨b,o,none⟩=cs[o]?:=h
theorem size_drew {w:World}{m:Nat}(h:m<=w.heap.size):m<=w.drew.heap.size:=h
theorem cell_drew {w:World}{p:Addr}{v:Value}(h:w.cell? p=some v):w.drew.cell? p=some v:=h
theorem free_new {w:World}{b:Nat}(hb:w.heap.size<=b):(Fr w b):=by
 intro o;unfold World.frozen?;rw [Array.getElem?_eq_none (by exact hb)]
theorem free_alloc {w:World}{b:Nat}{cs:Array Value}{t:TypeId}(h:(Fr w b)):(Fr (w.alloc (.cells cs t)) b):=fun o=>(frozen?_alloc_cells w cs t ⟨b,o,none⟩).trans (h o)
theorem free_grown {w w':World}{b:Nat}(g:Grown w w')(h:(Fr w b)):(Fr w' b):=fun o=>(g.2.1 ⟨b,o,none⟩).trans (h o)
def rd (w:World)(b o:Nat):Value:=(w.cell? ⟨b,o,none⟩).getD undef
theorem box_drewN {w:World}{b k:Nat}{cs:Array Value}(h:∀ o:Nat,w.cell? ⟨b,o,none⟩=cs[o]?):∀ o:Nat,(w.drewN k).cell? ⟨b,o,none⟩=cs[o]?:=h
theorem cell_drewN {w:World}{p:Addr}{k:Nat}{v:Value}(h:w.cell? p=some v):(w.drewN k).cell? p=some v:=h
theorem size_drewN {w:World}{m k:Nat}(h:m<=w.heap.size):m<=(w.drewN k).heap.size:=h
theorem free_drewN {w:World}{b k:Nat}(h:(Fr w b)):(Fr (w.drewN k) b):=h
theorem has_drewN {w:World}{b o k:Nat}(h:w.cell? ⟨b,o,none⟩=some (rd w b o)):(w.drewN k).cell? ⟨b,o,none⟩=some (rd (w.drewN k) b o):=h
theorem Grown.drewN {a w:World}{k:Nat}(h:Grown a w):Grown a (w.drewN k):=h
theorem Past.drewN {a w:World}{k:Nat}(h:Past a w):Past a (w.drewN k):=h
theorem free_drew {w:World}{b:Nat}(h:(Fr w b)):(Fr w.drew b):=h
theorem has_of {w:World}{b o:Nat}{v:Value}(h:w.cell? ⟨b,o,none⟩=some v):w.cell? ⟨b,o,none⟩=some (rd w b o):=by simp [rd,h]
theorem has_box {w:World}{b o:Nat}{cs:Array Value}(h:∀ o:Nat,w.cell? ⟨b,o,none⟩=cs[o]?)(ho:o<cs.size):w.cell? ⟨b,o,none⟩=some (rd w b o):=has_of ((h o).trans (Array.getElem?_eq_getElem ho))
theorem has_grown {w w':World}{b o:Nat}(g:Grown w w')(h:w.cell? ⟨b,o,none⟩=some (rd w b o))(hb:b<w.heap.size):w'.cell? ⟨b,o,none⟩=some (rd w' b o):=has_of ((grown_cell (p:=⟨b,o,none⟩) g hb).trans h)
theorem has_drew {w:World}{b o:Nat}(h:w.cell? ⟨b,o,none⟩=some (rd w b o)):w.drew.cell? ⟨b,o,none⟩=some (rd w.drew b o):=h
theorem has_set {w:World}{b o:Nat}{p:Addr}{x:Value}(h:w.cell? ⟨b,o,none⟩=some (rd w b o)):(w.setCell p x).cell? ⟨b,o,none⟩=some (rd (w.setCell p x) b o):=by
 obtain⟨v,hv⟩:=cell?_setCell_some (p:=p) (x:=x) h;exact has_of hv
theorem box_set {w:World}{b:Nat}{cs:Array Value}{p:Addr}{x:Value}(h:∀ o:Nat,w.cell? ⟨b,o,none⟩=cs[o]?)(hb:p.block≠b):∀ o:Nat,(w.setCell p x).cell? ⟨b,o,none⟩=cs[o]? :=
 fun o=>(World.cell?_setCell_other w p ⟨b,o,none⟩ x (fun e=>hb (by rw [e]))).trans (h o)
theorem cell_set {w:World}{p q:Addr}{v x:Value}(h:w.cell? q=some v)(hb:p.block≠q.block):(w.setCell p x).cell? q=some v:=(World.cell?_setCell_other w p q x (fun e=>hb (by rw [e]))).trans h
theorem free_set {w:World}{b:Nat}{p:Addr}{x:Value}(h:(Fr w b)):(Fr (w.setCell p x) b):=fun o=>(World.frozen?_setCell _ _ _ _).trans (h o)
theorem size_set {w:World}{m:Nat}{p:Addr}{x:Value}(h:m<=w.heap.size):m<=(w.setCell p x).heap.size:=by simpa [World.setCell] using h
theorem has_alloc {w:World}{b o:Nat}{x:Obj}(h:w.cell? ⟨b,o,none⟩=some (rd w b o))(hb:b<w.heap.size):(w.alloc x).cell? ⟨b,o,none⟩=some (rd (w.alloc x) b o):=has_of ((World.cell?_alloc_lt w x ⟨b,o,none⟩ hb).trans h)
theorem cell_past {w w':World}{p:Addr}{v:Value}(g:Past w w')(h:w.cell? p=some v)(hb:p.block<w.heap.size):w'.cell? p=some v:=(g.cell hb).trans h
theorem has_past {w w':World}{b o:Nat}(g:Past w w')(h:w.cell? ⟨b,o,none⟩=some (rd w b o))(hb:b<w.heap.size):w'.cell? ⟨b,o,none⟩=some (rd w' b o):=has_of ((g.cell (p:=⟨b,o,none⟩) hb).trans h)
theorem free_past {w w':World}{b:Nat}(g:Past w w')(h:(Fr w b))(hb:b<w.heap.size):(Fr w' b):=fun o=>(g.free (p:=⟨b,o,none⟩) hb).trans (h o)
theorem size_past {w w':World}{m:Nat}(g:Past w w')(h:m<=w.heap.size):m<=w'.heap.size:=Nat.le_trans h g.2.2.1
theorem set_read {w:World}{p:Addr}{v u:Value}(h:(w.setCell p v).cell? p=some u):u=v:=by
 cases e:w.cell? p with
 | none =>
  have:(w.setCell p v).cell? p=none:=by
   cases e2:(w.setCell p v).cell? p with
   | none=>rfl
   | some y =>
    exfalso;unfold World.cell? at e e2;simp only [World.setCell,Array.getElem?_modify,if_true] at e2;cases hh:w.heap[p.block]? with
    | none=>rw [hh] at e2;simp at e2
    | some o =>
     rw [hh] at e e2;cases o <;> simp_all
  rw [this] at h;cases h
 | some y =>
  rw [World.cell?_setCell_same (u:=y) w p v e] at h;injection h with h;exact h.symm
theorem set3 {w:World}{b:Nat}{x y z u0 u1 u2:Value}(h0:(((w.setCell ⟨b,0,none⟩ x).setCell ⟨b,1,none⟩ y).setCell ⟨b,2,none⟩ z).cell? ⟨b,0,none⟩=some u0)(h1:(((w.setCell ⟨b,0,none⟩ x).setCell ⟨b,1,none⟩ y).setCell ⟨b,2,none⟩ z).cell? ⟨b,1,none⟩=some u1)(h2:(((w.setCell ⟨b,0,none⟩ x).setCell ⟨b,1,none⟩ y).setCell ⟨b,2,none⟩ z).cell? ⟨b,2,none⟩=some u2) :
  (((w.setCell ⟨b,0,none⟩ x).setCell ⟨b,1,none⟩ y).setCell ⟨b,2,none⟩ z).cell? ⟨b,0,none⟩=some x/\(((w.setCell ⟨b,0,none⟩ x).setCell ⟨b,1,none⟩ y).setCell ⟨b,2,none⟩ z).cell? ⟨b,1,none⟩=some y/\(((w.setCell ⟨b,0,none⟩ x).setCell ⟨b,1,none⟩ y).setCell ⟨b,2,none⟩ z).cell? ⟨b,2,none⟩=some z:=by
 have k0:=h0;have k1:=h1;rw [World.cell?_setCell_other _ _ _ _ (by simp),World.cell?_setCell_other _ _ _ _ (by simp)] at k0;rw [World.cell?_setCell_other _ _ _ _ (by simp)] at k1;have e0:=set_read k0;have e1:=set_read k1;have e2:=set_read h2;subst e0 e1 e2;exact⟨h0,h1,h2⟩
theorem opq {P:Program}{c:Code}{Q:Exit->Act->World->Prop}{a:Act}{w:World}(S:World->Prop)(h:S w)(k:∀ w',S w'->c.wp P Q a w'):c.wp P Q a w:=k w h
theorem size_grown {w w':World}{m:Nat}(g:Grown w w')(h:m<=w.heap.size):m<=w'.heap.size:=Nat.le_trans h g.2.2
theorem cell_grown {w w':World}{p:Addr}{v:Value}(g:Grown w w')(h:w.cell? p=some v)(hb:p.block<w.heap.size):w'.cell? p=some v:=(grown_cell g hb).trans h
theorem cell_alloc {w:World}{p:Addr}{v:Value}{x:Obj}(h:w.cell? p=some v)(hb:p.block<w.heap.size):(w.alloc x).cell? p=some v:=(World.cell?_alloc_lt w x p hb).trans h
/-! The same with their small side conditions paid by themselves: what is named in '(exact kKeep)'. -/
section
variable {a b' c w w':World} {b o m:Nat} {cs:Array Value} {p q:Addr} {x:Obj} {u v:Value} {t:TypeId}
theorem kbS (h:(∀ o:Nat,w.cell? ⟨b,o,none⟩=cs[o]?))(hb:p.block≠b:=by first|(simp;done)|(dsimp only;omega)|(simp;omega)):(∀ o:Nat,(w.setCell p u).cell? ⟨b,o,none⟩=cs[o]?):=box_set h hb
theorem kcS (h:w.cell? q=some v)(hb:p.block≠q.block:=by first|(simp;done)|(dsimp only;omega)|(simp;omega)):(w.setCell p u).cell? q=some v:=cell_set h hb
theorem kgS (h:Grown a w)(hp:a.heap.size<=p.block:=by first|(simp;done)|(dsimp only;omega)|(simp;omega)):Grown a (w.setCell p u):=h.setCell hp u
theorem kpS (h:Past a w)(hp:a.heap.size<=p.block:=by first|(simp;done)|(dsimp only;omega)|(simp;omega)):Past a (w.setCell p u):=h.setCell hp u
theorem kbN (hb:w.heap.size=b:=by first|omega|(simp;done)|(simp;omega)):∀ o:Nat,(w.alloc (.cells cs t)).cell? ⟨b,o,none⟩=cs[o]?:=box_new hb
theorem kbO (h:(∀ o:Nat,w.cell? ⟨b,o,none⟩=cs[o]?))(hb:b<w.heap.size:=by first|omega|(simp;done)|(simp;omega)):∀ o:Nat,(w.alloc x).cell? ⟨b,o,none⟩=cs[o]?:=box_old h hb
theorem khA (h:w.cell? ⟨b,o,none⟩=some (rd w b o))(hb:b<w.heap.size:=by first|omega|(simp;done)|(simp;omega)):(w.alloc x).cell? ⟨b,o,none⟩=some (rd (w.alloc x) b o):=has_alloc h hb
theorem kcA (h:w.cell? p=some v)(hb:p.block<w.heap.size:=by first|omega|(simp;done)|(simp;omega)):(w.alloc x).cell? p=some v:=cell_alloc h hb
theorem kbG (g:Grown w w':=by assumption)(h:(∀ o:Nat,w.cell? ⟨b,o,none⟩=cs[o]?):=by assumption)(hb:b<w.heap.size:=by first|omega|(dsimp only;omega)):(∀ o:Nat,w'.cell? ⟨b,o,none⟩=cs[o]?):=box_grown g h hb
theorem khG (g:Grown w w':=by assumption)(h:w.cell? ⟨b,o,none⟩=some (rd w b o):=by assumption)(hb:b<w.heap.size:=by first|omega|(dsimp only;omega)):w'.cell? ⟨b,o,none⟩=some (rd w' b o):=has_grown g h hb
theorem kcG (g:Grown w w':=by assumption)(h:w.cell? p=some v:=by assumption)(hb:p.block<w.heap.size:=by first|omega|(dsimp only;omega)):w'.cell? p=some v:=cell_grown g h hb
theorem kfG (g:Grown w w':=by assumption)(h:(Fr w b):=by assumption):(Fr w' b):=free_grown g h
theorem ksG (g:Grown w w':=by assumption)(h:m<=w.heap.size:=by assumption):m<=w'.heap.size:=size_grown g h
theorem kgG (g:Grown w w':=by assumption)(h:Grown a w:=by assumption):Grown a w':=grown_trans h g
theorem kbP (g:Past w w':=by assumption)(h:(∀ o:Nat,w.cell? ⟨b,o,none⟩=cs[o]?):=by assumption)(hb:b<w.heap.size:=by first|omega|(dsimp only;omega)):(∀ o:Nat,w'.cell? ⟨b,o,none⟩=cs[o]?):=box_past g h hb
theorem khP (g:Past w w':=by assumption)(h:w.cell? ⟨b,o,none⟩=some (rd w b o):=by assumption)(hb:b<w.heap.size:=by first|omega|(dsimp only;omega)):w'.cell? ⟨b,o,none⟩=some (rd w' b o):=has_past g h hb
theorem kcP (g:Past w w':=by assumption)(h:w.cell? p=some v:=by assumption)(hb:p.block<w.heap.size:=by first|omega|(dsimp only;omega)):w'.cell? p=some v:=cell_past g h hb
theorem kfP (g:Past w w':=by assumption)(h:(Fr w b):=by assumption)(hb:b<w.heap.size:=by first|omega|(dsimp only;omega)):(Fr w' b):=free_past g h hb
theorem ksP (g:Past w w':=by assumption)(h:m<=w.heap.size:=by assumption):m<=w'.heap.size:=size_past g h
theorem kpP (g:Past w w':=by assumption)(h:Past a w:=by assumption):Past a w':=h.trans g
theorem kfN (hb:w.heap.size<=b:=by first|omega|(simp;done)|(simp;omega)):(Fr w b):=free_new hb
theorem kLaid {P:Prop}(h:P:=by((repeat' with_reducible apply And.intro) <;> first|assumption|((repeat (first|exact box_new (by first|omega|(simp;done)|(simp;omega))|refine box_old ?_ (by first|omega|(simp;done)|(simp;omega))));done)|((repeat (first|exact free_new (by first|omega|(simp;done)|(simp;omega))|refine free_alloc ?_));done)|((repeat (first|assumption|refine cell_alloc ?_ (by first|omega|(simp;done)|(simp;omega))));done)|(go_cell;done)|(go_grown;done)|(simp;done)|(simp;omega))):P:=h
theorem kKeep {P:Prop}(h:P:=by(((try dsimp only);(try go_split_ands);(repeat' with_reducible apply And.intro)) <;> ((repeat (first|(with_reducible (first|assumption|refine kbS ?_|refine has_set ?_|refine kcS ?_|refine free_set ?_|refine size_set ?_|refine kgS ?_|refine kpS ?_|refine box_drewN ?_|refine has_drewN ?_|refine cell_drewN ?_|refine free_drewN ?_|refine size_drewN ?_|refine Grown.drewN ?_|refine Past.drewN ?_|refine box_drew ?_|refine has_drew ?_|refine cell_drew ?_|refine free_drew ?_|refine size_drew ?_|refine Grown.drew ?_|refine Past.drew ?_|exact kbN|refine kbO ?_|refine khA ?_|refine kcA ?_|refine free_alloc ?_|exact ksA|refine Grown.alloc ?_ _ _|refine Past.alloc ?_ _|exact kbG|exact khG|exact kcG|exact ksG|exact kfG|exact kgG|exact kbP|exact kfP|exact khP|exact kcP|exact ksP|exact kpP|exact kfN|refine Grown.past ?_|exact Grown.refl _|exact Past.refl _))|omega));done))):P:=h
theorem ksA (h:m<=(w.alloc x).heap.size:=by simp only [World.size_alloc];omega):m<=(w.alloc x).heap.size:=h
end
theorem deepWindow_any (n:NodeD)(vi vw vb:Value)(h w c:Int)(W:World)(k1:1<=n.k)(k2:n.k<=3)(c1:1<=c)(c2:c<=8) :
  Calls Tryz.prog 123 #[.agg (nC n vi vw vb),.agg #[.int .i64 h,.int .i64 w,.int .i64 c]] W fun e w'=>e=.returned (.int .i64 (n.k*n.k*c))/\Grown W w':=by
 have m:=mul_bd k1 k2 k1 k2;have m':=mul_bd m.1 m.2 c1 c2;obtain⟨m1,m2⟩:=m;obtain⟨m3,m4⟩:=m';have e1:IntKind.i64.wrap (n.k*n.k*c)=n.k*n.k*c:=IntWalk.i64_in _ (by omega);go_enter Tryz.func123,Tryz.ntmps123;go_wp2_with fail;refine opq (fun w'=>(Bx w' W.heap.size (nC n vi vw vb))/\(Bx w' (W.heap.size+1) #[.int .i64 h,.int .i64 w,.int .i64 c])/\Grown W w'/\W.heap.size+2<=w'.heap.size) kLaid ?_;rintro W1 ⟨b1,b2,g1,z1⟩
 go_region_held3 (fun w'=>(Bx w' W.heap.size (nC n vi vw vb))/\(Bx w' (W.heap.size+1) #[.int .i64 h,.int .i64 w,.int .i64 c])/\Grown W w'/\W.heap.size+2<=w'.heap.size) (exact kKeep)
  (first|(go_at_call 125;refine(flatWindow_any n vi vw vb h w c _ k1 k2).mono ?_;rintro e w1 ⟨rfl,g⟩))
 all_goals
  go_wp2_with fail;go_ret;exact⟨rfl,(by(try go_split_ands);assumption)⟩
end Go.Proofs.YtejllmjkeefloaaGreat
