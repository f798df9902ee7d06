/- graph: set. graph: takes. -/
import Derived.Test.YtejllmjkeefloaaGreatMG6
namespace Go.Proofs.YtejllmjkeefloaaGreat
open Go.ChangeShapes Go.WideShapes Go.ChangeAt Go.RowKit
set_option maxRecDepth 20000
set_option linter.unusedVariables false
set_option maxHeartbeats 1000000 in
theorem set_k (r:OpD)(mk ct:Value)(n:NodeD)(vi vw vb:Value)(W:World)(a1:holdB r.k1 r.k2 n.k=false) :
  Calls Tryz.prog 133 #[.agg (rC r mk ct),.agg (nC n vi vw vb)] W fun e w'=>e=.returned (.bool false)/\Grown W w':=by
 go_enter Tryz.func133,Tryz.ntmps133;go_wp2_with (first|(go_at_call 98;with_reducible refine(hold_any _ _ _ _).mono ?_;rintro e w1 ⟨rfl,rfl⟩));go_ret;exact⟨rfl,by go_grown⟩
set_option maxHeartbeats 1000000 in
theorem set_s (r:OpD)(mk ct:Value)(n:NodeD)(vi vw vb:Value)(W:World)(a1:holdB r.k1 r.k2 n.k=true)(a2:holdB r.s1 r.s2 n.stride=false) :
  Calls Tryz.prog 133 #[.agg (rC r mk ct),.agg (nC n vi vw vb)] W fun e w'=>e=.returned (.bool false)/\Grown W w':=by
 go_enter Tryz.func133,Tryz.ntmps133;go_wp2_with (first|(go_at_call 98;with_reducible refine(hold_any _ _ _ _).mono ?_;rintro e w1 ⟨rfl,rfl⟩));go_ret;exact⟨rfl,by go_grown⟩
set_option maxHeartbeats 1000000 in
theorem set_p (r:OpD)(mk ct:Value)(n:NodeD)(vi vw vb:Value)(W:World)(a1:holdB r.k1 r.k2 n.k=true)(a2:holdB r.s1 r.s2 n.stride=true)(a3:holdB r.p1 r.p2 n.pad=false) :
  Calls Tryz.prog 133 #[.agg (rC r mk ct),.agg (nC n vi vw vb)] W fun e w'=>e=.returned (.bool false)/\Grown W w':=by
 go_enter Tryz.func133,Tryz.ntmps133;go_wp2_with (first|(go_at_call 98;with_reducible refine(hold_any _ _ _ _).mono ?_;rintro e w1 ⟨rfl,rfl⟩));go_ret;exact⟨rfl,by go_grown⟩
set_option maxHeartbeats 1000000 in
theorem set_o (r:OpD)(mk ct:Value)(n:NodeD)(vi vw vb:Value)(W:World)(a1:holdB r.k1 r.k2 n.k=true)(a2:holdB r.s1 r.s2 n.stride=true)(a3:holdB r.p1 r.p2 n.pad=true)(a4:holdB r.o1 r.o2 n.out=false) :
  Calls Tryz.prog 133 #[.agg (rC r mk ct),.agg (nC n vi vw vb)] W fun e w'=>e=.returned (.bool false)/\Grown W w':=by
 go_enter Tryz.func133,Tryz.ntmps133;go_wp2_with (first|(go_at_call 98;with_reducible refine(hold_any _ _ _ _).mono ?_;rintro e w1 ⟨rfl,rfl⟩));go_ret;exact⟨rfl,by go_grown⟩
set_option maxHeartbeats 1000000 in
theorem set_w (r:OpD)(mk ct:Value)(n:NodeD)(vi vw vb:Value)(W:World)(a1:holdB r.k1 r.k2 n.k=true)(a2:holdB r.s1 r.s2 n.stride=true)(a3:holdB r.p1 r.p2 n.pad=true)(a4:holdB r.o1 r.o2 n.out=true)(c1:0<r.k2)(c2:decide (n.k<=n.pad)=true) :
  Calls Tryz.prog 133 #[.agg (rC r mk ct),.agg (nC n vi vw vb)] W fun e w'=>e=.returned (.bool false)/\Grown W w':=by
 go_enter Tryz.func133,Tryz.ntmps133;go_wp2_with (first|(go_at_call 98;with_reducible refine(hold_any _ _ _ _).mono ?_;rintro e w1 ⟨rfl,rfl⟩));go_ret;exact⟨rfl,by go_grown⟩
set_option maxHeartbeats 1000000 in
theorem set_yr (r:OpD)(mk ct:Value)(n:NodeD)(vi vw vb:Value)(W:World)(a1:holdB r.k1 r.k2 n.k=true)(a2:holdB r.s1 r.s2 n.stride=true)(a3:holdB r.p1 r.p2 n.pad=true)(a4:holdB r.o1 r.o2 n.out=true)(c1:0<r.k2)(c2:decide (n.k<=n.pad)=false)(d:r.resh=true) :
  Calls Tryz.prog 133 #[.agg (rC r mk ct),.agg (nC n vi vw vb)] W fun e w'=>e=.returned (.bool true)/\Grown W w':=by
 go_enter Tryz.func133,Tryz.ntmps133;go_wp2_with (first|(go_at_call 98;with_reducible refine(hold_any _ _ _ _).mono ?_;rintro e w1 ⟨rfl,rfl⟩));go_ret;exact⟨rfl,by go_grown⟩
set_option maxHeartbeats 1000000 in
theorem set_yz (r:OpD)(mk ct:Value)(n:NodeD)(vi vw vb:Value)(W:World)(a1:holdB r.k1 r.k2 n.k=true)(a2:holdB r.s1 r.s2 n.stride=true)(a3:holdB r.p1 r.p2 n.pad=true)(a4:holdB r.o1 r.o2 n.out=true)(c1:0<r.k2)(c2:decide (n.k<=n.pad)=false)(d:r.resh=false)(z1:(n.th==0)=true)(z2:(n.tw==0)=true)(z3:(n.tc==0)=true) :
  Calls Tryz.prog 133 #[.agg (rC r mk ct),.agg (nC n vi vw vb)] W fun e w'=>e=.returned (.bool true)/\Grown W w':=by
 go_enter Tryz.func133,Tryz.ntmps133;go_wp2_with (first|(go_at_call 98;with_reducible refine(hold_any _ _ _ _).mono ?_;rintro e w1 ⟨rfl,rfl⟩));go_ret;exact⟨rfl,by go_grown⟩
set_option maxHeartbeats 1000000 in
theorem set_y1 (r:OpD)(mk ct:Value)(n:NodeD)(vi vw vb:Value)(W:World)(a1:holdB r.k1 r.k2 n.k=true)(a2:holdB r.s1 r.s2 n.stride=true)(a3:holdB r.p1 r.p2 n.pad=true)(a4:holdB r.o1 r.o2 n.out=true)(c1:0<r.k2)(c2:decide (n.k<=n.pad)=false)(d:r.resh=false)(z1:(n.th==0)=false) :
  Calls Tryz.prog 133 #[.agg (rC r mk ct),.agg (nC n vi vw vb)] W fun e w'=>e=.returned (.bool false)/\Grown W w':=by
 go_enter Tryz.func133,Tryz.ntmps133;go_wp2_with (first|(go_at_call 98;with_reducible refine(hold_any _ _ _ _).mono ?_;rintro e w1 ⟨rfl,rfl⟩));go_ret;exact⟨rfl,by go_grown⟩
set_option maxHeartbeats 1000000 in
theorem set_y2 (r:OpD)(mk ct:Value)(n:NodeD)(vi vw vb:Value)(W:World)(a1:holdB r.k1 r.k2 n.k=true)(a2:holdB r.s1 r.s2 n.stride=true)(a3:holdB r.p1 r.p2 n.pad=true)(a4:holdB r.o1 r.o2 n.out=true)(c1:0<r.k2)(c2:decide (n.k<=n.pad)=false)(d:r.resh=false)(z1:(n.th==0)=true)(z2:(n.tw==0)=false) :
  Calls Tryz.prog 133 #[.agg (rC r mk ct),.agg (nC n vi vw vb)] W fun e w'=>e=.returned (.bool false)/\Grown W w':=by
 go_enter Tryz.func133,Tryz.ntmps133;go_wp2_with (first|(go_at_call 98;with_reducible refine(hold_any _ _ _ _).mono ?_;rintro e w1 ⟨rfl,rfl⟩));go_ret;exact⟨rfl,by go_grown⟩
set_option maxHeartbeats 1000000 in
theorem set_y3 (r:OpD)(mk ct:Value)(n:NodeD)(vi vw vb:Value)(W:World)(a1:holdB r.k1 r.k2 n.k=true)(a2:holdB r.s1 r.s2 n.stride=true)(a3:holdB r.p1 r.p2 n.pad=true)(a4:holdB r.o1 r.o2 n.out=true)(c1:0<r.k2)(c2:decide (n.k<=n.pad)=false)(d:r.resh=false)(z1:(n.th==0)=true)(z2:(n.tw==0)=true)(z3:(n.tc==0)=false) :
  Calls Tryz.prog 133 #[.agg (rC r mk ct),.agg (nC n vi vw vb)] W fun e w'=>e=.returned (.bool false)/\Grown W w':=by
 go_enter Tryz.func133,Tryz.ntmps133;go_wp2_with (first|(go_at_call 98;with_reducible refine(hold_any _ _ _ _).mono ?_;rintro e w1 ⟨rfl,rfl⟩));go_ret;exact⟨rfl,by go_grown⟩
set_option maxHeartbeats 1000000 in
theorem set_nr (r:OpD)(mk ct:Value)(n:NodeD)(vi vw vb:Value)(W:World)(a1:holdB r.k1 r.k2 n.k=true)(a2:holdB r.s1 r.s2 n.stride=true)(a3:holdB r.p1 r.p2 n.pad=true)(a4:holdB r.o1 r.o2 n.out=true)(c1:r.k2<=0)(d:r.resh=true) :
  Calls Tryz.prog 133 #[.agg (rC r mk ct),.agg (nC n vi vw vb)] W fun e w'=>e=.returned (.bool true)/\Grown W w':=by
 go_enter Tryz.func133,Tryz.ntmps133;go_wp2_with (first|(go_at_call 98;with_reducible refine(hold_any _ _ _ _).mono ?_;rintro e w1 ⟨rfl,rfl⟩));go_ret;exact⟨rfl,by go_grown⟩
set_option maxHeartbeats 1000000 in
theorem set_nz (r:OpD)(mk ct:Value)(n:NodeD)(vi vw vb:Value)(W:World)(a1:holdB r.k1 r.k2 n.k=true)(a2:holdB r.s1 r.s2 n.stride=true)(a3:holdB r.p1 r.p2 n.pad=true)(a4:holdB r.o1 r.o2 n.out=true)(c1:r.k2<=0)(d:r.resh=false)(z1:(n.th==0)=true)(z2:(n.tw==0)=true)(z3:(n.tc==0)=true) :
  Calls Tryz.prog 133 #[.agg (rC r mk ct),.agg (nC n vi vw vb)] W fun e w'=>e=.returned (.bool true)/\Grown W w':=by
 go_enter Tryz.func133,Tryz.ntmps133;go_wp2_with (first|(go_at_call 98;with_reducible refine(hold_any _ _ _ _).mono ?_;rintro e w1 ⟨rfl,rfl⟩));go_ret;exact⟨rfl,by go_grown⟩
set_option maxHeartbeats 1000000 in
theorem set_n1 (r:OpD)(mk ct:Value)(n:NodeD)(vi vw vb:Value)(W:World)(a1:holdB r.k1 r.k2 n.k=true)(a2:holdB r.s1 r.s2 n.stride=true)(a3:holdB r.p1 r.p2 n.pad=true)(a4:holdB r.o1 r.o2 n.out=true)(c1:r.k2<=0)(d:r.resh=false)(z1:(n.th==0)=false) :
  Calls Tryz.prog 133 #[.agg (rC r mk ct),.agg (nC n vi vw vb)] W fun e w'=>e=.returned (.bool false)/\Grown W w':=by
 go_enter Tryz.func133,Tryz.ntmps133;go_wp2_with (first|(go_at_call 98;with_reducible refine(hold_any _ _ _ _).mono ?_;rintro e w1 ⟨rfl,rfl⟩));go_ret;exact⟨rfl,by go_grown⟩
set_option maxHeartbeats 1000000 in
theorem set_n2 (r:OpD)(mk ct:Value)(n:NodeD)(vi vw vb:Value)(W:World)(a1:holdB r.k1 r.k2 n.k=true)(a2:holdB r.s1 r.s2 n.stride=true)(a3:holdB r.p1 r.p2 n.pad=true)(a4:holdB r.o1 r.o2 n.out=true)(c1:r.k2<=0)(d:r.resh=false)(z1:(n.th==0)=true)(z2:(n.tw==0)=false) :
  Calls Tryz.prog 133 #[.agg (rC r mk ct),.agg (nC n vi vw vb)] W fun e w'=>e=.returned (.bool false)/\Grown W w':=by
 go_enter Tryz.func133,Tryz.ntmps133;go_wp2_with (first|(go_at_call 98;with_reducible refine(hold_any _ _ _ _).mono ?_;rintro e w1 ⟨rfl,rfl⟩));go_ret;exact⟨rfl,by go_grown⟩
set_option maxHeartbeats 1000000 in
theorem set_n3 (r:OpD)(mk ct:Value)(n:NodeD)(vi vw vb:Value)(W:World)(a1:holdB r.k1 r.k2 n.k=true)(a2:holdB r.s1 r.s2 n.stride=true)(a3:holdB r.p1 r.p2 n.pad=true)(a4:holdB r.o1 r.o2 n.out=true)(c1:r.k2<=0)(d:r.resh=false)(z1:(n.th==0)=true)(z2:(n.tw==0)=true)(z3:(n.tc==0)=false) :
  Calls Tryz.prog 133 #[.agg (rC r mk ct),.agg (nC n vi vw vb)] W fun e w'=>e=.returned (.bool false)/\Grown W w':=by
 go_enter Tryz.func133,Tryz.ntmps133;go_wp2_with (first|(go_at_call 98;with_reducible refine(hold_any _ _ _ _).mono ?_;rintro e w1 ⟨rfl,rfl⟩));go_ret;exact⟨rfl,by go_grown⟩
set_option maxHeartbeats 2000000 in
theorem set_any (r:OpD) (mk ct:Value) (n:NodeD) (vi vw vb:Value) (W:World) (t:Bool) (ht:Hid (t=true↔setP r n)) :
  Calls Tryz.prog 133 #[.agg (rC r mk ct),.agg (nC n vi vw vb)] W fun e w'=>e=.returned (.bool t)∧Grown W w':=by
 have F:¬ setP r n→t=false:=fun h=>by
  cases t with
  | false=>rfl
  | true=>exact absurd (ht.out.mp rfl) h
 have T:setP r n→t=true:=fun h=>ht.out.mpr h
 cases a1:holdB r.k1 r.k2 n.k with
 | false=>rw [F (fun h=>holdB_f.mp a1 h.1.1)];exact set_k r mk ct n vi vw vb W a1
 | true =>
 cases a2:holdB r.s1 r.s2 n.stride with
 | false=>rw [F (fun h=>holdB_f.mp a2 h.1.2.1)];exact set_s r mk ct n vi vw vb W a1 a2
 | true =>
 cases a3:holdB r.p1 r.p2 n.pad with
 | false=>rw [F (fun h=>holdB_f.mp a3 h.1.2.2.1)];exact set_p r mk ct n vi vw vb W a1 a2 a3
 | true =>
 cases a4:holdB r.o1 r.o2 n.out with
 | false=>rw [F (fun h=>holdB_f.mp a4 h.1.2.2.2)];exact set_o r mk ct n vi vw vb W a1 a2 a3 a4
 | true =>
 have AA:((r.k1≤n.k∧n.k≤r.k2)∧(r.s1≤n.stride∧n.stride≤r.s2)∧(r.p1≤n.pad∧n.pad≤r.p2)∧(r.o1≤n.out∧n.out≤r.o2)):=⟨holdB_t.mp a1,holdB_t.mp a2,holdB_t.mp a3,holdB_t.mp a4⟩
 have zz:∀ (x:Int),(x==0)=true→x=0:=fun x h=>by simpa using h
 have nz:∀ (x:Int),(x==0)=false→¬ x=0:=fun x h=>by simpa using h
 by_cases c1:0<r.k2
 ·by_cases c2:n.k≤n.pad
  ·rw [F (fun h=>h.2.1 ⟨c1,c2⟩)];exact set_w r mk ct n vi vw vb W a1 a2 a3 a4 c1 (decide_eq_true c2)
  ·have NW:¬ (0<r.k2∧n.k≤n.pad):=fun h=>c2 h.2
   have c3:decide (n.k≤n.pad)=false:=decide_eq_false c2
   rcases Bool.eq_false_or_eq_true r.resh with d|d
   ·rw [T ⟨AA,NW,.inl d⟩];exact set_yr r mk ct n vi vw vb W a1 a2 a3 a4 c1 c3 d
   ·
    have D:∀ {p:Prop},(r.resh=true∨p)→p:=fun h=>h.resolve_left (by rw [d];decide)
    cases z1:(n.th==0) with
    | false=>rw [F (fun h=>nz _ z1 (D h.2.2).1)];exact set_y1 r mk ct n vi vw vb W a1 a2 a3 a4 c1 c3 d z1
    | true =>
    cases z2:(n.tw==0) with
    | false=>rw [F (fun h=>nz _ z2 (D h.2.2).2.1)];exact set_y2 r mk ct n vi vw vb W a1 a2 a3 a4 c1 c3 d z1 z2
    | true =>
    cases z3:(n.tc==0) with
    | false=>rw [F (fun h=>nz _ z3 (D h.2.2).2.2)];exact set_y3 r mk ct n vi vw vb W a1 a2 a3 a4 c1 c3 d z1 z2 z3
    | true=>rw [T ⟨AA,NW,.inr ⟨zz _ z1,zz _ z2,zz _ z3⟩⟩];exact set_yz r mk ct n vi vw vb W a1 a2 a3 a4 c1 c3 d z1 z2 z3
 ·have NW:¬ (0<r.k2∧n.k≤n.pad):=fun h=>c1 h.1
  have c3:r.k2≤0:=by omega
  rcases Bool.eq_false_or_eq_true r.resh with d|d
  ·rw [T ⟨AA,NW,.inl d⟩];exact set_nr r mk ct n vi vw vb W a1 a2 a3 a4 c3 d
  ·
   have D:∀ {p:Prop},(r.resh=true∨p)→p:=fun h=>h.resolve_left (by rw [d];decide)
   cases z1:(n.th==0) with
   | false=>rw [F (fun h=>nz _ z1 (D h.2.2).1)];exact set_n1 r mk ct n vi vw vb W a1 a2 a3 a4 c3 d z1
   | true =>
   cases z2:(n.tw==0) with
   | false=>rw [F (fun h=>nz _ z2 (D h.2.2).2.1)];exact set_n2 r mk ct n vi vw vb W a1 a2 a3 a4 c3 d z1 z2
   | true =>
   cases z3:(n.tc==0) with
   | false=>rw [F (fun h=>nz _ z3 (D h.2.2).2.2)];exact set_n3 r mk ct n vi vw vb W a1 a2 a3 a4 c3 d z1 z2 z3
   | true=>rw [T ⟨AA,NW,.inr ⟨zz _ z1,zz _ z2,zz _ z3⟩⟩];exact set_nz r mk ct n vi vw vb W a1 a2 a3 a4 c3 d z1 z2 z3
end Go.Proofs.YtejllmjkeefloaaGreat
namespace Go.Proofs.YtejllmjkeefloaaGreat
open Go.ChangeShapes Go.WideShapes Go.ChangeAt Go.RowKit
set_option maxRecDepth 20000
set_option linter.unusedVariables false
theorem zeros_ex (w:World):Calls Tryz.prog 97 #[] w fun e w'=>e=.returned (.agg #[.int .i64 (-128),.int .i64 127])/\w'=w.alloc (.cells #[.int .i64 (-128),.int .i64 127] 135):=by
 go_enter Tryz.func97,Tryz.ntmps97;go_wp2;exact bodyPost_ret (v:=.agg #[.int .i64 (-128),.int .i64 127]) (by simp [results,Tryz.results97,go_sem]) rfl ⟨rfl,rfl⟩
open Classical in
noncomputable def scaledB (n:NodeD):Bool:=decide (scaledP n)
theorem scaledB_t {n:NodeD}:scaledB n=true↔scaledP n:=by unfold scaledB;simp
set_option maxHeartbeats 4000000 in
theorem takes_any (r : OpD) (mk ct : Value) (n : NodeD) (vi vw vb v : Value) (vs : List ValD) (W : World) (t : Bool) (hv : IsVals W v vs) (ht : Hid (t = true ↔ takesP r n vs)) :
  Calls Tryz.prog 100 #[.agg (rC r mk ct), .agg (nC n vi vw vb), v] W fun e w' => e = .returned (.bool t) ∧ Grown W w' := by
 have F : Hid (¬ takesP r n vs → t = false) := LH (fun h => by
  cases t with
  | false => rfl
  | true => exact absurd (ht.out.mp rfl) h)
 obtain ⟨A, c1, rfl, a1, a2, a3, a4, a5⟩ := hv
 have hl1 : vs.length ≤ 9223372036854775807 := by unfold maxLen at a2; omega
 have A5 := LH a5
 clear a2 a3 a4 a5
 cases e0 : ((vs.length : Int) == r.vals) with
 | false =>
  have e1 : ((vs.length : Int) != r.vals) = true := by simp [bne, e0]
  have t0 : t = false := F.out (fun h => by
   have := h.1
   rw [this] at e0
   simp at e0)
  subst t0
  go_enter Tryz.func100, Tryz.ntmps100
  go_wp2_with fail
  go_ret
  exact ⟨rfl, by go_grown⟩
 | true =>
  have e1 : ((vs.length : Int) != r.vals) = false := by simp [bne, e0]
  have E0 : Hid ((vs.length : Int) = r.vals) := LH (by simpa using e0)
  go_enter Tryz.func100, Tryz.ntmps100
  go_wp2_with fail
  refine opq (fun w' => (Bx w' W.heap.size (rC r mk ct)) ∧ (Bx w' (W.heap.size + 1) (nC n vi vw vb)) ∧ Grown W w' ∧ W.heap.size + 2 ≤ w'.heap.size) kLaid ?_
  rintro W1 ⟨b1, b2, g1, s1⟩
  go_loopw [17] (fun i wr => ∃ k : Nat, k ≤ vs.length ∧ i = .int .i64 k ∧ Hid (∀ j, j < k → ¬ (r.keeps = true ∧ (vs.getD j default).z ≠ n.zero)) ∧ (Bx wr W.heap.size (rC r mk ct)) ∧ (Bx wr (W.heap.size + 1) (nC n vi vw vb)) ∧ Grown W wr ∧ W.heap.size + 2 ≤ wr.heap.size) (fun i _ => vs.length - (intOf i).toNat)
  case atStart => exact ⟨0, by omega, rfl, LH (fun j h => by omega), b1, b2, g1, s1⟩
  case round =>
   clear b1 b2 g1 s1
   obtain ⟨k, hk, rfl, hs, b1, b2, g1, s1⟩ := hrel
   by_cases l : k < vs.length
   ·obtain ⟨b, off, rfl, hb, hc⟩ := A5.out (by omega)
    obtain ⟨m0, m1, m2, m3⟩ := (hc k l).grow hb (Grown.past g1)
    clear hc
    obtain ⟨x, hx⟩ : ∃ x, vs.getD k default = x := ⟨_, rfl⟩
    rw [hx] at m0 m1 m2 m3
    have HX := LH hx
    clear hx
    have i1 : (0 : Int) ≤ (k : Int) := by omega
    have i2 : (k : Int) < (vs.length : Int) := by omega
    have n1 : W.heap.size ≠ wr.heap.size := by omega
    have n2 : W.heap.size + 1 ≠ wr.heap.size := by omega
    have n3 : W.heap.size < wr.heap.size := by omega
    have n4 : W.heap.size + 1 < wr.heap.size := by omega
    rcases Bool.eq_false_or_eq_true r.keeps with hk2 | hk2
    rotate_left
    ·skip
     go_wp2_with fail
     go_roundw
     case rel => exact ⟨k + 1, by omega, by go_num, LH (fun j h => by intro c; rw [hk2] at c; cases c.1), by (exact kKeep)⟩
     case measure => simp [intOf]; omega
    ·skip
     cases hz : (x.z == n.zero) with
     | true =>
      have hz2 : (x.z != n.zero) = false := by simp [bne, hz]
      go_wp2_with fail
      go_roundw
      case rel => exact ⟨k + 1, by omega, by go_num, LH (fun j h => by
       by_cases c : j = k
       ·subst c; rw [HX.out]; intro h; exact h.2 (by simpa using hz)
       ·exact hs.out j (by omega)), by (exact kKeep)⟩
      case measure => simp [intOf]; omega
     | false =>
      have hz2 : (x.z != n.zero) = true := by simp [bne, hz]
      have t0 : t = false := F.out (fun h => h.2.1 k l ⟨hk2, by rw [HX.out]; simpa using hz⟩)
      subst t0
      go_wp2_with fail
      go_ret
      exact ⟨rfl, by (exact kKeep)⟩
   ·have k0 : Hid (∀ j, j < vs.length → ¬ (r.keeps = true ∧ (vs.getD j default).z ≠ n.zero)) := LH (fun j h => hs.out j (by omega))
    clear hs
    have n2 : W.heap.size + 1 ≠ wr.heap.size := by omega
    have n3 : W.heap.size + 1 < wr.heap.size := by omega
    go_wp2_with fail
    go_cut [9] (fun s wx => s = .bool (scaledB n) ∧ (Bx wx W.heap.size (rC r mk ct)) ∧ (Bx wx (W.heap.size + 1) (nC n vi vw vb)) ∧ Grown W wx ∧ W.heap.size + 2 ≤ wx.heap.size)
    case first =>
     have n5 : W.heap.size + 1 ≠ wr.heap.size + 1 := by omega
     have n6 : W.heap.size + 1 ≠ wr.heap.size + 1 + 1 := by omega
     cases q1 : holdB 1 32767 n.mul with
     | false =>
      have q0 : Hid (scaledB n = false) := LH (by
       cases q : scaledB n with
       | false => rfl
       | true => exact absurd (scaledB_t.mp q).1 (holdB_f.mp q1))
      first | (go_region_with (first | (go_at_call 98; with_reducible refine (hold_any _ _ _ _).mono ?_; rintro e w1 ⟨rfl, rfl⟩) | (go_at_call 97; with_reducible refine (zeros_ex _).mono ?_; rintro e w1 ⟨rfl, rfl⟩))) | fail
      all_goals
       go_wp2_with fail
       go_meet
       exact ⟨by rw [q0.out], by (exact kKeep)⟩
     | true =>
      cases q2 : holdB 0 31 n.shift with
      | false =>
       have q0 : Hid (scaledB n = false) := LH (by
        cases q : scaledB n with
        | false => rfl
        | true => exact absurd (scaledB_t.mp q).2.1 (holdB_f.mp q2))
       first | (go_region_with (first | (go_at_call 98; with_reducible refine (hold_any _ _ _ _).mono ?_; rintro e w1 ⟨rfl, rfl⟩) | (go_at_call 97; with_reducible refine (zeros_ex _).mono ?_; rintro e w1 ⟨rfl, rfl⟩))) | fail
       all_goals
        go_wp2_with fail
        go_meet
        exact ⟨by rw [q0.out], by (exact kKeep)⟩
      | true =>
       have q0 : Hid (scaledB n = holdB (-128) 127 n.zero) := LH (by
        rw [Bool.eq_iff_iff, scaledB_t, holdB_t]
        exact ⟨fun h => h.2.2, fun h => ⟨holdB_t.mp q1, holdB_t.mp q2, h⟩⟩)
       go_region_held3 (fun w' => (Bx w' W.heap.size (rC r mk ct)) ∧ (Bx w' (W.heap.size + 1) (nC n vi vw vb)) ∧ Grown W w' ∧ W.heap.size + 2 ≤ w'.heap.size) (exact kKeep) (first | (go_at_call 98; with_reducible refine (hold_any _ _ _ _).mono ?_; rintro e w1 ⟨rfl, rfl⟩) | (go_at_call 97; with_reducible refine (zeros_ex _).mono ?_; rintro e w1 ⟨rfl, rfl⟩))
       all_goals
        go_wp2_with fail
        go_meet
        exact ⟨by rw [q0.out], by (exact kKeep)⟩
    case rest =>
     obtain ⟨rfl, c1, c2, c3, c4⟩ := hcut
     clear b1 b2 g1 s1 n2 n3
     cases q : scaledB n with
     | false =>
      have t0 : t = false := F.out (fun h => by rw [scaledB_t.mpr h.2.2.1] at q; cases q)
      subst t0
      go_wp2_with fail
      go_ret
      exact ⟨rfl, c3⟩
     | true =>
      have ht2 : Hid (t = true ↔ setP r n) := LH (by
       rw [ht.out]
       exact ⟨fun h => h.2.2.2, fun h => ⟨E0.out, k0.out, scaledB_t.mp q, h⟩⟩)
      go_wp2_with (first | (go_at_call 133; with_reducible refine (set_any r mk ct n vi vw vb _ t ht2).mono ?_; rintro e w1 ⟨rfl, g⟩))
      go_ret
      exact ⟨rfl, grown_trans c3 g⟩
end Go.Proofs.YtejllmjkeefloaaGreat
