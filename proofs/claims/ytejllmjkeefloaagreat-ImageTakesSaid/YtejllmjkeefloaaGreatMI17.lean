/- The reference's May. -/
import Derived.Test.YtejllmjkeefloaaGreatMI14
namespace Go.Proofs.YtejllmjkeefloaaGreat.Q8
open Go.ChangeShapes Go.WideShapes Go.ChangeAt Go.RowKit
set_option maxRecDepth 20000
set_option linter.unusedVariables false
set_option linter.unusedSimpArgs false
theorem in_b (x lo hi:Int)(b:Bool)(h:decide (lo<=x/\x<=hi)=b)(W:World):Calls Tryz.prog 74 #[.int .i64 x,.int .i64 lo,.int .i64 hi] W fun e w'=>e=.returned (.bool b)/\W=w':=by
 subst h;by_cases h1:lo<=x
 ·by_cases h2:x<=hi
  ·have d1:decide (lo<=x)=true:=decide_eq_true h1;have d2:decide (x<=hi)=true:=decide_eq_true h2;rw [decide_eq_true (p:=lo<=x/\x<=hi) ⟨h1,h2⟩];clear h1 h2;go_enter Tryz.func74,Tryz.ntmps74;go_wp2_with fail;go_ret;exact⟨rfl,rfl⟩
  ·have d1:decide (lo<=x)=true:=decide_eq_true h1;have d2:decide (x<=hi)=false:=decide_eq_false h2;rw [decide_eq_false (p:=lo<=x/\x<=hi) (fun h=>h2 h.2)];clear h1 h2;go_enter Tryz.func74,Tryz.ntmps74;go_wp2_with fail;go_ret;exact⟨rfl,rfl⟩
 ·have d1:decide (lo<=x)=false:=decide_eq_false h1;rw [decide_eq_false (p:=lo<=x/\x<=hi) (fun h=>h1 h.1)];clear h1;go_enter Tryz.func74,Tryz.ntmps74;go_wp2_with fail;go_ret;exact⟨rfl,rfl⟩
section
variable {ops:Array Oper} {Q:Exit->Act->World->Prop}
theorem wpList_neqCg {rest:List Oper}{o:Oper}{a:Act}{w:World}(hw:Region.wanted o (yielded ops a.tmps)=true)(x y:Operand)(ty2:TypeId)(ho:o.op=.binOp .neq 67 x y ty2)
  (c d:List Int) (hc:c.length=14) (hd:d.length=14) (hx:a.eval x=.agg ⟨cellC c⟩) (hy:a.eval y=.agg ⟨cellC d⟩) (h:wpList Tryz.prog ops Q rest (a.put o.dst (.bool (!decide (c=d)))) w):wpList Tryz.prog ops Q (o :: rest) a w :=
 BigFrame.wpList_want hw fun _ hK=>wp_neqC x y ty2 ho c d hc hd hx hy (hK _ _ h)
theorem wpList_set_cmd {rest:List Oper} {o:Oper} {a:Act} {w:World} (h2:o.guard=none) (x y:Operand) (e2:o.op=.store 67 x y) (d2:o.dst=none) (b:Nat) (c c0:List Int) (hl:c.length=14) (hl0:c0.length=14) (hx:a.eval x=.pointer (some ⟨b,0,none⟩)) (hy:a.eval y=.agg ⟨cellC c⟩)
  (hb:(Bx w b ⟨cellC c0⟩)) (hf:(Fr w b)) (W:World) (hp:Past W w) (hWb:W.heap.size≤b) (hlt:b<w.heap.size)
  (h:∀ w',Past W w'→(Bx w' b ⟨cellC c⟩)→(Fr w' b)→b<w'.heap.size→wpList Tryz.prog ops Q rest a w'):wpList Tryz.prog ops Q (o :: rest) a w:=by
 have hs:(⟨cellC c0⟩:Array Value).size=(⟨cellC c⟩:Array Value).size:=by rw [size_cellC hl,size_cellC hl0]
 refine wpList_store_box h2 67 x y e2 b ⟨cellC c⟩ _ hx hy hb hf hs (cmdSize hl) (one_cellC c) (fun w'=>Past W w'∧(Bx w' b ⟨cellC c⟩)∧(Fr w' b)∧b<w'.heap.size) ⟨past_setAll hWb _ _ _ hp,box_setAll hb hs,free_setAll _ hf,size_setAll _ _ _ hlt⟩ ?_
 rintro w2 ⟨p2,b2,f2,z2⟩
 rw [d2]
 exact h w2 p2 b2 f2 z2
end
set_option maxHeartbeats 4000000 in
theorem rmay_load1 (c:List Int) (hl:c.length=14) (hk:c.getD 0 0=1) (W:World):Calls Tryz.prog 47 #[.agg ⟨cellC c⟩] W fun e w'=>e=.returned (.int .i64 (mayE c))∧Past W w':=by
 obtain ⟨ok,hok⟩:∃ b,decide ((1≤c.getD 4 0∧c.getD 4 0≤16)∧(1≤c.getD 5 0∧c.getD 5 0≤128)∧(0≤c.getD 6 0∧c.getD 6 0≤65535)∧(0≤c.getD 7 0∧c.getD 7 0≤1023))=b:=⟨_,rfl⟩
 have KEY:Hid (mayE c=if ok=true∧((((c).set 4 0).set 5 0).set 6 0).set 7 0=1 :: List.replicate 13 0 then 0 else 1):=LH (by
  rw [← hok]
  obtain ⟨k,s,n,f,r,w,d,p,i0,i1,b0,b1,h0,h1,rfl⟩:=fourteen hl
  simp at hk
  subst hk
  unfold mayE
  have h:=may_load (k:=1) (hk:=.inl rfl) (s:=s) (n:=n) (f:=f) (r:=r) (w:=w) (d:=d) (p:=p) (i0:=i0) (i1:=i1) (b0:=b0) (b1:=b1) (h0:=h0) (h1:=h1)
  by_cases q:mayD [1,s,n,f,r,w,d,p,i0,i1,b0,b1,h0,h1]
  ·rw [if_pos q,if_pos]
   have:=h.1 q
   simp [List.replicate]
   omega
  ·rw [if_neg q,if_neg]
   intro e
   apply q
   apply h.2
   simp [List.replicate] at e
   omega)
 obtain ⟨r,e4⟩:∃ x,c.getD 4 0=x:=⟨_,rfl⟩
 obtain ⟨w,e5⟩:∃ x,c.getD 5 0=x:=⟨_,rfl⟩
 obtain ⟨d,e6⟩:∃ x,c.getD 6 0=x:=⟨_,rfl⟩
 obtain ⟨p,e7⟩:∃ x,c.getD 7 0=x:=⟨_,rfl⟩
 rw [e4,e5,e6,e7] at hok
 have OK:=LH hok
 have HL:=LH hl
 have HK:=LH hk
 have E4:=LH e4
 have E5:=LH e5
 have E6:=LH e6
 have E7:=LH e7
 clear hok hl hk e4 e5 e6 e7
 go_enter Tryz.func47,Tryz.ntmps47
 go_upto_region 1 with fail
 obtain ⟨Q,hQ⟩:∃ Q,W.heap.size=Q:=⟨_,rfl⟩
 refine opq (fun w'=>(Bx w' Q ⟨cellC c⟩)∧(Fr w' Q)∧Past W w'∧Q<w'.heap.size) (by subst hQ;exact ⟨box_new rfl,free_alloc (free_new (Nat.le_refl _)),(Past.refl W).alloc _,by simp⟩) ?_
 rintro w1 ⟨b1,f1,p1,z1⟩
 try simp only [hQ]
 have QW:W.heap.size≤Q:=by omega
 have c0:=boxC_cell b1 (j:=0) (by rw [HL.out];omega)
 rw [HK.out] at c0
 have c4:=boxC_cell b1 (j:=4) (by rw [HL.out];omega)
 rw [E4.out] at c4
 have c5:=boxC_cell b1 (j:=5) (by rw [HL.out];omega)
 rw [E5.out] at c5
 have c6:=boxC_cell b1 (j:=6) (by rw [HL.out];omega)
 rw [E6.out] at c6
 have c7:=boxC_cell b1 (j:=7) (by rw [HL.out];omega)
 rw [E7.out] at c7
 have B1:=LH b1
 have P1:=LH p1
 clear b1 p1 hQ
 go_wp2_with fail
 refine (in_b _ _ _ true (by decide) _).mono ?_
 rintro e wx ⟨rfl,rfl⟩
 go_upto_region 6 with fail
 go_cut [3] (fun v w'=>v=.bool ok∧w1=w')
 case first =>
  clear KEY
  by_cases g0:1≤r∧r≤16
  ·by_cases g1:1≤w∧w≤128
   ·by_cases g2:0≤d∧d≤65535
    ·by_cases g3:0≤p∧p≤1023
     ·go_wp2_with fail
      refine (in_b _ _ _ true (decide_eq_true g0) _).mono ?_
      rintro e wx ⟨rfl,rfl⟩
      go_wp2_with fail
      refine (in_b _ _ _ true (decide_eq_true g1) _).mono ?_
      rintro e wx ⟨rfl,rfl⟩
      go_wp2_with fail
      refine (in_b _ _ _ true (decide_eq_true g2) _).mono ?_
      rintro e wx ⟨rfl,rfl⟩
      go_wp2_with fail
      refine (in_b _ _ _ true (decide_eq_true g3) _).mono ?_
      rintro e wx ⟨rfl,rfl⟩
      go_wp2_with fail
      go_meet
      exact ⟨by rw [← OK.out,decide_eq_true (by refine ⟨?_,?_,?_,?_⟩ <;> assumption)],rfl⟩
     ·go_wp2_with fail
      refine (in_b _ _ _ true (decide_eq_true g0) _).mono ?_
      rintro e wx ⟨rfl,rfl⟩
      go_wp2_with fail
      refine (in_b _ _ _ true (decide_eq_true g1) _).mono ?_
      rintro e wx ⟨rfl,rfl⟩
      go_wp2_with fail
      refine (in_b _ _ _ true (decide_eq_true g2) _).mono ?_
      rintro e wx ⟨rfl,rfl⟩
      go_wp2_with fail
      refine (in_b _ _ _ false (decide_eq_false g3) _).mono ?_
      rintro e wx ⟨rfl,rfl⟩
      go_wp2_with fail
      go_meet
      exact ⟨by rw [← OK.out,decide_eq_false (fun h=>g3 h.2.2.2)],rfl⟩
    ·go_wp2_with fail
     refine (in_b _ _ _ true (decide_eq_true g0) _).mono ?_
     rintro e wx ⟨rfl,rfl⟩
     go_wp2_with fail
     refine (in_b _ _ _ true (decide_eq_true g1) _).mono ?_
     rintro e wx ⟨rfl,rfl⟩
     go_wp2_with fail
     refine (in_b _ _ _ false (decide_eq_false g2) _).mono ?_
     rintro e wx ⟨rfl,rfl⟩
     go_wp2_with fail
     go_meet
     exact ⟨by rw [← OK.out,decide_eq_false (fun h=>g2 h.2.2.1)],rfl⟩
   ·go_wp2_with fail
    refine (in_b _ _ _ true (decide_eq_true g0) _).mono ?_
    rintro e wx ⟨rfl,rfl⟩
    go_wp2_with fail
    refine (in_b _ _ _ false (decide_eq_false g1) _).mono ?_
    rintro e wx ⟨rfl,rfl⟩
    go_wp2_with fail
    go_meet
    exact ⟨by rw [← OK.out,decide_eq_false (fun h=>g1 h.2.1)],rfl⟩
  ·go_wp2_with fail
   refine (in_b _ _ _ false (decide_eq_false g0) _).mono ?_
   rintro e wx ⟨rfl,rfl⟩
   go_wp2_with fail
   go_meet
   exact ⟨by rw [← OK.out,decide_eq_false (fun h=>g0 h.1)],rfl⟩
 case rest =>
  obtain ⟨rfl,rfl⟩:=hcut
  go_upto_region 26 with fail
  refine opq (fun w'=>Hid ((Bx w' Q ⟨cellC (((((c).set 4 0).set 5 0).set 6 0).set 7 0)⟩))∧Hid (Past W w')) ⟨LH (boxC_set (x:=0) (boxC_set (x:=0) (boxC_set (x:=0) (boxC_set (x:=0) (B1.out) (by simp [HL.out])) (by simp [HL.out])) (by simp [HL.out])) (by simp [HL.out])),LH (Past.setCell (Past.setCell (Past.setCell (Past.setCell (P1.out) (by dsimp only;omega) _) (by dsimp only;omega) _) (by dsimp only;omega) _) (by dsimp only;omega) _)⟩ ?_
  rintro w9 ⟨B9,P9⟩
  have L9:Hid ((((((c).set 4 0).set 5 0).set 6 0).set 7 0).length=14):=LH (by simp only [List.length_set];exact HL.out)
  clear B1 P1 f1 z1 c0 c4 c5 c6 c7 OK
  cases ok with
  | false =>
   go_wp2_with fail
   go_ret
   exact ⟨by rw [KEY.out,if_neg (by intro h;have:=h.1;first|exact this.elim|cases this)];rfl,P9.out⟩
  | true =>
   by_cases q:((((c).set 4 0).set 5 0).set 6 0).set 7 0=1 :: List.replicate 13 0
   ·have dq:(!decide (((((c).set 4 0).set 5 0).set 6 0).set 7 0=1 :: List.replicate 13 0))=false:=by simp only [decide_eq_true q,Bool.not_true]
    have QH:=LH q
    clear q
    go_wp2_with (first|(refine wpList_load_cmdg ?g1 (.tmp 1) ?g2 Q ?g3 (((((c).set 4 0).set 5 0).set 6 0).set 7 0) L9.out B9.out ?_;(case g1=>rfl);(case g2=>rfl);(case g3=>rfl))|(refine wpList_neqCg ?g1 (.tmp 113) (.tmp 115) 67 ?g2 (((((c).set 4 0).set 5 0).set 6 0).set 7 0) (1 :: List.replicate 13 0) L9.out (by simp) ?g3 ?g4 ?_;(case g1=>rfl);(case g2=>rfl);(case g3=>rfl);(case g4=>rfl);rw [dq]))
    go_ret
    exact ⟨by rw [KEY.out,if_pos ⟨by trivial,QH.out⟩];rfl,P9.out⟩
   ·have dq:(!decide (((((c).set 4 0).set 5 0).set 6 0).set 7 0=1 :: List.replicate 13 0))=true:=by simp only [decide_eq_false q,Bool.not_false]
    have QH:=LH q
    clear q
    go_wp2_with (first|(refine wpList_load_cmdg ?g1 (.tmp 1) ?g2 Q ?g3 (((((c).set 4 0).set 5 0).set 6 0).set 7 0) L9.out B9.out ?_;(case g1=>rfl);(case g2=>rfl);(case g3=>rfl))|(refine wpList_neqCg ?g1 (.tmp 113) (.tmp 115) 67 ?g2 (((((c).set 4 0).set 5 0).set 6 0).set 7 0) (1 :: List.replicate 13 0) L9.out (by simp) ?g3 ?g4 ?_;(case g1=>rfl);(case g2=>rfl);(case g3=>rfl);(case g4=>rfl);rw [dq]))
    go_ret
    exact ⟨by rw [KEY.out,if_neg (by intro h;exact QH.out h.2)];rfl,P9.out⟩
set_option maxHeartbeats 4000000 in
theorem rmay_load2 (c:List Int) (hl:c.length=14) (hk:c.getD 0 0=2) (W:World):Calls Tryz.prog 47 #[.agg ⟨cellC c⟩] W fun e w'=>e=.returned (.int .i64 (mayE c))∧Past W w':=by
 obtain ⟨ok,hok⟩:∃ b,decide ((1≤c.getD 4 0∧c.getD 4 0≤16)∧(1≤c.getD 5 0∧c.getD 5 0≤128)∧(0≤c.getD 6 0∧c.getD 6 0≤65535)∧(0≤c.getD 7 0∧c.getD 7 0≤1023))=b:=⟨_,rfl⟩
 have KEY:Hid (mayE c=if ok=true∧((((c).set 4 0).set 5 0).set 6 0).set 7 0=2 :: List.replicate 13 0 then 0 else 1):=LH (by
  rw [← hok]
  obtain ⟨k,s,n,f,r,w,d,p,i0,i1,b0,b1,h0,h1,rfl⟩:=fourteen hl
  simp at hk
  subst hk
  unfold mayE
  have h:=may_load (k:=2) (hk:=.inr rfl) (s:=s) (n:=n) (f:=f) (r:=r) (w:=w) (d:=d) (p:=p) (i0:=i0) (i1:=i1) (b0:=b0) (b1:=b1) (h0:=h0) (h1:=h1)
  by_cases q:mayD [2,s,n,f,r,w,d,p,i0,i1,b0,b1,h0,h1]
  ·rw [if_pos q,if_pos]
   have:=h.1 q
   simp [List.replicate]
   omega
  ·rw [if_neg q,if_neg]
   intro e
   apply q
   apply h.2
   simp [List.replicate] at e
   omega)
 obtain ⟨r,e4⟩:∃ x,c.getD 4 0=x:=⟨_,rfl⟩
 obtain ⟨w,e5⟩:∃ x,c.getD 5 0=x:=⟨_,rfl⟩
 obtain ⟨d,e6⟩:∃ x,c.getD 6 0=x:=⟨_,rfl⟩
 obtain ⟨p,e7⟩:∃ x,c.getD 7 0=x:=⟨_,rfl⟩
 rw [e4,e5,e6,e7] at hok
 have OK:=LH hok
 have HL:=LH hl
 have HK:=LH hk
 have E4:=LH e4
 have E5:=LH e5
 have E6:=LH e6
 have E7:=LH e7
 clear hok hl hk e4 e5 e6 e7
 go_enter Tryz.func47,Tryz.ntmps47
 go_upto_region 1 with fail
 obtain ⟨Q,hQ⟩:∃ Q,W.heap.size=Q:=⟨_,rfl⟩
 refine opq (fun w'=>(Bx w' Q ⟨cellC c⟩)∧(Fr w' Q)∧Past W w'∧Q<w'.heap.size) (by subst hQ;exact ⟨box_new rfl,free_alloc (free_new (Nat.le_refl _)),(Past.refl W).alloc _,by simp⟩) ?_
 rintro w1 ⟨b1,f1,p1,z1⟩
 try simp only [hQ]
 have QW:W.heap.size≤Q:=by omega
 have c0:=boxC_cell b1 (j:=0) (by rw [HL.out];omega)
 rw [HK.out] at c0
 have c4:=boxC_cell b1 (j:=4) (by rw [HL.out];omega)
 rw [E4.out] at c4
 have c5:=boxC_cell b1 (j:=5) (by rw [HL.out];omega)
 rw [E5.out] at c5
 have c6:=boxC_cell b1 (j:=6) (by rw [HL.out];omega)
 rw [E6.out] at c6
 have c7:=boxC_cell b1 (j:=7) (by rw [HL.out];omega)
 rw [E7.out] at c7
 have B1:=LH b1
 have P1:=LH p1
 clear b1 p1 hQ
 go_wp2_with fail
 refine (in_b _ _ _ true (by decide) _).mono ?_
 rintro e wx ⟨rfl,rfl⟩
 go_upto_region 6 with fail
 go_cut [3] (fun v w'=>v=.bool ok∧w1=w')
 case first =>
  clear KEY
  by_cases g0:1≤r∧r≤16
  ·by_cases g1:1≤w∧w≤128
   ·by_cases g2:0≤d∧d≤65535
    ·by_cases g3:0≤p∧p≤1023
     ·go_wp2_with fail
      refine (in_b _ _ _ true (decide_eq_true g0) _).mono ?_
      rintro e wx ⟨rfl,rfl⟩
      go_wp2_with fail
      refine (in_b _ _ _ true (decide_eq_true g1) _).mono ?_
      rintro e wx ⟨rfl,rfl⟩
      go_wp2_with fail
      refine (in_b _ _ _ true (decide_eq_true g2) _).mono ?_
      rintro e wx ⟨rfl,rfl⟩
      go_wp2_with fail
      refine (in_b _ _ _ true (decide_eq_true g3) _).mono ?_
      rintro e wx ⟨rfl,rfl⟩
      go_wp2_with fail
      go_meet
      exact ⟨by rw [← OK.out,decide_eq_true (by refine ⟨?_,?_,?_,?_⟩ <;> assumption)],rfl⟩
     ·go_wp2_with fail
      refine (in_b _ _ _ true (decide_eq_true g0) _).mono ?_
      rintro e wx ⟨rfl,rfl⟩
      go_wp2_with fail
      refine (in_b _ _ _ true (decide_eq_true g1) _).mono ?_
      rintro e wx ⟨rfl,rfl⟩
      go_wp2_with fail
      refine (in_b _ _ _ true (decide_eq_true g2) _).mono ?_
      rintro e wx ⟨rfl,rfl⟩
      go_wp2_with fail
      refine (in_b _ _ _ false (decide_eq_false g3) _).mono ?_
      rintro e wx ⟨rfl,rfl⟩
      go_wp2_with fail
      go_meet
      exact ⟨by rw [← OK.out,decide_eq_false (fun h=>g3 h.2.2.2)],rfl⟩
    ·go_wp2_with fail
     refine (in_b _ _ _ true (decide_eq_true g0) _).mono ?_
     rintro e wx ⟨rfl,rfl⟩
     go_wp2_with fail
     refine (in_b _ _ _ true (decide_eq_true g1) _).mono ?_
     rintro e wx ⟨rfl,rfl⟩
     go_wp2_with fail
     refine (in_b _ _ _ false (decide_eq_false g2) _).mono ?_
     rintro e wx ⟨rfl,rfl⟩
     go_wp2_with fail
     go_meet
     exact ⟨by rw [← OK.out,decide_eq_false (fun h=>g2 h.2.2.1)],rfl⟩
   ·go_wp2_with fail
    refine (in_b _ _ _ true (decide_eq_true g0) _).mono ?_
    rintro e wx ⟨rfl,rfl⟩
    go_wp2_with fail
    refine (in_b _ _ _ false (decide_eq_false g1) _).mono ?_
    rintro e wx ⟨rfl,rfl⟩
    go_wp2_with fail
    go_meet
    exact ⟨by rw [← OK.out,decide_eq_false (fun h=>g1 h.2.1)],rfl⟩
  ·go_wp2_with fail
   refine (in_b _ _ _ false (decide_eq_false g0) _).mono ?_
   rintro e wx ⟨rfl,rfl⟩
   go_wp2_with fail
   go_meet
   exact ⟨by rw [← OK.out,decide_eq_false (fun h=>g0 h.1)],rfl⟩
 case rest =>
  obtain ⟨rfl,rfl⟩:=hcut
  go_upto_region 26 with fail
  refine opq (fun w'=>Hid ((Bx w' Q ⟨cellC (((((c).set 4 0).set 5 0).set 6 0).set 7 0)⟩))∧Hid (Past W w')) ⟨LH (boxC_set (x:=0) (boxC_set (x:=0) (boxC_set (x:=0) (boxC_set (x:=0) (B1.out) (by simp [HL.out])) (by simp [HL.out])) (by simp [HL.out])) (by simp [HL.out])),LH (Past.setCell (Past.setCell (Past.setCell (Past.setCell (P1.out) (by dsimp only;omega) _) (by dsimp only;omega) _) (by dsimp only;omega) _) (by dsimp only;omega) _)⟩ ?_
  rintro w9 ⟨B9,P9⟩
  have L9:Hid ((((((c).set 4 0).set 5 0).set 6 0).set 7 0).length=14):=LH (by simp only [List.length_set];exact HL.out)
  clear B1 P1 f1 z1 c0 c4 c5 c6 c7 OK
  cases ok with
  | false =>
   go_wp2_with fail
   go_ret
   exact ⟨by rw [KEY.out,if_neg (by intro h;have:=h.1;first|exact this.elim|cases this)];rfl,P9.out⟩
  | true =>
   by_cases q:((((c).set 4 0).set 5 0).set 6 0).set 7 0=2 :: List.replicate 13 0
   ·have dq:(!decide (((((c).set 4 0).set 5 0).set 6 0).set 7 0=2 :: List.replicate 13 0))=false:=by simp only [decide_eq_true q,Bool.not_true]
    have QH:=LH q
    clear q
    go_wp2_with (first|(refine wpList_load_cmdg ?g1 (.tmp 1) ?g2 Q ?g3 (((((c).set 4 0).set 5 0).set 6 0).set 7 0) L9.out B9.out ?_;(case g1=>rfl);(case g2=>rfl);(case g3=>rfl))|(refine wpList_neqCg ?g1 (.tmp 113) (.tmp 115) 67 ?g2 (((((c).set 4 0).set 5 0).set 6 0).set 7 0) (2 :: List.replicate 13 0) L9.out (by simp) ?g3 ?g4 ?_;(case g1=>rfl);(case g2=>rfl);(case g3=>rfl);(case g4=>rfl);rw [dq]))
    go_ret
    exact ⟨by rw [KEY.out,if_pos ⟨by trivial,QH.out⟩];rfl,P9.out⟩
   ·have dq:(!decide (((((c).set 4 0).set 5 0).set 6 0).set 7 0=2 :: List.replicate 13 0))=true:=by simp only [decide_eq_false q,Bool.not_false]
    have QH:=LH q
    clear q
    go_wp2_with (first|(refine wpList_load_cmdg ?g1 (.tmp 1) ?g2 Q ?g3 (((((c).set 4 0).set 5 0).set 6 0).set 7 0) L9.out B9.out ?_;(case g1=>rfl);(case g2=>rfl);(case g3=>rfl))|(refine wpList_neqCg ?g1 (.tmp 113) (.tmp 115) 67 ?g2 (((((c).set 4 0).set 5 0).set 6 0).set 7 0) (2 :: List.replicate 13 0) L9.out (by simp) ?g3 ?g4 ?_;(case g1=>rfl);(case g2=>rfl);(case g3=>rfl);(case g4=>rfl);rw [dq]))
    go_ret
    exact ⟨by rw [KEY.out,if_neg (by intro h;exact QH.out h.2)];rfl,P9.out⟩
set_option maxHeartbeats 4000000 in
theorem rmay_kernel (c:List Int) (hl:c.length=14) (hk:c.getD 0 0=4) (W:World):Calls Tryz.prog 47 #[.agg ⟨cellC c⟩] W fun e w'=>e=.returned (.int .i64 (mayE c))∧Past W w':=by
 obtain ⟨ok,hok⟩:∃ b,decide ((0≤c.getD 2 0∧c.getD 2 0≤11)∧(1≤c.getD 4 0∧c.getD 4 0≤16))=b:=⟨_,rfl⟩
 have KEY:Hid (mayE c=if ok=true∧((c).set 2 0).set 4 0=4 :: List.replicate 13 0 then 0 else 1):=LH (by
  rw [← hok]
  obtain ⟨k,s,n,f,r,w,d,p,i0,i1,b0,b1,h0,h1,rfl⟩:=fourteen hl
  simp at hk
  subst hk
  unfold mayE
  have h:=may_kernel (k:=4) (hk:=rfl) (s:=s) (n:=n) (f:=f) (r:=r) (w:=w) (d:=d) (p:=p) (i0:=i0) (i1:=i1) (b0:=b0) (b1:=b1) (h0:=h0) (h1:=h1)
  by_cases q:mayD [4,s,n,f,r,w,d,p,i0,i1,b0,b1,h0,h1]
  ·rw [if_pos q,if_pos]
   have:=h.1 q
   simp [List.replicate]
   omega
  ·rw [if_neg q,if_neg]
   intro e
   apply q
   apply h.2
   simp [List.replicate] at e
   omega)
 obtain ⟨n,e2⟩:∃ x,c.getD 2 0=x:=⟨_,rfl⟩
 obtain ⟨r,e4⟩:∃ x,c.getD 4 0=x:=⟨_,rfl⟩
 rw [e2,e4] at hok
 have OK:=LH hok
 have HL:=LH hl
 have HK:=LH hk
 have E2:=LH e2
 have E4:=LH e4
 clear hok hl hk e2 e4
 go_enter Tryz.func47,Tryz.ntmps47
 go_upto_region 1 with fail
 obtain ⟨Q,hQ⟩:∃ Q,W.heap.size=Q:=⟨_,rfl⟩
 refine opq (fun w'=>(Bx w' Q ⟨cellC c⟩)∧(Fr w' Q)∧Past W w'∧Q<w'.heap.size) (by subst hQ;exact ⟨box_new rfl,free_alloc (free_new (Nat.le_refl _)),(Past.refl W).alloc _,by simp⟩) ?_
 rintro w1 ⟨b1,f1,p1,z1⟩
 try simp only [hQ]
 have QW:W.heap.size≤Q:=by omega
 have c0:=boxC_cell b1 (j:=0) (by rw [HL.out];omega)
 rw [HK.out] at c0
 have c2:=boxC_cell b1 (j:=2) (by rw [HL.out];omega)
 rw [E2.out] at c2
 have c4:=boxC_cell b1 (j:=4) (by rw [HL.out];omega)
 rw [E4.out] at c4
 have B1:=LH b1
 have P1:=LH p1
 clear b1 p1 hQ
 go_wp2_with fail
 refine (in_b _ _ _ true (by decide) _).mono ?_
 rintro e wx ⟨rfl,rfl⟩
 go_upto_region 19 with fail
 go_cut [3] (fun v w'=>v=.bool ok∧w1=w')
 case first =>
  clear KEY
  by_cases g0:0≤n∧n≤11
  ·by_cases g1:1≤r∧r≤16
   ·go_wp2_with fail
    refine (in_b _ _ _ true (decide_eq_true g0) _).mono ?_
    rintro e wx ⟨rfl,rfl⟩
    go_wp2_with fail
    refine (in_b _ _ _ true (decide_eq_true g1) _).mono ?_
    rintro e wx ⟨rfl,rfl⟩
    go_wp2_with fail
    go_meet
    exact ⟨by rw [← OK.out,decide_eq_true (by refine ⟨?_,?_⟩ <;> assumption)],rfl⟩
   ·go_wp2_with fail
    refine (in_b _ _ _ true (decide_eq_true g0) _).mono ?_
    rintro e wx ⟨rfl,rfl⟩
    go_wp2_with fail
    refine (in_b _ _ _ false (decide_eq_false g1) _).mono ?_
    rintro e wx ⟨rfl,rfl⟩
    go_wp2_with fail
    go_meet
    exact ⟨by rw [← OK.out,decide_eq_false (fun h=>g1 h.2)],rfl⟩
  ·go_wp2_with fail
   refine (in_b _ _ _ false (decide_eq_false g0) _).mono ?_
   rintro e wx ⟨rfl,rfl⟩
   go_wp2_with fail
   go_meet
   exact ⟨by rw [← OK.out,decide_eq_false (fun h=>g0 h.1)],rfl⟩
 case rest =>
  obtain ⟨rfl,rfl⟩:=hcut
  go_upto_region 26 with fail
  refine opq (fun w'=>Hid ((Bx w' Q ⟨cellC (((c).set 2 0).set 4 0)⟩))∧Hid (Past W w')) ⟨LH (boxC_set (x:=0) (boxC_set (x:=0) (B1.out) (by simp [HL.out])) (by simp [HL.out])),LH (Past.setCell (Past.setCell (P1.out) (by dsimp only;omega) _) (by dsimp only;omega) _)⟩ ?_
  rintro w9 ⟨B9,P9⟩
  have L9:Hid ((((c).set 2 0).set 4 0).length=14):=LH (by simp only [List.length_set];exact HL.out)
  clear B1 P1 f1 z1 c0 c2 c4 OK
  cases ok with
  | false =>
   go_wp2_with fail
   go_ret
   exact ⟨by rw [KEY.out,if_neg (by intro h;have:=h.1;first|exact this.elim|cases this)];rfl,P9.out⟩
  | true =>
   by_cases q:((c).set 2 0).set 4 0=4 :: List.replicate 13 0
   ·have dq:(!decide (((c).set 2 0).set 4 0=4 :: List.replicate 13 0))=false:=by simp only [decide_eq_true q,Bool.not_true]
    have QH:=LH q
    clear q
    go_wp2_with (first|(refine wpList_load_cmdg ?g1 (.tmp 1) ?g2 Q ?g3 (((c).set 2 0).set 4 0) L9.out B9.out ?_;(case g1=>rfl);(case g2=>rfl);(case g3=>rfl))|(refine wpList_neqCg ?g1 (.tmp 113) (.tmp 115) 67 ?g2 (((c).set 2 0).set 4 0) (4 :: List.replicate 13 0) L9.out (by simp) ?g3 ?g4 ?_;(case g1=>rfl);(case g2=>rfl);(case g3=>rfl);(case g4=>rfl);rw [dq]))
    go_ret
    exact ⟨by rw [KEY.out,if_pos ⟨by trivial,QH.out⟩];rfl,P9.out⟩
   ·have dq:(!decide (((c).set 2 0).set 4 0=4 :: List.replicate 13 0))=true:=by simp only [decide_eq_false q,Bool.not_false]
    have QH:=LH q
    clear q
    go_wp2_with (first|(refine wpList_load_cmdg ?g1 (.tmp 1) ?g2 Q ?g3 (((c).set 2 0).set 4 0) L9.out B9.out ?_;(case g1=>rfl);(case g2=>rfl);(case g3=>rfl))|(refine wpList_neqCg ?g1 (.tmp 113) (.tmp 115) 67 ?g2 (((c).set 2 0).set 4 0) (4 :: List.replicate 13 0) L9.out (by simp) ?g3 ?g4 ?_;(case g1=>rfl);(case g2=>rfl);(case g3=>rfl);(case g4=>rfl);rw [dq]))
    go_ret
    exact ⟨by rw [KEY.out,if_neg (by intro h;exact QH.out h.2)];rfl,P9.out⟩
set_option maxHeartbeats 4000000 in
theorem rmay_sem5 (c:List Int) (hl:c.length=14) (hk:c.getD 0 0=5) (W:World):Calls Tryz.prog 47 #[.agg ⟨cellC c⟩] W fun e w'=>e=.returned (.int .i64 (mayE c))∧Past W w':=by
 obtain ⟨ok,hok⟩:∃ b,decide ((0≤c.getD 1 0∧c.getD 1 0≤7))=b:=⟨_,rfl⟩
 have KEY:Hid (mayE c=if ok=true∧(c).set 1 0=5 :: List.replicate 13 0 then 0 else 1):=LH (by
  rw [← hok]
  obtain ⟨k,s,n,f,r,w,d,p,i0,i1,b0,b1,h0,h1,rfl⟩:=fourteen hl
  simp at hk
  subst hk
  unfold mayE
  have h:=may_sem (k:=5) (hk:=.inl rfl) (s:=s) (n:=n) (f:=f) (r:=r) (w:=w) (d:=d) (p:=p) (i0:=i0) (i1:=i1) (b0:=b0) (b1:=b1) (h0:=h0) (h1:=h1)
  by_cases q:mayD [5,s,n,f,r,w,d,p,i0,i1,b0,b1,h0,h1]
  ·rw [if_pos q,if_pos]
   have:=h.1 q
   simp [List.replicate]
   omega
  ·rw [if_neg q,if_neg]
   intro e
   apply q
   apply h.2
   simp [List.replicate] at e
   omega)
 obtain ⟨s,e1⟩:∃ x,c.getD 1 0=x:=⟨_,rfl⟩
 rw [e1] at hok
 have OK:=LH hok
 have HL:=LH hl
 have HK:=LH hk
 have E1:=LH e1
 clear hok hl hk e1
 go_enter Tryz.func47,Tryz.ntmps47
 go_upto_region 1 with fail
 obtain ⟨Q,hQ⟩:∃ Q,W.heap.size=Q:=⟨_,rfl⟩
 refine opq (fun w'=>(Bx w' Q ⟨cellC c⟩)∧(Fr w' Q)∧Past W w'∧Q<w'.heap.size) (by subst hQ;exact ⟨box_new rfl,free_alloc (free_new (Nat.le_refl _)),(Past.refl W).alloc _,by simp⟩) ?_
 rintro w1 ⟨b1,f1,p1,z1⟩
 try simp only [hQ]
 have QW:W.heap.size≤Q:=by omega
 have c0:=boxC_cell b1 (j:=0) (by rw [HL.out];omega)
 rw [HK.out] at c0
 have c1:=boxC_cell b1 (j:=1) (by rw [HL.out];omega)
 rw [E1.out] at c1
 have B1:=LH b1
 have P1:=LH p1
 clear b1 p1 hQ
 go_wp2_with fail
 refine (in_b _ _ _ true (by decide) _).mono ?_
 rintro e wx ⟨rfl,rfl⟩
 go_upto_region 24 with fail
 go_cut [3] (fun v w'=>v=.bool ok∧w1=w')
 case first =>
  clear KEY
  by_cases g0:0≤s∧s≤7
  ·go_wp2_with fail
   refine (in_b _ _ _ true (decide_eq_true g0) _).mono ?_
   rintro e wx ⟨rfl,rfl⟩
   go_wp2_with fail
   go_meet
   exact ⟨by rw [← OK.out,decide_eq_true g0],rfl⟩
  ·go_wp2_with fail
   refine (in_b _ _ _ false (decide_eq_false g0) _).mono ?_
   rintro e wx ⟨rfl,rfl⟩
   go_wp2_with fail
   go_meet
   exact ⟨by rw [← OK.out,decide_eq_false (fun h=>g0 h)],rfl⟩
 case rest =>
  obtain ⟨rfl,rfl⟩:=hcut
  go_upto_region 26 with fail
  refine opq (fun w'=>Hid ((Bx w' Q ⟨cellC ((c).set 1 0)⟩))∧Hid (Past W w')) ⟨LH (boxC_set (x:=0) (B1.out) (by simp [HL.out])),LH (Past.setCell (P1.out) (by dsimp only;omega) _)⟩ ?_
  rintro w9 ⟨B9,P9⟩
  have L9:Hid (((c).set 1 0).length=14):=LH (by simp only [List.length_set];exact HL.out)
  clear B1 P1 f1 z1 c0 c1 OK
  cases ok with
  | false =>
   go_wp2_with fail
   go_ret
   exact ⟨by rw [KEY.out,if_neg (by intro h;have:=h.1;first|exact this.elim|cases this)];rfl,P9.out⟩
  | true =>
   by_cases q:(c).set 1 0=5 :: List.replicate 13 0
   ·have dq:(!decide ((c).set 1 0=5 :: List.replicate 13 0))=false:=by simp only [decide_eq_true q,Bool.not_true]
    have QH:=LH q
    clear q
    go_wp2_with (first|(refine wpList_load_cmdg ?g1 (.tmp 1) ?g2 Q ?g3 ((c).set 1 0) L9.out B9.out ?_;(case g1=>rfl);(case g2=>rfl);(case g3=>rfl))|(refine wpList_neqCg ?g1 (.tmp 113) (.tmp 115) 67 ?g2 ((c).set 1 0) (5 :: List.replicate 13 0) L9.out (by simp) ?g3 ?g4 ?_;(case g1=>rfl);(case g2=>rfl);(case g3=>rfl);(case g4=>rfl);rw [dq]))
    go_ret
    exact ⟨by rw [KEY.out,if_pos ⟨by trivial,QH.out⟩];rfl,P9.out⟩
   ·have dq:(!decide ((c).set 1 0=5 :: List.replicate 13 0))=true:=by simp only [decide_eq_false q,Bool.not_false]
    have QH:=LH q
    clear q
    go_wp2_with (first|(refine wpList_load_cmdg ?g1 (.tmp 1) ?g2 Q ?g3 ((c).set 1 0) L9.out B9.out ?_;(case g1=>rfl);(case g2=>rfl);(case g3=>rfl))|(refine wpList_neqCg ?g1 (.tmp 113) (.tmp 115) 67 ?g2 ((c).set 1 0) (5 :: List.replicate 13 0) L9.out (by simp) ?g3 ?g4 ?_;(case g1=>rfl);(case g2=>rfl);(case g3=>rfl);(case g4=>rfl);rw [dq]))
    go_ret
    exact ⟨by rw [KEY.out,if_neg (by intro h;exact QH.out h.2)];rfl,P9.out⟩
set_option maxHeartbeats 4000000 in
theorem rmay_sem6 (c:List Int) (hl:c.length=14) (hk:c.getD 0 0=6) (W:World):Calls Tryz.prog 47 #[.agg ⟨cellC c⟩] W fun e w'=>e=.returned (.int .i64 (mayE c))∧Past W w':=by
 obtain ⟨ok,hok⟩:∃ b,decide ((0≤c.getD 1 0∧c.getD 1 0≤7))=b:=⟨_,rfl⟩
 have KEY:Hid (mayE c=if ok=true∧(c).set 1 0=6 :: List.replicate 13 0 then 0 else 1):=LH (by
  rw [← hok]
  obtain ⟨k,s,n,f,r,w,d,p,i0,i1,b0,b1,h0,h1,rfl⟩:=fourteen hl
  simp at hk
  subst hk
  unfold mayE
  have h:=may_sem (k:=6) (hk:=.inr rfl) (s:=s) (n:=n) (f:=f) (r:=r) (w:=w) (d:=d) (p:=p) (i0:=i0) (i1:=i1) (b0:=b0) (b1:=b1) (h0:=h0) (h1:=h1)
  by_cases q:mayD [6,s,n,f,r,w,d,p,i0,i1,b0,b1,h0,h1]
  ·rw [if_pos q,if_pos]
   have:=h.1 q
   simp [List.replicate]
   omega
  ·rw [if_neg q,if_neg]
   intro e
   apply q
   apply h.2
   simp [List.replicate] at e
   omega)
 obtain ⟨s,e1⟩:∃ x,c.getD 1 0=x:=⟨_,rfl⟩
 rw [e1] at hok
 have OK:=LH hok
 have HL:=LH hl
 have HK:=LH hk
 have E1:=LH e1
 clear hok hl hk e1
 go_enter Tryz.func47,Tryz.ntmps47
 go_upto_region 1 with fail
 obtain ⟨Q,hQ⟩:∃ Q,W.heap.size=Q:=⟨_,rfl⟩
 refine opq (fun w'=>(Bx w' Q ⟨cellC c⟩)∧(Fr w' Q)∧Past W w'∧Q<w'.heap.size) (by subst hQ;exact ⟨box_new rfl,free_alloc (free_new (Nat.le_refl _)),(Past.refl W).alloc _,by simp⟩) ?_
 rintro w1 ⟨b1,f1,p1,z1⟩
 try simp only [hQ]
 have QW:W.heap.size≤Q:=by omega
 have c0:=boxC_cell b1 (j:=0) (by rw [HL.out];omega)
 rw [HK.out] at c0
 have c1:=boxC_cell b1 (j:=1) (by rw [HL.out];omega)
 rw [E1.out] at c1
 have B1:=LH b1
 have P1:=LH p1
 clear b1 p1 hQ
 go_wp2_with fail
 refine (in_b _ _ _ true (by decide) _).mono ?_
 rintro e wx ⟨rfl,rfl⟩
 go_upto_region 24 with fail
 go_cut [3] (fun v w'=>v=.bool ok∧w1=w')
 case first =>
  clear KEY
  by_cases g0:0≤s∧s≤7
  ·go_wp2_with fail
   refine (in_b _ _ _ true (decide_eq_true g0) _).mono ?_
   rintro e wx ⟨rfl,rfl⟩
   go_wp2_with fail
   go_meet
   exact ⟨by rw [← OK.out,decide_eq_true g0],rfl⟩
  ·go_wp2_with fail
   refine (in_b _ _ _ false (decide_eq_false g0) _).mono ?_
   rintro e wx ⟨rfl,rfl⟩
   go_wp2_with fail
   go_meet
   exact ⟨by rw [← OK.out,decide_eq_false (fun h=>g0 h)],rfl⟩
 case rest =>
  obtain ⟨rfl,rfl⟩:=hcut
  go_upto_region 26 with fail
  refine opq (fun w'=>Hid ((Bx w' Q ⟨cellC ((c).set 1 0)⟩))∧Hid (Past W w')) ⟨LH (boxC_set (x:=0) (B1.out) (by simp [HL.out])),LH (Past.setCell (P1.out) (by dsimp only;omega) _)⟩ ?_
  rintro w9 ⟨B9,P9⟩
  have L9:Hid (((c).set 1 0).length=14):=LH (by simp only [List.length_set];exact HL.out)
  clear B1 P1 f1 z1 c0 c1 OK
  cases ok with
  | false =>
   go_wp2_with fail
   go_ret
   exact ⟨by rw [KEY.out,if_neg (by intro h;have:=h.1;first|exact this.elim|cases this)];rfl,P9.out⟩
  | true =>
   by_cases q:(c).set 1 0=6 :: List.replicate 13 0
   ·have dq:(!decide ((c).set 1 0=6 :: List.replicate 13 0))=false:=by simp only [decide_eq_true q,Bool.not_true]
    have QH:=LH q
    clear q
    go_wp2_with (first|(refine wpList_load_cmdg ?g1 (.tmp 1) ?g2 Q ?g3 ((c).set 1 0) L9.out B9.out ?_;(case g1=>rfl);(case g2=>rfl);(case g3=>rfl))|(refine wpList_neqCg ?g1 (.tmp 113) (.tmp 115) 67 ?g2 ((c).set 1 0) (6 :: List.replicate 13 0) L9.out (by simp) ?g3 ?g4 ?_;(case g1=>rfl);(case g2=>rfl);(case g3=>rfl);(case g4=>rfl);rw [dq]))
    go_ret
    exact ⟨by rw [KEY.out,if_pos ⟨by trivial,QH.out⟩];rfl,P9.out⟩
   ·have dq:(!decide ((c).set 1 0=6 :: List.replicate 13 0))=true:=by simp only [decide_eq_false q,Bool.not_false]
    have QH:=LH q
    clear q
    go_wp2_with (first|(refine wpList_load_cmdg ?g1 (.tmp 1) ?g2 Q ?g3 ((c).set 1 0) L9.out B9.out ?_;(case g1=>rfl);(case g2=>rfl);(case g3=>rfl))|(refine wpList_neqCg ?g1 (.tmp 113) (.tmp 115) 67 ?g2 ((c).set 1 0) (6 :: List.replicate 13 0) L9.out (by simp) ?g3 ?g4 ?_;(case g1=>rfl);(case g2=>rfl);(case g3=>rfl);(case g4=>rfl);rw [dq]))
    go_ret
    exact ⟨by rw [KEY.out,if_neg (by intro h;exact QH.out h.2)];rfl,P9.out⟩
set_option maxHeartbeats 4000000 in
theorem rmay_halt (c:List Int) (hl:c.length=14) (hk:c.getD 0 0=7) (W:World):Calls Tryz.prog 47 #[.agg ⟨cellC c⟩] W fun e w'=>e=.returned (.int .i64 (mayE c))∧Past W w':=by
 obtain ⟨ok,hok⟩:∃ b,true=b:=⟨_,rfl⟩
 have KEY:Hid (mayE c=if ok=true∧c=7 :: List.replicate 13 0 then 0 else 1):=LH (by
  rw [← hok]
  obtain ⟨k,s,n,f,r,w,d,p,i0,i1,b0,b1,h0,h1,rfl⟩:=fourteen hl
  simp at hk
  subst hk
  unfold mayE
  have h:=may_halt (k:=7) (s:=s) (n:=n) (f:=f) (r:=r) (w:=w) (d:=d) (p:=p) (i0:=i0) (i1:=i1) (b0:=b0) (b1:=b1) (h0:=h0) (h1:=h1) rfl
  by_cases q:mayD [7,s,n,f,r,w,d,p,i0,i1,b0,b1,h0,h1]
  ·rw [if_pos q,if_pos]
   have:=h.1 q
   simp [List.replicate]
   omega
  ·rw [if_neg q,if_neg]
   intro e
   apply q
   apply h.2
   simp [List.replicate] at e
   omega)
 have OK:=LH hok
 have HL:=LH hl
 have HK:=LH hk
 clear hok hl hk
 go_enter Tryz.func47,Tryz.ntmps47
 go_upto_region 1 with fail
 obtain ⟨Q,hQ⟩:∃ Q,W.heap.size=Q:=⟨_,rfl⟩
 refine opq (fun w'=>(Bx w' Q ⟨cellC c⟩)∧(Fr w' Q)∧Past W w'∧Q<w'.heap.size) (by subst hQ;exact ⟨box_new rfl,free_alloc (free_new (Nat.le_refl _)),(Past.refl W).alloc _,by simp⟩) ?_
 rintro w1 ⟨b1,f1,p1,z1⟩
 try simp only [hQ]
 have QW:W.heap.size≤Q:=by omega
 have c0:=boxC_cell b1 (j:=0) (by rw [HL.out];omega)
 rw [HK.out] at c0
 have B1:=LH b1
 have P1:=LH p1
 clear b1 p1 hQ
 go_wp2_with fail
 refine (in_b _ _ _ ok (by rw [← OK.out];decide) _).mono ?_
 rintro e wx ⟨rfl,rfl⟩
 go_upto_region 26 with fail
 refine opq (fun w'=>Hid ((Bx w' Q ⟨cellC c⟩))∧Hid (Past W w')) ⟨B1,P1⟩ ?_
 rintro w9 ⟨B9,P9⟩
 have L9:=HL
 clear B1 P1 f1 z1 c0 OK
 cases ok with
 | false =>
  go_wp2_with fail
  go_ret
  exact ⟨by rw [KEY.out,if_neg (by intro h;have:=h.1;first|exact this.elim|cases this)];rfl,P9.out⟩
 | true =>
  by_cases q:c=7 :: List.replicate 13 0
  ·have dq:(!decide (c=7 :: List.replicate 13 0))=false:=by simp only [decide_eq_true q,Bool.not_true]
   have QH:=LH q
   clear q
   go_wp2_with (first|(refine wpList_load_cmdg ?g1 (.tmp 1) ?g2 Q ?g3 (c) L9.out B9.out ?_;(case g1=>rfl);(case g2=>rfl);(case g3=>rfl))|(refine wpList_neqCg ?g1 (.tmp 113) (.tmp 115) 67 ?g2 (c) (7 :: List.replicate 13 0) L9.out (by simp) ?g3 ?g4 ?_;(case g1=>rfl);(case g2=>rfl);(case g3=>rfl);(case g4=>rfl);rw [dq]))
   go_ret
   exact ⟨by rw [KEY.out,if_pos ⟨by trivial,QH.out⟩];rfl,P9.out⟩
  ·have dq:(!decide (c=7 :: List.replicate 13 0))=true:=by simp only [decide_eq_false q,Bool.not_false]
   have QH:=LH q
   clear q
   go_wp2_with (first|(refine wpList_load_cmdg ?g1 (.tmp 1) ?g2 Q ?g3 (c) L9.out B9.out ?_;(case g1=>rfl);(case g2=>rfl);(case g3=>rfl))|(refine wpList_neqCg ?g1 (.tmp 113) (.tmp 115) 67 ?g2 (c) (7 :: List.replicate 13 0) L9.out (by simp) ?g3 ?g4 ?_;(case g1=>rfl);(case g2=>rfl);(case g3=>rfl);(case g4=>rfl);rw [dq]))
   go_ret
   exact ⟨by rw [KEY.out,if_neg (by intro h;exact QH.out h.2)];rfl,P9.out⟩
set_option maxHeartbeats 4000000 in
theorem rmay_none (c:List Int) (hl:c.length=14) (hk:¬ kindP (c.getD 0 0)) (W:World):Calls Tryz.prog 47 #[.agg ⟨cellC c⟩] W fun e w'=>e=.returned (.int .i64 1)∧Past W w':=by
 obtain ⟨k,hk'⟩:∃ k,c.getD 0 0=k:=⟨_,rfl⟩
 rw [hk'] at hk
 have HL:=LH hl
 have HK:=LH hk'
 have D:=LH (show decide (1≤k∧k≤7)=false from decide_eq_false hk)
 have n1:(k==1)=false:=by unfold kindP at hk;simp;omega
 have n2:(k==2)=false:=by unfold kindP at hk;simp;omega
 have n3:(k==3)=false:=by unfold kindP at hk;simp;omega
 have n4:(k==4)=false:=by unfold kindP at hk;simp;omega
 have n5:(k==5)=false:=by unfold kindP at hk;simp;omega
 have n6:(k==6)=false:=by unfold kindP at hk;simp;omega
 clear hl hk hk'
 go_enter Tryz.func47,Tryz.ntmps47
 go_upto_region 1 with fail
 obtain ⟨Q,hQ⟩:∃ Q,W.heap.size=Q:=⟨_,rfl⟩
 refine opq (fun w'=>(Bx w' Q ⟨cellC c⟩)∧(Fr w' Q)∧Past W w'∧Q<w'.heap.size) (by subst hQ;exact ⟨box_new rfl,free_alloc (free_new (Nat.le_refl _)),(Past.refl W).alloc _,by simp⟩) ?_
 rintro w1 ⟨b1,f1,p1,z1⟩
 try simp only [hQ]
 have QW:W.heap.size≤Q:=by omega
 have c0:=boxC_cell b1 (j:=0) (by rw [HL.out];omega)
 rw [HK.out] at c0
 have P1:=LH p1
 clear b1 p1 hQ
 go_wp2_with fail
 refine (in_b _ _ _ false D.out _).mono ?_
 rintro e wx ⟨rfl,rfl⟩
 go_wp2_with fail
 go_ret
 exact ⟨rfl,P1.out⟩
set_option maxHeartbeats 8000000 in
theorem rmay_tile (c:List Int) (hl:c.length=14) (hk:c.getD 0 0=3) (W:World):Calls Tryz.prog 47 #[.agg ⟨cellC c⟩] W fun e w'=>e=.returned (.int .i64 (mayE c))∧Past W w':=by
 obtain ⟨n,e2⟩:∃ x,c.getD 2 0=x:=⟨_,rfl⟩
 obtain ⟨f,e3⟩:∃ x,c.getD 3 0=x:=⟨_,rfl⟩
 obtain ⟨r,e4⟩:∃ x,c.getD 4 0=x:=⟨_,rfl⟩
 obtain ⟨p,e7⟩:∃ x,c.getD 7 0=x:=⟨_,rfl⟩
 obtain ⟨i0,e8⟩:∃ x,c.getD 8 0=x:=⟨_,rfl⟩
 obtain ⟨b0,e10⟩:∃ x,c.getD 10 0=x:=⟨_,rfl⟩
 obtain ⟨h0,e12⟩:∃ x,c.getD 12 0=x:=⟨_,rfl⟩
 obtain ⟨i1,e9⟩:∃ x,c.getD 9 0=x:=⟨_,rfl⟩
 obtain ⟨b1,e11⟩:∃ x,c.getD 11 0=x:=⟨_,rfl⟩
 obtain ⟨h1,e13⟩:∃ x,c.getD 13 0=x:=⟨_,rfl⟩
 obtain ⟨s,e1⟩:∃ x,c.getD 1 0=x:=⟨_,rfl⟩
 obtain ⟨w,e5⟩:∃ x,c.getD 5 0=x:=⟨_,rfl⟩
 obtain ⟨d,e6⟩:∃ x,c.getD 6 0=x:=⟨_,rfl⟩
 obtain ⟨oA,hA⟩:∃ b,decide ((0≤n∧n≤11)∧(0≤f∧f≤15)∧(1≤r∧r≤16)∧(0≤p∧p≤1023))=b:=⟨_,rfl⟩
 obtain ⟨oB,hB⟩:∃ b,decide ((oA=true)∧(0≤i0∧i0≤1023)∧(0≤b0∧b0≤15)∧(0≤h0∧h0≤16))=b:=⟨_,rfl⟩
 obtain ⟨ok,hok⟩:∃ b,decide ((oB=true)∧(0≤i1∧i1≤1023)∧(0≤b1∧b1≤15)∧(0≤h1∧h1≤16))=b:=⟨_,rfl⟩
 have KEY:Hid (mayE c=if ok=true∧[3,s,0,0,0,w,d,0,0,0,0,0,0,0]=3 :: List.replicate 13 0 then 0 else 1):=LH (by
  rw [← hok,← hB,← hA]
  obtain ⟨k,s',n',f',r',w',d',p',i0',i1',b0',b1',h0',h1',rfl⟩:=fourteen hl
  simp at hk e2 e3 e4 e7 e8 e10 e12 e9 e11 e13 e1 e5 e6
  subst hk e2 e3 e4 e7 e8 e10 e12 e9 e11 e13 e1 e5 e6
  unfold mayE
  have h:=may_tile (k:=3) (s:=s') (n:=n') (f:=f') (r:=r') (w:=w') (d:=d') (p:=p') (i0:=i0') (i1:=i1') (b0:=b0') (b1:=b1') (h0:=h0') (h1:=h1') rfl
  by_cases q:mayD [3,s',n',f',r',w',d',p',i0',i1',b0',b1',h0',h1']
  ·rw [if_pos q,if_pos]
   have:=h.1 q
   simp [List.replicate]
   omega
  ·rw [if_neg q,if_neg]
   intro e
   apply q
   apply h.2
   simp [List.replicate] at e
   omega)
 have OA:=LH hA
 have OB:=LH hB
 have OK:=LH hok
 have HL:=LH hl
 have HK:=LH hk
 have E2:=LH e2
 have E3:=LH e3
 have E4:=LH e4
 have E7:=LH e7
 have E8:=LH e8
 have E10:=LH e10
 have E12:=LH e12
 have E9:=LH e9
 have E11:=LH e11
 have E13:=LH e13
 have E1:=LH e1
 have E5:=LH e5
 have E6:=LH e6
 clear hA hB hok hl hk e2 e3 e4 e7 e8 e10 e12 e9 e11 e13 e1 e5 e6
 go_enter Tryz.func47,Tryz.ntmps47
 go_upto_region 1 with fail
 obtain ⟨Q,hQ⟩:∃ Q,W.heap.size=Q:=⟨_,rfl⟩
 refine opq (fun w'=>(Bx w' Q ⟨cellC c⟩)∧(Fr w' Q)∧Past W w'∧Q<w'.heap.size) (by subst hQ;exact ⟨box_new rfl,free_alloc (free_new (Nat.le_refl _)),(Past.refl W).alloc _,by simp⟩) ?_
 rintro w1 ⟨b1,f1,p1,z1⟩
 try simp only [hQ]
 have QW:W.heap.size≤Q:=by omega
 have c0:=boxC_cell b1 (j:=0) (by rw [HL.out];omega)
 rw [HK.out] at c0
 have c2:=boxC_cell b1 (j:=2) (by rw [HL.out];omega)
 rw [E2.out] at c2
 have c3:=boxC_cell b1 (j:=3) (by rw [HL.out];omega)
 rw [E3.out] at c3
 have c4:=boxC_cell b1 (j:=4) (by rw [HL.out];omega)
 rw [E4.out] at c4
 have c7:=boxC_cell b1 (j:=7) (by rw [HL.out];omega)
 rw [E7.out] at c7
 have c8:=boxC_cell b1 (j:=8) (by rw [HL.out];omega)
 rw [E8.out] at c8
 have c10:=boxC_cell b1 (j:=10) (by rw [HL.out];omega)
 rw [E10.out] at c10
 have c12:=boxC_cell b1 (j:=12) (by rw [HL.out];omega)
 rw [E12.out] at c12
 have c9:=boxC_cell b1 (j:=9) (by rw [HL.out];omega)
 rw [E9.out] at c9
 have c11:=boxC_cell b1 (j:=11) (by rw [HL.out];omega)
 rw [E11.out] at c11
 have c13:=boxC_cell b1 (j:=13) (by rw [HL.out];omega)
 rw [E13.out] at c13
 have c1:=boxC_cell b1 (j:=1) (by rw [HL.out];omega)
 rw [E1.out] at c1
 have c5:=boxC_cell b1 (j:=5) (by rw [HL.out];omega)
 rw [E5.out] at c5
 have c6:=boxC_cell b1 (j:=6) (by rw [HL.out];omega)
 rw [E6.out] at c6
 have B1:=LH b1
 have P1:=LH p1
 clear b1 p1 hQ
 go_wp2_with fail
 refine (in_b _ _ _ true (by decide) _).mono ?_
 rintro e wx ⟨rfl,rfl⟩
 go_upto_region 12 with fail
 go_cut [3] (fun v w'=>v=.bool oA∧w1=w')
 case first =>
  clear KEY
  by_cases g0:0≤n∧n≤11
  ·by_cases g1:0≤f∧f≤15
   ·by_cases g2:1≤r∧r≤16
    ·by_cases g3:0≤p∧p≤1023
     ·go_wp2_with fail
      refine (in_b _ _ _ true (decide_eq_true g0) _).mono ?_
      rintro e wx ⟨rfl,rfl⟩
      go_wp2_with fail
      refine (in_b _ _ _ true (decide_eq_true g1) _).mono ?_
      rintro e wx ⟨rfl,rfl⟩
      go_wp2_with fail
      refine (in_b _ _ _ true (decide_eq_true g2) _).mono ?_
      rintro e wx ⟨rfl,rfl⟩
      go_wp2_with fail
      refine (in_b _ _ _ true (decide_eq_true g3) _).mono ?_
      rintro e wx ⟨rfl,rfl⟩
      go_wp2_with fail
      go_meet
      exact ⟨by rw [← OA.out,decide_eq_true (by refine ⟨?_,?_,?_,?_⟩ <;> assumption)],rfl⟩
     ·go_wp2_with fail
      refine (in_b _ _ _ true (decide_eq_true g0) _).mono ?_
      rintro e wx ⟨rfl,rfl⟩
      go_wp2_with fail
      refine (in_b _ _ _ true (decide_eq_true g1) _).mono ?_
      rintro e wx ⟨rfl,rfl⟩
      go_wp2_with fail
      refine (in_b _ _ _ true (decide_eq_true g2) _).mono ?_
      rintro e wx ⟨rfl,rfl⟩
      go_wp2_with fail
      refine (in_b _ _ _ false (decide_eq_false g3) _).mono ?_
      rintro e wx ⟨rfl,rfl⟩
      go_wp2_with fail
      go_meet
      exact ⟨by rw [← OA.out,decide_eq_false (fun h=>g3 h.2.2.2)],rfl⟩
    ·go_wp2_with fail
     refine (in_b _ _ _ true (decide_eq_true g0) _).mono ?_
     rintro e wx ⟨rfl,rfl⟩
     go_wp2_with fail
     refine (in_b _ _ _ true (decide_eq_true g1) _).mono ?_
     rintro e wx ⟨rfl,rfl⟩
     go_wp2_with fail
     refine (in_b _ _ _ false (decide_eq_false g2) _).mono ?_
     rintro e wx ⟨rfl,rfl⟩
     go_wp2_with fail
     go_meet
     exact ⟨by rw [← OA.out,decide_eq_false (fun h=>g2 h.2.2.1)],rfl⟩
   ·go_wp2_with fail
    refine (in_b _ _ _ true (decide_eq_true g0) _).mono ?_
    rintro e wx ⟨rfl,rfl⟩
    go_wp2_with fail
    refine (in_b _ _ _ false (decide_eq_false g1) _).mono ?_
    rintro e wx ⟨rfl,rfl⟩
    go_wp2_with fail
    go_meet
    exact ⟨by rw [← OA.out,decide_eq_false (fun h=>g1 h.2.1)],rfl⟩
  ·go_wp2_with fail
   refine (in_b _ _ _ false (decide_eq_false g0) _).mono ?_
   rintro e wx ⟨rfl,rfl⟩
   go_wp2_with fail
   go_meet
   exact ⟨by rw [← OA.out,decide_eq_false (fun h=>g0 h.1)],rfl⟩
 case rest =>
  obtain ⟨rfl,rfl⟩:=hcut
  go_wp2_with fail
  go_loopw [3,5] (fun v i wr=>wr=w1∧((i=.int .i64 0∧v=.bool oA)∨(i=.int .i64 1∧v=.bool oB)∨(i=.int .i64 2∧v=.bool ok))) (fun _ i _=>2-(intOf i).toNat)
  case atStart=>exact ⟨rfl,.inl ⟨rfl,rfl⟩⟩
  case round =>
   obtain ⟨rfl,⟨rfl,rfl⟩|⟨rfl,rfl⟩|⟨rfl,rfl⟩⟩:=hrel
   ·clear KEY
    cases oA with
    | false =>
     go_wp2_with fail
     go_roundw
     case rel=>exact ⟨by trivial,.inr (.inl ⟨by first|rfl|trivial,by rw [← OB.out,decide_eq_false (fun h=>by have:=h.1;first|exact this.elim|cases this)]⟩)⟩
     case measure=>simp [intOf]
    | true =>
     by_cases g0:0≤i0∧i0≤1023
     ·by_cases g1:0≤b0∧b0≤15
      ·by_cases g2:0≤h0∧h0≤16
       ·go_wp2_with fail
        refine (in_b _ _ _ true (decide_eq_true g0) _).mono ?_
        rintro e wx ⟨rfl,rfl⟩
        go_wp2_with fail
        refine (in_b _ _ _ true (decide_eq_true g1) _).mono ?_
        rintro e wx ⟨rfl,rfl⟩
        go_wp2_with fail
        refine (in_b _ _ _ true (decide_eq_true g2) _).mono ?_
        rintro e wx ⟨rfl,rfl⟩
        go_wp2_with fail
        go_roundw
        case rel=>exact ⟨by trivial,.inr (.inl ⟨by first|rfl|trivial,by rw [← OB.out,decide_eq_true (by refine ⟨by trivial,?_,?_,?_⟩ <;> assumption)]⟩)⟩
        case measure=>simp [intOf]
       ·go_wp2_with fail
        refine (in_b _ _ _ true (decide_eq_true g0) _).mono ?_
        rintro e wx ⟨rfl,rfl⟩
        go_wp2_with fail
        refine (in_b _ _ _ true (decide_eq_true g1) _).mono ?_
        rintro e wx ⟨rfl,rfl⟩
        go_wp2_with fail
        refine (in_b _ _ _ false (decide_eq_false g2) _).mono ?_
        rintro e wx ⟨rfl,rfl⟩
        go_wp2_with fail
        go_roundw
        case rel=>exact ⟨by trivial,.inr (.inl ⟨by first|rfl|trivial,by rw [← OB.out,decide_eq_false (fun h=>g2 h.2.2.2)]⟩)⟩
        case measure=>simp [intOf]
      ·go_wp2_with fail
       refine (in_b _ _ _ true (decide_eq_true g0) _).mono ?_
       rintro e wx ⟨rfl,rfl⟩
       go_wp2_with fail
       refine (in_b _ _ _ false (decide_eq_false g1) _).mono ?_
       rintro e wx ⟨rfl,rfl⟩
       go_wp2_with fail
       go_roundw
       case rel=>exact ⟨by trivial,.inr (.inl ⟨by first|rfl|trivial,by rw [← OB.out,decide_eq_false (fun h=>g1 h.2.2.1)]⟩)⟩
       case measure=>simp [intOf]
     ·go_wp2_with fail
      refine (in_b _ _ _ false (decide_eq_false g0) _).mono ?_
      rintro e wx ⟨rfl,rfl⟩
      go_wp2_with fail
      go_roundw
      case rel=>exact ⟨by trivial,.inr (.inl ⟨by first|rfl|trivial,by rw [← OB.out,decide_eq_false (fun h=>g0 h.2.1)]⟩)⟩
      case measure=>simp [intOf]
   ·clear KEY
    cases oB with
    | false =>
     go_wp2_with fail
     go_roundw
     case rel=>exact ⟨by trivial,.inr (.inr ⟨by first|rfl|trivial,by rw [← OK.out,decide_eq_false (fun h=>by have:=h.1;first|exact this.elim|cases this)]⟩)⟩
     case measure=>simp [intOf]
    | true =>
     by_cases g0:0≤i1∧i1≤1023
     ·by_cases g1:0≤b1∧b1≤15
      ·by_cases g2:0≤h1∧h1≤16
       ·go_wp2_with fail
        refine (in_b _ _ _ true (decide_eq_true g0) _).mono ?_
        rintro e wx ⟨rfl,rfl⟩
        go_wp2_with fail
        refine (in_b _ _ _ true (decide_eq_true g1) _).mono ?_
        rintro e wx ⟨rfl,rfl⟩
        go_wp2_with fail
        refine (in_b _ _ _ true (decide_eq_true g2) _).mono ?_
        rintro e wx ⟨rfl,rfl⟩
        go_wp2_with fail
        go_roundw
        case rel=>exact ⟨by trivial,.inr (.inr ⟨by first|rfl|trivial,by rw [← OK.out,decide_eq_true (by refine ⟨by trivial,?_,?_,?_⟩ <;> assumption)]⟩)⟩
        case measure=>simp [intOf]
       ·go_wp2_with fail
        refine (in_b _ _ _ true (decide_eq_true g0) _).mono ?_
        rintro e wx ⟨rfl,rfl⟩
        go_wp2_with fail
        refine (in_b _ _ _ true (decide_eq_true g1) _).mono ?_
        rintro e wx ⟨rfl,rfl⟩
        go_wp2_with fail
        refine (in_b _ _ _ false (decide_eq_false g2) _).mono ?_
        rintro e wx ⟨rfl,rfl⟩
        go_wp2_with fail
        go_roundw
        case rel=>exact ⟨by trivial,.inr (.inr ⟨by first|rfl|trivial,by rw [← OK.out,decide_eq_false (fun h=>g2 h.2.2.2)]⟩)⟩
        case measure=>simp [intOf]
      ·go_wp2_with fail
       refine (in_b _ _ _ true (decide_eq_true g0) _).mono ?_
       rintro e wx ⟨rfl,rfl⟩
       go_wp2_with fail
       refine (in_b _ _ _ false (decide_eq_false g1) _).mono ?_
       rintro e wx ⟨rfl,rfl⟩
       go_wp2_with fail
       go_roundw
       case rel=>exact ⟨by trivial,.inr (.inr ⟨by first|rfl|trivial,by rw [← OK.out,decide_eq_false (fun h=>g1 h.2.2.1)]⟩)⟩
       case measure=>simp [intOf]
     ·go_wp2_with fail
      refine (in_b _ _ _ false (decide_eq_false g0) _).mono ?_
      rintro e wx ⟨rfl,rfl⟩
      go_wp2_with fail
      go_roundw
      case rel=>exact ⟨by trivial,.inr (.inr ⟨by first|rfl|trivial,by rw [← OK.out,decide_eq_false (fun h=>g0 h.2.1)]⟩)⟩
      case measure=>simp [intOf]
   ·go_upto_region 17 with fail
    go_upto_region 26 with (refine wpList_set_cmd ?s1 (.tmp 1) (.tmp 90) ?s2 ?s3 Q [3,s,0,0,0,w,d,0,0,0,0,0,0,0] c rfl HL.out ?s4 ?s5 B1.out f1 W P1.out QW z1 ?_;(case s1=>rfl);(case s2=>rfl);(case s3=>rfl);(case s4=>rfl);(case s5=>rfl);rintro w9 p9 b9 f9 z9)
    have B9:=LH b9
    have P9:=LH p9
    have L9:Hid (([3,s,0,0,0,w,d,0,0,0,0,0,0,0]:List Int).length=14):=LH rfl
    clear b9 p9 B1 P1 f1 z1 f9 c0 c1 c2 c3 c4 c5 c6 c7 c8 c9 c10 c11 c12 c13 OK OA OB
    cases ok with
    | false =>
     go_wp2_with fail
     go_ret
     exact ⟨by rw [KEY.out,if_neg (by intro h;have:=h.1;first|exact this.elim|cases this)];rfl,P9.out⟩
    | true =>
     by_cases q:[3,s,0,0,0,w,d,0,0,0,0,0,0,0]=3 :: List.replicate 13 0
     ·have dq:(!decide ([3,s,0,0,0,w,d,0,0,0,0,0,0,0]=3 :: List.replicate 13 0))=false:=by simp only [decide_eq_true q,Bool.not_true]
      have QH:=LH q
      clear q
      go_wp2_with (first|(refine wpList_load_cmdg ?g1 (.tmp 1) ?g2 Q ?g3 ([3,s,0,0,0,w,d,0,0,0,0,0,0,0]) L9.out B9.out ?_;(case g1=>rfl);(case g2=>rfl);(case g3=>rfl))|(refine wpList_neqCg ?g1 (.tmp 113) (.tmp 115) 67 ?g2 ([3,s,0,0,0,w,d,0,0,0,0,0,0,0]) (3 :: List.replicate 13 0) L9.out (by simp) ?g3 ?g4 ?_;(case g1=>rfl);(case g2=>rfl);(case g3=>rfl);(case g4=>rfl);rw [dq]))
      go_ret
      exact ⟨by rw [KEY.out,if_pos ⟨by trivial,QH.out⟩];rfl,P9.out⟩
     ·have dq:(!decide ([3,s,0,0,0,w,d,0,0,0,0,0,0,0]=3 :: List.replicate 13 0))=true:=by simp only [decide_eq_false q,Bool.not_false]
      have QH:=LH q
      clear q
      go_wp2_with (first|(refine wpList_load_cmdg ?g1 (.tmp 1) ?g2 Q ?g3 ([3,s,0,0,0,w,d,0,0,0,0,0,0,0]) L9.out B9.out ?_;(case g1=>rfl);(case g2=>rfl);(case g3=>rfl))|(refine wpList_neqCg ?g1 (.tmp 113) (.tmp 115) 67 ?g2 ([3,s,0,0,0,w,d,0,0,0,0,0,0,0]) (3 :: List.replicate 13 0) L9.out (by simp) ?g3 ?g4 ?_;(case g1=>rfl);(case g2=>rfl);(case g3=>rfl);(case g4=>rfl);rw [dq]))
      go_ret
      exact ⟨by rw [KEY.out,if_neg (by intro h;exact QH.out h.2)];rfl,P9.out⟩
theorem rmay_any (c:List Int)(hl:c.length=14)(W:World):Calls Tryz.prog 47 #[.agg ⟨cellC c⟩] W fun e w'=>e=.returned (.int .i64 (mayE c))/\Past W w':=by
 by_cases h:kindP (c.getD 0 0)
 ·have h':=h;unfold kindP at h';rcases (show c.getD 0 0=1\/c.getD 0 0=2\/c.getD 0 0=3\/c.getD 0 0=4\/c.getD 0 0=5\/c.getD 0 0=6\/c.getD 0 0=7 by omega) with q|q|q|q|q|q|q
  ·exact rmay_load1 c hl q W
  ·exact rmay_load2 c hl q W
  ·exact rmay_tile c hl q W
  ·exact rmay_kernel c hl q W
  ·exact rmay_sem5 c hl q W
  ·exact rmay_sem6 c hl q W
  ·exact rmay_halt c hl q W
 ·rw [mayE_none h];exact rmay_none c hl h W
end Go.Proofs.YtejllmjkeefloaaGreat.Q8
