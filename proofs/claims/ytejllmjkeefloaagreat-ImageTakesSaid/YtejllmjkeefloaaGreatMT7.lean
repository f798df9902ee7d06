/- The reference of layer 4: the reader; node. -/
import Derived.Deep.CutBlock
import Derived.Test.YtejllmjkeefloaaGreatMA6
namespace Go.Proofs.YtejllmjkeefloaaGreat
open Go.ChangeShapes Go.WideShapes Go.ChangeAt Go.RowKit
set_option maxRecDepth 20000
set_option linter.unusedVariables false
set_option linter.unusedSimpArgs false
theorem grown_low {w w':World}{row:Option Nat}{x:Obj}{k:Nat}(g:(w.alloc x).grownBy w' row)(hk:k<w.heap.size)(hn:some k≠row):w'.heap[k]? = w.heap[k]?:=(g.block k (by rw [World.size_alloc];omega) hn).trans (Below.heap_alloc w x k hk)
theorem box_low {w w':World} {row:Option Nat} {x:Obj} {k:Nat} {cs:Array Value} (g:(w.alloc x).grownBy w' row) (hk:k<w.heap.size) (hn:some k≠row) (h:(Bx w k cs)):(Bx w' k cs):=fun o=>(World.cell?_of_block (a:=⟨k,o,none⟩) (grown_low g hk hn)).trans (h o)
theorem free_low {w w':World} {row:Option Nat} {x:Obj} {k:Nat} (g:(w.alloc x).grownBy w' row) (hk:k<w.heap.size) (hn:some k≠row) (h:(Fr w k)):(Fr w' k):=fun o=>(World.frozen?_of_block (a:=⟨k,o,none⟩) (grown_low g hk hn)).trans (h o)
theorem QRd.none_ {w:World}{B P cap k:Nat}{A:Option Addr}{b:List Int}{s:Rd}(h:QRd w B P A cap b s)(hk:1<=k)(hs:(numR k s).2.short=true):(numR k s).1=0:=by
 unfold numR pieceR at hs ⊢;split at hs
 ·rename_i q;rw [if_pos q];rfl
 ·rename_i q;obtain⟨i,bad,_,rfl⟩:=h;cases bad
  ·cases hs
  ·exact absurd (by simp [leftOf];omega) q
def QNode (base B P:Nat)(A:Option Addr)(cap:Nat)(b:List Int)(g:NodeD×Rd)(W:World)(e:Ending)(w':World):Prop:=∃ n vi vw vb,e=.returned (.agg (nC n vi vw vb))/\NodeOwn w' base n vi vw vb/\wfN n/\n.ins.length<=255/\n.ws.length<=65535/\n.bs.length<=255/\(g.2.short=false->g.1=n)/\QRd w' B P A cap b g.2/\Keep P W w'
theorem kept {x y:Bool}(h:x=true->y=true)(hy:y=false):x=false:=by
 cases x
 ·rfl
 ·rw [h rfl] at hy;cases hy
theorem short_num (k:Nat)(s:Rd)(h:s.short=true):(numR k s).2.short=true:=by
 unfold numR pieceR;split
 ·rfl
 ·exact h
theorem short_small (s:Rd)(h:s.short=true):(smallR s).2.short=true:=short_num 1 s h
theorem short_wide (s:Rd)(h:s.short=true):(wideR s).2.short=true:=short_num 4 s h
theorem short_shape (s:Rd)(h:s.short=true):(shapeR s).2.short=true:=short_num 1 _ (short_num 1 _ (short_num 1 s h))
theorem short_go {α:Type}{one:Rd->α×Rd}(h1:∀ s:Rd,s.short=true->(one s).2.short=true)(n:Nat)(l:List α)(s:Rd)(h:s.short=true):(goR one n l s).2.short=true:=by
 induction n generalizing l s with
 | zero=>exact h
 | succ n ih =>
  unfold goR;split
  ·exact h1 s h
  ·exact ih _ _ (h1 s h)
set_option maxHeartbeats 16000000 in
theorem qnode_rd (B P cap:Nat) (A:Option Addr) (b:List Int) (s:Rd) (W:World) (hr:QRd W B P A cap b s):Calls Tryz.prog 41 #[.pointer (some ⟨P,0,none⟩)] W (QNode W.heap.size B P A cap b (nodeR s) W):=by
 obtain ⟨ra,ha⟩:∃ x,numR 1 s=x:=⟨_,rfl⟩
 obtain ⟨rb,hb⟩:∃ x,listR 1 (numR 1) ra.2=x:=⟨_,rfl⟩
 obtain ⟨rc,hc⟩:∃ x,numR 1 rb.2=x:=⟨_,rfl⟩
 obtain ⟨rd,hd⟩:∃ x,numR 1 rc.2=x:=⟨_,rfl⟩
 obtain ⟨re,he⟩:∃ x,numR 1 rd.2=x:=⟨_,rfl⟩
 obtain ⟨rf,hf⟩:∃ x,numR 1 re.2=x:=⟨_,rfl⟩
 obtain ⟨rg,hg⟩:∃ x,numR 2 rf.2=x:=⟨_,rfl⟩
 obtain ⟨rh,hh⟩:∃ x,numR 1 rg.2=x:=⟨_,rfl⟩
 obtain ⟨ri,hi⟩:∃ x,smallR rh.2=x:=⟨_,rfl⟩
 obtain ⟨rj,hj⟩:∃ x,shapeR ri.2=x:=⟨_,rfl⟩
 obtain ⟨rk,hk⟩:∃ x,numR 2 rj.2=x:=⟨_,rfl⟩
 have hPW:=hr.lt
 have R:=LH hr
 have DSH:=LH hr
 clear hr
 have Ca:=LH (fun w (k:QRd w B P A cap b s)=>qnum_rd 1 (by omega) (by omega) B P cap A b s w k)
 rw [ha] at Ca
 have Cb:=LH (fun w (k:QRd w B P A cap b ra.2)=>qnums_rd B P cap A b ra.2 w k)
 rw [hb] at Cb
 have Cc:=LH (fun w (k:QRd w B P A cap b rb.2)=>qnum_rd 1 (by omega) (by omega) B P cap A b rb.2 w k)
 rw [hc] at Cc
 have Cd:=LH (fun w (k:QRd w B P A cap b rc.2)=>qnum_rd 1 (by omega) (by omega) B P cap A b rc.2 w k)
 rw [hd] at Cd
 have Ce:=LH (fun w (k:QRd w B P A cap b rd.2)=>qnum_rd 1 (by omega) (by omega) B P cap A b rd.2 w k)
 rw [he] at Ce
 have Cf:=LH (fun w (k:QRd w B P A cap b re.2)=>qnum_rd 1 (by omega) (by omega) B P cap A b re.2 w k)
 rw [hf] at Cf
 have Cg:=LH (fun w (k:QRd w B P A cap b rf.2)=>qnum_rd 2 (by omega) (by omega) B P cap A b rf.2 w k)
 rw [hg] at Cg
 have Ch:=LH (fun w (k:QRd w B P A cap b rg.2)=>qnum_rd 1 (by omega) (by omega) B P cap A b rg.2 w k)
 rw [hh] at Ch
 have Ci:=LH (fun w (k:QRd w B P A cap b rh.2)=>qsmall_rd B P cap A b rh.2 w k)
 rw [hi] at Ci
 have Cj:=LH (fun w (k:QRd w B P A cap b ri.2)=>qshape_rd B P cap A b ri.2 w k)
 rw [hj] at Cj
 have Ck:=LH (fun w (k:QRd w B P A cap b rj.2)=>qnum_rd 2 (by omega) (by omega) B P cap A b rj.2 w k)
 rw [hk] at Ck
 have EN:=LH (And.intro ha (And.intro hb (And.intro hc (And.intro hd (And.intro he (And.intro hf (And.intro hg (And.intro hh (And.intro hi (And.intro hj hk))))))))))
 have HK:=LH hk
 clear ha hb hc hd he hf hg hh hi hj hk
 go_enter Tryz.func41,Tryz.ntmps41
 go_upto_region 2 with fail
 obtain ⟨Q,hQ⟩:∃ Q,W.heap.size=Q:=⟨_,rfl⟩
 refine opq (fun w'=>(Bx w' Q (nZ))∧(Fr w' Q)∧(Bx w' (Q+1) (nZ))∧(Fr w' (Q+1))∧Hid (QRd w' B P A cap b s)∧Hid (Keep P W w')∧Q+2≤w'.heap.size) (by
  subst hQ
  exact ⟨by (exact kKeep),by (exact kKeep),by (exact kKeep),by (exact kKeep),LH (R.out.past kKeep),LH (Keep.of_past kKeep),by simp⟩) ?_
 rintro w0 ⟨q0,f0,b0,g0,R0,K0,s0⟩
 try rw [hQ]
 try simp only [World.size_alloc,hQ]
 go_wp2_with fail
 refine (Ca.out _ R0.out).mono ?_
 rintro e w1 ⟨rfl,r1,k1⟩
 have q1:=box_keep k1 q0 (by omega) (by omega)
 have f1:=free_keep k1 f0 (by omega) (by omega)
 have b1:=box_keep k1 b0 (by omega) (by omega)
 have g1:=free_keep k1 g0 (by omega) (by omega)
 have s1:Q+2≤w1.heap.size:=by have:=k1.2.2.1;omega
 have R1:=LH r1
 have K1:=LH (K0.out.trans k1)
 clear q0 f0 b0 g0 s0 R0 K0 Ca r1 k1
 go_upto_region 3 with fail
 refine opq (fun w'=>(Bx w' Q (nZ))∧(Fr w' Q)∧(Bx w' (Q+1) #[.int .i64 ra.1,.slice none 0 0,.int .i64 0,.int .i64 0,.int .i64 0,.int .i64 0,.int .i64 0,.int .i64 0,.int .i64 0,.int .i64 0,.int .i64 0,.int .i64 0,.slice none 0 0,.slice none 0 0])∧(Fr w' (Q+1))∧Hid (QRd w' B P A cap b ra.2)∧Hid (Keep P W w')∧Q+2≤w'.heap.size) ⟨by (exact kKeep),by (exact kKeep),(box_at b1 0 (by simp) (.int .i64 ra.1)),by (exact kKeep),LH (R1.out.set (by omega)),LH (K1.out.setNew (by omega)),by simpa only [size_setCell] using s1⟩ ?_
 rintro w2 ⟨q2,f2,b2,g2,R2,K2,s2⟩
 clear q1 f1 b1 g1 s1 R1 K1
 go_wp2_with fail
 refine (Cb.out _ R2.out).mono ?_
 rintro e w3 ⟨vb,lb,rfl,o1,y1,y2,y3,r1,k1⟩
 have q3:=box_keep k1 q2 (by omega) (by omega)
 have f3:=free_keep k1 f2 (by omega) (by omega)
 have b3:=box_keep k1 b2 (by omega) (by omega)
 have g3:=free_keep k1 g2 (by omega) (by omega)
 have s3:Q+2≤w3.heap.size:=by have:=k1.2.2.1;omega
 have R3:=LH r1
 have K3:=LH (K2.out.trans k1)
 obtain ⟨Ab,cb,rfl,_,_⟩:=own_slice' o1
 have Ob_3:=LH (own_moreI (b':=Q+2) o1 (by omega))
 have LB:=LH (And.intro y1 (And.intro y2 y3))
 clear q2 f2 b2 g2 s2 R2 K2 Cb r1 k1 o1 y1 y2 y3
 go_upto_region 4 with fail
 refine opq (fun w'=>(Bx w' Q (nZ))∧(Fr w' Q)∧(Bx w' (Q+1) #[.int .i64 ra.1,.slice Ab lb.length cb,.int .i64 0,.int .i64 0,.int .i64 0,.int .i64 0,.int .i64 0,.int .i64 0,.int .i64 0,.int .i64 0,.int .i64 0,.int .i64 0,.slice none 0 0,.slice none 0 0])∧(Fr w' (Q+1))∧Hid (QRd w' B P A cap b rb.2)∧Hid (Keep P W w')∧Q+2≤w'.heap.size∧Hid (OwnI .i64 3 w' (Q+2) (.slice Ab lb.length cb) lb)) ⟨by (exact kKeep),by (exact kKeep),(box_at b3 1 (by simp) (.slice Ab lb.length cb)),by (exact kKeep),LH (R3.out.set (by omega)),LH (K3.out.setNew (by omega)),by simpa only [size_setCell] using s3,LH (own_set Ob_3.out (by omega))⟩ ?_
 rintro w4 ⟨q4,f4,b4,g4,R4,K4,s4,Ob_4⟩
 clear q3 f3 b3 g3 s3 R3 K3 Ob_3
 go_wp2_with fail
 refine (Cc.out _ R4.out).mono ?_
 rintro e w5 ⟨rfl,r1,k1⟩
 have q5:=box_keep k1 q4 (by omega) (by omega)
 have f5:=free_keep k1 f4 (by omega) (by omega)
 have b5:=box_keep k1 b4 (by omega) (by omega)
 have g5:=free_keep k1 g4 (by omega) (by omega)
 have s5:Q+2≤w5.heap.size:=by have:=k1.2.2.1;omega
 have R5:=LH r1
 have K5:=LH (K4.out.trans k1)
 have Ob_5:=LH (own_keep Ob_4.out k1 (by omega))
 clear q4 f4 b4 g4 s4 R4 K4 Ob_4 Cc r1 k1
 go_upto_region 5 with fail
 refine opq (fun w'=>(Bx w' Q (nZ))∧(Fr w' Q)∧(Bx w' (Q+1) #[.int .i64 ra.1,.slice Ab lb.length cb,.int .i64 rc.1,.int .i64 0,.int .i64 0,.int .i64 0,.int .i64 0,.int .i64 0,.int .i64 0,.int .i64 0,.int .i64 0,.int .i64 0,.slice none 0 0,.slice none 0 0])∧(Fr w' (Q+1))∧Hid (QRd w' B P A cap b rc.2)∧Hid (Keep P W w')∧Q+2≤w'.heap.size∧Hid (OwnI .i64 3 w' (Q+2) (.slice Ab lb.length cb) lb)) ⟨by (exact kKeep),by (exact kKeep),(box_at b5 2 (by simp) (.int .i64 rc.1)),by (exact kKeep),LH (R5.out.set (by omega)),LH (K5.out.setNew (by omega)),by simpa only [size_setCell] using s5,LH (own_set Ob_5.out (by omega))⟩ ?_
 rintro w6 ⟨q6,f6,b6,g6,R6,K6,s6,Ob_6⟩
 clear q5 f5 b5 g5 s5 R5 K5 Ob_5
 go_wp2_with fail
 refine (Cd.out _ R6.out).mono ?_
 rintro e w7 ⟨rfl,r1,k1⟩
 have q7:=box_keep k1 q6 (by omega) (by omega)
 have f7:=free_keep k1 f6 (by omega) (by omega)
 have b7:=box_keep k1 b6 (by omega) (by omega)
 have g7:=free_keep k1 g6 (by omega) (by omega)
 have s7:Q+2≤w7.heap.size:=by have:=k1.2.2.1;omega
 have R7:=LH r1
 have K7:=LH (K6.out.trans k1)
 have Ob_7:=LH (own_keep Ob_6.out k1 (by omega))
 clear q6 f6 b6 g6 s6 R6 K6 Ob_6 Cd r1 k1
 go_upto_region 6 with fail
 refine opq (fun w'=>(Bx w' Q (nZ))∧(Fr w' Q)∧(Bx w' (Q+1) #[.int .i64 ra.1,.slice Ab lb.length cb,.int .i64 rc.1,.int .i64 rd.1,.int .i64 0,.int .i64 0,.int .i64 0,.int .i64 0,.int .i64 0,.int .i64 0,.int .i64 0,.int .i64 0,.slice none 0 0,.slice none 0 0])∧(Fr w' (Q+1))∧Hid (QRd w' B P A cap b rd.2)∧Hid (Keep P W w')∧Q+2≤w'.heap.size∧Hid (OwnI .i64 3 w' (Q+2) (.slice Ab lb.length cb) lb)) ⟨by (exact kKeep),by (exact kKeep),(box_at b7 3 (by simp) (.int .i64 rd.1)),by (exact kKeep),LH (R7.out.set (by omega)),LH (K7.out.setNew (by omega)),by simpa only [size_setCell] using s7,LH (own_set Ob_7.out (by omega))⟩ ?_
 rintro w8 ⟨q8,f8,b8,g8,R8,K8,s8,Ob_8⟩
 clear q7 f7 b7 g7 s7 R7 K7 Ob_7
 go_wp2_with fail
 refine (Ce.out _ R8.out).mono ?_
 rintro e w9 ⟨rfl,r1,k1⟩
 have q9:=box_keep k1 q8 (by omega) (by omega)
 have f9:=free_keep k1 f8 (by omega) (by omega)
 have b9:=box_keep k1 b8 (by omega) (by omega)
 have g9:=free_keep k1 g8 (by omega) (by omega)
 have s9:Q+2≤w9.heap.size:=by have:=k1.2.2.1;omega
 have R9:=LH r1
 have K9:=LH (K8.out.trans k1)
 have Ob_9:=LH (own_keep Ob_8.out k1 (by omega))
 clear q8 f8 b8 g8 s8 R8 K8 Ob_8 Ce r1 k1
 go_upto_region 7 with fail
 refine opq (fun w'=>(Bx w' Q (nZ))∧(Fr w' Q)∧(Bx w' (Q+1) #[.int .i64 ra.1,.slice Ab lb.length cb,.int .i64 rc.1,.int .i64 rd.1,.int .i64 re.1,.int .i64 0,.int .i64 0,.int .i64 0,.int .i64 0,.int .i64 0,.int .i64 0,.int .i64 0,.slice none 0 0,.slice none 0 0])∧(Fr w' (Q+1))∧Hid (QRd w' B P A cap b re.2)∧Hid (Keep P W w')∧Q+2≤w'.heap.size∧Hid (OwnI .i64 3 w' (Q+2) (.slice Ab lb.length cb) lb)) ⟨by (exact kKeep),by (exact kKeep),(box_at b9 4 (by simp) (.int .i64 re.1)),by (exact kKeep),LH (R9.out.set (by omega)),LH (K9.out.setNew (by omega)),by simpa only [size_setCell] using s9,LH (own_set Ob_9.out (by omega))⟩ ?_
 rintro w10 ⟨q10,f10,b10,g10,R10,K10,s10,Ob_10⟩
 clear q9 f9 b9 g9 s9 R9 K9 Ob_9
 go_wp2_with fail
 refine (Cf.out _ R10.out).mono ?_
 rintro e w11 ⟨rfl,r1,k1⟩
 have q11:=box_keep k1 q10 (by omega) (by omega)
 have f11:=free_keep k1 f10 (by omega) (by omega)
 have b11:=box_keep k1 b10 (by omega) (by omega)
 have g11:=free_keep k1 g10 (by omega) (by omega)
 have s11:Q+2≤w11.heap.size:=by have:=k1.2.2.1;omega
 have R11:=LH r1
 have K11:=LH (K10.out.trans k1)
 have Ob_11:=LH (own_keep Ob_10.out k1 (by omega))
 clear q10 f10 b10 g10 s10 R10 K10 Ob_10 Cf r1 k1
 go_upto_region 8 with fail
 refine opq (fun w'=>(Bx w' Q (nZ))∧(Fr w' Q)∧(Bx w' (Q+1) #[.int .i64 ra.1,.slice Ab lb.length cb,.int .i64 rc.1,.int .i64 rd.1,.int .i64 re.1,.int .i64 rf.1,.int .i64 0,.int .i64 0,.int .i64 0,.int .i64 0,.int .i64 0,.int .i64 0,.slice none 0 0,.slice none 0 0])∧(Fr w' (Q+1))∧Hid (QRd w' B P A cap b rf.2)∧Hid (Keep P W w')∧Q+2≤w'.heap.size∧Hid (OwnI .i64 3 w' (Q+2) (.slice Ab lb.length cb) lb)) ⟨by (exact kKeep),by (exact kKeep),(box_at b11 5 (by simp) (.int .i64 rf.1)),by (exact kKeep),LH (R11.out.set (by omega)),LH (K11.out.setNew (by omega)),by simpa only [size_setCell] using s11,LH (own_set Ob_11.out (by omega))⟩ ?_
 rintro w12 ⟨q12,f12,b12,g12,R12,K12,s12,Ob_12⟩
 clear q11 f11 b11 g11 s11 R11 K11 Ob_11
 go_wp2_with fail
 refine (Cg.out _ R12.out).mono ?_
 rintro e w13 ⟨rfl,r1,k1⟩
 have q13:=box_keep k1 q12 (by omega) (by omega)
 have f13:=free_keep k1 f12 (by omega) (by omega)
 have b13:=box_keep k1 b12 (by omega) (by omega)
 have g13:=free_keep k1 g12 (by omega) (by omega)
 have s13:Q+2≤w13.heap.size:=by have:=k1.2.2.1;omega
 have R13:=LH r1
 have K13:=LH (K12.out.trans k1)
 have Ob_13:=LH (own_keep Ob_12.out k1 (by omega))
 clear q12 f12 b12 g12 s12 R12 K12 Ob_12 Cg r1 k1
 go_upto_region 9 with fail
 refine opq (fun w'=>(Bx w' Q (nZ))∧(Fr w' Q)∧(Bx w' (Q+1) #[.int .i64 ra.1,.slice Ab lb.length cb,.int .i64 rc.1,.int .i64 rd.1,.int .i64 re.1,.int .i64 rf.1,.int .i64 rg.1,.int .i64 0,.int .i64 0,.int .i64 0,.int .i64 0,.int .i64 0,.slice none 0 0,.slice none 0 0])∧(Fr w' (Q+1))∧Hid (QRd w' B P A cap b rg.2)∧Hid (Keep P W w')∧Q+2≤w'.heap.size∧Hid (OwnI .i64 3 w' (Q+2) (.slice Ab lb.length cb) lb)) ⟨by (exact kKeep),by (exact kKeep),(box_at b13 6 (by simp) (.int .i64 rg.1)),by (exact kKeep),LH (R13.out.set (by omega)),LH (K13.out.setNew (by omega)),by simpa only [size_setCell] using s13,LH (own_set Ob_13.out (by omega))⟩ ?_
 rintro w14 ⟨q14,f14,b14,g14,R14,K14,s14,Ob_14⟩
 clear q13 f13 b13 g13 s13 R13 K13 Ob_13
 go_wp2_with fail
 refine (Ch.out _ R14.out).mono ?_
 rintro e w15 ⟨rfl,r1,k1⟩
 have q15:=box_keep k1 q14 (by omega) (by omega)
 have f15:=free_keep k1 f14 (by omega) (by omega)
 have b15:=box_keep k1 b14 (by omega) (by omega)
 have g15:=free_keep k1 g14 (by omega) (by omega)
 have s15:Q+2≤w15.heap.size:=by have:=k1.2.2.1;omega
 have R15:=LH r1
 have K15:=LH (K14.out.trans k1)
 have Ob_15:=LH (own_keep Ob_14.out k1 (by omega))
 clear q14 f14 b14 g14 s14 R14 K14 Ob_14 Ch r1 k1
 go_upto_region 10 with fail
 refine opq (fun w'=>(Bx w' Q (nZ))∧(Fr w' Q)∧(Bx w' (Q+1) #[.int .i64 ra.1,.slice Ab lb.length cb,.int .i64 rc.1,.int .i64 rd.1,.int .i64 re.1,.int .i64 rf.1,.int .i64 rg.1,.int .i64 rh.1,.int .i64 0,.int .i64 0,.int .i64 0,.int .i64 0,.slice none 0 0,.slice none 0 0])∧(Fr w' (Q+1))∧Hid (QRd w' B P A cap b rh.2)∧Hid (Keep P W w')∧Q+2≤w'.heap.size∧Hid (OwnI .i64 3 w' (Q+2) (.slice Ab lb.length cb) lb)) ⟨by (exact kKeep),by (exact kKeep),(box_at b15 7 (by simp) (.int .i64 rh.1)),by (exact kKeep),LH (R15.out.set (by omega)),LH (K15.out.setNew (by omega)),by simpa only [size_setCell] using s15,LH (own_set Ob_15.out (by omega))⟩ ?_
 rintro w16 ⟨q16,f16,b16,g16,R16,K16,s16,Ob_16⟩
 clear q15 f15 b15 g15 s15 R15 K15 Ob_15
 go_wp2_with fail
 refine (Ci.out _ R16.out).mono ?_
 rintro e w17 ⟨rfl,r1,k1⟩
 have q17:=box_keep k1 q16 (by omega) (by omega)
 have f17:=free_keep k1 f16 (by omega) (by omega)
 have b17:=box_keep k1 b16 (by omega) (by omega)
 have g17:=free_keep k1 g16 (by omega) (by omega)
 have s17:Q+2≤w17.heap.size:=by have:=k1.2.2.1;omega
 have R17:=LH r1
 have K17:=LH (K16.out.trans k1)
 have Ob_17:=LH (own_keep Ob_16.out k1 (by omega))
 clear q16 f16 b16 g16 s16 R16 K16 Ob_16 Ci r1 k1
 go_upto_region 11 with fail
 refine opq (fun w'=>(Bx w' Q (nZ))∧(Fr w' Q)∧(Bx w' (Q+1) #[.int .i64 ra.1,.slice Ab lb.length cb,.int .i64 rc.1,.int .i64 rd.1,.int .i64 re.1,.int .i64 rf.1,.int .i64 rg.1,.int .i64 rh.1,.int .i64 ri.1,.int .i64 0,.int .i64 0,.int .i64 0,.slice none 0 0,.slice none 0 0])∧(Fr w' (Q+1))∧Hid (QRd w' B P A cap b ri.2)∧Hid (Keep P W w')∧Q+2≤w'.heap.size∧Hid (OwnI .i64 3 w' (Q+2) (.slice Ab lb.length cb) lb)) ⟨by (exact kKeep),by (exact kKeep),(box_at b17 8 (by simp) (.int .i64 ri.1)),by (exact kKeep),LH (R17.out.set (by omega)),LH (K17.out.setNew (by omega)),by simpa only [size_setCell] using s17,LH (own_set Ob_17.out (by omega))⟩ ?_
 rintro w18 ⟨q18,f18,b18,g18,R18,K18,s18,Ob_18⟩
 clear q17 f17 b17 g17 s17 R17 K17 Ob_17
 go_wp2_with fail
 refine (Cj.out _ R18.out).mono ?_
 rintro e w19 ⟨rfl,r1,k1⟩
 have q19:=box_keep k1 q18 (by omega) (by omega)
 have f19:=free_keep k1 f18 (by omega) (by omega)
 have b19:=box_keep k1 b18 (by omega) (by omega)
 have g19:=free_keep k1 g18 (by omega) (by omega)
 have s19:Q+2≤w19.heap.size:=by have:=k1.2.2.1;omega
 have R19:=LH r1
 have K19:=LH (K18.out.trans k1)
 have Ob_19:=LH (own_keep Ob_18.out k1 (by omega))
 clear q18 f18 b18 g18 s18 R18 K18 Ob_18 Cj r1 k1
 go_upto_region 12 with fail
 refine opq (fun w'=>(Bx w' Q (nZ))∧(Fr w' Q)∧(Bx w' (Q+1) #[.int .i64 ra.1,.slice Ab lb.length cb,.int .i64 rc.1,.int .i64 rd.1,.int .i64 re.1,.int .i64 rf.1,.int .i64 rg.1,.int .i64 rh.1,.int .i64 ri.1,.int .i64 rj.1.1,.int .i64 rj.1.2.1,.int .i64 rj.1.2.2,.slice none 0 0,.slice none 0 0])∧(Fr w' (Q+1))∧Hid (QRd w' B P A cap b rj.2)∧Hid (Keep P W w')∧Q+2≤w'.heap.size∧Hid (OwnI .i64 3 w' (Q+2) (.slice Ab lb.length cb) lb)) ⟨by (exact kKeep),by (exact kKeep),(box_at (box_at (box_at b19 9 (by simp) (.int .i64 rj.1.1)) 10 (by simp) (.int .i64 rj.1.2.1)) 11 (by simp) (.int .i64 rj.1.2.2)),by (exact kKeep),LH (((R19.out.set (by omega)).set (by omega)).set (by omega)),LH (((K19.out.setNew (by omega)).setNew (by omega)).setNew (by omega)),by simpa only [size_setCell] using s19,LH (own_set (own_set (own_set Ob_19.out (by omega)) (by omega)) (by omega))⟩ ?_
 rintro w20 ⟨q20,f20,b20,g20,R20,K20,s20,Ob_20⟩
 clear q19 f19 b19 g19 s19 R19 K19 Ob_19
 have nbk:Hid ((0≤rk.1∧rk.1<65536)∧(rk.2.short=true→rk.1=0)):=LH (by
  have:=numR_bd 2 rj.2 R20.out.bytes
  have h2:=R20.out.none_ (k:=2) (by omega)
  rw [HK.out] at this h2
  exact ⟨by simpa using this,h2⟩)
 go_wp2_with fail
 refine (Ck.out _ R20.out).mono ?_
 rintro e w21 ⟨rfl,r1,k1⟩
 have q21:=box_keep k1 q20 (by omega) (by omega)
 have f21:=free_keep k1 f20 (by omega) (by omega)
 have b21:=box_keep k1 b20 (by omega) (by omega)
 have g21:=free_keep k1 g20 (by omega) (by omega)
 have s21:Q+2≤w21.heap.size:=by have:=k1.2.2.1;omega
 have R21:=LH r1
 have K21:=LH (K20.out.trans k1)
 have Ob_21:=LH (own_keep Ob_20.out k1 (by omega))
 clear q20 f20 b20 g20 s20 R20 K20 Ob_20 Ck r1 k1
 obtain ⟨N,hN⟩:∃ N:Nat,rk.1=(N:Int):=⟨rk.1.toNat,by have:=nbk.out.1;omega⟩
 have hN2:N≤65535:=by have:=nbk.out.1;omega
 obtain ⟨gk,hgk⟩:∃ g,goR smallR N [] rk.2=g:=⟨_,rfl⟩
 have STK:=LH (Stops.first (one:=smallR) (n:=N) (t:=rk.2) (fun h=>by have:=nbk.out.2 h;omega))
 rw [hgk] at STK
 have HGK:=LH hgk
 have HN:=LH hN
 simp only [hN]
 clear hN hgk
 obtain ⟨i0,hi0,hz0,hz1,hz2⟩:=info_parts infoI8
 have I1:=LH hi0
 have I2:=LH hz0
 have I3:=LH hz1
 have I4:=LH hz2
 have CS:=LH (fun s w (k:QRd w B P A cap b s)=>qsmall_rd B P cap A b s w k)
 have CW:=LH (fun s w (k:QRd w B P A cap b s)=>qwide_rd B P cap A b s w k)
 clear hi0 hz0 hz1 hz2
 go_upto_block 0 with fail
 go_cut [5] (fun _ w'=>∃ (Av:Option Addr) (cv:Nat) (l:List Int),l.length≤65535∧(Bx w' Q (nZ))∧(Fr w' Q)∧(Bx w' (Q+1) #[.int .i64 ra.1,.slice Ab lb.length cb,.int .i64 rc.1,.int .i64 rd.1,.int .i64 re.1,.int .i64 rf.1,.int .i64 rg.1,.int .i64 rh.1,.int .i64 ri.1,.int .i64 rj.1.1,.int .i64 rj.1.2.1,.int .i64 rj.1.2.2,.slice Av l.length cv,.slice none 0 0])∧(Fr w' (Q+1))∧Q+2≤w'.heap.size∧Hid (OwnI .i8 114 w' (Q+2) (.slice Av l.length cv) l)∧Hid (∀ x∈l,-128≤x∧x<128)∧Hid (gk.2.short=false→gk.1=l)∧Hid (QRd w' B P A cap b gk.2)∧Hid (Keep P W w')∧Hid (OwnI .i64 3 w' (Q+2) (.slice Ab lb.length cb) lb))
 case first =>
  go_wp2_with fail
  go_loopw [5] (fun i wr=>∃ (k:Nat) (v:Value) (l:List Int) (st:Rd),k≤N∧i=.int .i64 k∧l.length=k∧(Bx wr Q (nZ))∧(Fr wr Q)∧(Bx wr (Q+1) #[.int .i64 ra.1,.slice Ab lb.length cb,.int .i64 rc.1,.int .i64 rd.1,.int .i64 re.1,.int .i64 rf.1,.int .i64 rg.1,.int .i64 rh.1,.int .i64 ri.1,.int .i64 rj.1.1,.int .i64 rj.1.2.1,.int .i64 rj.1.2.2,v,.slice none 0 0])∧(Fr wr (Q+1))∧Q+2≤wr.heap.size∧Hid (Stops smallR (N-k) l st gk)∧Hid (OwnI .i8 114 wr (Q+2) v l)∧Hid (∀ x∈l,-128≤x∧x<128)∧Hid (QRd wr B P A cap b st)∧Hid (Keep P W wr)∧Hid (OwnI .i64 3 wr (Q+2) (.slice Ab lb.length cb) lb)) (fun i _=>N-(intOf i).toNat)
  case atStart=>exact ⟨0,.slice none 0 0,[],rk.2,by omega,rfl,rfl,q21,f21,b21,g21,s21,STK,LH (World.ownsRow_nil _ _ _ _),LH (by simp),R21,K21,Ob_21⟩
  case round =>
   obtain ⟨k,v,l,st,hk,rfl,rfl,qr,fr,br,gr,sr,hgo,own,hby,rr,kk,oi⟩:=hrel
   have c2:=rr.out.c2
   by_cases h:l.length<N
   ·cases hs:st.short with
    | true =>
     have D:=LH (hgo.out.over hs)
     rw [hs] at c2
     clear hs
     have rr':Hid (QRd wr B P A cap b gk.2):=LH (by rw [D.out.1];exact rr.out)
     have DK:Hid (gk.2.short=false→gk.1=l):=LH (fun f=>D.out.2 (by rw [← D.out.1];exact f))
     obtain ⟨Av,cv,rfl,_,_⟩:=own_slice' own.out
     clear hgo
     go_wp2_with fail
     go_meet
     exact ⟨Av,cv,l,by omega,qr,fr,br,gr,sr,own,hby,DK,rr',kk,oi⟩
    | false =>
     obtain ⟨m,hm⟩:∃ m,N-l.length=m+1:=⟨N-l.length-1,by omega⟩
     rw [hm] at hgo
     have NX:=LH (hgo.out.next hs)
     rw [hs] at c2
     have bdx : -128≤(smallR st).1∧(smallR st).1<128:=wrap8_bd _
     have e8:IntKind.i8.wrap (smallR st).1=(smallR st).1:=by simp only [IntKind.wrap,IntKind.bits,IntKind.signed];simp;split <;> omega
     have BD:=LH bdx
     obtain ⟨x,hx⟩:∃ x,smallR st=x:=⟨_,rfl⟩
     rw [hx] at NX e8 BD
     have HX:=LH hx
     have HM:=LH hm
     clear hx hgo hs hm bdx
     go_upto_region 16 with fail
     refine wp_region_lastn 8 _ rfl (by kernel_rfl) (by kernel_rfl) ?za
     case za =>
      simp only [List.take_succ_cons,List.take_zero]
      refine any_mixd [3,4,5,6] (fun w'=>(Bx w' (Q+1) #[.int .i64 ra.1,.slice Ab lb.length cb,.int .i64 rc.1,.int .i64 rd.1,.int .i64 re.1,.int .i64 rf.1,.int .i64 rg.1,.int .i64 rh.1,.int .i64 ri.1,.int .i64 rj.1.1,.int .i64 rj.1.2.1,.int .i64 rj.1.2.2,v,.slice none 0 0])) [(53,?va53),(54,?va54),(55,?va55),(60,?va60)] [53,54,55,60] (by kernel_rfl) rfl (by kernel_rfl) br (fun w h=>box_drew h) ?alla ?fina
      case alla =>
       simp only [fillA,Act.put,List.setIfInBounds_toArray,List.set_cons_zero,List.set_cons_succ]
       iterate 8 (first|refine forced rfl ?_|(refine reads (fun w hw K hK=>?_) ?_;focus ((have hS:=LH hw);go_split_ands;go_simp;(try go_frame);exact hK)))
       exact True.intro
      case fina =>
       simp only [fillA,Act.put,List.setIfInBounds_toArray,List.set_cons_zero,List.set_cons_succ]
       refine mix_at 56 rfl rfl (fun K hK=>?_)
       simp only [Act.put,List.setIfInBounds_toArray,List.set_cons_zero,List.set_cons_succ] at hK
       go_simp
       refine (CS.out _ wr.drew (rr.out.past ((Past.refl wr).drew))).mono ?_
       rw [HX.out]
       rintro e w4 ⟨rfl,r4,k4⟩
       have kd:Keep P wr w4:=Keep.of_drew k4
       have b4:=box_keep kd br (by omega) (by omega)
       have q4:=box_keep kd qr (by omega) (by omega)
       have f4:=free_keep kd fr (by omega) (by omega)
       have g4:=free_keep kd gr (by omega) (by omega)
       have s4:Q+2≤w4.heap.size:=by have:=kd.2.2.1;omega
       have O4:=LH (own_keep own.out kd (by omega))
       have oi4:=LH (own_keep oi.out kd (by omega))
       have K4:=LH (kk.out.trans kd)
       have R4:=LH r4
       have HLT:=LH (World.ownsRow.lt O4.out)
       refine hK _ _ b4 ?_
       clear hK kd k4 r4 qr fr br gr own oi kk rr c2
       (try go_frame)
       refine mix_at 57 rfl rfl (fun K hK=>?_)
       simp only [Act.put,List.setIfInBounds_toArray,List.set_cons_zero,List.set_cons_succ] at hK
       go_simp
       refine hK _ _ b4 ?_
       clear hK
       (try go_frame)
       refine mix_at 58 rfl rfl (fun K hK=>?_)
       simp only [Act.put,List.setIfInBounds_toArray,List.set_cons_zero,List.set_cons_succ] at hK
       go_simp
       refine hK _ _ (box_old b4 (by omega)) ?_
       clear hK
       (try go_frame)
       refine mix_at 59 rfl rfl (fun K hK=>?_)
       simp only [Act.put,List.setIfInBounds_toArray,List.set_cons_zero,List.set_cons_succ] at hK
       refine wp_append_own _ (.tmp 54) (.tmp 58) 60 rfl (Q+2) 114 i0 _ 1 1 Tryz.underlying60 I1.out I2.out I3.out I4.out rfl (by decide) _ _ _ rfl (World.ownsRow.alloc O4.out _) ⟨w4.heap.size,0,none⟩ 1 1 [.int .i8 x.1] rfl rfl (fun j u hu=>cells_new' w4 _ 114 j u hu) (by intro u hu;simp at hu;subst hu;rfl) ?c4 ?c5 ?c6 ?_
       case c4=>unfold maxLen;omega
       case c5=>omega
       case c6=>simp;omega
       intro v5 w5 hown5 hgrow _
       obtain ⟨A5,c5,rfl,_,_⟩:=own_slice' hown5
       have O5:=LH (own_int rfl hown5)
       have n0:some Q≠v.ownBlock:=fun e=>by have:=(HLT.out Q e.symm).1;omega
       have n1:some (Q+1)≠v.ownBlock:=fun e=>by have:=(HLT.out (Q+1) e.symm).1;omega
       have q5:=box_low hgrow (by omega) n0 q4
       have f5:=free_low hgrow (by omega) n0 f4
       have b5:=box_low hgrow (by omega) n1 b4
       have g5:=free_low hgrow (by omega) n1 g4
       have s5:Q+2≤w5.heap.size:=by have:=hgrow.size;simp only [World.size_alloc] at this;omega
       have R5:=LH ((R4.out.alloc (.cells #[.int .i8 x.1] 114)).grownBy hgrow (fun j hj=>by have:=(HLT.out j hj).1;omega))
       have K5:=LH ((K4.out.alloc (.cells #[.int .i8 x.1] 114)).grownBy hgrow (fun j hj=>by have:=(HLT.out j hj).1;omega))
       have oi5:=LH (World.ownsRow.kept (World.ownsRow.alloc oi4.out _) hgrow (own_ne oi4.out O4.out (by decide)))
       have BY5:Hid (∀ y∈l++[x.1],-128≤y∧y<128):=LH (fun y hy=>by
        rcases List.mem_append.1 hy with hy|hy
        ·exact hby.out y hy
        ·simp only [List.mem_cons,List.not_mem_nil,or_false] at hy;subst hy;exact BD.out)
       refine hK _ _ b5 ?_
       clear hK hown5 hgrow q4 f4 b4 g4 R4 K4 O4 oi4 HLT n0 n1 s4
       (try go_frame)
       refine mix_nil ?_
       show Oper.wp _ _ _ _ _ _
       go_simp
       go_wp2_with fail
       go_roundw
       case rel=>exact ⟨l.length+1,_,l++[x.1],x.2,by omega,by go_num,by simp,box_set q5 (by simp),free_set f5,box_at b5 12 (by simp) _,free_set g5,by simpa only [size_setCell] using s5,LH (by rw [show N-(l.length+1)=m by have:=HM.out;omega];exact NX.out),LH (own_set O5.out (by omega)),BY5,LH (R5.out.set (by omega)),LH (K5.out.setNew (by omega)),LH (own_set oi5.out (by omega))⟩
       case measure=>simp [intOf];omega
   ·have e:N-l.length=0:=by omega
    rw [e] at hgo
    have D:=LH hgo.out.done
    clear e
    have rr':Hid (QRd wr B P A cap b gk.2):=LH (by rw [D.out.1];exact rr.out)
    have DK:Hid (gk.2.short=false→gk.1=l):=LH (fun f=>D.out.2 (by rw [← D.out.1];exact f))
    obtain ⟨Av,cv,rfl,_,_⟩:=own_slice' own.out
    clear hgo
    go_wp2_with fail
    go_meet
    exact ⟨Av,cv,l,by omega,qr,fr,br,gr,sr,own,hby,DK,rr',kk,oi⟩
 case rest =>
  clear q21 f21 b21 g21 s21 STK R21 K21 Ob_21 I1 I2 I3 I4 i0
  obtain ⟨Aw,cw,lw,hlw,q1,f1,b1,g1,s1,OW,BW,DW,R1,K1,OI⟩:=hcut
  obtain ⟨wA,hwA⟩:∃ w,w=wc:=⟨_,rfl⟩
  subst hwA
  have hb2:=R1.out.bytes
  have nbl:Hid ((0≤(numR 1 gk.2).1∧(numR 1 gk.2).1<256)∧((numR 1 gk.2).2.short=true→(numR 1 gk.2).1=0)):=LH ⟨by simpa using numR_bd 1 gk.2 hb2,R1.out.none_ (by omega)⟩
  have CL:=LH (qnum_rd 1 (by omega) (by omega) B P cap A b gk.2 wA R1.out)
  obtain ⟨rl,hrl⟩:∃ x,numR 1 gk.2=x:=⟨_,rfl⟩
  rw [hrl] at CL nbl
  have HRL:=LH hrl
  obtain ⟨M,hM⟩:∃ M:Nat,rl.1=(M:Int):=⟨rl.1.toNat,by have:=nbl.out.1;omega⟩
  have hM2:M≤255:=by have:=nbl.out.1;omega
  obtain ⟨gl,hgl⟩:∃ g,goR wideR M [] rl.2=g:=⟨_,rfl⟩
  have STL:=LH (Stops.first (one:=wideR) (n:=M) (t:=rl.2) (fun h=>by have:=nbl.out.2 h;omega))
  rw [hgl] at STL
  have HGL:=LH hgl
  have HM0:=LH hM
  rw [hM] at CL
  obtain ⟨LW,hLW⟩:∃ n,lw.length=n:=⟨_,rfl⟩
  have OW':Hid (wA.ownsRow (Q+2) 114 1 (.slice Aw LW cw) LW (lw.map (Value.int .i8))):=LH (by have:=OW.out;unfold OwnI at this;rw [hLW] at this;exact this)
  rw [hLW] at b1
  have HLW:=LH hLW
  clear hM hgl hrl nbl hb2 OW hLW
  go_wp2_with fail
  refine CL.out.mono ?_
  rintro e w4 ⟨rfl,r4,kd⟩
  have b4:=box_keep kd b1 (by omega) (by omega)
  have q4:=box_keep kd q1 (by omega) (by omega)
  have f4:=free_keep kd f1 (by omega) (by omega)
  have g4:=free_keep kd g1 (by omega) (by omega)
  have s4:Q+2≤w4.heap.size:=by have:=kd.2.2.1;omega
  have OW4:=LH (own_keep OW'.out kd (by omega))
  have OI4:=LH (own_keep OI.out kd (by omega))
  have K4:=LH (K1.out.trans kd)
  have R4:=LH r4
  clear kd r4 q1 f1 b1 g1 s1 OW' OI K1 R1 CL
  obtain ⟨i0,hi0,hz0,hz1,hz2⟩:=info_parts infoI32
  have I1:=LH hi0
  have I2:=LH hz0
  have I3:=LH hz1
  have I4:=LH hz2
  clear hi0 hz0 hz1 hz2
  go_upto_block 2 with fail
  go_cut [7] (fun _ w'=>∃ (Av:Option Addr) (cv:Nat) (l:List Int),l.length≤255∧(Bx w' Q (nZ))∧(Fr w' Q)∧(Bx w' (Q+1) #[.int .i64 ra.1,.slice Ab lb.length cb,.int .i64 rc.1,.int .i64 rd.1,.int .i64 re.1,.int .i64 rf.1,.int .i64 rg.1,.int .i64 rh.1,.int .i64 ri.1,.int .i64 rj.1.1,.int .i64 rj.1.2.1,.int .i64 rj.1.2.2,.slice Aw LW cw,.slice Av l.length cv])∧(Fr w' (Q+1))∧Q+2≤w'.heap.size∧Hid (OwnI .i32 21 w' (Q+2) (.slice Av l.length cv) l)∧Hid (∀ x∈l,-2147483648≤x∧x<2147483648)∧Hid (gl.2.short=false→gl.1=l)∧Hid (QRd w' B P A cap b gl.2)∧Hid (Keep P W w')∧Hid (OwnI .i64 3 w' (Q+2) (.slice Ab lb.length cb) lb)∧Hid (w'.ownsRow (Q+2) 114 1 (.slice Aw LW cw) LW (lw.map (Value.int .i8))))
  case first =>
   go_wp2_with fail
   go_loopw [7] (fun i wr=>∃ (k:Nat) (v:Value) (l:List Int) (st:Rd),k≤M∧i=.int .i64 k∧l.length=k∧(Bx wr Q (nZ))∧(Fr wr Q)∧(Bx wr (Q+1) #[.int .i64 ra.1,.slice Ab lb.length cb,.int .i64 rc.1,.int .i64 rd.1,.int .i64 re.1,.int .i64 rf.1,.int .i64 rg.1,.int .i64 rh.1,.int .i64 ri.1,.int .i64 rj.1.1,.int .i64 rj.1.2.1,.int .i64 rj.1.2.2,.slice Aw LW cw,v])∧(Fr wr (Q+1))∧Q+2≤wr.heap.size∧Hid (Stops wideR (M-k) l st gl)∧Hid (OwnI .i32 21 wr (Q+2) v l)∧Hid (∀ x∈l,-2147483648≤x∧x<2147483648)∧Hid (QRd wr B P A cap b st)∧Hid (Keep P W wr)∧Hid (OwnI .i64 3 wr (Q+2) (.slice Ab lb.length cb) lb)∧Hid (wr.ownsRow (Q+2) 114 1 (.slice Aw LW cw) LW (lw.map (Value.int .i8)))) (fun i _=>M-(intOf i).toNat)
   case atStart=>exact ⟨0,.slice none 0 0,[],rl.2,by omega,rfl,rfl,q4,f4,b4,g4,s4,STL,LH (World.ownsRow_nil _ _ _ _),LH (by simp),R4,K4,OI4,OW4⟩
   case round =>
    obtain ⟨k,v,l,st,hk,rfl,rfl,qr,fr,br,gr,sr,hgo,own,hby,rr,kk,oi,ow⟩:=hrel
    have c2:=rr.out.c2
    by_cases h:l.length<M
    ·cases hs:st.short with
     | true =>
      have D:=LH (hgo.out.over hs)
      rw [hs] at c2
      clear hs
      have rr':Hid (QRd wr B P A cap b gl.2):=LH (by rw [D.out.1];exact rr.out)
      have DK:Hid (gl.2.short=false→gl.1=l):=LH (fun f=>D.out.2 (by rw [← D.out.1];exact f))
      obtain ⟨Av,cv,rfl,_,_⟩:=own_slice' own.out
      clear hgo
      go_wp2_with fail
      go_meet
      exact ⟨Av,cv,l,by omega,qr,fr,br,gr,sr,own,hby,DK,rr',kk,oi,ow⟩
     | false =>
      obtain ⟨m,hm⟩:∃ m,M-l.length=m+1:=⟨M-l.length-1,by omega⟩
      rw [hm] at hgo
      have NX:=LH (hgo.out.next hs)
      rw [hs] at c2
      have bdx : -2147483648≤(wideR st).1∧(wideR st).1<2147483648:=wrap32_bd _
      have e8:IntKind.i32.wrap (wideR st).1=(wideR st).1:=by simp only [IntKind.wrap,IntKind.bits,IntKind.signed];simp;split <;> omega
      have BD:=LH bdx
      obtain ⟨x,hx⟩:∃ x,wideR st=x:=⟨_,rfl⟩
      rw [hx] at NX e8 BD
      have HX:=LH hx
      have HM:=LH hm
      clear hx hgo hs hm bdx
      go_upto_region 21 with fail
      refine wp_region_lastn 8 _ rfl (by kernel_rfl) (by kernel_rfl) ?zb
      case zb =>
       simp only [List.take_succ_cons,List.take_zero]
       refine any_mixd [3,4,5,6] (fun w'=>(Bx w' (Q+1) #[.int .i64 ra.1,.slice Ab lb.length cb,.int .i64 rc.1,.int .i64 rd.1,.int .i64 re.1,.int .i64 rf.1,.int .i64 rg.1,.int .i64 rh.1,.int .i64 ri.1,.int .i64 rj.1.1,.int .i64 rj.1.2.1,.int .i64 rj.1.2.2,.slice Aw LW cw,v])) [(75,?vb75),(76,?vb76),(77,?vb77),(82,?vb82)] [75,76,77,82] (by kernel_rfl) rfl (by kernel_rfl) br (fun w h=>box_drew h) ?allb ?finb
       case allb =>
        simp only [fillA,Act.put,List.setIfInBounds_toArray,List.set_cons_zero,List.set_cons_succ]
        iterate 8 (first|refine forced rfl ?_|(refine reads (fun w hw K hK=>?_) ?_;focus ((have hS:=LH hw);go_split_ands;go_simp;(try go_frame);exact hK)))
        exact True.intro
       case finb =>
        simp only [fillA,Act.put,List.setIfInBounds_toArray,List.set_cons_zero,List.set_cons_succ]
        refine mix_at 78 rfl rfl (fun K hK=>?_)
        simp only [Act.put,List.setIfInBounds_toArray,List.set_cons_zero,List.set_cons_succ] at hK
        go_simp
        refine (CW.out _ wr.drew (rr.out.past ((Past.refl wr).drew))).mono ?_
        rw [HX.out]
        rintro e w4 ⟨rfl,r4,k4⟩
        have kd:Keep P wr w4:=Keep.of_drew k4
        have b4:=box_keep kd br (by omega) (by omega)
        have q4:=box_keep kd qr (by omega) (by omega)
        have f4:=free_keep kd fr (by omega) (by omega)
        have g4:=free_keep kd gr (by omega) (by omega)
        have s4:Q+2≤w4.heap.size:=by have:=kd.2.2.1;omega
        have O4:=LH (own_keep own.out kd (by omega))
        have oi4:=LH (own_keep oi.out kd (by omega))
        have ow4:=LH (own_keep ow.out kd (by omega))
        have K4:=LH (kk.out.trans kd)
        have R4:=LH r4
        have HLT:=LH (World.ownsRow.lt O4.out)
        refine hK _ _ b4 ?_
        clear hK kd k4 r4 qr fr br gr own oi ow kk rr c2
        (try go_frame)
        refine mix_at 79 rfl rfl (fun K hK=>?_)
        simp only [Act.put,List.setIfInBounds_toArray,List.set_cons_zero,List.set_cons_succ] at hK
        go_simp
        refine hK _ _ b4 ?_
        clear hK
        (try go_frame)
        refine mix_at 80 rfl rfl (fun K hK=>?_)
        simp only [Act.put,List.setIfInBounds_toArray,List.set_cons_zero,List.set_cons_succ] at hK
        go_simp
        refine hK _ _ (box_old b4 (by omega)) ?_
        clear hK
        (try go_frame)
        refine mix_at 81 rfl rfl (fun K hK=>?_)
        simp only [Act.put,List.setIfInBounds_toArray,List.set_cons_zero,List.set_cons_succ] at hK
        refine wp_append_own _ (.tmp 76) (.tmp 80) 61 rfl (Q+2) 21 i0 _ 1 4 Tryz.underlying61 I1.out I2.out I3.out I4.out rfl (by decide) _ _ _ rfl (World.ownsRow.alloc O4.out _) ⟨w4.heap.size,0,none⟩ 1 1 [.int .i32 x.1] rfl rfl (fun j u hu=>cells_new' w4 _ 21 j u hu) (by intro u hu;simp at hu;subst hu;rfl) ?c4 ?c5 ?c6 ?_
        case c4=>unfold maxLen;omega
        case c5=>omega
        case c6=>simp;omega
        intro v5 w5 hown5 hgrow _
        obtain ⟨A5,c5,rfl,_,_⟩:=own_slice' hown5
        have O5:=LH (own_int rfl hown5)
        have n0:some Q≠v.ownBlock:=fun e=>by have:=(HLT.out Q e.symm).1;omega
        have n1:some (Q+1)≠v.ownBlock:=fun e=>by have:=(HLT.out (Q+1) e.symm).1;omega
        have q5:=box_low hgrow (by omega) n0 q4
        have f5:=free_low hgrow (by omega) n0 f4
        have b5:=box_low hgrow (by omega) n1 b4
        have g5:=free_low hgrow (by omega) n1 g4
        have s5:Q+2≤w5.heap.size:=by have:=hgrow.size;simp only [World.size_alloc] at this;omega
        have R5:=LH ((R4.out.alloc (.cells #[.int .i32 x.1] 21)).grownBy hgrow (fun j hj=>by have:=(HLT.out j hj).1;omega))
        have K5:=LH ((K4.out.alloc (.cells #[.int .i32 x.1] 21)).grownBy hgrow (fun j hj=>by have:=(HLT.out j hj).1;omega))
        have oi5:=LH (World.ownsRow.kept (World.ownsRow.alloc oi4.out _) hgrow (own_ne oi4.out O4.out (by decide)))
        have ow5:=LH (World.ownsRow.kept (World.ownsRow.alloc ow4.out _) hgrow (own_ne ow4.out O4.out (by decide)))
        have BY5:Hid (∀ y∈l++[x.1],-2147483648≤y∧y<2147483648):=LH (fun y hy=>by
         rcases List.mem_append.1 hy with hy|hy
         ·exact hby.out y hy
         ·simp only [List.mem_cons,List.not_mem_nil,or_false] at hy;subst hy;exact BD.out)
        refine hK _ _ b5 ?_
        clear hK hown5 hgrow q4 f4 b4 g4 R4 K4 O4 oi4 ow4 HLT n0 n1 s4
        (try go_frame)
        refine mix_nil ?_
        show Oper.wp _ _ _ _ _ _
        go_simp
        go_wp2_with fail
        go_roundw
        case rel=>exact ⟨l.length+1,_,l++[x.1],x.2,by omega,by go_num,by simp,box_set q5 (by simp),free_set f5,box_at b5 13 (by simp) _,free_set g5,by simpa only [size_setCell] using s5,LH (by rw [show M-(l.length+1)=m by have:=HM.out;omega];exact NX.out),LH (own_set O5.out (by omega)),BY5,LH (R5.out.set (by omega)),LH (K5.out.setNew (by omega)),LH (own_set oi5.out (by omega)),LH (own_set ow5.out (by omega))⟩
        case measure=>simp [intOf];omega
    ·have e:M-l.length=0:=by omega
     rw [e] at hgo
     have D:=LH hgo.out.done
     clear e
     have rr':Hid (QRd wr B P A cap b gl.2):=LH (by rw [D.out.1];exact rr.out)
     have DK:Hid (gl.2.short=false→gl.1=l):=LH (fun f=>D.out.2 (by rw [← D.out.1];exact f))
     obtain ⟨Av,cv,rfl,_,_⟩:=own_slice' own.out
     clear hgo
     go_wp2_with fail
     go_meet
     exact ⟨Av,cv,l,by omega,qr,fr,br,gr,sr,own,hby,DK,rr',kk,oi,ow⟩
  case rest =>
   clear q4 f4 b4 g4 s4 STL R4 K4 OI4 OW4 I1 I2 I3 I4 i0
   obtain ⟨Al,cl,ll,hll,q5,f5,b5,g5,s5,OL5,BL5,DL5,R5,K5,OI5,OW5⟩:=hcut
   obtain ⟨wB,hwB⟩:∃ w,w=wc:=⟨_,rfl⟩
   subst hwB
   have hsb:=DSH.out.bytes
   have NE:nodeR s=(⟨ra.1,rb.1,rc.1,rd.1,re.1,rf.1,rg.1,rh.1,ri.1,rj.1.1,rj.1.2.1,rj.1.2.2,gk.1,gl.1⟩,gl.2):=by
    obtain ⟨ha,hb,hc,hd,he,hf,hg,hh,hi,hj,hk⟩:=EN.out
    have e1:listR 2 smallR rj.2=gk:=by unfold listR;rw [hk,HN.out];exact HGK.out
    have e2:listR 1 wideR gk.2=gl:=by unfold listR;rw [HRL.out,HM0.out];exact HGL.out
    simp only [nodeR,ha,hb,hc,hd,he,hf,hg,hh,hi,hj,e1,e2]
   have WFN:=nodeR_wf s hsb
   rw [NE] at WFN
   have SH:gl.2.short=false→rb.2.short=false∧gk.2.short=false:=fun h=>by
    obtain ⟨ha,hb,hc,hd,he,hf,hg,hh,hi,hj,hk⟩:=EN.out
    have k1:gk.2.short=false:=kept (fun q=>by rw [← HGL.out];exact short_go short_wide _ _ _ (by rw [← HRL.out];exact short_num 1 _ q)) h
    refine ⟨kept (fun q=>?_) k1,k1⟩
    have q1:=short_num 1 _ q
    rw [hc] at q1
    have q2:=short_num 1 _ q1
    rw [hd] at q2
    have q3:=short_num 1 _ q2
    rw [he] at q3
    have q4:=short_num 1 _ q3
    rw [hf] at q4
    have q5:=short_num 2 _ q4
    rw [hg] at q5
    have q6:=short_num 1 _ q5
    rw [hh] at q6
    have q7:=short_small _ q6
    rw [hi] at q7
    have q8:=short_shape _ q7
    rw [hj] at q8
    have q9:=short_num 2 _ q8
    rw [hk] at q9
    rw [← HGK.out]
    exact short_go short_small _ _ _ q9
   have NN:Hid ((nodeR s).2.short=false→(nodeR s).1=⟨ra.1,lb,rc.1,rd.1,re.1,rf.1,rg.1,rh.1,ri.1,rj.1.1,rj.1.2.1,rj.1.2.2,lw,ll⟩):=LH (by
    rw [NE]
    intro h
    obtain ⟨k1,k2⟩:=SH h
    show NodeD.mk _ _ _ _ _ _ _ _ _ _ _ _ _ _=_
    rw [LB.out.2.2 k1,DW.out k2,DL5.out h])
   have NR:Hid (QRd wB B P A cap b (nodeR s).2):=LH (by rw [NE];exact R5.out)
   have WF:Hid (wfN ⟨ra.1,lb,rc.1,rd.1,re.1,rf.1,rg.1,rh.1,ri.1,rj.1.1,rj.1.2.1,rj.1.2.2,lw,ll⟩):=LH ⟨WFN.1,fun x hx=>WalkArith.wf_i64 (by have:=LB.out.1 x hx;omega),fun x hx=>by have:=BW.out x hx;simp [Lit.wf,IntKind.min,IntKind.max,IntKind.bits,IntKind.signed];omega,fun x hx=>by have:=BL5.out x hx;simp [Lit.wf,IntKind.min,IntKind.max,IntKind.bits,IntKind.signed];omega⟩
   have hlb:=LH LB.out.2.1
   have hQ9:=LH hQ
   clear hsb NE WFN SH R5 EN HGK HGL HRL HM0 LB DW DL5 BW BL5
   go_wp2_with (first|refine wpList_load_box rfl 63 (.tmp 3) rfl (Q+1) _ rfl b5 Tryz.underlying63 rfl (by kernel_rfl) ?_)
   have b9:=box_set14 q5 (y0:=.int .i64 ra.1) (y1:=.slice Ab lb.length cb) (y2:=.int .i64 rc.1) (y3:=.int .i64 rd.1) (y4:=.int .i64 re.1) (y5:=.int .i64 rf.1) (y6:=.int .i64 rg.1) (y7:=.int .i64 rh.1) (y8:=.int .i64 ri.1) (y9:=.int .i64 rj.1.1) (y10:=.int .i64 rj.1.2.1) (y11:=.int .i64 rj.1.2.2) (y12:=.slice Aw LW cw) (y13:=.slice Al ll.length cl)
   have R9:Hid (QRd ((((((((((((((wB.setCell ⟨Q,0,none⟩ (.int .i64 ra.1)).setCell ⟨Q,1,none⟩ (.slice Ab lb.length cb)).setCell ⟨Q,2,none⟩ (.int .i64 rc.1)).setCell ⟨Q,3,none⟩ (.int .i64 rd.1)).setCell ⟨Q,4,none⟩ (.int .i64 re.1)).setCell ⟨Q,5,none⟩ (.int .i64 rf.1)).setCell ⟨Q,6,none⟩ (.int .i64 rg.1)).setCell ⟨Q,7,none⟩ (.int .i64 rh.1)).setCell ⟨Q,8,none⟩ (.int .i64 ri.1)).setCell ⟨Q,9,none⟩ (.int .i64 rj.1.1)).setCell ⟨Q,10,none⟩ (.int .i64 rj.1.2.1)).setCell ⟨Q,11,none⟩ (.int .i64 rj.1.2.2)).setCell ⟨Q,12,none⟩ (.slice Aw LW cw)).setCell ⟨Q,13,none⟩ (.slice Al ll.length cl)) B P A cap b (nodeR s).2):=LH ((((((((((((((NR.out.set (by omega)).set (by omega)).set (by omega)).set (by omega)).set (by omega)).set (by omega)).set (by omega)).set (by omega)).set (by omega)).set (by omega)).set (by omega)).set (by omega)).set (by omega)).set (by omega))
   have K9:Hid (Keep P W ((((((((((((((wB.setCell ⟨Q,0,none⟩ (.int .i64 ra.1)).setCell ⟨Q,1,none⟩ (.slice Ab lb.length cb)).setCell ⟨Q,2,none⟩ (.int .i64 rc.1)).setCell ⟨Q,3,none⟩ (.int .i64 rd.1)).setCell ⟨Q,4,none⟩ (.int .i64 re.1)).setCell ⟨Q,5,none⟩ (.int .i64 rf.1)).setCell ⟨Q,6,none⟩ (.int .i64 rg.1)).setCell ⟨Q,7,none⟩ (.int .i64 rh.1)).setCell ⟨Q,8,none⟩ (.int .i64 ri.1)).setCell ⟨Q,9,none⟩ (.int .i64 rj.1.1)).setCell ⟨Q,10,none⟩ (.int .i64 rj.1.2.1)).setCell ⟨Q,11,none⟩ (.int .i64 rj.1.2.2)).setCell ⟨Q,12,none⟩ (.slice Aw LW cw)).setCell ⟨Q,13,none⟩ (.slice Al ll.length cl))):=LH ((((((((((((((K5.out.setNew (by omega)).setNew (by omega)).setNew (by omega)).setNew (by omega)).setNew (by omega)).setNew (by omega)).setNew (by omega)).setNew (by omega)).setNew (by omega)).setNew (by omega)).setNew (by omega)).setNew (by omega)).setNew (by omega)).setNew (by omega))
   have OA:Hid (OwnI .i64 3 ((((((((((((((wB.setCell ⟨Q,0,none⟩ (.int .i64 ra.1)).setCell ⟨Q,1,none⟩ (.slice Ab lb.length cb)).setCell ⟨Q,2,none⟩ (.int .i64 rc.1)).setCell ⟨Q,3,none⟩ (.int .i64 rd.1)).setCell ⟨Q,4,none⟩ (.int .i64 re.1)).setCell ⟨Q,5,none⟩ (.int .i64 rf.1)).setCell ⟨Q,6,none⟩ (.int .i64 rg.1)).setCell ⟨Q,7,none⟩ (.int .i64 rh.1)).setCell ⟨Q,8,none⟩ (.int .i64 ri.1)).setCell ⟨Q,9,none⟩ (.int .i64 rj.1.1)).setCell ⟨Q,10,none⟩ (.int .i64 rj.1.2.1)).setCell ⟨Q,11,none⟩ (.int .i64 rj.1.2.2)).setCell ⟨Q,12,none⟩ (.slice Aw LW cw)).setCell ⟨Q,13,none⟩ (.slice Al ll.length cl)) (Q+2) (.slice Ab lb.length cb) lb):=LH (own_set (own_set (own_set (own_set (own_set (own_set (own_set (own_set (own_set (own_set (own_set (own_set (own_set (own_set OI5.out (by omega)) (by omega)) (by omega)) (by omega)) (by omega)) (by omega)) (by omega)) (by omega)) (by omega)) (by omega)) (by omega)) (by omega)) (by omega)) (by omega))
   have OB:Hid (((((((((((((((wB.setCell ⟨Q,0,none⟩ (.int .i64 ra.1)).setCell ⟨Q,1,none⟩ (.slice Ab lb.length cb)).setCell ⟨Q,2,none⟩ (.int .i64 rc.1)).setCell ⟨Q,3,none⟩ (.int .i64 rd.1)).setCell ⟨Q,4,none⟩ (.int .i64 re.1)).setCell ⟨Q,5,none⟩ (.int .i64 rf.1)).setCell ⟨Q,6,none⟩ (.int .i64 rg.1)).setCell ⟨Q,7,none⟩ (.int .i64 rh.1)).setCell ⟨Q,8,none⟩ (.int .i64 ri.1)).setCell ⟨Q,9,none⟩ (.int .i64 rj.1.1)).setCell ⟨Q,10,none⟩ (.int .i64 rj.1.2.1)).setCell ⟨Q,11,none⟩ (.int .i64 rj.1.2.2)).setCell ⟨Q,12,none⟩ (.slice Aw LW cw)).setCell ⟨Q,13,none⟩ (.slice Al ll.length cl)).ownsRow (Q+2) 114 1 (.slice Aw LW cw) LW (lw.map (Value.int .i8))):=LH (own_set (own_set (own_set (own_set (own_set (own_set (own_set (own_set (own_set (own_set (own_set (own_set (own_set (own_set OW5.out (by omega)) (by omega)) (by omega)) (by omega)) (by omega)) (by omega)) (by omega)) (by omega)) (by omega)) (by omega)) (by omega)) (by omega)) (by omega)) (by omega))
   have OC:Hid (OwnI .i32 21 ((((((((((((((wB.setCell ⟨Q,0,none⟩ (.int .i64 ra.1)).setCell ⟨Q,1,none⟩ (.slice Ab lb.length cb)).setCell ⟨Q,2,none⟩ (.int .i64 rc.1)).setCell ⟨Q,3,none⟩ (.int .i64 rd.1)).setCell ⟨Q,4,none⟩ (.int .i64 re.1)).setCell ⟨Q,5,none⟩ (.int .i64 rf.1)).setCell ⟨Q,6,none⟩ (.int .i64 rg.1)).setCell ⟨Q,7,none⟩ (.int .i64 rh.1)).setCell ⟨Q,8,none⟩ (.int .i64 ri.1)).setCell ⟨Q,9,none⟩ (.int .i64 rj.1.1)).setCell ⟨Q,10,none⟩ (.int .i64 rj.1.2.1)).setCell ⟨Q,11,none⟩ (.int .i64 rj.1.2.2)).setCell ⟨Q,12,none⟩ (.slice Aw LW cw)).setCell ⟨Q,13,none⟩ (.slice Al ll.length cl)) (Q+2) (.slice Al ll.length cl) ll):=LH (own_set (own_set (own_set (own_set (own_set (own_set (own_set (own_set (own_set (own_set (own_set (own_set (own_set (own_set OL5.out (by omega)) (by omega)) (by omega)) (by omega)) (by omega)) (by omega)) (by omega)) (by omega)) (by omega)) (by omega)) (by omega)) (by omega)) (by omega)) (by omega))
   clear q5 f5 b5 g5 OL5 NR K5 OI5 OW5
   generalize ((((((((((((((wB.setCell ⟨Q,0,none⟩ (.int .i64 ra.1)).setCell ⟨Q,1,none⟩ (.slice Ab lb.length cb)).setCell ⟨Q,2,none⟩ (.int .i64 rc.1)).setCell ⟨Q,3,none⟩ (.int .i64 rd.1)).setCell ⟨Q,4,none⟩ (.int .i64 re.1)).setCell ⟨Q,5,none⟩ (.int .i64 rf.1)).setCell ⟨Q,6,none⟩ (.int .i64 rg.1)).setCell ⟨Q,7,none⟩ (.int .i64 rh.1)).setCell ⟨Q,8,none⟩ (.int .i64 ri.1)).setCell ⟨Q,9,none⟩ (.int .i64 rj.1.1)).setCell ⟨Q,10,none⟩ (.int .i64 rj.1.2.1)).setCell ⟨Q,11,none⟩ (.int .i64 rj.1.2.2)).setCell ⟨Q,12,none⟩ (.slice Aw LW cw)).setCell ⟨Q,13,none⟩ (.slice Al ll.length cl))=w9 at *
   exact bodyPost_ret (v:=.agg #[.int .i64 ra.1,.slice Ab lb.length cb,.int .i64 rc.1,.int .i64 rd.1,.int .i64 re.1,.int .i64 rf.1,.int .i64 rg.1,.int .i64 rh.1,.int .i64 ri.1,.int .i64 rj.1.1,.int .i64 rj.1.2.1,.int .i64 rj.1.2.2,.slice Aw LW cw,.slice Al ll.length cl]) (by simp [results,Tryz.results41,go_sem,b9]) rfl ⟨⟨ra.1,lb,rc.1,rd.1,re.1,rf.1,rg.1,rh.1,ri.1,rj.1.1,rj.1.2.1,rj.1.2.2,lw,ll⟩,_,_,_,by rw [← HLW.out],⟨own_moreI OA.out (by have:=hQ9.out;omega),own_moreI (by have:=OB.out;unfold OwnI;rw [HLW.out];exact this) (by have:=hQ9.out;omega),own_moreI OC.out (by have:=hQ9.out;omega)⟩,WF.out,hlb.out,hlw,hll,NN.out,R9.out,K9.out⟩
end Go.Proofs.YtejllmjkeefloaaGreat
