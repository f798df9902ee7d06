/- The reader: node. The reader: a list of nodes. What is read may stand in memory; from rows that a call owns to graphs. The reader: graph. -/
import Derived.Test.YtejllmjkeefloaaGreatMN7
namespace Go.Proofs.YtejllmjkeefloaaGreat
open Go.ChangeShapes Go.WideShapes Go.ChangeAt Go.RowKit
set_option maxRecDepth 20000
set_option linter.unusedVariables false
theorem box_at {w:World}{b:Nat}{cs:Array Value}(h:(Bx w b cs))(i:Nat)(hi:i<cs.size)(y:Value):(Bx (w.setCell ⟨b,i,none⟩ y) b (cs.setIfInBounds i y)):=by
 intro o;by_cases c:i=o
 ·subst c;rw [World.cell?_setCell_same w _ _ ((h i).trans (Array.getElem?_eq_getElem hi)),Array.getElem?_setIfInBounds_self_of_lt hi]
 ·rw [World.cell?_setCell_other _ _ _ _ (by first|(simp;done)|(simp;omega)),Array.getElem?_setIfInBounds_ne c];exact h o
theorem own_set {w:World}{base e size n Q o:Nat}{u v:Value}{xs:List Value}(h:w.ownsRow base e size v n xs)(hQ:Q<base):(w.setCell ⟨Q,o,none⟩ u).ownsRow base e size v n xs:=by
 refine⟨h.1,?_⟩;rcases h.2 with hn|⟨b,cap,cur,rfl,hb,hg,rest⟩
 ·exact Or.inl hn
 ·exact Or.inr ⟨b,cap,cur,rfl,hb,(Below.heap_setCell w ⟨Q,o,none⟩ u b (by simp only;omega)).trans hg,rest⟩
theorem size_setCell (w:World)(a:Addr)(u:Value):(w.setCell a u).heap.size=w.heap.size:=by simp [World.setCell]
def NodeOwn (w:World)(base:Nat)(n:NodeD)(vi vw vb:Value):Prop:=OwnI .i64 3 w base vi n.ins/\OwnI .i8 114 w base vw n.ws/\OwnI .i32 21 w base vb n.bs
def NodePost (B P:Nat)(n:NodeD)(t:Rd)(W:World)(e:Ending)(w':World):Prop:=∃ vi vw vb,e=.returned (.agg (nC n vi vw vb))/\NodeOwn w' W.heap.size n vi vw vb/\RdAt w' B P t/\Keep P W w'
theorem own_moreI {k:IntKind}{t:TypeId}{w:World}{b b':Nat}{v:Value}{xs:List Int}(h:OwnI k t w b v xs)(hb:b'<=b):OwnI k t w b' v xs:=own_more h hb
theorem box_set14 {w:World}{b:Nat}{x0 y0 x1 y1 x2 y2 x3 y3 x4 y4 x5 y5 x6 y6 x7 y7 x8 y8 x9 y9 x10 y10 x11 y11 x12 y12 x13 y13:Value}(h:(Bx w b #[x0,x1,x2,x3,x4,x5,x6,x7,x8,x9,x10,x11,x12,x13])) :
  (Bx ((((((((((((((w.setCell ⟨b,0,none⟩ y0).setCell ⟨b,1,none⟩ y1).setCell ⟨b,2,none⟩ y2).setCell ⟨b,3,none⟩ y3).setCell ⟨b,4,none⟩ y4).setCell ⟨b,5,none⟩ y5).setCell ⟨b,6,none⟩ y6).setCell ⟨b,7,none⟩ y7).setCell ⟨b,8,none⟩ y8).setCell ⟨b,9,none⟩ y9).setCell ⟨b,10,none⟩ y10).setCell ⟨b,11,none⟩ y11).setCell ⟨b,12,none⟩ y12).setCell ⟨b,13,none⟩ y13) b #[y0,y1,y2,y3,y4,y5,y6,y7,y8,y9,y10,y11,y12,y13]):=by
 have h0:=box_at h 0 (by simp) y0;rw [show(#[x0,x1,x2,x3,x4,x5,x6,x7,x8,x9,x10,x11,x12,x13]:Array Value).setIfInBounds 0 y0=#[y0,x1,x2,x3,x4,x5,x6,x7,x8,x9,x10,x11,x12,x13] from rfl] at h0;have h1:=box_at h0 1 (by simp) y1;rw [show(#[y0,x1,x2,x3,x4,x5,x6,x7,x8,x9,x10,x11,x12,x13]:Array Value).setIfInBounds 1 y1=#[y0,y1,x2,x3,x4,x5,x6,x7,x8,x9,x10,x11,x12,x13] from rfl] at h1;have h2:=box_at h1 2 (by simp) y2;rw [show(#[y0,y1,x2,x3,x4,x5,x6,x7,x8,x9,x10,x11,x12,x13]:Array Value).setIfInBounds 2 y2=#[y0,y1,y2,x3,x4,x5,x6,x7,x8,x9,x10,x11,x12,x13] from rfl] at h2;have h3:=box_at h2 3 (by simp) y3;rw [show(#[y0,y1,y2,x3,x4,x5,x6,x7,x8,x9,x10,x11,x12,x13]:Array Value).setIfInBounds 3 y3=#[y0,y1,y2,y3,x4,x5,x6,x7,x8,x9,x10,x11,x12,x13] from rfl] at h3;have h4:=box_at h3 4 (by simp) y4;rw [show(#[y0,y1,y2,y3,x4,x5,x6,x7,x8,x9,x10,x11,x12,x13]:Array Value).setIfInBounds 4 y4=#[y0,y1,y2,y3,y4,x5,x6,x7,x8,x9,x10,x11,x12,x13] from rfl] at h4;have h5:=box_at h4 5 (by simp) y5;rw [show(#[y0,y1,y2,y3,y4,x5,x6,x7,x8,x9,x10,x11,x12,x13]:Array Value).setIfInBounds 5 y5=#[y0,y1,y2,y3,y4,y5,x6,x7,x8,x9,x10,x11,x12,x13] from rfl] at h5;have h6:=box_at h5 6 (by simp) y6;rw [show(#[y0,y1,y2,y3,y4,y5,x6,x7,x8,x9,x10,x11,x12,x13]:Array Value).setIfInBounds 6 y6=#[y0,y1,y2,y3,y4,y5,y6,x7,x8,x9,x10,x11,x12,x13] from rfl] at h6;have h7:=box_at h6 7 (by simp) y7;rw [show(#[y0,y1,y2,y3,y4,y5,y6,x7,x8,x9,x10,x11,x12,x13]:Array Value).setIfInBounds 7 y7=#[y0,y1,y2,y3,y4,y5,y6,y7,x8,x9,x10,x11,x12,x13] from rfl] at h7;have h8:=box_at h7 8 (by simp) y8;rw [show(#[y0,y1,y2,y3,y4,y5,y6,y7,x8,x9,x10,x11,x12,x13]:Array Value).setIfInBounds 8 y8=#[y0,y1,y2,y3,y4,y5,y6,y7,y8,x9,x10,x11,x12,x13] from rfl] at h8;have h9:=box_at h8 9 (by simp) y9;rw [show(#[y0,y1,y2,y3,y4,y5,y6,y7,y8,x9,x10,x11,x12,x13]:Array Value).setIfInBounds 9 y9=#[y0,y1,y2,y3,y4,y5,y6,y7,y8,y9,x10,x11,x12,x13] from rfl] at h9;have h10:=box_at h9 10 (by simp) y10;rw [show(#[y0,y1,y2,y3,y4,y5,y6,y7,y8,y9,x10,x11,x12,x13]:Array Value).setIfInBounds 10 y10=#[y0,y1,y2,y3,y4,y5,y6,y7,y8,y9,y10,x11,x12,x13] from rfl] at h10;have h11:=box_at h10 11 (by simp) y11;rw [show(#[y0,y1,y2,y3,y4,y5,y6,y7,y8,y9,y10,x11,x12,x13]:Array Value).setIfInBounds 11 y11=#[y0,y1,y2,y3,y4,y5,y6,y7,y8,y9,y10,y11,x12,x13] from rfl] at h11;have h12:=box_at h11 12 (by simp) y12;rw [show(#[y0,y1,y2,y3,y4,y5,y6,y7,y8,y9,y10,y11,x12,x13]:Array Value).setIfInBounds 12 y12=#[y0,y1,y2,y3,y4,y5,y6,y7,y8,y9,y10,y11,y12,x13] from rfl] at h12;have h13:=box_at h12 13 (by simp) y13;rw [show(#[y0,y1,y2,y3,y4,y5,y6,y7,y8,y9,y10,y11,y12,x13]:Array Value).setIfInBounds 13 y13=#[y0,y1,y2,y3,y4,y5,y6,y7,y8,y9,y10,y11,y12,y13] from rfl] at h13;exact h13
set_option maxHeartbeats 8000000 in
theorem node_rd (B P:Nat) (s:Rd) (W:World) (hr:RdAt W B P s):Calls Tryz.prog 91 #[.pointer (some ⟨P,0,none⟩)] W (NodePost B P (nodeR s).1 (nodeR s).2 W):=by
 obtain ⟨ra,ha⟩:∃ x,numR 1 s=x:=⟨_,rfl⟩
 obtain ⟨rb,hb⟩:∃ x,listR 1 (numR 1) ra.2=x:=⟨_,rfl⟩
 obtain ⟨rc,hc⟩:∃ x,numR 1 rb.2=x:=⟨_,rfl⟩
 obtain ⟨rd,hd⟩:∃ x,numR 1 rc.2=x:=⟨_,rfl⟩
 obtain ⟨re,he⟩:∃ x,numR 1 rd.2=x:=⟨_,rfl⟩
 obtain ⟨rf,hf⟩:∃ x,numR 1 re.2=x:=⟨_,rfl⟩
 obtain ⟨rg,hg⟩:∃ x,numR 2 rf.2=x:=⟨_,rfl⟩
 obtain ⟨rh,hh⟩:∃ x,numR 1 rg.2=x:=⟨_,rfl⟩
 obtain ⟨ri,hi⟩:∃ x,smallR rh.2=x:=⟨_,rfl⟩
 obtain ⟨rj,hj⟩:∃ x,shapeR ri.2=x:=⟨_,rfl⟩
 obtain ⟨rk,hk⟩:∃ x,listR 2 smallR rj.2=x:=⟨_,rfl⟩
 obtain ⟨rl,hl⟩:∃ x,listR 1 wideR rk.2=x:=⟨_,rfl⟩
 have e:nodeR s=(⟨ra.1,rb.1,rc.1,rd.1,re.1,rf.1,rg.1,rh.1,ri.1,rj.1.1,rj.1.2.1,rj.1.2.2,rk.1,rl.1⟩,rl.2):=by
  simp only [nodeR,ha,hb,hc,hd,he,hf,hg,hh,hi,hj,hk,hl]
 rw [e]
 have hz : -128≤ri.1∧ri.1<128:=by rw [← hi];exact wrap8_bd _
 have e64:IntKind.i64.wrap ri.1=ri.1:=by simp only [IntKind.wrap,IntKind.bits,IntKind.signed];simp;split <;> omega
 clear e hz
 have hPW:=hr.lt
 have R:=LH hr
 clear hr
 have Ca:=LH (fun w (k:RdAt w B P s)=>single_rd B P s w k)
 rw [ha] at Ca
 have Cb:=LH (fun w (k:RdAt w B P ra.2)=>list_rd_int 1 (by omega) (by omega) B P ra.2 w k)
 rw [hb] at Cb
 have Cc:=LH (fun w (k:RdAt w B P rb.2)=>single_rd B P rb.2 w k)
 rw [hc] at Cc
 have Cd:=LH (fun w (k:RdAt w B P rc.2)=>single_rd B P rc.2 w k)
 rw [hd] at Cd
 have Ce:=LH (fun w (k:RdAt w B P rd.2)=>single_rd B P rd.2 w k)
 rw [he] at Ce
 have Cf:=LH (fun w (k:RdAt w B P re.2)=>single_rd B P re.2 w k)
 rw [hf] at Cf
 have Cg:=LH (fun w (k:RdAt w B P rf.2)=>number_any 2 (by omega) (by omega) B P rf.2 w k)
 rw [hg] at Cg
 have Ch:=LH (fun w (k:RdAt w B P rg.2)=>single_rd B P rg.2 w k)
 rw [hh] at Ch
 have Ci:=LH (fun w (k:RdAt w B P rh.2)=>small_rd B P rh.2 w k)
 rw [hi] at Ci
 have Cj:=LH (fun w (k:RdAt w B P ri.2)=>shape_rd B P ri.2 w k)
 rw [hj] at Cj
 have Ck:=LH (fun w (k:RdAt w B P rj.2)=>list_rd_int8 2 (by omega) (by omega) B P rj.2 w k)
 rw [hk] at Ck
 have Cl:=LH (fun w (k:RdAt w B P rk.2)=>list_rd_int32 1 (by omega) (by omega) B P rk.2 w k)
 rw [hl] at Cl
 clear ha hb hc hd he hf hg hh hi hj hk hl
 go_enter Tryz.func91,Tryz.ntmps91
 go_upto_region 2 with fail
 obtain ⟨Q,hQ⟩:∃ Q,W.heap.size=Q:=⟨_,rfl⟩
 refine opq (fun w'=>(Bx w' Q (nZ))∧(Fr w' Q)∧(Bx w' (Q+1) (nZ))∧(Fr w' (Q+1))∧Hid (RdAt w' B P s)∧Hid (Keep P W w')∧Q+2≤w'.heap.size) (by
  subst hQ
  exact ⟨by (exact kKeep),by (exact kKeep),by (exact kKeep),by (exact kKeep),LH ((R.out.alloc _).alloc _),LH (((Keep.refl P W).alloc _).alloc _),by simp⟩) ?_
 rintro w0 ⟨q0,f0,b0,g0,R0,K0,s0⟩
 try rw [hQ]
 try simp only [World.size_alloc,hQ]
 go_wp2_with fail
 refine (Ca.out _ R0.out).mono ?_
 rintro e w1 ⟨rfl,r1,k1⟩
 have q1:=box_keep k1 q0 (by omega) (by omega)
 have f1:=free_keep k1 f0 (by omega) (by omega)
 have b1:=box_keep k1 b0 (by omega) (by omega)
 have g1:=free_keep k1 g0 (by omega) (by omega)
 have s1:Q+2≤w1.heap.size:=by have:=k1.2.2.1;omega
 have R1:=LH r1
 have K1:=LH (K0.out.trans k1)
 clear q0 f0 b0 g0 s0 R0 K0 Ca r1 k1
 go_upto_region 3 with fail
 refine opq (fun w'=>(Bx w' Q (nZ))∧(Fr w' Q)∧(Bx w' (Q+1) #[.int .i64 ra.1,.slice none 0 0,.int .i64 0,.int .i64 0,.int .i64 0,.int .i64 0,.int .i64 0,.int .i64 0,.int .i64 0,.int .i64 0,.int .i64 0,.int .i64 0,.slice none 0 0,.slice none 0 0])∧(Fr w' (Q+1))∧Hid (RdAt w' B P ra.2)∧Hid (Keep P W w')∧Q+2≤w'.heap.size) ⟨by (exact kKeep),by (exact kKeep),(box_at b1 0 (by simp) (.int .i64 ra.1)),by (exact kKeep),LH (R1.out.set (by omega)),LH (K1.out.setNew (by omega)),by simpa only [size_setCell] using s1⟩ ?_
 rintro w2 ⟨q2,f2,b2,g2,R2,K2,s2⟩
 clear q1 f1 b1 g1 s1 R1 K1
 go_wp2_with fail
 refine (Cb.out _ R2.out).mono ?_
 rintro e w3 ⟨vb,rfl,o1,r1,k1⟩
 have q3:=box_keep k1 q2 (by omega) (by omega)
 have f3:=free_keep k1 f2 (by omega) (by omega)
 have b3:=box_keep k1 b2 (by omega) (by omega)
 have g3:=free_keep k1 g2 (by omega) (by omega)
 have s3:Q+2≤w3.heap.size:=by have:=k1.2.2.1;omega
 have R3:=LH r1
 have K3:=LH (K2.out.trans k1)
 obtain ⟨Ab,cb,rfl,_,_⟩:=own_slice' o1
 have Ob_3:=LH (own_moreI (b':=Q+2) o1 (by omega))
 clear q2 f2 b2 g2 s2 R2 K2 Cb r1 k1 o1
 go_upto_region 4 with fail
 refine opq (fun w'=>(Bx w' Q (nZ))∧(Fr w' Q)∧(Bx w' (Q+1) #[.int .i64 ra.1,.slice Ab rb.1.length cb,.int .i64 0,.int .i64 0,.int .i64 0,.int .i64 0,.int .i64 0,.int .i64 0,.int .i64 0,.int .i64 0,.int .i64 0,.int .i64 0,.slice none 0 0,.slice none 0 0])∧(Fr w' (Q+1))∧Hid (RdAt w' B P rb.2)∧Hid (Keep P W w')∧Q+2≤w'.heap.size∧Hid (OwnI .i64 3 w' (Q+2) (.slice Ab rb.1.length cb) rb.1)) ⟨by (exact kKeep),by (exact kKeep),(box_at b3 1 (by simp) (.slice Ab rb.1.length cb)),by (exact kKeep),LH (R3.out.set (by omega)),LH (K3.out.setNew (by omega)),by simpa only [size_setCell] using s3,LH (own_set Ob_3.out (by omega))⟩ ?_
 rintro w4 ⟨q4,f4,b4,g4,R4,K4,s4,Ob_4⟩
 clear q3 f3 b3 g3 s3 R3 K3
 go_wp2_with fail
 refine (Cc.out _ R4.out).mono ?_
 rintro e w5 ⟨rfl,r1,k1⟩
 have q5:=box_keep k1 q4 (by omega) (by omega)
 have f5:=free_keep k1 f4 (by omega) (by omega)
 have b5:=box_keep k1 b4 (by omega) (by omega)
 have g5:=free_keep k1 g4 (by omega) (by omega)
 have s5:Q+2≤w5.heap.size:=by have:=k1.2.2.1;omega
 have R5:=LH r1
 have K5:=LH (K4.out.trans k1)
 have Ob_5:=LH (own_keep Ob_4.out k1 (by omega))
 clear q4 f4 b4 g4 s4 R4 K4 Ob_4 Cc r1 k1
 go_wp2_with fail
 refine (Cd.out _ R5.out).mono ?_
 rintro e w6 ⟨rfl,r1,k1⟩
 have q6:=box_keep k1 q5 (by omega) (by omega)
 have f6:=free_keep k1 f5 (by omega) (by omega)
 have b6:=box_keep k1 b5 (by omega) (by omega)
 have g6:=free_keep k1 g5 (by omega) (by omega)
 have s6:Q+2≤w6.heap.size:=by have:=k1.2.2.1;omega
 have R6:=LH r1
 have K6:=LH (K5.out.trans k1)
 have Ob_6:=LH (own_keep Ob_5.out k1 (by omega))
 clear q5 f5 b5 g5 s5 R5 K5 Ob_5 Cd r1 k1
 go_wp2_with fail
 refine (Ce.out _ R6.out).mono ?_
 rintro e w7 ⟨rfl,r1,k1⟩
 have q7:=box_keep k1 q6 (by omega) (by omega)
 have f7:=free_keep k1 f6 (by omega) (by omega)
 have b7:=box_keep k1 b6 (by omega) (by omega)
 have g7:=free_keep k1 g6 (by omega) (by omega)
 have s7:Q+2≤w7.heap.size:=by have:=k1.2.2.1;omega
 have R7:=LH r1
 have K7:=LH (K6.out.trans k1)
 have Ob_7:=LH (own_keep Ob_6.out k1 (by omega))
 clear q6 f6 b6 g6 s6 R6 K6 Ob_6 Ce r1 k1
 go_wp2_with fail
 refine (Cf.out _ R7.out).mono ?_
 rintro e w8 ⟨rfl,r1,k1⟩
 have q8:=box_keep k1 q7 (by omega) (by omega)
 have f8:=free_keep k1 f7 (by omega) (by omega)
 have b8:=box_keep k1 b7 (by omega) (by omega)
 have g8:=free_keep k1 g7 (by omega) (by omega)
 have s8:Q+2≤w8.heap.size:=by have:=k1.2.2.1;omega
 have R8:=LH r1
 have K8:=LH (K7.out.trans k1)
 have Ob_8:=LH (own_keep Ob_7.out k1 (by omega))
 clear q7 f7 b7 g7 s7 R7 K7 Ob_7 Cf r1 k1
 go_upto_region 5 with fail
 refine opq (fun w'=>(Bx w' Q (nZ))∧(Fr w' Q)∧(Bx w' (Q+1) #[.int .i64 ra.1,.slice Ab rb.1.length cb,.int .i64 rc.1,.int .i64 rd.1,.int .i64 re.1,.int .i64 rf.1,.int .i64 0,.int .i64 0,.int .i64 0,.int .i64 0,.int .i64 0,.int .i64 0,.slice none 0 0,.slice none 0 0])∧(Fr w' (Q+1))∧Hid (RdAt w' B P rf.2)∧Hid (Keep P W w')∧Q+2≤w'.heap.size∧Hid (OwnI .i64 3 w' (Q+2) (.slice Ab rb.1.length cb) rb.1)) ⟨by (exact kKeep),by (exact kKeep),(box_at (box_at (box_at (box_at b8 2 (by simp) (.int .i64 rc.1)) 3 (by simp) (.int .i64 rd.1)) 4 (by simp) (.int .i64 re.1)) 5 (by simp) (.int .i64 rf.1)),by (exact kKeep),LH ((((R8.out.set (by omega)).set (by omega)).set (by omega)).set (by omega)),LH ((((K8.out.setNew (by omega)).setNew (by omega)).setNew (by omega)).setNew (by omega)),by simpa only [size_setCell] using s8,LH (own_set (own_set (own_set (own_set Ob_8.out (by omega)) (by omega)) (by omega)) (by omega))⟩ ?_
 rintro w9 ⟨q9,f9,b9,g9,R9,K9,s9,Ob_9⟩
 clear q8 f8 b8 g8 s8 R8 K8 Ob_8
 go_wp2_with fail
 refine (Cg.out _ R9.out).mono ?_
 rintro e w10 ⟨rfl,r1,k1⟩
 have q10:=box_keep k1 q9 (by omega) (by omega)
 have f10:=free_keep k1 f9 (by omega) (by omega)
 have b10:=box_keep k1 b9 (by omega) (by omega)
 have g10:=free_keep k1 g9 (by omega) (by omega)
 have s10:Q+2≤w10.heap.size:=by have:=k1.2.2.1;omega
 have R10:=LH r1
 have K10:=LH (K9.out.trans k1)
 have Ob_10:=LH (own_keep Ob_9.out k1 (by omega))
 clear q9 f9 b9 g9 s9 R9 K9 Ob_9 Cg r1 k1
 go_upto_region 6 with fail
 refine opq (fun w'=>(Bx w' Q (nZ))∧(Fr w' Q)∧(Bx w' (Q+1) #[.int .i64 ra.1,.slice Ab rb.1.length cb,.int .i64 rc.1,.int .i64 rd.1,.int .i64 re.1,.int .i64 rf.1,.int .i64 rg.1,.int .i64 0,.int .i64 0,.int .i64 0,.int .i64 0,.int .i64 0,.slice none 0 0,.slice none 0 0])∧(Fr w' (Q+1))∧Hid (RdAt w' B P rg.2)∧Hid (Keep P W w')∧Q+2≤w'.heap.size∧Hid (OwnI .i64 3 w' (Q+2) (.slice Ab rb.1.length cb) rb.1)) ⟨by (exact kKeep),by (exact kKeep),(box_at b10 6 (by simp) (.int .i64 rg.1)),by (exact kKeep),LH (R10.out.set (by omega)),LH (K10.out.setNew (by omega)),by simpa only [size_setCell] using s10,LH (own_set Ob_10.out (by omega))⟩ ?_
 rintro w11 ⟨q11,f11,b11,g11,R11,K11,s11,Ob_11⟩
 clear q10 f10 b10 g10 s10 R10 K10 Ob_10
 go_wp2_with fail
 refine (Ch.out _ R11.out).mono ?_
 rintro e w12 ⟨rfl,r1,k1⟩
 have q12:=box_keep k1 q11 (by omega) (by omega)
 have f12:=free_keep k1 f11 (by omega) (by omega)
 have b12:=box_keep k1 b11 (by omega) (by omega)
 have g12:=free_keep k1 g11 (by omega) (by omega)
 have s12:Q+2≤w12.heap.size:=by have:=k1.2.2.1;omega
 have R12:=LH r1
 have K12:=LH (K11.out.trans k1)
 have Ob_12:=LH (own_keep Ob_11.out k1 (by omega))
 clear q11 f11 b11 g11 s11 R11 K11 Ob_11 Ch r1 k1
 go_wp2_with fail
 refine (Ci.out _ R12.out).mono ?_
 rintro e w13 ⟨rfl,r1,k1⟩
 have q13:=box_keep k1 q12 (by omega) (by omega)
 have f13:=free_keep k1 f12 (by omega) (by omega)
 have b13:=box_keep k1 b12 (by omega) (by omega)
 have g13:=free_keep k1 g12 (by omega) (by omega)
 have s13:Q+2≤w13.heap.size:=by have:=k1.2.2.1;omega
 have R13:=LH r1
 have K13:=LH (K12.out.trans k1)
 have Ob_13:=LH (own_keep Ob_12.out k1 (by omega))
 clear q12 f12 b12 g12 s12 R12 K12 Ob_12 Ci r1 k1
 go_upto_region 7 with fail
 refine opq (fun w'=>(Bx w' Q (nZ))∧(Fr w' Q)∧(Bx w' (Q+1) #[.int .i64 ra.1,.slice Ab rb.1.length cb,.int .i64 rc.1,.int .i64 rd.1,.int .i64 re.1,.int .i64 rf.1,.int .i64 rg.1,.int .i64 rh.1,.int .i64 ri.1,.int .i64 0,.int .i64 0,.int .i64 0,.slice none 0 0,.slice none 0 0])∧(Fr w' (Q+1))∧Hid (RdAt w' B P ri.2)∧Hid (Keep P W w')∧Q+2≤w'.heap.size∧Hid (OwnI .i64 3 w' (Q+2) (.slice Ab rb.1.length cb) rb.1)) ⟨by (exact kKeep),by (exact kKeep),(box_at (box_at b13 7 (by simp) (.int .i64 rh.1)) 8 (by simp) (.int .i64 ri.1)),by (exact kKeep),LH ((R13.out.set (by omega)).set (by omega)),LH ((K13.out.setNew (by omega)).setNew (by omega)),by simpa only [size_setCell] using s13,LH (own_set (own_set Ob_13.out (by omega)) (by omega))⟩ ?_
 rintro w14 ⟨q14,f14,b14,g14,R14,K14,s14,Ob_14⟩
 clear q13 f13 b13 g13 s13 R13 K13 Ob_13
 go_wp2_with fail
 refine (Cj.out _ R14.out).mono ?_
 rintro e w15 ⟨rfl,r1,k1⟩
 have q15:=box_keep k1 q14 (by omega) (by omega)
 have f15:=free_keep k1 f14 (by omega) (by omega)
 have b15:=box_keep k1 b14 (by omega) (by omega)
 have g15:=free_keep k1 g14 (by omega) (by omega)
 have s15:Q+2≤w15.heap.size:=by have:=k1.2.2.1;omega
 have R15:=LH r1
 have K15:=LH (K14.out.trans k1)
 have Ob_15:=LH (own_keep Ob_14.out k1 (by omega))
 clear q14 f14 b14 g14 s14 R14 K14 Ob_14 Cj r1 k1
 go_upto_region 8 with fail
 refine opq (fun w'=>(Bx w' Q (nZ))∧(Fr w' Q)∧(Bx w' (Q+1) #[.int .i64 ra.1,.slice Ab rb.1.length cb,.int .i64 rc.1,.int .i64 rd.1,.int .i64 re.1,.int .i64 rf.1,.int .i64 rg.1,.int .i64 rh.1,.int .i64 ri.1,.int .i64 rj.1.1,.int .i64 rj.1.2.1,.int .i64 rj.1.2.2,.slice none 0 0,.slice none 0 0])∧(Fr w' (Q+1))∧Hid (RdAt w' B P rj.2)∧Hid (Keep P W w')∧Q+2≤w'.heap.size∧Hid (OwnI .i64 3 w' (Q+2) (.slice Ab rb.1.length cb) rb.1)) ⟨by (exact kKeep),by (exact kKeep),(box_at (box_at (box_at b15 9 (by simp) (.int .i64 rj.1.1)) 10 (by simp) (.int .i64 rj.1.2.1)) 11 (by simp) (.int .i64 rj.1.2.2)),by (exact kKeep),LH (((R15.out.set (by omega)).set (by omega)).set (by omega)),LH (((K15.out.setNew (by omega)).setNew (by omega)).setNew (by omega)),by simpa only [size_setCell] using s15,LH (own_set (own_set (own_set Ob_15.out (by omega)) (by omega)) (by omega))⟩ ?_
 rintro w16 ⟨q16,f16,b16,g16,R16,K16,s16,Ob_16⟩
 clear q15 f15 b15 g15 s15 R15 K15 Ob_15
 go_wp2_with fail
 refine (Ck.out _ R16.out).mono ?_
 rintro e w17 ⟨vk,rfl,o1,r1,k1⟩
 have q17:=box_keep k1 q16 (by omega) (by omega)
 have f17:=free_keep k1 f16 (by omega) (by omega)
 have b17:=box_keep k1 b16 (by omega) (by omega)
 have g17:=free_keep k1 g16 (by omega) (by omega)
 have s17:Q+2≤w17.heap.size:=by have:=k1.2.2.1;omega
 have R17:=LH r1
 have K17:=LH (K16.out.trans k1)
 have Ob_17:=LH (own_keep Ob_16.out k1 (by omega))
 obtain ⟨Ak,ck,rfl,_,_⟩:=own_slice' o1
 have Ok_17:=LH (own_moreI (b':=Q+2) o1 (by omega))
 clear q16 f16 b16 g16 s16 R16 K16 Ob_16 Ck r1 k1 o1
 go_upto_region 9 with fail
 refine opq (fun w'=>(Bx w' Q (nZ))∧(Fr w' Q)∧(Bx w' (Q+1) #[.int .i64 ra.1,.slice Ab rb.1.length cb,.int .i64 rc.1,.int .i64 rd.1,.int .i64 re.1,.int .i64 rf.1,.int .i64 rg.1,.int .i64 rh.1,.int .i64 ri.1,.int .i64 rj.1.1,.int .i64 rj.1.2.1,.int .i64 rj.1.2.2,.slice Ak rk.1.length ck,.slice none 0 0])∧(Fr w' (Q+1))∧Hid (RdAt w' B P rk.2)∧Hid (Keep P W w')∧Q+2≤w'.heap.size∧Hid (OwnI .i64 3 w' (Q+2) (.slice Ab rb.1.length cb) rb.1)∧Hid (OwnI .i8 114 w' (Q+2) (.slice Ak rk.1.length ck) rk.1)) ⟨by (exact kKeep),by (exact kKeep),(box_at b17 12 (by simp) (.slice Ak rk.1.length ck)),by (exact kKeep),LH (R17.out.set (by omega)),LH (K17.out.setNew (by omega)),by simpa only [size_setCell] using s17,LH (own_set Ob_17.out (by omega)),LH (own_set Ok_17.out (by omega))⟩ ?_
 rintro w18 ⟨q18,f18,b18,g18,R18,K18,s18,Ob_18,Ok_18⟩
 clear q17 f17 b17 g17 s17 R17 K17 Ob_17
 go_wp2_with fail
 refine (Cl.out _ R18.out).mono ?_
 rintro e w19 ⟨vl,rfl,o1,r1,k1⟩
 have q19:=box_keep k1 q18 (by omega) (by omega)
 have f19:=free_keep k1 f18 (by omega) (by omega)
 have b19:=box_keep k1 b18 (by omega) (by omega)
 have g19:=free_keep k1 g18 (by omega) (by omega)
 have s19:Q+2≤w19.heap.size:=by have:=k1.2.2.1;omega
 have R19:=LH r1
 have K19:=LH (K18.out.trans k1)
 have Ob_19:=LH (own_keep Ob_18.out k1 (by omega))
 have Ok_19:=LH (own_keep Ok_18.out k1 (by omega))
 obtain ⟨Al,cl,rfl,_,_⟩:=own_slice' o1
 have Ol_19:=LH (own_moreI (b':=Q+2) o1 (by omega))
 clear q18 f18 b18 g18 s18 R18 K18 Ob_18 Ok_18 Cl r1 k1 o1
 go_upto_region 10 with fail
 refine opq (fun w'=>(Bx w' Q (nZ))∧(Fr w' Q)∧(Bx w' (Q+1) #[.int .i64 ra.1,.slice Ab rb.1.length cb,.int .i64 rc.1,.int .i64 rd.1,.int .i64 re.1,.int .i64 rf.1,.int .i64 rg.1,.int .i64 rh.1,.int .i64 ri.1,.int .i64 rj.1.1,.int .i64 rj.1.2.1,.int .i64 rj.1.2.2,.slice Ak rk.1.length ck,.slice Al rl.1.length cl])∧(Fr w' (Q+1))∧Hid (RdAt w' B P rl.2)∧Hid (Keep P W w')∧Q+2≤w'.heap.size∧Hid (OwnI .i64 3 w' (Q+2) (.slice Ab rb.1.length cb) rb.1)∧Hid (OwnI .i8 114 w' (Q+2) (.slice Ak rk.1.length ck) rk.1)∧Hid (OwnI .i32 21 w' (Q+2) (.slice Al rl.1.length cl) rl.1)) ⟨by (exact kKeep),by (exact kKeep),(box_at b19 13 (by simp) (.slice Al rl.1.length cl)),by (exact kKeep),LH (R19.out.set (by omega)),LH (K19.out.setNew (by omega)),by simpa only [size_setCell] using s19,LH (own_set Ob_19.out (by omega)),LH (own_set Ok_19.out (by omega)),LH (own_set Ol_19.out (by omega))⟩ ?_
 rintro w20 ⟨q20,f20,b20,g20,R20,K20,s20,Ob_20,Ok_20,Ol_20⟩
 clear q19 f19 b19 g19 s19 R19 K19 Ob_19 Ok_19
 go_wp2_with fail
 obtain ⟨b9,R9,K9,OA,OB,OC⟩:(Bx ((((((((((((((w20.setCell ⟨Q,0,none⟩ (.int .i64 ra.1)).setCell ⟨Q,1,none⟩ (.slice Ab rb.1.length cb)).setCell ⟨Q,2,none⟩ (.int .i64 rc.1)).setCell ⟨Q,3,none⟩ (.int .i64 rd.1)).setCell ⟨Q,4,none⟩ (.int .i64 re.1)).setCell ⟨Q,5,none⟩ (.int .i64 rf.1)).setCell ⟨Q,6,none⟩ (.int .i64 rg.1)).setCell ⟨Q,7,none⟩ (.int .i64 rh.1)).setCell ⟨Q,8,none⟩ (.int .i64 ri.1)).setCell ⟨Q,9,none⟩ (.int .i64 rj.1.1)).setCell ⟨Q,10,none⟩ (.int .i64 rj.1.2.1)).setCell ⟨Q,11,none⟩ (.int .i64 rj.1.2.2)).setCell ⟨Q,12,none⟩ (.slice Ak rk.1.length ck)).setCell ⟨Q,13,none⟩ (.slice Al rl.1.length cl)) Q #[.int .i64 ra.1,.slice Ab rb.1.length cb,.int .i64 rc.1,.int .i64 rd.1,.int .i64 re.1,.int .i64 rf.1,.int .i64 rg.1,.int .i64 rh.1,.int .i64 ri.1,.int .i64 rj.1.1,.int .i64 rj.1.2.1,.int .i64 rj.1.2.2,.slice Ak rk.1.length ck,.slice Al rl.1.length cl])∧Hid (RdAt ((((((((((((((w20.setCell ⟨Q,0,none⟩ (.int .i64 ra.1)).setCell ⟨Q,1,none⟩ (.slice Ab rb.1.length cb)).setCell ⟨Q,2,none⟩ (.int .i64 rc.1)).setCell ⟨Q,3,none⟩ (.int .i64 rd.1)).setCell ⟨Q,4,none⟩ (.int .i64 re.1)).setCell ⟨Q,5,none⟩ (.int .i64 rf.1)).setCell ⟨Q,6,none⟩ (.int .i64 rg.1)).setCell ⟨Q,7,none⟩ (.int .i64 rh.1)).setCell ⟨Q,8,none⟩ (.int .i64 ri.1)).setCell ⟨Q,9,none⟩ (.int .i64 rj.1.1)).setCell ⟨Q,10,none⟩ (.int .i64 rj.1.2.1)).setCell ⟨Q,11,none⟩ (.int .i64 rj.1.2.2)).setCell ⟨Q,12,none⟩ (.slice Ak rk.1.length ck)).setCell ⟨Q,13,none⟩ (.slice Al rl.1.length cl)) B P rl.2)∧Hid (Keep P W ((((((((((((((w20.setCell ⟨Q,0,none⟩ (.int .i64 ra.1)).setCell ⟨Q,1,none⟩ (.slice Ab rb.1.length cb)).setCell ⟨Q,2,none⟩ (.int .i64 rc.1)).setCell ⟨Q,3,none⟩ (.int .i64 rd.1)).setCell ⟨Q,4,none⟩ (.int .i64 re.1)).setCell ⟨Q,5,none⟩ (.int .i64 rf.1)).setCell ⟨Q,6,none⟩ (.int .i64 rg.1)).setCell ⟨Q,7,none⟩ (.int .i64 rh.1)).setCell ⟨Q,8,none⟩ (.int .i64 ri.1)).setCell ⟨Q,9,none⟩ (.int .i64 rj.1.1)).setCell ⟨Q,10,none⟩ (.int .i64 rj.1.2.1)).setCell ⟨Q,11,none⟩ (.int .i64 rj.1.2.2)).setCell ⟨Q,12,none⟩ (.slice Ak rk.1.length ck)).setCell ⟨Q,13,none⟩ (.slice Al rl.1.length cl)))∧Hid (OwnI .i64 3 ((((((((((((((w20.setCell ⟨Q,0,none⟩ (.int .i64 ra.1)).setCell ⟨Q,1,none⟩ (.slice Ab rb.1.length cb)).setCell ⟨Q,2,none⟩ (.int .i64 rc.1)).setCell ⟨Q,3,none⟩ (.int .i64 rd.1)).setCell ⟨Q,4,none⟩ (.int .i64 re.1)).setCell ⟨Q,5,none⟩ (.int .i64 rf.1)).setCell ⟨Q,6,none⟩ (.int .i64 rg.1)).setCell ⟨Q,7,none⟩ (.int .i64 rh.1)).setCell ⟨Q,8,none⟩ (.int .i64 ri.1)).setCell ⟨Q,9,none⟩ (.int .i64 rj.1.1)).setCell ⟨Q,10,none⟩ (.int .i64 rj.1.2.1)).setCell ⟨Q,11,none⟩ (.int .i64 rj.1.2.2)).setCell ⟨Q,12,none⟩ (.slice Ak rk.1.length ck)).setCell ⟨Q,13,none⟩ (.slice Al rl.1.length cl)) (Q+2) (.slice Ab rb.1.length cb) rb.1)∧Hid (OwnI .i8 114 ((((((((((((((w20.setCell ⟨Q,0,none⟩ (.int .i64 ra.1)).setCell ⟨Q,1,none⟩ (.slice Ab rb.1.length cb)).setCell ⟨Q,2,none⟩ (.int .i64 rc.1)).setCell ⟨Q,3,none⟩ (.int .i64 rd.1)).setCell ⟨Q,4,none⟩ (.int .i64 re.1)).setCell ⟨Q,5,none⟩ (.int .i64 rf.1)).setCell ⟨Q,6,none⟩ (.int .i64 rg.1)).setCell ⟨Q,7,none⟩ (.int .i64 rh.1)).setCell ⟨Q,8,none⟩ (.int .i64 ri.1)).setCell ⟨Q,9,none⟩ (.int .i64 rj.1.1)).setCell ⟨Q,10,none⟩ (.int .i64 rj.1.2.1)).setCell ⟨Q,11,none⟩ (.int .i64 rj.1.2.2)).setCell ⟨Q,12,none⟩ (.slice Ak rk.1.length ck)).setCell ⟨Q,13,none⟩ (.slice Al rl.1.length cl)) (Q+2) (.slice Ak rk.1.length ck) rk.1)∧Hid (OwnI .i32 21 ((((((((((((((w20.setCell ⟨Q,0,none⟩ (.int .i64 ra.1)).setCell ⟨Q,1,none⟩ (.slice Ab rb.1.length cb)).setCell ⟨Q,2,none⟩ (.int .i64 rc.1)).setCell ⟨Q,3,none⟩ (.int .i64 rd.1)).setCell ⟨Q,4,none⟩ (.int .i64 re.1)).setCell ⟨Q,5,none⟩ (.int .i64 rf.1)).setCell ⟨Q,6,none⟩ (.int .i64 rg.1)).setCell ⟨Q,7,none⟩ (.int .i64 rh.1)).setCell ⟨Q,8,none⟩ (.int .i64 ri.1)).setCell ⟨Q,9,none⟩ (.int .i64 rj.1.1)).setCell ⟨Q,10,none⟩ (.int .i64 rj.1.2.1)).setCell ⟨Q,11,none⟩ (.int .i64 rj.1.2.2)).setCell ⟨Q,12,none⟩ (.slice Ak rk.1.length ck)).setCell ⟨Q,13,none⟩ (.slice Al rl.1.length cl)) (Q+2) (.slice Al rl.1.length cl) rl.1) :=
  ⟨box_set14 q20,LH ((((((((((((((R20.out.set (by omega)).set (by omega)).set (by omega)).set (by omega)).set (by omega)).set (by omega)).set (by omega)).set (by omega)).set (by omega)).set (by omega)).set (by omega)).set (by omega)).set (by omega)).set (by omega)),LH ((((((((((((((K20.out.setNew (by omega)).setNew (by omega)).setNew (by omega)).setNew (by omega)).setNew (by omega)).setNew (by omega)).setNew (by omega)).setNew (by omega)).setNew (by omega)).setNew (by omega)).setNew (by omega)).setNew (by omega)).setNew (by omega)).setNew (by omega)),LH (own_set (own_set (own_set (own_set (own_set (own_set (own_set (own_set (own_set (own_set (own_set (own_set (own_set (own_set Ob_20.out (by omega)) (by omega)) (by omega)) (by omega)) (by omega)) (by omega)) (by omega)) (by omega)) (by omega)) (by omega)) (by omega)) (by omega)) (by omega)) (by omega)),LH (own_set (own_set (own_set (own_set (own_set (own_set (own_set (own_set (own_set (own_set (own_set (own_set (own_set (own_set Ok_20.out (by omega)) (by omega)) (by omega)) (by omega)) (by omega)) (by omega)) (by omega)) (by omega)) (by omega)) (by omega)) (by omega)) (by omega)) (by omega)) (by omega)),LH (own_set (own_set (own_set (own_set (own_set (own_set (own_set (own_set (own_set (own_set (own_set (own_set (own_set (own_set Ol_20.out (by omega)) (by omega)) (by omega)) (by omega)) (by omega)) (by omega)) (by omega)) (by omega)) (by omega)) (by omega)) (by omega)) (by omega)) (by omega)) (by omega))⟩
 generalize ((((((((((((((w20.setCell ⟨Q,0,none⟩ (.int .i64 ra.1)).setCell ⟨Q,1,none⟩ (.slice Ab rb.1.length cb)).setCell ⟨Q,2,none⟩ (.int .i64 rc.1)).setCell ⟨Q,3,none⟩ (.int .i64 rd.1)).setCell ⟨Q,4,none⟩ (.int .i64 re.1)).setCell ⟨Q,5,none⟩ (.int .i64 rf.1)).setCell ⟨Q,6,none⟩ (.int .i64 rg.1)).setCell ⟨Q,7,none⟩ (.int .i64 rh.1)).setCell ⟨Q,8,none⟩ (.int .i64 ri.1)).setCell ⟨Q,9,none⟩ (.int .i64 rj.1.1)).setCell ⟨Q,10,none⟩ (.int .i64 rj.1.2.1)).setCell ⟨Q,11,none⟩ (.int .i64 rj.1.2.2)).setCell ⟨Q,12,none⟩ (.slice Ak rk.1.length ck)).setCell ⟨Q,13,none⟩ (.slice Al rl.1.length cl))=w9 at *
 exact bodyPost_ret (v:=.agg #[.int .i64 ra.1,.slice Ab rb.1.length cb,.int .i64 rc.1,.int .i64 rd.1,.int .i64 re.1,.int .i64 rf.1,.int .i64 rg.1,.int .i64 rh.1,.int .i64 ri.1,.int .i64 rj.1.1,.int .i64 rj.1.2.1,.int .i64 rj.1.2.2,.slice Ak rk.1.length ck,.slice Al rl.1.length cl]) (by simp [results,Tryz.results91,go_sem,b9]) rfl ⟨_,_,_,rfl,⟨own_moreI OA.out (by omega),own_moreI OB.out (by omega),own_moreI OC.out (by omega)⟩,R9.out,K9.out⟩
end Go.Proofs.YtejllmjkeefloaaGreat
namespace Go.Proofs.YtejllmjkeefloaaGreat
open Go.ChangeShapes Go.WideShapes Go.ChangeAt Go.RowKit
set_option maxRecDepth 20000
set_option linter.unusedVariables false
theorem infoNode':(Tryz.prog.info? 63).map (fun i=>(i.zero,i.size,i.bytes))=some (some (.agg (nZ)),14,160):=by kernel_rfl
theorem own_ne {w:World}{b b' e e' size size' n n':Nat}{v v':Value}{xs xs':List Value}(h:w.ownsRow b e size v n xs)(k:w.ownsRow b' e' size' v' n' xs')(he:e≠e'):v.ownBlock=none\/v.ownBlock≠v'.ownBlock:=by
 rcases h.2 with ⟨rfl,_⟩|⟨g,cap,cur,rfl,_,hg,_⟩
 ·exact .inl rfl
 ·refine .inr fun e1=>?_
  rcases k.2 with ⟨rfl,_⟩|⟨g',cap',cur',rfl,_,hg',_⟩
  ·simp [Value.ownBlock] at e1
  ·simp only [Value.ownBlock,Option.some.injEq] at e1;subst e1;rw [hg] at hg';simp only [Option.some.injEq,Obj.cells.injEq] at hg';exact he hg'.2.1
def RowsN (w:World)(base:Nat)(l:List NodeD)(xs:List Value):Prop :=
 ∀ j,j<l.length->∃ vi vw vb,NodeOwn w base (l.getD j default) vi vw vb/\(xs.drop (j*14)).take 14=nodeCells (l.getD j default) vi vw vb
theorem RowsN.nil (w:World)(base:Nat):RowsN w base [] []:=fun j hj=>by simp at hj
theorem NodeOwn.keep {w w':World}{base P:Nat}{n:NodeD}{vi vw vb:Value}(h:NodeOwn w base n vi vw vb)(g:Keep P w w')(hP:P<base):NodeOwn w' base n vi vw vb:=⟨own_keep h.1 g hP,own_keep h.2.1 g hP,own_keep h.2.2 g hP⟩
theorem NodeOwn.alloc {w:World}{base:Nat}{n:NodeD}{vi vw vb:Value}(h:NodeOwn w base n vi vw vb)(x:Obj):NodeOwn (w.alloc x) base n vi vw vb:=⟨World.ownsRow.alloc h.1 x,World.ownsRow.alloc h.2.1 x,World.ownsRow.alloc h.2.2 x⟩
theorem NodeOwn.set {w:World}{base Q o:Nat}{u:Value}{n:NodeD}{vi vw vb:Value}(h:NodeOwn w base n vi vw vb)(hQ:Q<base):NodeOwn (w.setCell ⟨Q,o,none⟩ u) base n vi vw vb:=⟨own_set h.1 hQ,own_set h.2.1 hQ,own_set h.2.2 hQ⟩
theorem NodeOwn.more {w:World}{base base':Nat}{n:NodeD}{vi vw vb:Value}(h:NodeOwn w base n vi vw vb)(hb:base'<=base):NodeOwn w base' n vi vw vb:=⟨own_moreI h.1 hb,own_moreI h.2.1 hb,own_moreI h.2.2 hb⟩
theorem NodeOwn.grow {w w':World}{base b k:Nat}{n:NodeD}{vi vw vb v:Value}{xs:List Value}(h:NodeOwn w base n vi vw vb)(ho:w.ownsRow b 63 14 v k xs)(g:w.grownBy w' v.ownBlock):NodeOwn w' base n vi vw vb :=
 ⟨World.ownsRow.kept h.1 g (own_ne h.1 ho (by decide)),World.ownsRow.kept h.2.1 g (own_ne h.2.1 ho (by decide)),World.ownsRow.kept h.2.2 g (own_ne h.2.2 ho (by decide))⟩
theorem RowsN.map {w w':World}{base base':Nat}{l:List NodeD}{xs:List Value}(h:RowsN w base l xs)(f:∀ n vi vw vb,NodeOwn w base n vi vw vb->NodeOwn w' base' n vi vw vb):RowsN w' base' l xs:=by
 intro j hj;obtain⟨vi,vw,vb,h1,h2⟩:=h j hj;exact⟨vi,vw,vb,f _ _ _ _ h1,h2⟩
theorem RowsN.more {w:World} {base:Nat} {l:List NodeD} {n:NodeD} {xs:List Value} {vi vw vb:Value} (h:RowsN w base l xs) (hl:xs.length=l.length*14) (hn:NodeOwn w base n vi vw vb):RowsN w base (l++[n]) (xs++nodeCells n vi vw vb):=by
 intro j hj;simp only [List.length_append,List.length_cons,List.length_nil] at hj;by_cases c:j<l.length
 ·obtain ⟨a1,a2,a3,k1,k2⟩:=h j c;have e:(l++[n]).getD j default=l.getD j default:=by simp [List.getD,List.getElem?_append_left c]
  rw [e];refine ⟨a1,a2,a3,k1,?_⟩;rw [List.drop_append_of_le_length (by omega),List.take_append_of_le_length (by rw [List.length_drop];omega)];exact k2
 ·obtain rfl:j=l.length:=by omega
  have e:(l++[n]).getD l.length default=n:=by simp [List.getD]
  rw [e];refine ⟨vi,vw,vb,hn,?_⟩;rw [<- hl,List.drop_left];rfl
def OwnNodes (w:World)(base:Nat)(v:Value)(l:List NodeD):Prop:=∃ xs,w.ownsRow base 63 14 v l.length xs/\RowsN w base l xs
theorem OwnNodes.nil (w:World)(base:Nat):OwnNodes w base (.slice none 0 0) []:=⟨[],World.ownsRow_nil _ _ _ _,RowsN.nil _ _⟩
theorem OwnNodes.keep {w w':World}{base P:Nat}{v:Value}{l:List NodeD}(h:OwnNodes w base v l)(g:Keep P w w')(hP:P<base):OwnNodes w' base v l:=by
 obtain⟨xs,h1,h2⟩:=h;exact⟨xs,own_keep h1 g hP,h2.map fun _ _ _ _ k=>k.keep g hP⟩
theorem OwnNodes.alloc {w:World}{base:Nat}{v:Value}{l:List NodeD}(h:OwnNodes w base v l)(x:Obj):OwnNodes (w.alloc x) base v l:=by
 obtain⟨xs,h1,h2⟩:=h;exact⟨xs,World.ownsRow.alloc h1 x,h2.map fun _ _ _ _ k=>k.alloc x⟩
theorem OwnNodes.set {w:World}{base Q o:Nat}{u v:Value}{l:List NodeD}(h:OwnNodes w base v l)(hQ:Q<base):OwnNodes (w.setCell ⟨Q,o,none⟩ u) base v l:=by
 obtain⟨xs,h1,h2⟩:=h;exact⟨xs,own_set h1 hQ,h2.map fun _ _ _ _ k=>k.set hQ⟩
theorem OwnNodes.less {w:World}{base base':Nat}{v:Value}{l:List NodeD}(h:OwnNodes w base v l)(hb:base'<=base):OwnNodes w base' v l:=by
 obtain⟨xs,h1,h2⟩:=h;exact⟨xs,own_more h1 hb,h2.map fun _ _ _ _ k=>k.more hb⟩
theorem nodeCells_one {w:World}{base:Nat}{n:NodeD}{vi vw vb:Value}(h:NodeOwn w base n vi vw vb):∀ u∈nodeCells n vi vw vb,u.oneCell'=true:=by
 obtain⟨a,b,rfl,_⟩:=own_slice' h.1;obtain⟨c,d,rfl,_⟩:=own_slice' h.2.1;obtain⟨e,f,rfl,_⟩:=own_slice' h.2.2;intro u hu;simp only [nodeCells,List.mem_cons,List.not_mem_nil,or_false] at hu;rcases hu with rfl|rfl|rfl|rfl|rfl|rfl|rfl|rfl|rfl|rfl|rfl|rfl|rfl|rfl <;> rfl
theorem own_len {w:World}{base e size n:Nat}{v:Value}{xs:List Value}(h:w.ownsRow base e size v n xs):xs.length=n*size:=h.1
set_option maxHeartbeats 4000000 in
theorem list_rd_node (many:Nat)(h1:1<=many)(h4:many<=4)(B P:Nat)(s:Rd)(W:World)(hr:RdAt W B P s) :
  Calls Tryz.prog 90 #[.pointer (some ⟨P,0,none⟩),.int .i64 (many:Int),.func (.func 91) #[.pointer (some ⟨P,0,none⟩)] #[]] W
   (ListPost (fun w' v=>OwnNodes w' W.heap.size v (listR many nodeR s).1) B P (listR many nodeR s).2 W):=by
 have hPW:=hr.lt;have C0:=LH (number_any many h1 h4 B P s W hr);have C1:=LH (fun s w (k:RdAt w B P s)=>node_rd B P s w k);obtain⟨nb0,nb1⟩:=numR_bd many s hr.bytesP;obtain⟨N,hN⟩:∃ N:Nat,(numR many s).1=(N:Int):=⟨(numR many s).1.toNat,by omega⟩
 have hN2:N<=4294967296:=by
  have:(256:Int) ^ many<=4294967296:=by
   rcases (show many=1\/many=2\/many=3\/many=4 by omega) with rfl|rfl|rfl|rfl <;> decide
  omega
 obtain⟨l0,s0⟩:∃ t,(numR many s).2=t:=⟨_,rfl⟩
 obtain⟨g,hg⟩:∃ g,goR nodeR N [] l0=g:=⟨_,rfl⟩
 have hl:listR many nodeR s=g:=by unfold listR;rw [hN,s0,Int.toNat_natCast,hg]
 rw [hl];rw [hN,s0] at C0;have HG:=LH hg;obtain⟨i0,hi0,hz0,hz1,hz2⟩:=info_parts infoNode';have I1:=LH hi0;have I2:=LH hz0;have I3:=LH hz1;have I4:=LH hz2;clear hi0 hz0 hz1 hz2 hr nb0 nb1 hN s0 hl hg h1 h4;go_enter Tryz.func90,Tryz.ntmps90;go_wp2_with fail;refine C0.out.mono ?_;rintro e w1 ⟨rfl,r1,k1⟩;have R1:=LH r1;have K1:=LH k1;have S1:W.heap.size<=w1.heap.size:=k1.2.2.1;clear r1 k1 C0;go_wp2_with fail;go_loopw [7,12] (fun v i wr=>∃ (k:Nat) (l:List NodeD) (st:Rd),k<=N/\i=.int .i64 k/\l.length=k/\Hid (goR nodeR (N-k) l st=g)/\Hid (OwnNodes wr W.heap.size v l)/\Hid (RdAt wr B P st)/\Hid (Keep P W wr)/\W.heap.size<=wr.heap.size) (fun _ i _=>N-(intOf i).toNat)
 case atStart=>exact⟨0,[],l0,by omega,rfl,rfl,LH HG.out,LH (OwnNodes.nil _ _),R1,K1,S1⟩
 case round =>
  clear R1 K1 S1 HG;obtain⟨k,l,st,hk,rfl,hll,hgo,own,rr,kk,ss⟩:=hrel;by_cases h:k<N
  ·obtain⟨m,hm⟩:∃ m,N-k=m+1:=⟨N-k-1,by omega⟩
   rw [hm] at hgo;go_wp2_with fail;refine(C1.out _ _ rr.out).mono ?_;rintro e w2 ⟨vi,vw,vb,rfl,no2,r2,k2⟩;have OW2:=LH (own.out.keep k2 hPW);have K2:=LH (kk.out.trans k2);have S2:W.heap.size<=w2.heap.size:=by have:=k2.2.2.1;omega
   have R2:=LH r2;obtain⟨A,cap,bx,fr,_,_,_⟩:=r2;obtain⟨x,hx⟩:∃ x,(nodeR st)=x:=⟨_,rfl⟩
   rw [hx] at R2 bx;simp only [hx];rw [hx] at no2;have NO2:=LH (no2.more (base':=W.heap.size) (by have:=kk.out.2.2.1;omega));obtain⟨Ai,ci,rfl,_,_⟩:=own_slice' no2.1;obtain⟨Aw,cw,rfl,_,_⟩:=own_slice' no2.2.1;obtain⟨Ab,cb,rfl,_,_⟩:=own_slice' no2.2.2;clear no2;obtain⟨y,t'⟩:=x;simp only at R2 bx NO2 ⊢;have hPS:P<w2.heap.size:=R2.out.lt;obtain⟨P8,hP8⟩:∃ P8,w2.heap.size=P8:=⟨_,rfl⟩
   go_upto_region 5 with fail;refine opq (fun w'=>(Bx w' P8 (nC y (.slice Ai y.ins.length ci) (.slice Aw y.ws.length cw) (.slice Ab y.bs.length cb)))/\(Bx w' P #[.slice A t'.rest.length cap,.bool t'.short])/\Hid (RdAt w' B P t')/\Hid (OwnNodes w' W.heap.size u7 l)/\Hid (Keep P W w')/\W.heap.size<=w'.heap.size/\P8<w'.heap.size/\Hid (NodeOwn w' W.heap.size y (.slice Ai y.ins.length ci) (.slice Aw y.ws.length cw) (.slice Ab y.bs.length cb))) (by
    subst hP8;exact⟨box_new rfl,box_old bx hPS,LH (R2.out.alloc _),LH (OW2.out.alloc _),LH (K2.out.alloc _),by simp;omega,by simp,LH (NO2.out.alloc _)⟩) ?_
   rintro w3 ⟨b3,bx3,R3,OW3,K3,S3,s3,NO3⟩;have hg3:=hgo.out;clear bx fr OW2 K2 R2 S2 own rr kk ss k2 hP8 hgo;rcases Bool.eq_false_or_eq_true t'.short with hs|hs
   ·have hr2:=goR_short (one:=nodeR) m l st (by rw [hx];exact hs);rw [hg3,hx] at hr2;have HR2:=LH hr2;clear hr2 hx hg3;rw [hs] at bx3;go_wp2_with fail;go_ret;exact⟨_,rfl,by rw [HR2.out];exact OwnNodes.nil _ _,by rw [HR2.out];exact R3.out,K3.out⟩
   ·have hr2:=goR_more (one:=nodeR) m l st (by rw [hx];exact hs);rw [hg3,hx] at hr2;have HR2:=LH hr2;obtain⟨xs,ow3,rw3⟩:=OW3.out;have HLT:=LH (World.ownsRow.lt ow3);have OWR:=LH ow3;have RW3:=LH rw3;have hxl:=own_len ow3;have HXL:=LH hxl;clear ow3 rw3 hxl;clear hr2 hx hg3;rw [hs] at bx3;go_wp2_with (at_builtin;refine wpList_append_own _ rfl (.tmp 20) (.tmp 22) 25 rfl W.heap.size 63 i0 _ 14 160 Tryz.underlying25 I1.out I2.out I3.out I4.out rfl (by decide) _ _ _ rfl (World.ownsRow.alloc OWR.out _) ⟨w3.heap.size,0,none⟩ 1 1 (nodeCells y (.slice Ai y.ins.length ci) (.slice Aw y.ws.length cw) (.slice Ab y.bs.length cb)) rfl rfl (fun j u hu=>cells_new' w3 _ 63 j u hu) (nodeCells_one NO3.out) ?c4 ?c5 ?c6 ?_)
    case c4=>unfold maxLen;omega
    case c5=>omega
    case c6=>first|omega|(simp;omega)
    intro v4 w4 hown4 hgrow _;have ho4:Hid (OwnNodes w4 W.heap.size v4 (l++[y])):=LH ⟨_,by
     rw [List.length_append,hll];exact hown4,((RW3.out.map fun _ _ _ _ k=>(k.alloc _).grow (World.ownsRow.alloc OWR.out _) hgrow).more (by rw [HXL.out]) ((NO3.out.alloc _).grow (World.ownsRow.alloc OWR.out _) hgrow))⟩
    have R4:=LH ((R3.out.alloc (.cells ⟨nodeCells y (.slice Ai y.ins.length ci) (.slice Aw y.ws.length cw) (.slice Ab y.bs.length cb)⟩ 63)).grownBy hgrow (fun j hj=>by have:=(HLT.out j hj).1;omega));have K4:=LH ((K3.out.alloc (.cells ⟨nodeCells y (.slice Ai y.ins.length ci) (.slice Aw y.ws.length cw) (.slice Ab y.bs.length cb)⟩ 63)).grownBy hgrow (fun j hj=>(HLT.out j hj).1));have S4:W.heap.size<=w4.heap.size:=by have:=hgrow.size;simp only [World.size_alloc] at this;omega
    clear hown4 hgrow HLT OWR RW3 HXL NO3 OW3 K3 R3 S3 bx3 b3;go_wp2_with fail;go_roundw
    case rel=>exact⟨k+1,l++[y],t',by omega,by go_num,by simp [hll],LH (by rw [HR2.out];congr 1;omega),ho4,R4,K4,S4⟩
    case measure=>simp [intOf];omega
  ·have e:N-k=0:=by omega
   have hgo':=hgo.out;rw [e,goR_end] at hgo';have HE:=LH hgo';clear hgo hgo' e;go_wp2_with fail;go_ret;exact⟨_,rfl,by rw [<- HE.out];exact own.out,by rw [<- HE.out];exact rr.out,kk.out⟩
end Go.Proofs.YtejllmjkeefloaaGreat
namespace Go.Proofs.YtejllmjkeefloaaGreat
open Go.ChangeShapes Go.WideShapes Go.ChangeAt Go.RowKit
set_option maxRecDepth 20000
set_option linter.unusedVariables false
theorem wf64 {x:Int}(h : -9223372036854775808<=x/\x<=9223372036854775807):(Lit.int .i64 x).wf=true:=by simpa [Lit.wf,IntKind.min,IntKind.max,IntKind.bits,IntKind.signed] using h
theorem wf8 {x:Int}(h : -128<=x/\x<128):(Lit.int .i8 x).wf=true:=by simp [Lit.wf,IntKind.min,IntKind.max,IntKind.bits,IntKind.signed];omega
theorem wf32 {x:Int}(h : -2147483648<=x/\x<2147483648):(Lit.int .i32 x).wf=true:=by simp [Lit.wf,IntKind.min,IntKind.max,IntKind.bits,IntKind.signed];omega
theorem num1_wf (s:Rd)(hb:bytesP s.rest):(Lit.int .i64 (numR 1 s).1).wf=true:=by have:=numR_bd 1 s hb;simp only [Int.reducePow] at this;exact wf64 (by omega)
theorem num2_wf (s:Rd)(hb:bytesP s.rest):(Lit.int .i64 (numR 2 s).1).wf=true:=by have:=numR_bd 2 s hb;simp only [Int.reducePow] at this;exact wf64 (by omega)
theorem small_wf (s:Rd):(Lit.int .i8 (smallR s).1).wf=true:=wf8 (wrap8_bd _)
theorem small_wf64 (s:Rd):(Lit.int .i64 (smallR s).1).wf=true:=wf64 (by have:=wrap8_bd (numR 1 s).1;unfold smallR;simp only;omega)
theorem wide_wf (s:Rd):(Lit.int .i32 (wideR s).1).wf=true:=wf32 (wrap32_bd _)
theorem goR_all {α:Type}{one:Rd->α×Rd}{ok:α->Prop}(h1:∀ s:Rd,bytesP s.rest->ok (one s).1)(h2:∀ s:Rd,bytesP s.rest->bytesP (one s).2.rest)(n:Nat)(l:List α)(s:Rd)(hb:bytesP s.rest)(hl:∀ x∈l,ok x):∀ x∈(goR one n l s).1,ok x:=by
 induction n generalizing l s with
 | zero=>exact hl
 | succ n ih =>
  unfold goR;split
  ·intro x hx;simp at hx
  ·refine ih _ _ (h2 s hb) (fun x hx=>?_);rcases List.mem_append.1 hx with k|k
   ·exact hl x k
   ·simp only [List.mem_cons,List.not_mem_nil,or_false] at k;subst k;exact h1 s hb
theorem listR_all {α:Type}{one:Rd->α×Rd}{ok:α->Prop}(h1:∀ s:Rd,bytesP s.rest->ok (one s).1)(h2:∀ s:Rd,bytesP s.rest->bytesP (one s).2.rest)(many:Nat)(s:Rd)(hb:bytesP s.rest):∀ x∈(listR many one s).1,ok x :=
 goR_all h1 h2 _ _ _ (numR_rest many s hb) (by simp)
theorem goR_len {α:Type}{one:Rd->α×Rd}(n:Nat)(l:List α)(s:Rd):(goR one n l s).1.length<=l.length+n:=by
 induction n generalizing l s with
 | zero=>simp [goR]
 | succ n ih =>
  unfold goR;split
  ·simp
  ·have:=ih (l++[(one s).1]) (one s).2;simp only [List.length_append,List.length_cons,List.length_nil] at this;omega
theorem listR_len {α:Type}{one:Rd->α×Rd}(many:Nat)(s:Rd)(hb:bytesP s.rest):((listR many one s).1.length:Int)<256 ^ many:=by
 have h1:=goR_len (one:=one) (numR many s).1.toNat [] (numR many s).2;have h2:=numR_bd many s hb;unfold listR;simp only [List.length_nil] at h1;omega
def wfN (n:NodeD):Prop:=NodeWf n/\(∀ x∈n.ins,(Lit.int .i64 x).wf=true)/\(∀ x∈n.ws,(Lit.int .i8 x).wf=true)/\(∀ x∈n.bs,(Lit.int .i32 x).wf=true)
theorem shape_wf (s:Rd)(hb:bytesP s.rest):(Lit.int .i64 (shapeR s).1.1).wf=true/\(Lit.int .i64 (shapeR s).1.2.1).wf=true/\(Lit.int .i64 (shapeR s).1.2.2).wf=true :=
 ⟨num1_wf s hb,num1_wf _ (numR_rest 1 s hb),num1_wf _ (numR_rest 1 _ (numR_rest 1 s hb))⟩
theorem valR_wf (s:Rd)(hb:bytesP s.rest):ValWf (valR s).1:=by
 obtain⟨h1,h2,h3⟩:=shape_wf s hb;exact⟨h1,h2,h3,small_wf64 _⟩
theorem nodeR_wf (s:Rd)(hb:bytesP s.rest):wfN (nodeR s).1:=by
 obtain⟨ra,ha⟩:∃ x,numR 1 s=x:=⟨_,rfl⟩
 obtain⟨rb,hb'⟩:∃ x,listR 1 (numR 1) ra.2=x:=⟨_,rfl⟩
 obtain⟨rc,hc⟩:∃ x,numR 1 rb.2=x:=⟨_,rfl⟩
 obtain⟨rd,hd⟩:∃ x,numR 1 rc.2=x:=⟨_,rfl⟩
 obtain⟨re,he⟩:∃ x,numR 1 rd.2=x:=⟨_,rfl⟩
 obtain⟨rf,hf⟩:∃ x,numR 1 re.2=x:=⟨_,rfl⟩
 obtain⟨rg,hg⟩:∃ x,numR 2 rf.2=x:=⟨_,rfl⟩
 obtain⟨rh,hh⟩:∃ x,numR 1 rg.2=x:=⟨_,rfl⟩
 obtain⟨ri,hi⟩:∃ x,smallR rh.2=x:=⟨_,rfl⟩
 obtain⟨rj,hj⟩:∃ x,shapeR ri.2=x:=⟨_,rfl⟩
 obtain⟨rk,hk⟩:∃ x,listR 2 smallR rj.2=x:=⟨_,rfl⟩
 obtain⟨rl,hl⟩:∃ x,listR 1 wideR rk.2=x:=⟨_,rfl⟩
 have e:nodeR s=(⟨ra.1,rb.1,rc.1,rd.1,re.1,rf.1,rg.1,rh.1,ri.1,rj.1.1,rj.1.2.1,rj.1.2.2,rk.1,rl.1⟩,rl.2):=by
  simp only [nodeR,ha,hb',hc,hd,he,hf,hg,hh,hi,hj,hk,hl]
 rw [e];have b1:bytesP ra.2.rest:=by rw [<- ha];exact numR_rest 1 s hb
 have b2:bytesP rb.2.rest:=by rw [<- hb'];exact listR_rest1 _ b1
 have b3:bytesP rc.2.rest:=by rw [<- hc];exact numR_rest 1 _ b2
 have b4:bytesP rd.2.rest:=by rw [<- hd];exact numR_rest 1 _ b3
 have b5:bytesP re.2.rest:=by rw [<- he];exact numR_rest 1 _ b4
 have b6:bytesP rf.2.rest:=by rw [<- hf];exact numR_rest 1 _ b5
 have b7:bytesP rg.2.rest:=by rw [<- hg];exact numR_rest 2 _ b6
 have b8:bytesP rh.2.rest:=by rw [<- hh];exact numR_rest 1 _ b7
 have b9:bytesP ri.2.rest:=by rw [<- hi];exact smallR_rest _ b8
 have b10:bytesP rj.2.rest:=by rw [<- hj];exact shapeR_rest _ b9
 have b11:bytesP rk.2.rest:=by rw [<- hk];exact listR_rest2 _ b10
 have w0:=num1_wf s hb;have w1:=listR_all (ok:=fun x=>(Lit.int .i64 x).wf=true) (fun s h=>num1_wf s h) (numR_rest 1) 1 _ b1;have w2:=num1_wf _ b2;have w3:=num1_wf _ b3;have w4:=num1_wf _ b4;have w5:=num1_wf _ b5;have w6:=num2_wf _ b6;have w7:=num1_wf _ b7;have w8:=small_wf64 rh.2;obtain⟨s1,s2,s3⟩:=shape_wf _ b9;have w9:=listR_all (ok:=fun x=>(Lit.int .i8 x).wf=true) (fun s h=>small_wf s) smallR_rest 2 _ b10;have w10:=listR_all (ok:=fun x=>(Lit.int .i32 x).wf=true) (fun s h=>wide_wf s) wideR_rest 1 _ b11;rw [ha] at w0;rw [hb'] at w1;rw [hc] at w2;rw [hd] at w3;rw [he] at w4;rw [hf] at w5;rw [hg] at w6;rw [hh] at w7;rw [hi] at w8;rw [hj] at s1 s2 s3;rw [hk] at w9;rw [hl] at w10;exact⟨⟨w0,w2,w3,w4,w5,w6,w7,w8,s1,s2,s3⟩,w1,w9,w10⟩
theorem nodeR_small (s:Rd)(hb:bytesP s.rest):(nodeR s).1.ins.length<=1000/\(nodeR s).1.ws.length<=100000:=by
 obtain⟨ra,ha⟩:∃ x,numR 1 s=x:=⟨_,rfl⟩
 obtain⟨rb,hb'⟩:∃ x,listR 1 (numR 1) ra.2=x:=⟨_,rfl⟩
 obtain⟨rc,hc⟩:∃ x,numR 1 rb.2=x:=⟨_,rfl⟩
 obtain⟨rd,hd⟩:∃ x,numR 1 rc.2=x:=⟨_,rfl⟩
 obtain⟨re,he⟩:∃ x,numR 1 rd.2=x:=⟨_,rfl⟩
 obtain⟨rf,hf⟩:∃ x,numR 1 re.2=x:=⟨_,rfl⟩
 obtain⟨rg,hg⟩:∃ x,numR 2 rf.2=x:=⟨_,rfl⟩
 obtain⟨rh,hh⟩:∃ x,numR 1 rg.2=x:=⟨_,rfl⟩
 obtain⟨ri,hi⟩:∃ x,smallR rh.2=x:=⟨_,rfl⟩
 obtain⟨rj,hj⟩:∃ x,shapeR ri.2=x:=⟨_,rfl⟩
 obtain⟨rk,hk⟩:∃ x,listR 2 smallR rj.2=x:=⟨_,rfl⟩
 obtain⟨rl,hl⟩:∃ x,listR 1 wideR rk.2=x:=⟨_,rfl⟩
 have e:nodeR s=(⟨ra.1,rb.1,rc.1,rd.1,re.1,rf.1,rg.1,rh.1,ri.1,rj.1.1,rj.1.2.1,rj.1.2.2,rk.1,rl.1⟩,rl.2):=by
  simp only [nodeR,ha,hb',hc,hd,he,hf,hg,hh,hi,hj,hk,hl]
 rw [e];have b1:bytesP ra.2.rest:=by rw [<- ha];exact numR_rest 1 s hb
 have b2:bytesP rb.2.rest:=by rw [<- hb'];exact listR_rest1 _ b1
 have b3:bytesP rc.2.rest:=by rw [<- hc];exact numR_rest 1 _ b2
 have b4:bytesP rd.2.rest:=by rw [<- hd];exact numR_rest 1 _ b3
 have b5:bytesP re.2.rest:=by rw [<- he];exact numR_rest 1 _ b4
 have b6:bytesP rf.2.rest:=by rw [<- hf];exact numR_rest 1 _ b5
 have b7:bytesP rg.2.rest:=by rw [<- hg];exact numR_rest 2 _ b6
 have b8:bytesP rh.2.rest:=by rw [<- hh];exact numR_rest 1 _ b7
 have b9:bytesP ri.2.rest:=by rw [<- hi];exact smallR_rest _ b8
 have b10:bytesP rj.2.rest:=by rw [<- hj];exact shapeR_rest _ b9
 have l1:=listR_len (one:=numR 1) 1 _ b1;have l2:=listR_len (one:=smallR) 2 _ b10;rw [hb'] at l1;rw [hk] at l2;simp only [Int.reducePow] at l1 l2;simp only;omega
theorem nums_of_ownI {k:IntKind}{t:TypeId}{w:World}{base:Nat}{v:Value}{xs:List Int}(ho:OwnI k t w base v xs)(wf:∀ x∈xs,(Lit.int k x).wf=true):IsNums k w v xs:=by
 obtain⟨hl,h⟩:=ho;rcases h with ⟨rfl,h0⟩|⟨b,cap,cur,rfl,hb,hg,hn,hm,hs,ht⟩
 ·have:xs=[]:=List.eq_nil_of_length_eq_zero h0;subst this;exact⟨none,0,rfl,Nat.le_refl _,Nat.zero_le _,fun _=>rfl,by simp,by simp⟩
 ·refine⟨some ⟨b,0,none⟩,cap,rfl,hn,hm,(fun h=>by cases h),wf,fun hp=>⟨b,0,rfl,(Array.getElem?_eq_some_iff.1 hg).1,fun i hi=>?_⟩⟩;have key:w.cell? ⟨b,0+i,none⟩=(xs.map (Value.int k))[i]?:=by
   rw [<- ht,List.getElem?_take_of_lt (by omega)];simp [World.cell?,hg]
  rw [key];simp [List.getD,hi]
theorem nodeIn_of_own {w:World}{base:Nat}{n:NodeD}{vi vw vb:Value}(h:NodeOwn w base n vi vw vb)(wf:wfN n):NodeIn w n vi vw vb:=⟨nums_of_ownI h.1 wf.2.1,nums_of_ownI h.2.1 wf.2.2.1,nums_of_ownI h.2.2 wf.2.2.2⟩
theorem nodes_of_ownN {w:World}{base:Nat}{v:Value}{ns:List NodeD}(h:OwnNodes w base v ns)(wf:∀ n∈ns,wfN n):IsNodes w v ns:=by
 obtain⟨xs,ho,hr⟩:=h;obtain⟨hl,h⟩:=ho;rcases h with ⟨rfl,h0⟩|⟨b,cap,cur,rfl,hb,hg,hn,hm,hs,ht⟩
 ·have:ns=[]:=List.eq_nil_of_length_eq_zero h0;subst this;exact⟨none,0,rfl,Nat.le_refl _,Nat.zero_le _,fun _=>rfl,by simp,by simp⟩
 ·refine⟨some ⟨b,0,none⟩,cap,rfl,hn,hm,(fun h=>by cases h),fun n hn=>(wf n hn).1,fun hp=>⟨b,0,rfl,(Array.getElem?_eq_some_iff.1 hg).1,fun i hi=>?_⟩⟩;obtain⟨vi,vw,vb,h1,h2⟩:=hr i hi;have mem:ns.getD i default∈ns:=by simp [List.getD,hi]
  refine⟨vi,vw,vb,nodeIn_of_own h1 (wf _ mem),fun j hj=>?_⟩;have key:w.cell? ⟨b,0+i*14+j,none⟩=xs[i*14+j]?:=by
   rw [<- ht,List.getElem?_take_of_lt (by omega)];simp [World.cell?,hg]
  rw [key,<- h2,List.getElem?_take_of_lt hj,List.getElem?_drop]
theorem graphR_graph {w:World} {B0 B1 B2:Nat} {a b c:Value} {s:Rd} (hb:bytesP s.rest) (ha:OwnVals w B0 a (graphR s).1.ins) (hn:OwnNodes w B1 b (graphR s).1.nodes) (ho:OwnI .i64 3 w B2 c (graphR s).1.outs):IsGraph w (.agg #[a,b,c]) (graphR s).1:=by
 obtain ⟨ra,ha'⟩:∃ x,listR 1 valR s=x:=⟨_,rfl⟩
 obtain ⟨rb,hb'⟩:∃ x,listR 1 nodeR ra.2=x:=⟨_,rfl⟩
 obtain ⟨rc,hc'⟩:∃ x,listR 1 (numR 1) rb.2=x:=⟨_,rfl⟩
 have e:graphR s=(⟨ra.1,rb.1,rc.1⟩,rc.2):=by simp only [graphR,ha',hb',hc']
 have b1:bytesP ra.2.rest:=by rw [<- ha'];exact listR_rest valR_rest 1 s hb
 have b2:bytesP rb.2.rest:=by rw [<- hb'];exact listR_rest nodeR_rest 1 _ b1
 rw [e] at ha hn ho ⊢;have w1:=listR_all valR_wf valR_rest 1 s hb;have w2:=listR_all nodeR_wf nodeR_rest 1 _ b1;have w3:=listR_all (ok:=fun x=>(Lit.int .i64 x).wf=true) (fun s h=>num1_wf s h) (numR_rest 1) 1 _ b2;rw [ha'] at w1;rw [hb'] at w2;rw [hc'] at w3;exact ⟨a,b,c,rfl,vals_of_own ha w1,nodes_of_ownN hn w2,nums_of_ownI ho w3⟩
theorem graphR_cut (s:Rd)(hb:bytesP s.rest):Cut (graphR s).1:=by
 obtain⟨ra,ha'⟩:∃ x,listR 1 valR s=x:=⟨_,rfl⟩
 obtain⟨rb,hb'⟩:∃ x,listR 1 nodeR ra.2=x:=⟨_,rfl⟩
 obtain⟨rc,hc'⟩:∃ x,listR 1 (numR 1) rb.2=x:=⟨_,rfl⟩
 have e:graphR s=(⟨ra.1,rb.1,rc.1⟩,rc.2):=by simp only [graphR,ha',hb',hc']
 have b1:bytesP ra.2.rest:=by rw [<- ha'];exact listR_rest valR_rest 1 s hb
 have b2:bytesP rb.2.rest:=by rw [<- hb'];exact listR_rest nodeR_rest 1 _ b1
 have l1:=listR_len (one:=numR 1) 1 _ b2;have w2:=listR_all (ok:=fun n:NodeD=>n.ins.length<=1000/\n.ws.length<=100000) nodeR_small nodeR_rest 1 _ b1;rw [hc'] at l1;rw [hb'] at w2;rw [e];simp only [Int.reducePow] at l1;exact⟨by simp only;omega,w2⟩
end Go.Proofs.YtejllmjkeefloaaGreat
namespace Go.Proofs.YtejllmjkeefloaaGreat
open Go.ChangeShapes Go.WideShapes Go.ChangeAt Go.RowKit
set_option maxRecDepth 20000
set_option linter.unusedVariables false
def GraphPost (B P:Nat)(g:GraphD)(t:Rd)(W:World)(e:Ending)(w':World):Prop:=∃ gv,e=.returned gv/\IsGraph w' gv g/\RdAt w' B P t/\Keep P W w'
set_option maxHeartbeats 8000000 in
theorem graph_rd (B P:Nat) (s:Rd) (W:World) (hr:RdAt W B P s):Calls Tryz.prog 61 #[.pointer (some ⟨P,0,none⟩)] W (GraphPost B P (graphR s).1 (graphR s).2 W):=by
 obtain ⟨ra,ha⟩:∃ x,listR 1 valR s=x:=⟨_,rfl⟩
 obtain ⟨rb,hb⟩:∃ x,listR 1 nodeR ra.2=x:=⟨_,rfl⟩
 obtain ⟨rc,hc⟩:∃ x,listR 1 (numR 1) rb.2=x:=⟨_,rfl⟩
 have e:graphR s=(⟨ra.1,rb.1,rc.1⟩,rc.2):=by simp only [graphR,ha,hb,hc]
 have FIN:Hid (∀ (w:World) (B0 B1 B2:Nat) (a b c:Value),OwnVals w B0 a ra.1→OwnNodes w B1 b rb.1→OwnI .i64 3 w B2 c rc.1→IsGraph w (.agg #[a,b,c]) ⟨ra.1,rb.1,rc.1⟩):=LH (by
  intro w B0 B1 B2 a b c h1 h2 h3
  have:=graphR_graph (w:=w) (B0:=B0) (B1:=B1) (B2:=B2) (a:=a) (b:=b) (c:=c) (s:=s) hr.bytesP (by rw [e];exact h1) (by rw [e];exact h2) (by rw [e];exact h3)
  rw [e] at this
  exact this)
 rw [e]
 have hPW:=hr.lt
 have R:=LH hr
 clear hr e
 have Ca:=LH (fun w (k:RdAt w B P s)=>list_rd_val 1 (by omega) (by omega) B P s w k)
 rw [ha] at Ca
 have Cb:=LH (fun w (k:RdAt w B P ra.2)=>list_rd_node 1 (by omega) (by omega) B P ra.2 w k)
 rw [hb] at Cb
 have Cc:=LH (fun w (k:RdAt w B P rb.2)=>list_rd_int 1 (by omega) (by omega) B P rb.2 w k)
 rw [hc] at Cc
 clear ha hb hc
 go_enter Tryz.func61,Tryz.ntmps61
 go_upto_region 2 with fail
 obtain ⟨Q,hQ⟩:∃ Q,W.heap.size=Q:=⟨_,rfl⟩
 refine opq (fun w'=>(Bx w' Q #[.slice none 0 0,.slice none 0 0,.slice none 0 0])∧(Fr w' Q)∧(Bx w' (Q+1) #[.slice none 0 0,.slice none 0 0,.slice none 0 0])∧(Fr w' (Q+1))∧Hid (RdAt w' B P s)∧Hid (Keep P W w')∧Q+2≤w'.heap.size) (by
  subst hQ
  exact ⟨by (exact kKeep),by (exact kKeep),by (exact kKeep),by (exact kKeep),LH ((R.out.alloc _).alloc _),LH (((Keep.refl P W).alloc _).alloc _),by simp⟩) ?_
 rintro w0 ⟨q0,f0,b0,g0,R0,K0,s0⟩
 try rw [hQ]
 try simp only [World.size_alloc,hQ]
 go_wp2_with fail
 refine (Ca.out _ R0.out).mono ?_
 rintro e w1 ⟨va,rfl,o1,r1,k1⟩
 have q1:=box_keep k1 q0 (by omega) (by omega)
 have f1:=free_keep k1 f0 (by omega) (by omega)
 have b1:=box_keep k1 b0 (by omega) (by omega)
 have g1:=free_keep k1 g0 (by omega) (by omega)
 have s1:Q+2≤w1.heap.size:=by have:=k1.2.2.1;omega
 have R1:=LH r1
 have K1:=LH (K0.out.trans k1)
 obtain ⟨Aa,ca,rfl,_,_⟩:=own_slice' o1
 have Oa_1:Hid (OwnVals w1 (Q+2) (.slice Aa ra.1.length ca) ra.1):=LH (own_more o1 (by omega))
 clear q0 f0 b0 g0 s0 R0 K0 Ca r1 k1 o1
 go_upto_region 3 with fail
 refine opq (fun w'=>(Bx w' Q #[.slice none 0 0,.slice none 0 0,.slice none 0 0])∧(Fr w' Q)∧(Bx w' (Q+1) #[.slice Aa ra.1.length ca,.slice none 0 0,.slice none 0 0])∧(Fr w' (Q+1))∧Hid (RdAt w' B P ra.2)∧Hid (Keep P W w')∧Q+2≤w'.heap.size∧Hid (OwnVals w' (Q+2) (.slice Aa ra.1.length ca) ra.1)) ⟨by (exact kKeep),by (exact kKeep),(box_at b1 0 (by simp) (.slice Aa ra.1.length ca)),by (exact kKeep),LH (R1.out.set (by omega)),LH (K1.out.setNew (by omega)),by simpa only [size_setCell] using s1,LH (own_set Oa_1.out (by omega))⟩ ?_
 rintro w2 ⟨q2,f2,b2,g2,R2,K2,s2,Oa_2⟩
 clear q1 f1 b1 g1 s1 R1 K1 Oa_1
 go_wp2_with fail
 refine (Cb.out _ R2.out).mono ?_
 rintro e w3 ⟨vb,rfl,o1,r1,k1⟩
 have q3:=box_keep k1 q2 (by omega) (by omega)
 have f3:=free_keep k1 f2 (by omega) (by omega)
 have b3:=box_keep k1 b2 (by omega) (by omega)
 have g3:=free_keep k1 g2 (by omega) (by omega)
 have s3:Q+2≤w3.heap.size:=by have:=k1.2.2.1;omega
 have R3:=LH r1
 have K3:=LH (K2.out.trans k1)
 have Oa_3:=LH (own_keep Oa_2.out k1 (by omega))
 obtain ⟨Ab,cb,rfl,_,_⟩:=own_slice' o1.choose_spec.1
 have Ob_3:Hid (OwnNodes w3 (Q+2) (.slice Ab rb.1.length cb) rb.1):=LH (o1.less (by omega))
 clear q2 f2 b2 g2 s2 R2 K2 Oa_2 Cb r1 k1 o1
 go_upto_region 4 with fail
 refine opq (fun w'=>(Bx w' Q #[.slice none 0 0,.slice none 0 0,.slice none 0 0])∧(Fr w' Q)∧(Bx w' (Q+1) #[.slice Aa ra.1.length ca,.slice Ab rb.1.length cb,.slice none 0 0])∧(Fr w' (Q+1))∧Hid (RdAt w' B P rb.2)∧Hid (Keep P W w')∧Q+2≤w'.heap.size∧Hid (OwnVals w' (Q+2) (.slice Aa ra.1.length ca) ra.1)∧Hid (OwnNodes w' (Q+2) (.slice Ab rb.1.length cb) rb.1)) ⟨by (exact kKeep),by (exact kKeep),(box_at b3 1 (by simp) (.slice Ab rb.1.length cb)),by (exact kKeep),LH (R3.out.set (by omega)),LH (K3.out.setNew (by omega)),by simpa only [size_setCell] using s3,LH (own_set Oa_3.out (by omega)),LH (Ob_3.out.set (by omega))⟩ ?_
 rintro w4 ⟨q4,f4,b4,g4,R4,K4,s4,Oa_4,Ob_4⟩
 clear q3 f3 b3 g3 s3 R3 K3 Oa_3 Ob_3
 go_wp2_with fail
 refine (Cc.out _ R4.out).mono ?_
 rintro e w5 ⟨vc,rfl,o1,r1,k1⟩
 have q5:=box_keep k1 q4 (by omega) (by omega)
 have f5:=free_keep k1 f4 (by omega) (by omega)
 have b5:=box_keep k1 b4 (by omega) (by omega)
 have g5:=free_keep k1 g4 (by omega) (by omega)
 have s5:Q+2≤w5.heap.size:=by have:=k1.2.2.1;omega
 have R5:=LH r1
 have K5:=LH (K4.out.trans k1)
 have Oa_5:=LH (own_keep Oa_4.out k1 (by omega))
 have Ob_5:=LH (Ob_4.out.keep k1 (by omega))
 obtain ⟨Ac,cc,rfl,_,_⟩:=own_slice' o1
 have Oc_5:Hid (OwnI .i64 3 w5 (Q+2) (.slice Ac rc.1.length cc) rc.1):=LH (own_moreI o1 (by omega))
 clear q4 f4 b4 g4 s4 R4 K4 Oa_4 Ob_4 Cc r1 k1 o1
 go_upto_region 5 with fail
 refine opq (fun w'=>(Bx w' Q #[.slice none 0 0,.slice none 0 0,.slice none 0 0])∧(Fr w' Q)∧(Bx w' (Q+1) #[.slice Aa ra.1.length ca,.slice Ab rb.1.length cb,.slice Ac rc.1.length cc])∧(Fr w' (Q+1))∧Hid (RdAt w' B P rc.2)∧Hid (Keep P W w')∧Q+2≤w'.heap.size∧Hid (OwnVals w' (Q+2) (.slice Aa ra.1.length ca) ra.1)∧Hid (OwnNodes w' (Q+2) (.slice Ab rb.1.length cb) rb.1)∧Hid (OwnI .i64 3 w' (Q+2) (.slice Ac rc.1.length cc) rc.1)) ⟨by (exact kKeep),by (exact kKeep),(box_at b5 2 (by simp) (.slice Ac rc.1.length cc)),by (exact kKeep),LH (R5.out.set (by omega)),LH (K5.out.setNew (by omega)),by simpa only [size_setCell] using s5,LH (own_set Oa_5.out (by omega)),LH (Ob_5.out.set (by omega)),LH (own_set Oc_5.out (by omega))⟩ ?_
 rintro w6 ⟨q6,f6,b6,g6,R6,K6,s6,Oa_6,Ob_6,Oc_6⟩
 clear q5 f5 b5 g5 s5 R5 K5 Oa_5 Ob_5 Oc_5
 go_wp2_with fail
 obtain ⟨b9,R9,K9,OA,OB,OC⟩:(Bx (((w6.setCell ⟨Q,0,none⟩ (.slice Aa ra.1.length ca)).setCell ⟨Q,1,none⟩ (.slice Ab rb.1.length cb)).setCell ⟨Q,2,none⟩ (.slice Ac rc.1.length cc)) Q #[.slice Aa ra.1.length ca,.slice Ab rb.1.length cb,.slice Ac rc.1.length cc])∧Hid (RdAt (((w6.setCell ⟨Q,0,none⟩ (.slice Aa ra.1.length ca)).setCell ⟨Q,1,none⟩ (.slice Ab rb.1.length cb)).setCell ⟨Q,2,none⟩ (.slice Ac rc.1.length cc)) B P rc.2)∧Hid (Keep P W (((w6.setCell ⟨Q,0,none⟩ (.slice Aa ra.1.length ca)).setCell ⟨Q,1,none⟩ (.slice Ab rb.1.length cb)).setCell ⟨Q,2,none⟩ (.slice Ac rc.1.length cc)))∧Hid (OwnVals (((w6.setCell ⟨Q,0,none⟩ (.slice Aa ra.1.length ca)).setCell ⟨Q,1,none⟩ (.slice Ab rb.1.length cb)).setCell ⟨Q,2,none⟩ (.slice Ac rc.1.length cc)) (Q+2) (.slice Aa ra.1.length ca) ra.1)∧Hid (OwnNodes (((w6.setCell ⟨Q,0,none⟩ (.slice Aa ra.1.length ca)).setCell ⟨Q,1,none⟩ (.slice Ab rb.1.length cb)).setCell ⟨Q,2,none⟩ (.slice Ac rc.1.length cc)) (Q+2) (.slice Ab rb.1.length cb) rb.1)∧Hid (OwnI .i64 3 (((w6.setCell ⟨Q,0,none⟩ (.slice Aa ra.1.length ca)).setCell ⟨Q,1,none⟩ (.slice Ab rb.1.length cb)).setCell ⟨Q,2,none⟩ (.slice Ac rc.1.length cc)) (Q+2) (.slice Ac rc.1.length cc) rc.1) :=
  ⟨box_set3 q6,LH (((R6.out.set (by omega)).set (by omega)).set (by omega)),LH (((K6.out.setNew (by omega)).setNew (by omega)).setNew (by omega)),LH (own_set (own_set (own_set Oa_6.out (by omega)) (by omega)) (by omega)),LH (((Ob_6.out.set (by omega)).set (by omega)).set (by omega)),LH (own_set (own_set (own_set Oc_6.out (by omega)) (by omega)) (by omega))⟩
 generalize (((w6.setCell ⟨Q,0,none⟩ (.slice Aa ra.1.length ca)).setCell ⟨Q,1,none⟩ (.slice Ab rb.1.length cb)).setCell ⟨Q,2,none⟩ (.slice Ac rc.1.length cc))=w9 at *
 exact bodyPost_ret (v:=.agg #[.slice Aa ra.1.length ca,.slice Ab rb.1.length cb,.slice Ac rc.1.length cc]) (by simp [results,Tryz.results61,go_sem,b9]) rfl ⟨_,rfl,FIN.out _ _ _ _ _ _ _ OA.out OB.out OC.out,R9.out,K9.out⟩
end Go.Proofs.YtejllmjkeefloaaGreat
