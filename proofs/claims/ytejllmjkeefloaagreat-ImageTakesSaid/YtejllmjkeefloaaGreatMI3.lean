/- isa: fields of a kind, all of them. Rows of bytes that a call owns, and what an append to them leaves alone; lay. A row of bytes in a block of its own; the program's Seal. -/
import Derived.Test.YtejllmjkeefloaaGreatMI1
import Derived.OwnWalk
import Derived.Laws.AppendOwn
import Derived.Laws.OwnMore
import Derived.Laws.CopyOwn
import Derived.Test.YtejllmjkeefloaaGreatMG6A
namespace Go.Proofs.YtejllmjkeefloaaGreat.Q8
open Go.ChangeShapes Go.WideShapes Go.ChangeAt Go.RowKit
set_option maxRecDepth 20000
set_option linter.unusedVariables false
set_option linter.unusedSimpArgs false
def FieldsPost (k:Int)(P:Nat)(W:World)(e:Ending)(w':World):Prop:=∃ v,e=.returned (.tuple #[v,.bool (decide (kindP k))])/\IsFlds w' P v (fldsD k)/\Past W w'
def RowT (w:World)(P:Nat)(v:Value):Prop:=∃ b,v=.slice (some ⟨b,0,none⟩) 10 10/\b<w.heap.size/\(Bx w b ⟨fldsC P [⟨2,0,11,1⟩,⟨3,0,15,1⟩,⟨4,1,16,1⟩,⟨7,0,1023,2⟩,⟨8,0,1023,2⟩,⟨10,0,15,1⟩,⟨12,0,16,1⟩,⟨9,0,1023,2⟩,⟨11,0,15,1⟩,⟨13,0,16,1⟩]⟩)
theorem RowT.past {w w':World}{P:Nat}{v:Value}(h:RowT w P v)(g:Past w w'):RowT w' P v:=by
 obtain⟨b,e,hb,hc⟩:=h;exact⟨b,e,Nat.lt_of_lt_of_le hb g.2.2.1,box_past g hc hb⟩
def JT (P:Nat)(i:Nat)(x:Value)(w:World):Prop:=match i with
 | 5=>x=fldV P ⟨8+0,0,1023,2⟩
 | 7=>x=fldV P ⟨10+0,0,15,1⟩
 | 9=>x=fldV P ⟨12+0,0,16,1⟩
 | 11=>x=fldV P ⟨8+1,0,1023,2⟩
 | 13=>x=fldV P ⟨10+1,0,15,1⟩
 | 15=>x=fldV P ⟨12+1,0,16,1⟩
 | 16=>RowT w P x
 | 17=>∃ y,x=.tuple #[y,.bool true]/\RowT w P y
 | 18=>RowT w P x
 | 19=>x=.bool true
 | 20=>RowT w P x
 | 21=>x=.bool true
 | _=>True
theorem JT_past {P i:Nat}{x:Value}{w w':World}(p:Past w w')(h:JT P i x w):JT P i x w':=by
 unfold JT at *;split at h <;> first|exact h|exact RowT.past h p|(obtain⟨y,e,h⟩:=h;exact⟨y,e,h.past p⟩)
set_option maxHeartbeats 4000000 in
theorem fields_load (k:Int) (hk:k=1∨k=2) (P:Nat) (W:World) (h0:W.cell? ⟨P,0,none⟩=some (.int .i64 k)):Calls Tryz.prog 103 #[.pointer (some ⟨P,0,none⟩)] W (FieldsPost k P W):=by
 have hP:=cell_lt h0
 have eF:fldsD k=[⟨4,1,16,1⟩,⟨5,1,128,2⟩,⟨6,0,65535,3⟩,⟨7,0,1023,2⟩]:=by
  rcases hk with rfl|rfl <;> rfl
 have dk:decide (kindP k)=true:=by
  rcases hk with rfl|rfl <;> decide
 unfold FieldsPost
 rw [eF,dk]
 clear eF dk
 rcases hk with rfl|rfl
 ·go_enter Tryz.func103,Tryz.ntmps103
  go_upto_region 11 with fail
  obtain ⟨Q,hQ⟩:∃ Q,W.heap.size=Q:=⟨_,rfl⟩
  refine opq (fun w'=>(Bx w' Q #[.pointer (some ⟨P,0,none⟩)])∧(Bx w' (Q+1) #[.pointer (some ⟨P,1,none⟩),.int .i64 0,.int .i64 7,.int .i64 1])∧(Bx w' (Q+2) #[.pointer (some ⟨P,2,none⟩),.int .i64 0,.int .i64 11,.int .i64 1])∧(Bx w' (Q+3) #[.pointer (some ⟨P,3,none⟩),.int .i64 0,.int .i64 15,.int .i64 1])∧(Bx w' (Q+4) #[.pointer (some ⟨P,4,none⟩),.int .i64 1,.int .i64 16,.int .i64 1])∧(Bx w' (Q+5) #[.pointer (some ⟨P,5,none⟩),.int .i64 1,.int .i64 128,.int .i64 2])∧(Bx w' (Q+6) #[.pointer (some ⟨P,6,none⟩),.int .i64 0,.int .i64 65535,.int .i64 3])∧(Bx w' (Q+7) #[.pointer (some ⟨P,7,none⟩),.int .i64 0,.int .i64 1023,.int .i64 2])∧w'.cell? ⟨P,0,none⟩=some (.int .i64 1)∧Past W w'∧Q+8≤w'.heap.size) (by subst hQ;(exact kKeep)) ?_
  rintro w1 ⟨b0,b1,b2,b3,b4,b5,b6,b7,c0,p1,z1⟩
  try simp only [World.size_alloc,hQ]
  have P1:=LH p1
  have Z1:=LH z1
  clear p1 z1 h0 hP hQ
  go_wp2_with fail
  refine (told_any _ _ _ _ rfl _).mono ?_
  rintro e w2 ⟨rfl,rfl⟩
  go_wp2_with fail
  go_ret2
  refine ⟨_,rfl,?_,P1.out.alloc _⟩
  exact .inr ⟨w1.heap.size,rfl,by simp,box_new rfl⟩
 ·go_enter Tryz.func103,Tryz.ntmps103
  go_upto_region 11 with fail
  obtain ⟨Q,hQ⟩:∃ Q,W.heap.size=Q:=⟨_,rfl⟩
  refine opq (fun w'=>(Bx w' Q #[.pointer (some ⟨P,0,none⟩)])∧(Bx w' (Q+1) #[.pointer (some ⟨P,1,none⟩),.int .i64 0,.int .i64 7,.int .i64 1])∧(Bx w' (Q+2) #[.pointer (some ⟨P,2,none⟩),.int .i64 0,.int .i64 11,.int .i64 1])∧(Bx w' (Q+3) #[.pointer (some ⟨P,3,none⟩),.int .i64 0,.int .i64 15,.int .i64 1])∧(Bx w' (Q+4) #[.pointer (some ⟨P,4,none⟩),.int .i64 1,.int .i64 16,.int .i64 1])∧(Bx w' (Q+5) #[.pointer (some ⟨P,5,none⟩),.int .i64 1,.int .i64 128,.int .i64 2])∧(Bx w' (Q+6) #[.pointer (some ⟨P,6,none⟩),.int .i64 0,.int .i64 65535,.int .i64 3])∧(Bx w' (Q+7) #[.pointer (some ⟨P,7,none⟩),.int .i64 0,.int .i64 1023,.int .i64 2])∧w'.cell? ⟨P,0,none⟩=some (.int .i64 2)∧Past W w'∧Q+8≤w'.heap.size) (by subst hQ;(exact kKeep)) ?_
  rintro w1 ⟨b0,b1,b2,b3,b4,b5,b6,b7,c0,p1,z1⟩
  try simp only [World.size_alloc,hQ]
  have P1:=LH p1
  have Z1:=LH z1
  clear p1 z1 h0 hP hQ
  go_wp2_with fail
  refine (told_any _ _ _ _ rfl _).mono ?_
  rintro e w2 ⟨rfl,rfl⟩
  go_wp2_with fail
  go_ret2
  refine ⟨_,rfl,?_,P1.out.alloc _⟩
  exact .inr ⟨w1.heap.size,rfl,by simp,box_new rfl⟩
set_option maxHeartbeats 4000000 in
theorem fields_kernel (k:Int) (hk:k=4) (P:Nat) (W:World) (h0:W.cell? ⟨P,0,none⟩=some (.int .i64 k)):Calls Tryz.prog 103 #[.pointer (some ⟨P,0,none⟩)] W (FieldsPost k P W):=by
 have hP:=cell_lt h0
 have eF:fldsD k=[⟨2,0,11,1⟩,⟨4,1,16,1⟩]:=by
  subst hk;rfl
 have dk:decide (kindP k)=true:=by
  subst hk;decide
 unfold FieldsPost
 rw [eF,dk]
 clear eF dk
 subst hk
 go_enter Tryz.func103,Tryz.ntmps103
 go_upto_region 11 with fail
 obtain ⟨Q,hQ⟩:∃ Q,W.heap.size=Q:=⟨_,rfl⟩
 refine opq (fun w'=>(Bx w' Q #[.pointer (some ⟨P,0,none⟩)])∧(Bx w' (Q+1) #[.pointer (some ⟨P,1,none⟩),.int .i64 0,.int .i64 7,.int .i64 1])∧(Bx w' (Q+2) #[.pointer (some ⟨P,2,none⟩),.int .i64 0,.int .i64 11,.int .i64 1])∧(Bx w' (Q+3) #[.pointer (some ⟨P,3,none⟩),.int .i64 0,.int .i64 15,.int .i64 1])∧(Bx w' (Q+4) #[.pointer (some ⟨P,4,none⟩),.int .i64 1,.int .i64 16,.int .i64 1])∧(Bx w' (Q+5) #[.pointer (some ⟨P,5,none⟩),.int .i64 1,.int .i64 128,.int .i64 2])∧(Bx w' (Q+6) #[.pointer (some ⟨P,6,none⟩),.int .i64 0,.int .i64 65535,.int .i64 3])∧(Bx w' (Q+7) #[.pointer (some ⟨P,7,none⟩),.int .i64 0,.int .i64 1023,.int .i64 2])∧w'.cell? ⟨P,0,none⟩=some (.int .i64 4)∧Past W w'∧Q+8≤w'.heap.size) (by subst hQ;(exact kKeep)) ?_
 rintro w1 ⟨b0,b1,b2,b3,b4,b5,b6,b7,c0,p1,z1⟩
 try simp only [World.size_alloc,hQ]
 have P1:=LH p1
 have Z1:=LH z1
 clear p1 z1 h0 hP hQ
 go_wp2_with fail
 refine (told_any _ _ _ _ rfl _).mono ?_
 rintro e w2 ⟨rfl,rfl⟩
 go_wp2_with fail
 go_ret2
 refine ⟨_,rfl,?_,P1.out.alloc _⟩
 exact .inr ⟨w1.heap.size,rfl,by simp,box_new rfl⟩
set_option maxHeartbeats 4000000 in
theorem fields_sem (k:Int) (hk:k=5∨k=6) (P:Nat) (W:World) (h0:W.cell? ⟨P,0,none⟩=some (.int .i64 k)):Calls Tryz.prog 103 #[.pointer (some ⟨P,0,none⟩)] W (FieldsPost k P W):=by
 have hP:=cell_lt h0
 have eF:fldsD k=[⟨1,0,7,1⟩]:=by
  rcases hk with rfl|rfl <;> rfl
 have dk:decide (kindP k)=true:=by
  rcases hk with rfl|rfl <;> decide
 unfold FieldsPost
 rw [eF,dk]
 clear eF dk
 rcases hk with rfl|rfl
 ·go_enter Tryz.func103,Tryz.ntmps103
  go_upto_region 11 with fail
  obtain ⟨Q,hQ⟩:∃ Q,W.heap.size=Q:=⟨_,rfl⟩
  refine opq (fun w'=>(Bx w' Q #[.pointer (some ⟨P,0,none⟩)])∧(Bx w' (Q+1) #[.pointer (some ⟨P,1,none⟩),.int .i64 0,.int .i64 7,.int .i64 1])∧(Bx w' (Q+2) #[.pointer (some ⟨P,2,none⟩),.int .i64 0,.int .i64 11,.int .i64 1])∧(Bx w' (Q+3) #[.pointer (some ⟨P,3,none⟩),.int .i64 0,.int .i64 15,.int .i64 1])∧(Bx w' (Q+4) #[.pointer (some ⟨P,4,none⟩),.int .i64 1,.int .i64 16,.int .i64 1])∧(Bx w' (Q+5) #[.pointer (some ⟨P,5,none⟩),.int .i64 1,.int .i64 128,.int .i64 2])∧(Bx w' (Q+6) #[.pointer (some ⟨P,6,none⟩),.int .i64 0,.int .i64 65535,.int .i64 3])∧(Bx w' (Q+7) #[.pointer (some ⟨P,7,none⟩),.int .i64 0,.int .i64 1023,.int .i64 2])∧w'.cell? ⟨P,0,none⟩=some (.int .i64 5)∧Past W w'∧Q+8≤w'.heap.size) (by subst hQ;(exact kKeep)) ?_
  rintro w1 ⟨b0,b1,b2,b3,b4,b5,b6,b7,c0,p1,z1⟩
  try simp only [World.size_alloc,hQ]
  have P1:=LH p1
  have Z1:=LH z1
  clear p1 z1 h0 hP hQ
  go_wp2_with fail
  refine (told_any _ _ _ _ rfl _).mono ?_
  rintro e w2 ⟨rfl,rfl⟩
  go_wp2_with fail
  go_ret2
  refine ⟨_,rfl,?_,P1.out.alloc _⟩
  exact .inr ⟨w1.heap.size,rfl,by simp,box_new rfl⟩
 ·go_enter Tryz.func103,Tryz.ntmps103
  go_upto_region 11 with fail
  obtain ⟨Q,hQ⟩:∃ Q,W.heap.size=Q:=⟨_,rfl⟩
  refine opq (fun w'=>(Bx w' Q #[.pointer (some ⟨P,0,none⟩)])∧(Bx w' (Q+1) #[.pointer (some ⟨P,1,none⟩),.int .i64 0,.int .i64 7,.int .i64 1])∧(Bx w' (Q+2) #[.pointer (some ⟨P,2,none⟩),.int .i64 0,.int .i64 11,.int .i64 1])∧(Bx w' (Q+3) #[.pointer (some ⟨P,3,none⟩),.int .i64 0,.int .i64 15,.int .i64 1])∧(Bx w' (Q+4) #[.pointer (some ⟨P,4,none⟩),.int .i64 1,.int .i64 16,.int .i64 1])∧(Bx w' (Q+5) #[.pointer (some ⟨P,5,none⟩),.int .i64 1,.int .i64 128,.int .i64 2])∧(Bx w' (Q+6) #[.pointer (some ⟨P,6,none⟩),.int .i64 0,.int .i64 65535,.int .i64 3])∧(Bx w' (Q+7) #[.pointer (some ⟨P,7,none⟩),.int .i64 0,.int .i64 1023,.int .i64 2])∧w'.cell? ⟨P,0,none⟩=some (.int .i64 6)∧Past W w'∧Q+8≤w'.heap.size) (by subst hQ;(exact kKeep)) ?_
  rintro w1 ⟨b0,b1,b2,b3,b4,b5,b6,b7,c0,p1,z1⟩
  try simp only [World.size_alloc,hQ]
  have P1:=LH p1
  have Z1:=LH z1
  clear p1 z1 h0 hP hQ
  go_wp2_with fail
  refine (told_any _ _ _ _ rfl _).mono ?_
  rintro e w2 ⟨rfl,rfl⟩
  go_wp2_with fail
  go_ret2
  refine ⟨_,rfl,?_,P1.out.alloc _⟩
  exact .inr ⟨w1.heap.size,rfl,by simp,box_new rfl⟩
set_option maxHeartbeats 4000000 in
theorem fields_halt (k:Int) (hk:k=7) (P:Nat) (W:World) (h0:W.cell? ⟨P,0,none⟩=some (.int .i64 k)):Calls Tryz.prog 103 #[.pointer (some ⟨P,0,none⟩)] W (FieldsPost k P W):=by
 have hP:=cell_lt h0
 have eF:fldsD k=[]:=by
  subst hk;rfl
 have dk:decide (kindP k)=true:=by
  subst hk;decide
 unfold FieldsPost
 rw [eF,dk]
 clear eF dk
 subst hk
 go_enter Tryz.func103,Tryz.ntmps103
 go_upto_region 11 with fail
 obtain ⟨Q,hQ⟩:∃ Q,W.heap.size=Q:=⟨_,rfl⟩
 refine opq (fun w'=>(Bx w' Q #[.pointer (some ⟨P,0,none⟩)])∧(Bx w' (Q+1) #[.pointer (some ⟨P,1,none⟩),.int .i64 0,.int .i64 7,.int .i64 1])∧(Bx w' (Q+2) #[.pointer (some ⟨P,2,none⟩),.int .i64 0,.int .i64 11,.int .i64 1])∧(Bx w' (Q+3) #[.pointer (some ⟨P,3,none⟩),.int .i64 0,.int .i64 15,.int .i64 1])∧(Bx w' (Q+4) #[.pointer (some ⟨P,4,none⟩),.int .i64 1,.int .i64 16,.int .i64 1])∧(Bx w' (Q+5) #[.pointer (some ⟨P,5,none⟩),.int .i64 1,.int .i64 128,.int .i64 2])∧(Bx w' (Q+6) #[.pointer (some ⟨P,6,none⟩),.int .i64 0,.int .i64 65535,.int .i64 3])∧(Bx w' (Q+7) #[.pointer (some ⟨P,7,none⟩),.int .i64 0,.int .i64 1023,.int .i64 2])∧w'.cell? ⟨P,0,none⟩=some (.int .i64 7)∧Past W w'∧Q+8≤w'.heap.size) (by subst hQ;(exact kKeep)) ?_
 rintro w1 ⟨b0,b1,b2,b3,b4,b5,b6,b7,c0,p1,z1⟩
 try simp only [World.size_alloc,hQ]
 have P1:=LH p1
 have Z1:=LH z1
 clear p1 z1 h0 hP hQ
 go_wp2_with fail
 refine (told_any _ _ _ _ rfl _).mono ?_
 rintro e w2 ⟨rfl,rfl⟩
 go_wp2_with fail
 go_ret2
 exact ⟨_,rfl,.inl ⟨rfl,rfl⟩,P1.out⟩
set_option maxHeartbeats 4000000 in
theorem fields_none (k:Int) (hk:¬ kindP k) (P:Nat) (W:World) (h0:W.cell? ⟨P,0,none⟩=some (.int .i64 k)):Calls Tryz.prog 103 #[.pointer (some ⟨P,0,none⟩)] W (FieldsPost k P W):=by
 have hP:=cell_lt h0
 have eF:fldsD k=[]:=by
  have e1:¬ (k=1∨k=2):=by unfold kindP at hk;omega
  have e2:¬ k=3:=by unfold kindP at hk;omega
  have e3:¬ k=4:=by unfold kindP at hk;omega
  have e4:¬ (k=5∨k=6):=by unfold kindP at hk;omega
  unfold fldsD
  rw [if_neg e1,if_neg e2,if_neg e3,if_neg e4]
 have dk:decide (kindP k)=false:=by simpa using hk
 have n1:(k==1)=false:=by unfold kindP at hk;simp;omega
 have n2:(k==2)=false:=by unfold kindP at hk;simp;omega
 have n3:(k==3)=false:=by unfold kindP at hk;simp;omega
 have n4:(k==4)=false:=by unfold kindP at hk;simp;omega
 have n5:(k==5)=false:=by unfold kindP at hk;simp;omega
 have n6:(k==6)=false:=by unfold kindP at hk;simp;omega
 have n7:(k==7)=false:=by unfold kindP at hk;simp;omega
 unfold FieldsPost
 rw [eF,dk]
 clear eF dk
 clear hk
 go_enter Tryz.func103,Tryz.ntmps103
 go_upto_region 11 with fail
 obtain ⟨Q,hQ⟩:∃ Q,W.heap.size=Q:=⟨_,rfl⟩
 refine opq (fun w'=>(Bx w' Q #[.pointer (some ⟨P,0,none⟩)])∧(Bx w' (Q+1) #[.pointer (some ⟨P,1,none⟩),.int .i64 0,.int .i64 7,.int .i64 1])∧(Bx w' (Q+2) #[.pointer (some ⟨P,2,none⟩),.int .i64 0,.int .i64 11,.int .i64 1])∧(Bx w' (Q+3) #[.pointer (some ⟨P,3,none⟩),.int .i64 0,.int .i64 15,.int .i64 1])∧(Bx w' (Q+4) #[.pointer (some ⟨P,4,none⟩),.int .i64 1,.int .i64 16,.int .i64 1])∧(Bx w' (Q+5) #[.pointer (some ⟨P,5,none⟩),.int .i64 1,.int .i64 128,.int .i64 2])∧(Bx w' (Q+6) #[.pointer (some ⟨P,6,none⟩),.int .i64 0,.int .i64 65535,.int .i64 3])∧(Bx w' (Q+7) #[.pointer (some ⟨P,7,none⟩),.int .i64 0,.int .i64 1023,.int .i64 2])∧w'.cell? ⟨P,0,none⟩=some (.int .i64 k)∧Past W w'∧Q+8≤w'.heap.size) (by subst hQ;(exact kKeep)) ?_
 rintro w1 ⟨b0,b1,b2,b3,b4,b5,b6,b7,c0,p1,z1⟩
 try simp only [World.size_alloc,hQ]
 have P1:=LH p1
 have Z1:=LH z1
 clear p1 z1 h0 hP hQ
 go_wp2_with fail
 go_ret2
 exact ⟨_,rfl,.inl ⟨rfl,rfl⟩,P1.out⟩
set_option maxHeartbeats 4000000 in
theorem fields_tile (k:Int) (hk:k=3) (P:Nat) (W:World) (h0:W.cell? ⟨P,0,none⟩=some (.int .i64 k)):Calls Tryz.prog 103 #[.pointer (some ⟨P,0,none⟩)] W (FieldsPost k P W):=by
 have hP:=cell_lt h0
 have eF:fldsD k=[⟨2,0,11,1⟩,⟨3,0,15,1⟩,⟨4,1,16,1⟩,⟨7,0,1023,2⟩,⟨8,0,1023,2⟩,⟨10,0,15,1⟩,⟨12,0,16,1⟩,⟨9,0,1023,2⟩,⟨11,0,15,1⟩,⟨13,0,16,1⟩]:=by
  subst hk;rfl
 have dk:decide (kindP k)=true:=by
  subst hk;decide
 unfold FieldsPost
 rw [eF,dk]
 clear eF dk
 subst hk
 go_enter Tryz.func103,Tryz.ntmps103
 go_upto_region 11 with fail
 obtain ⟨Q,hQ⟩:∃ Q,W.heap.size=Q:=⟨_,rfl⟩
 refine opq (fun w'=>(Bx w' Q #[.pointer (some ⟨P,0,none⟩)])∧(Bx w' (Q+1) #[.pointer (some ⟨P,1,none⟩),.int .i64 0,.int .i64 7,.int .i64 1])∧(Bx w' (Q+2) #[.pointer (some ⟨P,2,none⟩),.int .i64 0,.int .i64 11,.int .i64 1])∧(Bx w' (Q+3) #[.pointer (some ⟨P,3,none⟩),.int .i64 0,.int .i64 15,.int .i64 1])∧(Bx w' (Q+4) #[.pointer (some ⟨P,4,none⟩),.int .i64 1,.int .i64 16,.int .i64 1])∧(Bx w' (Q+5) #[.pointer (some ⟨P,5,none⟩),.int .i64 1,.int .i64 128,.int .i64 2])∧(Bx w' (Q+6) #[.pointer (some ⟨P,6,none⟩),.int .i64 0,.int .i64 65535,.int .i64 3])∧(Bx w' (Q+7) #[.pointer (some ⟨P,7,none⟩),.int .i64 0,.int .i64 1023,.int .i64 2])∧w'.cell? ⟨P,0,none⟩=some (.int .i64 3)∧Past W w'∧Q+8≤w'.heap.size) (by subst hQ;(exact kKeep)) ?_
 rintro w1 ⟨b0,b1,b2,b3,b4,b5,b6,b7,c0,p1,z1⟩
 try simp only [World.size_alloc,hQ]
 have P1:=LH p1
 have Z1:=LH z1
 clear p1 z1 h0 hP hQ
 have B0:=LH (fun w (g:Past w1 w)=>box_past g b0 (by have:=Z1.out;omega))
 go_upto_region 16 with fail
 refine wp_region_past w1 [(62,?va62),(63,?va63),(64,?va64),(65,?va65),(66,?va66),(68,?va68),(70,?va70),(72,?va72),(74,?va74),(76,?va76)] [(5,67),(7,69),(9,71),(11,73),(13,75),(15,77),(16,78),(17,79),(18,80),(19,81),(20,2),(21,3)] (JT P) [(16,[5,7,9,11,13,15]),(17,[16]),(18,[17]),(19,[17]),(20,[18]),(21,[19])] [20,21] (fun i x w w' p h=>JT_past p h) (by kernel_rfl) (by kernel_rfl) (by kernel_rfl) ?da (Past.refl w1) ?ea ?la ?na
 case da =>
  intro q hq
  simp only [List.mem_cons,List.not_mem_nil,or_false] at hq
  rcases hq with rfl|rfl|rfl|rfl|rfl|rfl|rfl|rfl|rfl|rfl|rfl|rfl <;> simp
 case ea =>
  simp only [latesV,List.map_cons,List.map_nil,List.cons_append,List.nil_append,List.append_nil,fillA,Act.put,List.setIfInBounds_toArray,List.set_cons_zero,List.set_cons_succ]
  refine early_cons (fun v w hw hd K hK=>?_) ?_
  focus
   have c:=box_past hw b2 (by have:=Z1.out;omega)
   go_simp
   (try go_frame)
   exact hK
  refine early_cons (fun v w hw hd K hK=>?_) ?_
  focus
   have c:=box_past hw b3 (by have:=Z1.out;omega)
   go_simp
   (try go_frame)
   exact hK
  refine early_cons (fun v w hw hd K hK=>?_) ?_
  focus
   have c:=box_past hw b4 (by have:=Z1.out;omega)
   go_simp
   (try go_frame)
   exact hK
  refine early_cons (fun v w hw hd K hK=>?_) ?_
  focus
   have c:=box_past hw b7 (by have:=Z1.out;omega)
   go_simp
   (try go_frame)
   exact hK
  (refine early_cons (fun v w hw hd K hK=>?_) ?_;focus (go_simp;(try go_frame);exact hK))
  refine early_skip rfl ?_
  (refine early_cons (fun v w hw hd K hK=>?_) ?_;focus (go_simp;(try go_frame);exact hK))
  refine early_skip rfl ?_
  (refine early_cons (fun v w hw hd K hK=>?_) ?_;focus (go_simp;(try go_frame);exact hK))
  refine early_skip rfl ?_
  (refine early_cons (fun v w hw hd K hK=>?_) ?_;focus (go_simp;(try go_frame);exact hK))
  refine early_skip rfl ?_
  (refine early_cons (fun v w hw hd K hK=>?_) ?_;focus (go_simp;(try go_frame);exact hK))
  refine early_skip rfl ?_
  (refine early_cons (fun v w hw hd K hK=>?_) ?_;focus (go_simp;(try go_frame);exact hK))
  refine early_skip rfl ?_
  refine early_skip rfl ?_
  refine early_skip rfl ?_
  refine early_skip rfl ?_
  refine early_skip rfl ?_
  refine early_skip rfl ?_
  refine early_skip rfl ?_
  exact True.intro
 case la =>
  simp only [latesV,List.map_cons,List.map_nil,List.cons_append,List.nil_append,List.append_nil,fillA,Act.put,List.setIfInBounds_toArray,List.set_cons_zero,List.set_cons_succ]
  refine lateP_skip rfl ?_
  refine lateP_skip rfl ?_
  refine lateP_skip rfl ?_
  refine lateP_skip rfl ?_
  refine lateP_skip rfl ?_
  refine lateP_cons (fun v w hw hd=>⟨rfl,fun K hK=>?_⟩) ?_
  focus
   (try go_frame)
   go_simp
   refine (part1_any 0 (.inl rfl) P Q w (B0.out w hw)).mono ?_
   rintro e w2 ⟨rfl,g⟩
   exact hK _ _ g (show JT P 5 _ w2 from rfl)
  refine lateP_skip rfl ?_
  refine lateP_cons (fun v w hw hd=>⟨rfl,fun K hK=>?_⟩) ?_
  focus
   (try go_frame)
   go_simp
   refine (part2_any 0 (.inl rfl) P Q w (B0.out w hw)).mono ?_
   rintro e w2 ⟨rfl,g⟩
   exact hK _ _ g (show JT P 7 _ w2 from rfl)
  refine lateP_skip rfl ?_
  refine lateP_cons (fun v w hw hd=>⟨rfl,fun K hK=>?_⟩) ?_
  focus
   (try go_frame)
   go_simp
   refine (part3_any 0 (.inl rfl) P Q w (B0.out w hw)).mono ?_
   rintro e w2 ⟨rfl,g⟩
   exact hK _ _ g (show JT P 9 _ w2 from rfl)
  refine lateP_skip rfl ?_
  refine lateP_cons (fun v w hw hd=>⟨rfl,fun K hK=>?_⟩) ?_
  focus
   (try go_frame)
   go_simp
   refine (part1_any 1 (.inr rfl) P Q w (B0.out w hw)).mono ?_
   rintro e w2 ⟨rfl,g⟩
   exact hK _ _ g (show JT P 11 _ w2 from rfl)
  refine lateP_skip rfl ?_
  refine lateP_cons (fun v w hw hd=>⟨rfl,fun K hK=>?_⟩) ?_
  focus
   (try go_frame)
   go_simp
   refine (part2_any 1 (.inr rfl) P Q w (B0.out w hw)).mono ?_
   rintro e w2 ⟨rfl,g⟩
   exact hK _ _ g (show JT P 13 _ w2 from rfl)
  refine lateP_skip rfl ?_
  refine lateP_cons (fun v w hw hd=>⟨rfl,fun K hK=>?_⟩) ?_
  focus
   (try go_frame)
   go_simp
   refine (part3_any 1 (.inr rfl) P Q w (B0.out w hw)).mono ?_
   rintro e w2 ⟨rfl,g⟩
   exact hK _ _ g (show JT P 15 _ w2 from rfl)
  refine lateP_cons (fun v w hw hd=>⟨rfl,fun K hK=>?_⟩) ?_
  focus
   (try go_frame)
   have e5:v 5=.agg #[.pointer (some ⟨P,8,none⟩),.int .i64 0,.int .i64 1023,.int .i64 2]:=hd 5 rfl
   have e7:v 7=.agg #[.pointer (some ⟨P,10,none⟩),.int .i64 0,.int .i64 15,.int .i64 1]:=hd 7 rfl
   have e9:v 9=.agg #[.pointer (some ⟨P,12,none⟩),.int .i64 0,.int .i64 16,.int .i64 1]:=hd 9 rfl
   have e11:v 11=.agg #[.pointer (some ⟨P,9,none⟩),.int .i64 0,.int .i64 1023,.int .i64 2]:=hd 11 rfl
   have e13:v 13=.agg #[.pointer (some ⟨P,11,none⟩),.int .i64 0,.int .i64 15,.int .i64 1]:=hd 13 rfl
   have e15:v 15=.agg #[.pointer (some ⟨P,13,none⟩),.int .i64 0,.int .i64 16,.int .i64 1]:=hd 15 rfl
   rw [e5,e7,e9,e11,e13,e15] at hK ⊢
   go_simp
   exact hK _ _ ((Past.refl w).alloc _) ⟨w.heap.size,rfl,by simp,box_new rfl⟩
  refine lateP_cons (fun v w hw hd=>⟨rfl,fun K hK=>?_⟩) ?_
  focus
   (try go_frame)
   have HR:Hid (RowT w P (v 16)):=LH (hd 16 rfl)
   go_simp
   obtain ⟨b,e16,hr⟩:=HR.out
   refine (told_any (v 16) _ _ _ e16 w).mono ?_
   rintro e w2 ⟨rfl,rfl⟩
   exact hK _ _ (Past.refl _) ⟨_,rfl,b,e16,hr⟩
  refine lateP_cons (fun v w hw hd=>⟨rfl,fun K hK=>?_⟩) ?_
  focus
   (try go_frame)
   obtain ⟨y,e17,hr⟩:∃ y,v 17=.tuple #[y,.bool true]∧RowT w P y:=hd 17 rfl
   rw [e17] at hK ⊢
   go_simp
   exact hK _ _ (Past.refl _) hr
  refine lateP_cons (fun v w hw hd=>⟨rfl,fun K hK=>?_⟩) ?_
  focus
   (try go_frame)
   obtain ⟨y,e17,hr⟩:∃ y,v 17=.tuple #[y,.bool true]∧RowT w P y:=hd 17 rfl
   rw [e17] at hK ⊢
   go_simp
   exact hK _ _ (Past.refl _) rfl
  refine lateP_cons (fun v w hw hd=>⟨rfl,fun K hK=>?_⟩) ?_
  focus
   (try go_frame)
   have hr:RowT w P (v 18):=hd 18 rfl
   go_simp
   exact hK _ _ (Past.refl _) hr
  refine lateP_cons (fun v w hw hd=>⟨rfl,fun K hK=>?_⟩) ?_
  focus
   (try go_frame)
   have HR:Hid (v 19=.bool true):=LH (hd 19 rfl)
   go_simp
   exact hK _ _ (Past.refl _) HR.out
  exact True.intro
 case na =>
  intro v w8 hw hd
  simp only [latesV,List.map_cons,List.map_nil,List.cons_append,List.nil_append,List.append_nil,fillA,Act.put,List.setIfInBounds_toArray,List.set_cons_zero,List.set_cons_succ]
  have h20:RowT w8 P (v 20):=hd 20 rfl
  have h21:v 21=.bool true:=hd 21 rfl
  obtain ⟨b,e20,hb,hc⟩:=h20
  rw [e20,h21]
  have HB:=LH hb
  have HC:=LH hc
  clear hd e20 h21 hb hc
  go_wp2_with fail
  go_ret2
  exact ⟨_,rfl,.inr ⟨b,rfl,HB.out,HC.out⟩,P1.out.trans hw⟩
theorem fields_any (k:Int)(P:Nat)(W:World)(h0:W.cell? ⟨P,0,none⟩=some (.int .i64 k)):Calls Tryz.prog 103 #[.pointer (some ⟨P,0,none⟩)] W (FieldsPost k P W):=by
 by_cases h:kindP k
 ·rcases kind_cases h with q|q|q|q|q
  ·exact fields_load k q P W h0
  ·exact fields_tile k q P W h0
  ·exact fields_kernel k q P W h0
  ·exact fields_sem k q P W h0
  ·exact fields_halt k q P W h0
 ·exact fields_none k h P W h0
end Go.Proofs.YtejllmjkeefloaaGreat.Q8
namespace Go.Proofs.YtejllmjkeefloaaGreat.Q8
open Go.ChangeShapes Go.WideShapes Go.ChangeAt Go.RowKit
set_option maxRecDepth 20000
set_option linter.unusedVariables false
set_option linter.unusedSimpArgs false
theorem cells_new' (w:World)(l:List Value)(t:TypeId)(j:Nat)(u:Value)(h:l[j]? = some u):(w.alloc (.cells ⟨l⟩ t)).cell? ((⟨w.heap.size,0,none⟩:Addr).add j)=some u:=by
 rw [add_plain];have:=heap_alloc_new w (.cells ⟨l⟩ t);unfold World.cell?;simp only [this];simpa using h
theorem info8:(Tryz.prog.info? 5).map (fun i=>(i.zero,i.size,i.bytes))=some (some (.int .u8 0),1,1):=by kernel_rfl
def OwnB (w:World)(base:Nat)(v:Value)(xs:List Int):Prop:=w.ownsRow base 5 1 v xs.length (xs.map (Value.int .u8))/\(xs=[]->v=.slice none 0 0)
theorem OwnB.nil (w:World)(base:Nat):OwnB w base (.slice none 0 0) []:=⟨World.ownsRow_nil _ _ _ _,fun _=>rfl⟩
def NoRow (w:World)(base P:Nat):Prop:=P<w.heap.size/\(P<base\/∃ u,w.cell? ⟨P,0,none⟩=some u/\∀ n,u≠.int .u8 n)
theorem OwnB.ne {w:World}{base P:Nat}{v:Value}{xs:List Int}(h:OwnB w base v xs)(hP:NoRow w base P):some P≠v.ownBlock:=by
 intro e;obtain⟨hlt,hP⟩:=hP;rcases hP with hP|⟨u,hu,hn⟩
 ·have:=(World.ownsRow.lt h.1 P e.symm).1;omega
 ·cases xs with
  | nil=>rw [h.2 rfl] at e;simp [Value.ownBlock] at e
  | cons x xs =>
   have c:=World.ownsRow.cells h.1 e.symm 0 (.int .u8 x) (by simp);rw [add_plain] at c;rw [show(⟨P,0+0,none⟩:Addr)=⟨P,0,none⟩ from rfl,hu] at c;exact hn x (by simpa using c)
def Lays (base:Nat)(w w':World):Prop:=w'.os=w.os/\w'.output=w.output/\w.heap.size<=w'.heap.size/\∀ P,NoRow w base P->w'.heap[P]? = w.heap[P]?
theorem Lays.refl (base:Nat)(w:World):Lays base w w:=⟨rfl,rfl,Nat.le_refl _,fun _ _=>rfl⟩
theorem Lays.noRow {base P:Nat}{w w':World}(h:Lays base w w')(hP:NoRow w base P):NoRow w' base P:=by
 refine⟨Nat.lt_of_lt_of_le hP.1 h.2.2.1,?_⟩;rcases hP.2 with k|⟨u,hu,hn⟩
 ·exact .inl k
 ·exact .inr ⟨u,(World.cell?_of_block (a:=⟨P,0,none⟩) (h.2.2.2 P hP)).trans hu,hn⟩
theorem Lays.trans {base:Nat}{a b c:World}(h:Lays base a b)(k:Lays base b c):Lays base a c :=
 ⟨k.1.trans h.1,k.2.1.trans h.2.1,Nat.le_trans h.2.2.1 k.2.2.1,fun P hP=>(k.2.2.2 P (h.noRow hP)).trans (h.2.2.2 P hP)⟩
theorem Lays.alloc {base:Nat}{w w':World}(h:Lays base w w')(x:Obj):Lays base w (w'.alloc x) :=
 ⟨h.1,h.2.1,by rw [World.size_alloc];have:=h.2.2.1;omega,fun k hk=>(Below.heap_alloc w' x k (Nat.lt_of_lt_of_le hk.1 h.2.2.1)).trans (h.2.2.2 k hk)⟩
theorem Lays.of_past {base:Nat}{w w':World}(h:Past w w'):Lays base w w':=⟨h.1,h.2.1,h.2.2.1,fun k hk=>h.2.2.2 k hk.1⟩
theorem Lays.past {W w w':World}(p:Past W w)(h:Lays W.heap.size w w'):Past W w' :=
 ⟨h.1.trans p.1,h.2.1.trans p.2.1,Nat.le_trans p.2.2.1 h.2.2.1,fun k hk=>(h.2.2.2 k ⟨Nat.lt_of_lt_of_le hk p.2.2.1,.inl hk⟩).trans (p.2.2.2 k hk)⟩
theorem Lays.grownBy {base:Nat}{w w' w'':World}{v:Value}{xs:List Int}(h:Lays base w w')(ho:OwnB w' base v xs)(g:w'.grownBy w'' v.ownBlock):Lays base w w'' :=
 ⟨g.os.trans h.1,g.output.trans h.2.1,Nat.le_trans h.2.2.1 g.size,fun P hP=>(g.block P (h.noRow hP).1 (ho.ne (h.noRow hP))).trans (h.2.2.2 P hP)⟩
theorem Lays.cell {base P o:Nat} {w w':World} (h:Lays base w w') (hP:NoRow w base P):w'.cell? ⟨P,o,none⟩=w.cell? ⟨P,o,none⟩:=World.cell?_of_block (a:=⟨P,o,none⟩) (h.2.2.2 P hP)
theorem own_bytes {w:World} {base:Nat} {v:Value} {xs:List Int} {u:Int} {n:Nat} (hn:n=xs.length) (h:w.ownsRow base 5 1 v (n+1) (xs.map (Value.int .u8)++[.int .u8 u])):OwnB w base v (xs++[u]):=by
 subst hn;exact ⟨by simpa using h,fun e=>by simp at e⟩
theorem numB_1 (x:Int):numB 1 x=(x%256) :: numB 0 x:=by simp [numB]
theorem numB_2 (x:Int):numB 2 x=(x / 256%256) :: numB 1 x:=by simp [numB]
theorem numB_3 (x:Int):numB 3 x=(x / 65536%256) :: numB 2 x:=by simp [numB]
def LayPost (base wide:Nat)(bs:List Int)(x:Int)(w:World)(e:Ending)(w':World):Prop:=∃ v',e=.returned v'/\OwnB w' base v' (bs++numB wide x)/\Lays base w w'
set_option maxHeartbeats 4000000 in
theorem lay_any (base wide:Nat)(bv:Value)(bs:List Int)(x:Int)(W:World)(hw:wide=1\/wide=2\/wide=3)(hx:(Lit.int .i64 x).wf=true)(ho:OwnB W base bv bs)(hb:base<=W.heap.size)(hm:bs.length<=1000000000) :
  Calls Tryz.prog 83 #[bv,.int .i64 (wide:Int),.int .i64 x] W (LayPost base wide bs x W):=by
 have e1:IntKind.i64.wrap ((wide:Int)-1)=(wide:Int)-1:=by rcases hw with rfl|rfl|rfl <;> decide
 have w3:wide<=3:=by omega
 obtain⟨i0,hi0,hz0,hz1,hz2⟩:=info_parts info8;have I1:=LH hi0;have I2:=LH hz0;have I3:=LH hz1;have I4:=LH hz2;have hx':=LH hx;clear hi0 hz0 hz1 hz2 hw hx;go_enter Tryz.func83,Tryz.ntmps83;go_wp2_with fail;go_loopw [0,7] (fun v i wr=>∃ (m:Nat) (cs:List Int),m<=wide/\i=.int .i64 ((m:Int)-1)/\Hid (cs++numB m x=bs++numB wide x)/\Hid (OwnB wr base v cs)/\Hid (Lays base W wr)/\base<=wr.heap.size) (fun _ i _=>(intOf i+1).toNat)
 case atStart=>exact⟨wide,_,by omega,rfl,LH rfl,LH ho,LH (Lays.refl _ _),hb⟩
 case round =>
  clear ho hb;obtain⟨m,cs,hm4,rfl,heq,hown,hp,hbs⟩:=hrel;have hcs:Hid (cs.length+m<=1000000003):=LH (by
   have:=congrArg List.length heq.out;simp only [List.length_append,numB_len] at this;omega)
  rcases (show m=0\/m=1\/m=2\/m=3 by omega) with rfl|rfl|rfl|rfl
  ·have he:=heq.out;simp only [numB,List.append_nil] at he;have HE:=LH he;clear he;go_wp2_with fail;go_ret;exact⟨_,rfl,by rw [<- HE.out];exact hown.out,hp.out⟩
  ·have d0:decide (0<=((1:Nat):Int)-1)=true:=by decide
   have hnb:=LH (numB_1 x);go_wp2_with (at_builtin;refine wpList_append_own _ rfl (.tmp 14) (.tmp 20) 22 rfl base 5 i0 _ 1 1 Tryz.underlying22 I1.out I2.out I3.out I4.out rfl (by decide) _ _ _ rfl (World.ownsRow.alloc hown.out.1 _) ⟨wr.heap.size,0,none⟩ 1 1 [.int .u8 (x%256)] rfl rfl (fun j u hu=>cells_new' wr _ 5 j u hu) (by intro u hu;simp at hu;subst hu;rfl) ?c4 ?c5 ?c6 ?_)
   case c4=>have:=hcs.out;unfold maxLen;omega
   case c5=>have:=hcs.out;omega
   case c6=>simp;omega
   intro v4 w4 hown4 hgrow _;have ho4:=LH (own_bytes rfl hown4);have hl4:=LH (Lays.grownBy (hp.out.alloc _) ⟨World.ownsRow.alloc hown.out.1 _,hown.out.2⟩ hgrow);have hs4:base<=w4.heap.size:=by have:=hgrow.size;simp only [World.size_alloc] at this;omega
   have he4:=heq.out;rw [hnb.out] at he4;have HE4:=LH he4;clear hown4 hgrow he4 hnb;go_wp2_with fail;go_roundw
   case rel=>exact⟨0,cs++[x%256],by omega,by first|rfl|go_num,LH (by rw [<- HE4.out];simp),ho4,hl4,hs4⟩
   case measure=>simp [intOf]
  ·have d0:decide (0<=((2:Nat):Int)-1)=true:=by decide
   have hnb:=LH (numB_2 x);go_wp2_with (at_builtin;refine wpList_append_own _ rfl (.tmp 14) (.tmp 20) 22 rfl base 5 i0 _ 1 1 Tryz.underlying22 I1.out I2.out I3.out I4.out rfl (by decide) _ _ _ rfl (World.ownsRow.alloc hown.out.1 _) ⟨wr.heap.size,0,none⟩ 1 1 [.int .u8 (x / 256%256)] rfl rfl (fun j u hu=>cells_new' wr _ 5 j u hu) (by intro u hu;simp at hu;subst hu;rfl) ?c4 ?c5 ?c6 ?_)
   case c4=>have:=hcs.out;unfold maxLen;omega
   case c5=>have:=hcs.out;omega
   case c6=>simp;omega
   intro v4 w4 hown4 hgrow _;have ho4:=LH (own_bytes rfl hown4);have hl4:=LH (Lays.grownBy (hp.out.alloc _) ⟨World.ownsRow.alloc hown.out.1 _,hown.out.2⟩ hgrow);have hs4:base<=w4.heap.size:=by have:=hgrow.size;simp only [World.size_alloc] at this;omega
   have he4:=heq.out;rw [hnb.out] at he4;have HE4:=LH he4;clear hown4 hgrow he4 hnb;go_wp2_with fail;go_roundw
   case rel=>exact⟨1,cs++[x / 256%256],by omega,by first|rfl|go_num,LH (by rw [<- HE4.out];simp),ho4,hl4,hs4⟩
   case measure=>simp [intOf]
  ·have d0:decide (0<=((3:Nat):Int)-1)=true:=by decide
   have hnb:=LH (numB_3 x);go_wp2_with (at_builtin;refine wpList_append_own _ rfl (.tmp 14) (.tmp 20) 22 rfl base 5 i0 _ 1 1 Tryz.underlying22 I1.out I2.out I3.out I4.out rfl (by decide) _ _ _ rfl (World.ownsRow.alloc hown.out.1 _) ⟨wr.heap.size,0,none⟩ 1 1 [.int .u8 (x / 65536%256)] rfl rfl (fun j u hu=>cells_new' wr _ 5 j u hu) (by intro u hu;simp at hu;subst hu;rfl) ?c4 ?c5 ?c6 ?_)
   case c4=>have:=hcs.out;unfold maxLen;omega
   case c5=>have:=hcs.out;omega
   case c6=>simp;omega
   intro v4 w4 hown4 hgrow _;have ho4:=LH (own_bytes rfl hown4);have hl4:=LH (Lays.grownBy (hp.out.alloc _) ⟨World.ownsRow.alloc hown.out.1 _,hown.out.2⟩ hgrow);have hs4:base<=w4.heap.size:=by have:=hgrow.size;simp only [World.size_alloc] at this;omega
   have he4:=heq.out;rw [hnb.out] at he4;have HE4:=LH he4;clear hown4 hgrow he4 hnb;go_wp2_with fail;go_roundw
   case rel=>exact⟨2,cs++[x / 65536%256],by omega,by first|rfl|go_num,LH (by rw [<- HE4.out];simp),ho4,hl4,hs4⟩
   case measure=>simp [intOf]
end Go.Proofs.YtejllmjkeefloaaGreat.Q8
namespace Go.Proofs.YtejllmjkeefloaaGreat.Q7
open Go.ChangeShapes Go.WideShapes Go.ChangeAt Go.RowKit
set_option maxRecDepth 20000
set_option linter.unusedVariables false
def cellB (l:List Nat):List Value:=l.map (fun n:Nat=>Value.int .u8 (n:Int))
theorem cellB_len (l:List Nat):(cellB l).length=l.length:=by simp [cellB]
theorem cellB_one (l:List Nat):∀ v∈cellB l,v.oneCell'=true:=by
 intro v hv;obtain⟨x,_,rfl⟩:=List.mem_map.1 hv;rfl
theorem cellB_at (l:List Nat)(i:Nat)(h:i<l.length):(cellB l)[i]? = some (.int .u8 ((l.getD i 0:Nat):Int)):=by simp [cellB,List.getD,h]
theorem cellB_set (l:List Nat)(j c:Nat):(cellB l).set j (.int .u8 (c:Int))=cellB (l.set j c):=by simp [cellB,List.map_set]
def Row (w:World)(b:Nat)(l:List Nat):Prop:=w.heap[b]? = some (.cells (cellB l).toArray 5 (0,0))
theorem Row.lt {w:World}{b:Nat}{l:List Nat}(h:Row w b l):b<w.heap.size:=(Array.getElem?_eq_some_iff.1 h).1
theorem Row.cell {w:World}{b:Nat}{l:List Nat}(h:Row w b l){i:Nat}(hi:i<l.length):w.cell? ⟨b,i,none⟩=some (.int .u8 ((l.getD i 0:Nat):Int)):=by
 rw [<- cellB_at l i hi];unfold Row at h;simp [World.cell?,h]
theorem Row.free {w:World}{b:Nat}{l:List Nat}(h:Row w b l):(Fr w b):=fun o=>frozen_of_row w b o _ _ h
theorem Row.past {w w':World}{b:Nat}{l:List Nat}(h:Row w b l)(g:Past w w'):Row w' b l:=(g.2.2.2 b h.lt).trans h
theorem Row.set {w:World}{b:Nat}{l:List Nat}(h:Row w b l)(j c:Nat):Row (w.setCell ⟨b,j,none⟩ (.int .u8 (c:Int))) b (l.set j c):=by
 have:=heap_setCell_same w b j (cellB l).toArray 5 (.int .u8 (c:Int)) h;unfold Row;rw [this,<- cellB_set];simp
theorem wf8 {c:Nat}(h:c<256):(Lit.int .u8 (c:Int)).wf=true:=by
 simp [Lit.wf,IntKind.min,IntKind.max,IntKind.bits,IntKind.signed];omega
theorem ints_wf {l:List Nat}(h:Bytes l):∀ x∈ints l,(Lit.int .u8 x).wf=true:=by
 intro x hx;obtain⟨c,hc,rfl⟩:=List.mem_map.1 hx;exact wf8 (h c hc)
theorem Row.nums {w:World} {b:Nat} {l:List Nat} (h:Row w b l) (hb:Bytes l) (hm:l.length<=maxLen):IsNums .u8 w (.slice (some ⟨b,0,none⟩) l.length l.length) (ints l):=by
 refine ⟨some ⟨b,0,none⟩,l.length,by rw [ints_len],by rw [ints_len];exact Nat.le_refl _,hm,(fun h=>by cases h),ints_wf hb,fun _=>⟨b,0,rfl,h.lt,fun i hi=>?_⟩⟩;rw [ints_len] at hi;rw [ints_at,Nat.zero_add];exact h.cell hi
theorem row_of_own {w:World}{base b n:Nat}{xs:List Value}{l:List Nat}(h:w.ownsRow base 5 1 (.slice (some ⟨b,0,none⟩) n n) n xs)(e:xs=cellB l):Row w b l:=by
 subst e;obtain⟨hl,h⟩:=h;rcases h with ⟨h',_⟩|⟨g,cap,cur,h',hb,hg,hn,hm,hs,ht⟩
 ·simp at h'
 ·simp only [Value.slice.injEq,Option.some.injEq,Addr.mk.injEq,and_true,true_and] at h';obtain⟨rfl,rfl⟩:=h';unfold Row;rw [hg,<- ht,List.take_of_length_le (by simp [hs])]
theorem nums_cells {w:World} {A:Option Addr} {len cap:Nat} {l:List Nat} (h:IsNums .u8 w (.slice A len cap) (ints l)):0<(cellB l).length->∃ ad,A=some ad/\∀ j v,(cellB l)[j]? = some v->w.cell? (ad.add j)=some v:=by
 intro hp;obtain ⟨A',cap',e,h2,h3,h4,h5,h6⟩:=h;simp only [Value.slice.injEq] at e;obtain ⟨rfl,rfl,rfl⟩:=e;rw [cellB_len] at hp;obtain ⟨b,off,rfl,hb,hc⟩:=h6 (by rw [ints_len];exact hp);refine ⟨_,rfl,fun j v hv=>?_⟩;have hj:j<l.length:=by have:=(List.getElem?_eq_some_iff.1 hv).1;rwa [cellB_len] at this
 rw [add_plain,hc j (by rw [ints_len];exact hj),ints_at,<- cellB_at l j hj,hv]
theorem info8:(Tryz.prog.info? 5).map (fun i=>(i.zero,i.size,i.bytes))=some (some (.int .u8 0),1,1):=by kernel_rfl
theorem size8:(Tryz.prog.info? 5).map (·.size)=some 1:=by kernel_rfl
def SealPost (bs:List Nat) (W:World) (e:Ending) (w':World):Prop:=e=.returned (.slice (some ⟨W.heap.size,0,none⟩) (bs.length+4) (bs.length+4))/\Row w' W.heap.size (sealD bs)/\Past W w'
theorem laid_at (bs:List Nat) (m S:Nat) (hS:S=sumD bs) (h:m<4):(bs++(le4 S).take m++List.replicate (4-m) 0).set (bs.length+m) (S / 2 ^ (8*m)%256)=bs++(le4 S).take (m+1)++List.replicate (4-(m+1)) 0:=by
 have:m=0\/m=1\/m=2\/m=3:=by omega
 rcases this with rfl|rfl|rfl|rfl <;> simp [le4,List.replicate]
set_option maxHeartbeats 4000000 in
theorem seal_any (bs:List Nat)(v:Value)(W:World)(h:IsNums .u8 W v (ints bs))(hb:Bytes bs)(hl:bs.length<=1000000):Calls Tryz.prog 23 #[v] W (SealPost bs W):=by
 have H:=LH h;obtain⟨A,cap,rfl,h2,h3,h4,h5,h6⟩:=h;rw [ints_len] at H ⊢;clear h6 h5 h2 h4;obtain⟨i0,hi0,hz0,hz1,hz2⟩:=info_parts info8;obtain⟨w2,hrun,own2,grow2⟩:=run_makeSlice_full (P:=Tryz.prog) W W.heap.size 22 5 i0 (.int .u8 0) 1 Tryz.underlying22 hi0 hz0 hz1 .i64 .i64 (bs.length+4) (by omega) (by rw [hz2];omega) (by unfold maxLen;omega) (Nat.le_refl _);clear hi0 hz0 hz1 hz2;have g2:Past W w2:=(Past.refl W).grownBy grow2 (fun k hk=>by cases hk);have R2:Row w2 W.heap.size (List.replicate (bs.length+4) 0):=row_of_own own2 (by
  show(madeCells #[.int .u8 0] ((bs.length+4)*1)).toList=_;rw [toList_madeCells_one,Nat.mul_one];simp [cellB])
 have e0:(((bs.length+4:Nat)):Int)=(bs.length:Int)+4:=by simp
 rw [e0] at hrun;clear e0 own2 grow2;obtain⟨P,hP⟩:∃ P,W.heap.size=P:=⟨_,rfl⟩
 obtain⟨N,hN⟩:∃ N,bs.length+4=N:=⟨_,rfl⟩
 unfold SealPost;rw [hP] at hrun R2 ⊢;rw [hN] at hrun R2 ⊢;have HPP:=LH hP;have HNN:=LH hN;have HB:=LH hb;clear hP hb;go_enter Tryz.func23,Tryz.ntmps23;have hn1:(cellB bs).length=Nat.min bs.length N:=by rw [cellB_len];show _=min bs.length N;omega
 have hf1:0+(cellB bs).length<=(cellB (List.replicate N 0)).length:=by rw [cellB_len,cellB_len];simp;omega
 have hs1:0<(cellB bs).length->∃ ad,A=some ad/\∀ (j:Nat) (v:Value),(cellB bs)[j]? = some v->w2.cell? (ad.add j)=some v:=fun hp=>nums_cells (H.out.grow g2) hp
 have LAW:=LH (And.intro hn1 (And.intro hf1 (And.intro (cellB_one bs) hs1)));have HR:=LH R2;have SM:=LH (fun w (g:Past W w)=>sum_any bs _ w (H.out.grow g) HB.out hl);have HG:=LH g2;clear hn1 hf1 hs1 R2 hN;go_wp2_with (refine wpList_copy_splice rfl (.tmp 10) (.tmp 11) 22 22 rfl 5 Tryz.underlying22 size8 (some ⟨P,0,none⟩) A N N bs.length cap rfl rfl P 0 (cellB (List.replicate N 0)) 5 HR.out (cellB bs) LAW.out.1 (fun hp=>⟨rfl,LAW.out.2.2.2 hp⟩) LAW.out.2.1 LAW.out.2.2.1 P w2 (Below.refl _ _) (Nat.le_refl _) ?_);intro w4 hg4 hb4;have R4:Row w4 P (bs++List.replicate 4 0):=by
  have:=hg4.out;unfold Row;rw [this];congr 2;rw [<- HNN.out];simp [splice,cellB]
 have g4:Past W w4:=⟨hb4.os.trans HG.out.1,hb4.output.trans HG.out.2.1,Nat.le_trans HG.out.2.2.1 hb4.size,fun k hk=>(hb4.block k (by have:=HPP.out;omega)).trans (HG.out.2.2.2 k hk)⟩
 clear hg4 hb4 LAW HR HG g2 hrun;go_wp2_with fail;refine(SM.out _ g4).mono ?_;rintro e w5 ⟨rfl,gg⟩;have R5:=R4.past (Grown.past gg);have g5:=g4.trans (Grown.past gg);clear R4 g4 gg SM;have sl:=sum_lt HB.out;have n1:bs.length+4<=N:=by have:=HNN.out;omega
 have n2:N<=bs.length+4:=by have:=HNN.out;omega
 obtain⟨S,hS⟩:∃ S,sumD bs=S:=⟨_,rfl⟩
 have SS:=LH hS;rw [hS] at sl ⊢;clear hS;go_wp2_with fail;go_loopw [15] (fun i wr=>∃ (m:Nat),m<=4/\i=.int .i64 (m:Int)/\Row wr P (bs++(le4 S).take m++List.replicate (4-m) 0)/\Hid (Past W wr)) (fun i _=>4-(intOf i).toNat)
 case atStart=>exact⟨0,by omega,rfl,by simpa using R5,LH g5⟩
 case round =>
  clear R5 g5;obtain⟨m,hm,rfl,hr,hp⟩:=hrel;by_cases d:m<4
  ·have f1:=hr.free (bs.length+m);obtain⟨u1,c1⟩:∃ u,wr.cell? ⟨P,bs.length+m,none⟩=some u:=⟨_,hr.cell (i:=bs.length+m) (by simp [le4];omega)⟩
   have nx:=hr.set (bs.length+m) (S / 2 ^ (8*m)%256);rw [laid_at bs m S SS.out.symm d] at nx;have NX:=LH nx;have HL:=LH (hr.lt);have nb:P<wr.heap.size:=hr.lt;clear nx hr;have hm4:m=0\/m=1\/m=2\/m=3:=by omega
   rcases hm4 with rfl|rfl|rfl|rfl
   ·simp only [Nat.add_zero] at f1 c1;go_wp2_with fail;exact⟨⟨1,by omega,rfl,by simpa using NX.out,LH (hp.out.setCell (by have:=HPP.out;dsimp only;omega) _)⟩,by simp [intOf]⟩
   ·go_wp2_with fail;exact⟨⟨2,by omega,rfl,by simpa using NX.out,LH (hp.out.setCell (by have:=HPP.out;dsimp only;omega) _)⟩,by simp [intOf]⟩
   ·go_wp2_with fail;exact⟨⟨3,by omega,rfl,by simpa using NX.out,LH (hp.out.setCell (by have:=HPP.out;dsimp only;omega) _)⟩,by simp [intOf]⟩
   ·go_wp2_with fail;have q:(S:Int) / 16777216%256=(S:Int) / 16777216:=by omega
    exact⟨⟨4,by omega,rfl,by simpa [q] using NX.out,LH (hp.out.setCell (by have:=HPP.out;dsimp only;omega) _)⟩,by simp [intOf]⟩
  ·have e4:m=4:=by omega
   subst e4;have HR:=LH hr;clear hr;go_wp2_with fail;go_ret;refine⟨rfl,?_,hp.out⟩;have:=HR.out;unfold sealD;rw [SS.out];simpa [le4] using this
end Go.Proofs.YtejllmjkeefloaaGreat.Q7
