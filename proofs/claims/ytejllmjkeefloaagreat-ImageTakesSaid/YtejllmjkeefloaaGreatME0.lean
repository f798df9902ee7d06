/- Small: a Bool for what may be; nodes and graphs part by part. An argument that is an image. markOf; lay: an image's bytes, or the first error. lay: an image's bytes, or the first error. The reference of layer 3: its small tests. -/
import Derived.Deep.DeepCutAuto
import Derived.Test.YtejllmjkeefloaaGreatMA1
import Derived.Test.YtejllmjkeefloaaGreatMI14
namespace Go.Proofs.YtejllmjkeefloaaGreat
open Go.ChangeShapes Go.WideShapes Go.ChangeAt Go.RowKit
set_option linter.unusedVariables false
theorem bool_any (p:Prop):∃ t:Bool,(t=true↔p):=by
 rcases Classical.em p with h|h
 ·exact⟨true,by simp [h]⟩
 ·exact⟨false,by simp [h]⟩
theorem nodes_ext {xs ys:List NodeD}(h:xs.length=ys.length):xs=ys↔∀ j,j<xs.length->xs.getD j default=ys.getD j default:=by
 constructor
 ·rintro rfl j _;rfl
 ·intro k;refine List.ext_getElem h (fun i h1 h2=>?_);have:=k i h1;simpa [List.getD,h1,h2] using this
theorem graph_eq (a b:GraphD):a=b↔a.ins=b.ins/\a.nodes=b.nodes/\a.outs=b.outs:=by
 cases a
 cases b
 simp
end Go.Proofs.YtejllmjkeefloaaGreat
namespace Go.Proofs.YtejllmjkeefloaaGreat
open Go.ChangeShapes Go.WideShapes Go.ChangeAt Go.RowKit
set_option maxRecDepth 20000
set_option linter.unusedVariables false
set_option linter.unusedSimpArgs false
theorem seven {α:Type}{l:List α}(h:l.length=7):∃ a b c d e f g,l=[a,b,c,d,e,f,g]:=by
 match l,h with
 | [a,b,c,d,e,f,g],_=>exact⟨a,b,c,d,e,f,g,rfl⟩
section
variable {H:Type} {enc:TypeId×Value->H} {W:World}
end
end Go.Proofs.YtejllmjkeefloaaGreat
namespace Go.Proofs.YtejllmjkeefloaaGreat
open Go.ChangeShapes Go.WideShapes Go.ChangeAt Go.RowKit
set_option maxRecDepth 20000
set_option linter.unusedVariables false
set_option linter.unusedSimpArgs false
theorem mark_any (x:Int) (W:World) (h0:0≤x) (h1:x<16777216):Calls Tryz.prog 55 #[.int .i64 x] W fun e w'=>e=.returned (.agg #[.int .u8 (x / 65536%256),.int .u8 (x / 256%256),.int .u8 (x%256)])∧Past W w':=by
 go_enter Tryz.func55,Tryz.ntmps55
 go_upto_region 1 with fail
 obtain ⟨Q,hQ⟩:∃ Q,W.heap.size=Q:=⟨_,rfl⟩
 refine opq (fun w'=>(Bx w' Q #[.int .u8 0,.int .u8 0,.int .u8 0])∧(Fr w' Q)∧Past W w'∧Q+1≤w'.heap.size) (by
  subst hQ
  exact ⟨by (exact kKeep),by (exact kKeep),by (exact kKeep),by (exact kKeep)⟩) ?_
 rintro w0 ⟨q0,f0,p0,s0⟩
 try rw [hQ]
 go_wp2_with fail
 have b4:=box_set3 (y0:=.int .u8 (x / 65536)) (y1:=.int .u8 (x / 256%256)) (y2:=.int .u8 (x%256)) q0
 have p4:Past W (((w0.setCell ⟨Q,0,none⟩ (.int .u8 (x / 65536))).setCell ⟨Q,1,none⟩ (.int .u8 (x / 256%256))).setCell ⟨Q,2,none⟩ (.int .u8 (x%256))):=((p0.setCell (p:=⟨Q,0,none⟩) (by simp only;omega) _).setCell (p:=⟨Q,1,none⟩) (by simp only;omega) _).setCell (p:=⟨Q,2,none⟩) (by simp only;omega) _
 clear q0 p0
 generalize (((w0.setCell ⟨Q,0,none⟩ (.int .u8 (x / 65536))).setCell ⟨Q,1,none⟩ (.int .u8 (x / 256%256))).setCell ⟨Q,2,none⟩ (.int .u8 (x%256)))=w9 at *
 exact bodyPost_ret (v:=.agg #[.int .u8 (x / 65536),.int .u8 (x / 256%256),.int .u8 (x%256)]) (by simp [results,Tryz.results55,go_sem,b4]) rfl ⟨by rw [show x / 65536%256=x / 65536 by omega],p4⟩
end Go.Proofs.YtejllmjkeefloaaGreat
namespace Go.Proofs.YtejllmjkeefloaaGreat
open Go.ChangeShapes Go.WideShapes Go.ChangeAt Go.RowKit
set_option maxRecDepth 20000
set_option linter.unusedVariables false
set_option linter.unusedSimpArgs false
def LayI (i:ImgD) (W:World) (e:Ending) (w':World):Prop :=
 (mayI i=0∧∃ v,e=.returned (.tuple #[v,.int .i64 0])∧IsNums .u8 w' v (imgB i)∧Past W w') ∨
 (mayI i≠0∧e=.returned (.tuple #[.slice none 0 0,.int .i64 (mayI i)])∧Past W w')
theorem ownR_of {w:World}{base:Nat}{v:Value}{xs:List Int}(h:OwnB w base v xs):Q8.OwnR w base v xs:=h.1
theorem nums8_of {w:World}{base:Nat}{v:Value}{xs:List Int}(h:Q8.OwnB w base v xs)(hb:bytesP xs):IsNums .u8 w v xs:=Q8.nums_of_ownI (t:=5) h.1 (Q8.wf_u8_of hb)
def streamD (i:ImgD)(k:Nat):List (List Int):=if k=0 then i.s0 else if k=1 then i.s1 else i.s2
def headB (i:ImgD):List Int:=graphB i.g++i.pl.flatMap (numB 3)
def streamsB (i:ImgD):Nat->List Int
 | 0=>[]
 | k+1=>streamsB i k++putS (streamD i k)
theorem headB_len (i:ImgD):(headB i).length=(graphB i.g).length+3*i.pl.length:=by
 have:∀ l:List Int,(l.flatMap (numB 3)).length=3*l.length:=by
  intro l;induction l with
  | nil=>rfl
  | cons x l ih=>simp only [List.flatMap_cons,List.length_append,numB_len,ih,List.length_cons];omega
 simp only [headB,List.length_append,this]
theorem imgB_eq (i:ImgD):headB i++streamsB i 3=imgB i:=by
 simp only [streamsB,streamD,imgB,headB,List.nil_append,List.append_assoc,if_true,show ¬ ((1:Nat)=0) by decide,show ¬ ((2:Nat)=0) by decide,show ¬ ((2:Nat)=1) by decide,if_false]
theorem streamsB_len (i:ImgD)(k:Nat)(h:∀ j,j<k->(streamD i j).length<=4096):(streamsB i k).length<=60000*k:=by
 induction k with
 | zero=>simp [streamsB]
 | succ k ih =>
  have a:=ih (fun j hj=>h j (by omega));have b:=Q8.putB_len (streamD i k);have c:=h k (by omega);simp only [streamsB,List.length_append,putS];omega
theorem putE_ok {l:List (List Int)}(h:Q8.putE l=0):Q8.putL l=putS l/\l.length<=4096/\∀ c∈l,Q8.mayD c:=by
 unfold Q8.putE at h;split at h
 ·cases h
 ·split at h
  ·rename_i a b;exact⟨if_pos ⟨by omega,b⟩,by omega,b⟩
  ·cases h
theorem mayI_graph {i:ImgD}(h:valuesE i.g≠0):mayI i=valuesE i.g:=if_pos h
theorem mayI_places {i:ImgD}(h:valuesE i.g=0)(p:¬ placedP i.g i.pl):mayI i=1:=by unfold mayI;rw [if_neg (by simp [h]),if_pos p]
theorem mayI_head {i:ImgD}(h:valuesE i.g=0)(p:placedP i.g i.pl):mayI i=if Q8.putE i.s0≠0 then Q8.putE i.s0 else if Q8.putE i.s1≠0 then Q8.putE i.s1 else Q8.putE i.s2:=by unfold mayI;rw [if_neg (by simp [h]),if_neg (by simp [p])]
theorem mayI_bad {i:ImgD}(h:valuesE i.g=0)(p:placedP i.g i.pl){k:Nat}(hk:k<3)(hj:∀ j,j<k->Q8.putE (streamD i j)=0)(hb:Q8.putE (streamD i k)≠0):mayI i=Q8.putE (streamD i k):=by
 rw [mayI_head h p];rcases (show k=0\/k=1\/k=2 by omega) with rfl|rfl|rfl
 ·have hb:Q8.putE i.s0≠0:=hb;rw [if_pos hb];rfl
 ·have hb:Q8.putE i.s1≠0:=hb;have h0:Q8.putE i.s0=0:=hj 0 (by omega);rw [if_neg (by simp [h0]),if_pos hb];rfl
 ·have h0:Q8.putE i.s0=0:=hj 0 (by omega);have h1:Q8.putE i.s1=0:=hj 1 (by omega);rw [if_neg (by simp [h0]),if_neg (by simp [h1])];rfl
theorem mayI_ok {i:ImgD}(h:valuesE i.g=0)(p:placedP i.g i.pl)(hj:∀ j,j<3->Q8.putE (streamD i j)=0):mayI i=0:=by
 rw [mayI_head h p];have h0:Q8.putE i.s0=0:=hj 0 (by omega);have h1:Q8.putE i.s1=0:=hj 1 (by omega);have h2:Q8.putE i.s2=0:=hj 2 (by omega);rw [if_neg (by simp [h0]),if_neg (by simp [h1]),h2]
theorem may_parts {i:ImgD}(h:mayI i=0):valuesE i.g=0/\placedP i.g i.pl/\Q8.putE i.s0=0/\Q8.putE i.s1=0/\Q8.putE i.s2=0:=by
 unfold mayI at h;split at h
 ·rename_i a;exact absurd h a
 ·rename_i a;split at h
  ·cases h
  ·rename_i b;split at h
   ·rename_i c;exact absurd h c
   ·rename_i c;split at h
    ·rename_i d;exact absurd h d
    ·rename_i d;exact⟨by simpa using a,by simpa using b,by simpa using c,by simpa using d,h⟩
theorem flat3_take (l:List Int)(k:Nat)(h:k<l.length):(l.take (k+1)).flatMap (numB 3)=(l.take k).flatMap (numB 3)++numB 3 (l.getD k 0):=by
 rw [List.take_succ_eq_append_getElem h,List.flatMap_append];simp [List.getD,h]
theorem flat3_le (l:List Int)(k:Nat):((l.take k).flatMap (numB 3)).length<=3*l.length:=by
 have:∀ l:List Int,(l.flatMap (numB 3)).length=3*l.length:=by
  intro l;induction l with
  | nil=>rfl
  | cons x l ih=>simp only [List.flatMap_cons,List.length_append,numB_len,ih,List.length_cons];omega
 rw [this,List.length_take];omega
theorem numB3 (x:Int):numB 3 x=[x / 65536%256,x / 256%256,x%256]:=by
 simp [numB]
theorem nums_box3 {w:World} {b:Nat} {x:Int} (hb:(Bx w b #[.int .u8 (x / 65536%256),.int .u8 (x / 256%256),.int .u8 (x%256)])) (hl:b<w.heap.size):IsNums .u8 w (.slice (some ⟨b,0,none⟩) 3 3) (numB 3 x):=by
 rw [numB3];have hw:∀ y∈numB 3 x,(Lit.int .u8 y).wf=true:=Q8.wf_u8_of (numB_bytes 3 x);rw [numB3] at hw;have hm:(3:Nat)<=maxLen:=by unfold maxLen;omega
 refine ⟨some ⟨b,0,none⟩,3,rfl,(by simp),hm,(fun h=>by cases h),hw,fun _=>⟨b,0,rfl,hl,?_⟩⟩;intro j hj;simp only [List.length_cons,List.length_nil] at hj;rw [Nat.zero_add,hb j];rcases (show j=0\/j=1\/j=2 by omega) with rfl|rfl|rfl <;> rfl
set_option maxHeartbeats 8000000 in
theorem lay_any (i : ImgD) (v : Value) (W : World) (h : IsImg W v i) (hc : Cut i.g) (hz : (graphB i.g).length ≤ 500000) : Calls Tryz.prog 22 #[v] W (LayI i W) := by
 have HI := LH h
 obtain ⟨A1, c1, A2, c2, A3, c3, A4, c4, A5, c5, A6, c6, A7, c7, rfl, hg, hp, h0, h1, h2⟩ := h.form
 have PA := LH (fun w (p : Past W w) => put_any i.g _ w (hg.grow p) hc (by omega))
 have HP := LH hp
 have H0 := LH h0
 have H1 := LH h1
 have H2 := LH h2
 have HC := LH hc
 have HZ := LH hz
 have OK := LH (wf_of_graph hg)
 have hm1 : i.pl.length ≤ 9223372036854775807 := by obtain ⟨_, _, e, k1, k2, _⟩ := hp; unfold maxLen at k2; omega
 unfold PutPost at PA
 clear h hg hp h0 h1 h2 hc hz
 go_enter Tryz.func22, Tryz.ntmps22
 go_upto_region 1 with fail
 obtain ⟨Q, hQ⟩ : ∃ Q, W.heap.size = Q := ⟨_, rfl⟩
 refine opq (fun w' => (Bx w' Q #[.slice A1 i.g.ins.length c1, .slice A2 i.g.nodes.length c2, .slice A3 i.g.outs.length c3, .slice A4 i.pl.length c4, .slice A5 i.s0.length c5, .slice A6 i.s1.length c6, .slice A7 i.s2.length c7]) ∧ Past W w' ∧ w'.heap.size = Q + 1) (by
  subst hQ
  exact ⟨by (exact kKeep), by (exact kKeep), by simp⟩) ?_
 rintro w0 ⟨q0, p0, s0⟩
 try rw [hQ]
 have S0 := LH s0
 have s0' : Q + 1 ≤ w0.heap.size := by omega
 clear s0
 obtain ⟨E, hE⟩ : ∃ E, valuesE i.g = E := ⟨_, rfl⟩
 rw [hE] at PA
 have HE := LH hE
 clear hE
 go_wp2_with fail
 refine (PA.out _ p0).mono ?_
 rintro e w1 (⟨e0, bv, rfl, ob, pp1⟩ | ⟨e0, rfl, pp1⟩)
 ·subst e0
  have q1 := box_past pp1 q0 (by omega)
  have p1 := p0.trans pp1
  have s1 : Q + 1 ≤ w1.heap.size := by have := pp1.2.2.1; omega
  have OB : Hid (Q8.OwnR w1 w0.heap.size bv (graphB i.g)) := LH (ownR_of ob)
  have II := LH (HI.out.grow p1)
  obtain ⟨t, ht⟩ := bool_any (placedP i.g i.pl)
  have PL := LH (placed_any i _ t w1 II.out HC.out ht)
  have HT := LH ht
  obtain ⟨Ab, cb, rfl, _, _⟩ := own_slice' ob.1
  have Q0 := LH q0
  clear q0 ob PA II ht
  have wt := LH pp1
  clear pp1
  go_wp2_with (first | refine wpList_load_box rfl 32 (.tmp 1) rfl Q _ rfl q1 Tryz.underlying32 rfl (by kernel_rfl) ?_)
  refine PL.out.mono ?_
  rintro e w2 ⟨rfl, pp2⟩
  have q2 := box_past pp2 q1 (by omega)
  have p2 := p1.trans pp2
  have s2 : Q + 1 ≤ w2.heap.size := by have := pp2.2.2.1; omega
  have OB2 := LH (OB.out.past pp2)
  have wt2 := LH (wt.out.trans pp2)
  clear q1 p1 s1 pp2 OB PL wt
  cases t with
  | false =>
   have N := LH (mayI_places HE.out (fun f => by have := HT.out.2 f; cases this))
   go_wp2_with fail
   go_ret2
   exact .inr ⟨by rw [N.out]; decide, by rw [N.out]; rfl, p2⟩
  | true =>
   have YP := LH (HT.out.1 rfl)
   have pln : i.pl.length ≤ 16 := by
    have a := (makes_facts HE.out).1
    have b := (begins_ok (values_ok HE.out).1).1
    have c := YP.out.1
    omega
   clear HT
   go_upto_region 7 with fail
   go_loopw [4, 7, 8, 28] (fun v _ _ j wr => ∃ k : Nat, k ≤ i.pl.length ∧ j = .int .i64 k ∧ Hid (Q8.OwnR wr w0.heap.size v (graphB i.g ++ (i.pl.take k).flatMap (numB 3))) ∧ Hid (Past w0 wr)) (fun _ _ _ j _ => i.pl.length - (intOf j).toNat)
   case atStart => exact ⟨0, by omega, rfl, LH (by simpa using OB2.out), wt2⟩
   case round =>
    obtain ⟨k, hk, rfl, OR, WT⟩ := hrel
    have qr := box_past WT.out Q0.out (by omega)
    have pr := p0.trans WT.out
    have sr : Q + 1 ≤ wr.heap.size := by have := WT.out.2.2.1; omega
    by_cases l : k < i.pl.length
    ·obtain ⟨Px, cpx, ep, pl1, pl2, pl3, pw, pc⟩ := HP.out.grow pr
     simp only [Value.slice.injEq, true_and] at ep
     obtain ⟨rfl, rfl⟩ := ep
     obtain ⟨b', o', rfl, hb', hc'⟩ := pc (by omega)
     have z0 := hc' k l
     have xb := YP.out.2 k l
     have NX := LH (flat3_take i.pl k l)
     have LE := flat3_le i.pl k
     have SB := (sizeV_bd ((valuesL i.g).getD k default)).1
     obtain ⟨x, hx⟩ : ∃ x, i.pl.getD k 0 = x := ⟨_, rfl⟩
     rw [hx] at z0 xb NX
     have MK := LH (fun w => mark_any x w (by omega) (by omega))
     have i1 : (0 : Int) ≤ (k : Int) := by omega
     have i3 : (k : Int) < (i.pl.length : Int) := by omega
     have HLE : Hid ((graphB i.g ++ (i.pl.take k).flatMap (numB 3)).length + 3 ≤ 1000000) := LH (by rw [List.length_append]; have := HZ.out; omega)
     clear hc' hx pw pc xb LE SB qr
     go_upto_region 9 with fail
     go_wp2_with fail
     refine (MK.out _).mono ?_
     rintro e w3 ⟨rfl, pp3⟩
     have OR3 := LH (OR.out.past pp3)
     have WT3 := LH (WT.out.trans pp3)
     clear z0 OR WT MK pr
     go_upto_region 10 with fail
     obtain ⟨T, hT⟩ : ∃ T, w3.heap.size = T := ⟨_, rfl⟩
     refine opq (fun w' => (Bx w' T #[.int .u8 (x / 65536 % 256), .int .u8 (x / 256 % 256), .int .u8 (x % 256)]) ∧ Past w3 w' ∧ T + 1 ≤ w'.heap.size) (by
      subst hT
      exact ⟨by (exact kKeep), by (exact kKeep), by (exact kKeep)⟩) ?_
     rintro w4 ⟨b4, pp4, s4⟩
     try rw [hT]
     have OR4 := LH (OR3.out.past pp4)
     have WT4 := LH (WT3.out.trans pp4)
     have N4 := LH (nums_box3 b4 (by omega))
     have B0 : w0.heap.size ≤ w4.heap.size := WT4.out.2.2.1
     have NL := LH (numB_len 3 x)
     clear OR3 WT3 pp4 b4 hT
     go_wp2_with (refine Q8.wpList_append_b rfl (.tmp 34) (.tmp 35) rfl w0.heap.size _ (graphB i.g ++ (i.pl.take k).flatMap (numB 3)) rfl OR4.out (numB 3 x) (some ⟨T, 0, none⟩) 3 3 rfl N4.out (by rw [NL.out]; exact HLE.out) B0 ?_)
     intro v5 w5 own5 gr5
     have WT5 := LH (WT4.out.grownBy gr5 (fun j hj => OR4.out.lt hj))
     have OR5 : Hid (Q8.OwnR w5 w0.heap.size v5 (graphB i.g ++ (i.pl.take (k + 1)).flatMap (numB 3))) := LH (by simpa only [NX.out, List.append_assoc] using own5)
     clear own5 gr5 OR4 WT4 N4
     go_wp2_with fail
     go_roundw
     case rel => exact ⟨k + 1, by omega, by go_num, OR5, WT5⟩
     case measure => simp [intOf]; omega
    ·have ek : i.pl.take k = i.pl := List.take_of_length_le (by omega)
     rw [ek] at OR
     have OR0 : Hid (Q8.OwnR wr w0.heap.size u4 (headB i ++ streamsB i 0)) := LH (by simpa [streamsB, headB] using OR.out)
     clear OR ek
     have WT0 := WT
     clear WT pr
     go_wp2_with fail
     go_loopw [2, 3, 4, 10, 11, 12, 40] (fun s2 s3 v _ _ _ j wr => (j = .int .i64 0 ∧ s2 = .slice none 0 0 ∧ s3 = .int .i64 0 ∧ Hid (Q8.OwnR wr w0.heap.size v (headB i ++ streamsB i 0)) ∧ Hid (True) ∧ Hid (Past w0 wr)) ∨ (j = .int .i64 1 ∧ s2 = .slice none 0 0 ∧ s3 = .int .i64 0 ∧ Hid (Q8.OwnR wr w0.heap.size v (headB i ++ streamsB i 1)) ∧ Hid (Q8.putE i.s0 = 0) ∧ Hid (Past w0 wr)) ∨ (j = .int .i64 2 ∧ s2 = .slice none 0 0 ∧ s3 = .int .i64 0 ∧ Hid (Q8.OwnR wr w0.heap.size v (headB i ++ streamsB i 2)) ∧ Hid (Q8.putE i.s0 = 0 ∧ Q8.putE i.s1 = 0) ∧ Hid (Past w0 wr)) ∨ (j = .int .i64 3 ∧ s2 = .slice none 0 0 ∧ s3 = .int .i64 0 ∧ Hid (Q8.OwnR wr w0.heap.size v (headB i ++ streamsB i 3)) ∧ Hid (Q8.putE i.s0 = 0 ∧ Q8.putE i.s1 = 0 ∧ Q8.putE i.s2 = 0) ∧ Hid (Past w0 wr))) (fun _ _ _ _ _ _ j _ => 3 - (intOf j).toNat)
     case atStart => exact .inl ⟨rfl, rfl, rfl, OR0, LH True.intro, WT0⟩
     case round =>
      clear OR0 WT0 qr sr
      rcases hrel with ⟨rfl, rfl, rfl, OR, ZE, WT⟩ | ⟨rfl, rfl, rfl, OR, ZE, WT⟩ | ⟨rfl, rfl, rfl, OR, ZE, WT⟩ | ⟨rfl, rfl, rfl, OR, ZE, WT⟩
      all_goals
       have pr := p0.trans WT.out
       have ix0 := idx3_0 (.slice A5 i.s0.length c5) (.slice A6 i.s1.length c6) (.slice A7 i.s2.length c7)
       have ix1 := idx3_1 (.slice A5 i.s0.length c5) (.slice A6 i.s1.length c6) (.slice A7 i.s2.length c7)
       have ix2 := idx3_2 (.slice A5 i.s0.length c5) (.slice A6 i.s1.length c6) (.slice A7 i.s2.length c7)
      ·have PS := LH (Q8.put_any _ i.s0 wr (H0.out.grow pr))
       unfold Q8.PutPost at PS
       obtain ⟨F, hF⟩ : ∃ F, Q8.putE i.s0 = F := ⟨_, rfl⟩
       rw [hF] at PS
       have HF := LH hF
       clear hF
       go_wp2_with fail
       refine PS.out.mono ?_
       rintro e w3 ⟨sv, rfl, so, pp3⟩
       have OR3 := LH (OR.out.past pp3)
       have WT3 := LH (WT.out.trans pp3)
       by_cases e0 : F = 0
       ·subst e0
        have E0 := HF.out
        rw [(putE_ok E0).1] at so
        have SN := LH (nums8_of so (putS_bytes i.s0))
        obtain ⟨As, cs, rfl, _, _⟩ := own_slice' so.1
        have LZ : Hid ((headB i ++ streamsB i 0).length + (putS i.s0).length ≤ 1000000) := LH (by
         rw [List.length_append, headB_len]
         have a := HZ.out
         have b := Q8.putB_len i.s0
         have c := (putE_ok E0).2.1
         have d := streamsB_len i 0 (fun j hj => by omega)
         unfold putS
         omega)
        have B0 : w0.heap.size ≤ w3.heap.size := WT3.out.2.2.1
        obtain ⟨LS, hLS⟩ : ∃ n, (putS i.s0).length = n := ⟨_, rfl⟩
        rw [hLS] at SN ⊢
        have HLS := LH hLS
        clear OR WT PS so hLS
        go_wp2_with (refine Q8.wpList_append_b rfl (.tmp 51) (.tmp 52) rfl w0.heap.size _ (headB i ++ streamsB i 0) rfl OR3.out (putS i.s0) As LS cs rfl SN.out LZ.out B0 ?_)
        intro v5 w5 own5 gr5
        have WT5 := LH (WT3.out.grownBy gr5 (fun j hj => OR3.out.lt hj))
        have OR5 : Hid (Q8.OwnR w5 w0.heap.size v5 (headB i ++ streamsB i 1)) := LH (by
         have e9 : headB i ++ streamsB i 1 = headB i ++ (streamsB i 0 ++ putS i.s0) := rfl
         rw [e9]
         exact own5)
        clear own5 gr5 OR3 WT3 SN LZ
        go_wp2_with fail
        go_roundw
        case rel => exact .inr (.inl ⟨rfl, rfl, rfl, OR5, LH E0, WT5⟩)
        case measure => simp [intOf]
       ·have M : Hid (mayI i = F) := LH (by rw [mayI_bad HE.out YP.out (k := 0) (by omega) (fun j hj => by omega) (by show Q8.putE i.s0 ≠ 0; rw [HF.out]; exact e0)]; exact HF.out)
        have ne : (F != 0) = true := by simpa using e0
        have p3 := p0.trans WT3.out
        obtain ⟨As, cs, rfl, _, _⟩ := own_slice' so.1
        clear OR WT PS so OR3
        go_wp2_with fail
        go_ret2
        exact .inr ⟨by rw [M.out]; exact e0, by rw [M.out]; rfl, p3⟩
      ·have PS := LH (Q8.put_any _ i.s1 wr (H1.out.grow pr))
       unfold Q8.PutPost at PS
       obtain ⟨F, hF⟩ : ∃ F, Q8.putE i.s1 = F := ⟨_, rfl⟩
       rw [hF] at PS
       have HF := LH hF
       clear hF
       go_wp2_with fail
       refine PS.out.mono ?_
       rintro e w3 ⟨sv, rfl, so, pp3⟩
       have OR3 := LH (OR.out.past pp3)
       have WT3 := LH (WT.out.trans pp3)
       by_cases e0 : F = 0
       ·subst e0
        have E0 := HF.out
        rw [(putE_ok E0).1] at so
        have SN := LH (nums8_of so (putS_bytes i.s1))
        obtain ⟨As, cs, rfl, _, _⟩ := own_slice' so.1
        have LZ : Hid ((headB i ++ streamsB i 1).length + (putS i.s1).length ≤ 1000000) := LH (by
         rw [List.length_append, headB_len]
         have a := HZ.out
         have b := Q8.putB_len i.s1
         have c := (putE_ok E0).2.1
         have d := streamsB_len i 1 (fun j hj => by
          obtain rfl : j = 0 := by omega
          exact (putE_ok ZE.out).2.1)
         unfold putS
         omega)
        have B0 : w0.heap.size ≤ w3.heap.size := WT3.out.2.2.1
        obtain ⟨LS, hLS⟩ : ∃ n, (putS i.s1).length = n := ⟨_, rfl⟩
        rw [hLS] at SN ⊢
        have HLS := LH hLS
        clear OR WT PS so hLS
        go_wp2_with (refine Q8.wpList_append_b rfl (.tmp 51) (.tmp 52) rfl w0.heap.size _ (headB i ++ streamsB i 1) rfl OR3.out (putS i.s1) As LS cs rfl SN.out LZ.out B0 ?_)
        intro v5 w5 own5 gr5
        have WT5 := LH (WT3.out.grownBy gr5 (fun j hj => OR3.out.lt hj))
        have OR5 : Hid (Q8.OwnR w5 w0.heap.size v5 (headB i ++ streamsB i 2)) := LH (by
         have e9 : headB i ++ streamsB i 2 = headB i ++ (streamsB i 1 ++ putS i.s1) := rfl
         rw [e9]
         exact own5)
        clear own5 gr5 OR3 WT3 SN LZ
        go_wp2_with fail
        go_roundw
        case rel => exact .inr (.inr (.inl ⟨rfl, rfl, rfl, OR5, LH ⟨ZE.out, E0⟩, WT5⟩))
        case measure => simp [intOf]
       ·have M : Hid (mayI i = F) := LH (by rw [mayI_bad HE.out YP.out (k := 1) (by omega) (fun j hj => by
        obtain rfl : j = 0 := by omega
        exact ZE.out) (by show Q8.putE i.s1 ≠ 0; rw [HF.out]; exact e0)]; exact HF.out)
        have ne : (F != 0) = true := by simpa using e0
        have p3 := p0.trans WT3.out
        obtain ⟨As, cs, rfl, _, _⟩ := own_slice' so.1
        clear OR WT PS so OR3
        go_wp2_with fail
        go_ret2
        exact .inr ⟨by rw [M.out]; exact e0, by rw [M.out]; rfl, p3⟩
      ·have PS := LH (Q8.put_any _ i.s2 wr (H2.out.grow pr))
       unfold Q8.PutPost at PS
       obtain ⟨F, hF⟩ : ∃ F, Q8.putE i.s2 = F := ⟨_, rfl⟩
       rw [hF] at PS
       have HF := LH hF
       clear hF
       go_wp2_with fail
       refine PS.out.mono ?_
       rintro e w3 ⟨sv, rfl, so, pp3⟩
       have OR3 := LH (OR.out.past pp3)
       have WT3 := LH (WT.out.trans pp3)
       by_cases e0 : F = 0
       ·subst e0
        have E0 := HF.out
        rw [(putE_ok E0).1] at so
        have SN := LH (nums8_of so (putS_bytes i.s2))
        obtain ⟨As, cs, rfl, _, _⟩ := own_slice' so.1
        have LZ : Hid ((headB i ++ streamsB i 2).length + (putS i.s2).length ≤ 1000000) := LH (by
         rw [List.length_append, headB_len]
         have a := HZ.out
         have b := Q8.putB_len i.s2
         have c := (putE_ok E0).2.1
         have d := streamsB_len i 2 (fun j hj => by
          rcases (show j = 0 ∨ j = 1 by omega) with rfl | rfl
          ·exact (putE_ok ZE.out.1).2.1
          ·exact (putE_ok ZE.out.2).2.1)
         unfold putS
         omega)
        have B0 : w0.heap.size ≤ w3.heap.size := WT3.out.2.2.1
        obtain ⟨LS, hLS⟩ : ∃ n, (putS i.s2).length = n := ⟨_, rfl⟩
        rw [hLS] at SN ⊢
        have HLS := LH hLS
        clear OR WT PS so hLS
        go_wp2_with (refine Q8.wpList_append_b rfl (.tmp 51) (.tmp 52) rfl w0.heap.size _ (headB i ++ streamsB i 2) rfl OR3.out (putS i.s2) As LS cs rfl SN.out LZ.out B0 ?_)
        intro v5 w5 own5 gr5
        have WT5 := LH (WT3.out.grownBy gr5 (fun j hj => OR3.out.lt hj))
        have OR5 : Hid (Q8.OwnR w5 w0.heap.size v5 (headB i ++ streamsB i 3)) := LH (by
         have e9 : headB i ++ streamsB i 3 = headB i ++ (streamsB i 2 ++ putS i.s2) := rfl
         rw [e9]
         exact own5)
        clear own5 gr5 OR3 WT3 SN LZ
        go_wp2_with fail
        go_roundw
        case rel => exact .inr (.inr (.inr ⟨rfl, rfl, rfl, OR5, LH ⟨ZE.out.1, ZE.out.2, E0⟩, WT5⟩))
        case measure => simp [intOf]
       ·have M : Hid (mayI i = F) := LH (by rw [mayI_bad HE.out YP.out (k := 2) (by omega) (fun j hj => by
        rcases (show j = 0 ∨ j = 1 by omega) with rfl | rfl
        ·exact ZE.out.1
        ·exact ZE.out.2) (by show Q8.putE i.s2 ≠ 0; rw [HF.out]; exact e0)]; exact HF.out)
        have ne : (F != 0) = true := by simpa using e0
        have p3 := p0.trans WT3.out
        obtain ⟨As, cs, rfl, _, _⟩ := own_slice' so.1
        clear OR WT PS so OR3
        go_wp2_with fail
        go_ret2
        exact .inr ⟨by rw [M.out]; exact e0, by rw [M.out]; rfl, p3⟩
      ·have M : Hid (mayI i = 0) := LH (mayI_ok HE.out YP.out (fun j hj => by
        rcases (show j = 0 ∨ j = 1 ∨ j = 2 by omega) with rfl | rfl | rfl
        ·exact ZE.out.1
        ·exact ZE.out.2.1
        ·exact ZE.out.2.2))
       have NU : Hid (IsNums .u8 wr u4 (imgB i)) := LH (by
        have := OR.out.nums (by rw [imgB_eq]; exact imgB_bytes i)
        rw [imgB_eq] at this
        exact this)
       obtain ⟨As, cs, rfl, _, _⟩ := own_slice' OR.out
       go_wp2_with fail
       go_ret2
       exact .inl ⟨M.out, _, rfl, NU.out, pr⟩
 ·have p1 := p0.trans pp1
  have M : Hid (mayI i = E) := LH (by rw [mayI_graph (by rw [HE.out]; exact e0), HE.out])
  have ne : (E != 0) = true := by simpa using e0
  go_wp2_with fail
  go_ret2
  exact .inr ⟨by rw [M.out]; exact e0, by rw [M.out]; rfl, p1⟩
end Go.Proofs.YtejllmjkeefloaaGreat
namespace Go.Proofs.YtejllmjkeefloaaGreat
open Go.ChangeShapes Go.WideShapes Go.ChangeAt Go.RowKit
set_option maxRecDepth 20000
set_option linter.unusedVariables false
theorem rin_any (x lo hi:Int)(t:Bool)(w:World)(ht:Hid (t=true↔lo<=x/\x<=hi)):Calls Tryz.prog 76 #[.int .i64 x,.int .i64 lo,.int .i64 hi] w fun e w'=>e=.returned (.bool t)/\Grown w w':=by
 by_cases c1:lo<=x
 ·have d1:decide (lo<=x)=true:=by simpa using c1
  by_cases c2:x<=hi
  ·have d2:decide (x<=hi)=true:=by simpa using c2
   obtain rfl:t=true:=ht.out.mpr ⟨c1,c2⟩;clear c1 c2 ht;go_enter Tryz.func76,Tryz.ntmps76;go_wp2_with fail;go_ret;exact⟨rfl,by go_grown⟩
  ·have d2:decide (x<=hi)=false:=by simpa using c2
   obtain rfl:t=false:=by
    cases t
    ·rfl
    ·exact absurd (ht.out.mp rfl).2 c2
   clear c1 c2 ht;go_enter Tryz.func76,Tryz.ntmps76;go_wp2_with fail;go_ret;exact⟨rfl,by go_grown⟩
 ·have d1:decide (lo<=x)=false:=by simpa using c1
  obtain rfl:t=false:=by
   cases t
   ·rfl
   ·exact absurd (ht.out.mp rfl).1 c1
  clear c1 ht;go_enter Tryz.func76,Tryz.ntmps76;go_wp2_with fail;go_ret;exact⟨rfl,by go_grown⟩
theorem two_any (o:Int)(t:Bool)(w:World)(ht:Hid (t=true↔o=6\/o=7\/o=10)):Calls Tryz.prog 140 #[.int .i64 o] w fun e w'=>e=.returned (.bool t)/\Grown w w':=by
 by_cases c6:o=6
 ·obtain rfl:t=true:=ht.out.mpr (by simp [c6]);subst c6;clear ht;go_enter Tryz.func140,Tryz.ntmps140;go_wp2_with fail;go_ret;exact⟨rfl,by go_grown⟩
 have d6:(o==6)=false:=by simp [c6]
 by_cases c7:o=7
 ·obtain rfl:t=true:=ht.out.mpr (by simp [c7]);subst c7;clear ht;go_enter Tryz.func140,Tryz.ntmps140;go_wp2_with fail;go_ret;exact⟨rfl,by go_grown⟩
 have d7:(o==7)=false:=by simp [c7]
 by_cases c10:o=10
 ·obtain rfl:t=true:=ht.out.mpr (by simp [c10]);subst c10;clear ht;go_enter Tryz.func140,Tryz.ntmps140;go_wp2_with fail;go_ret;exact⟨rfl,by go_grown⟩
 have d10:(o==10)=false:=by simp [c10]
 obtain rfl:t=false:=by
  cases t
  ·rfl
  ·have:=ht.out.mp rfl;omega
 clear c6 c7 c10 ht;go_enter Tryz.func140,Tryz.ntmps140;go_wp2_with fail;go_ret;exact⟨rfl,by go_grown⟩
theorem rkeeps_any (o:Int)(t:Bool)(w:World)(ht:Hid (t=true↔o=4\/o=5\/o=8\/o=9\/o=10\/o=11)):Calls Tryz.prog 108 #[.int .i64 o] w fun e w'=>e=.returned (.bool t)/\Grown w w':=by
 by_cases c4:o=4
 ·obtain rfl:t=true:=ht.out.mpr (by simp [c4]);subst c4;clear ht;go_enter Tryz.func108,Tryz.ntmps108;go_wp2_with fail;go_ret;exact⟨rfl,by go_grown⟩
 have d4:(o==4)=false:=by simp [c4]
 by_cases c5:o=5
 ·obtain rfl:t=true:=ht.out.mpr (by simp [c5]);subst c5;clear ht;go_enter Tryz.func108,Tryz.ntmps108;go_wp2_with fail;go_ret;exact⟨rfl,by go_grown⟩
 have d5:(o==5)=false:=by simp [c5]
 by_cases c8:o=8
 ·obtain rfl:t=true:=ht.out.mpr (by simp [c8]);subst c8;clear ht;go_enter Tryz.func108,Tryz.ntmps108;go_wp2_with fail;go_ret;exact⟨rfl,by go_grown⟩
 have d8:(o==8)=false:=by simp [c8]
 by_cases c9:o=9
 ·obtain rfl:t=true:=ht.out.mpr (by simp [c9]);subst c9;clear ht;go_enter Tryz.func108,Tryz.ntmps108;go_wp2_with fail;go_ret;exact⟨rfl,by go_grown⟩
 have d9:(o==9)=false:=by simp [c9]
 by_cases c10:o=10
 ·obtain rfl:t=true:=ht.out.mpr (by simp [c10]);subst c10;clear ht;go_enter Tryz.func108,Tryz.ntmps108;go_wp2_with fail;go_ret;exact⟨rfl,by go_grown⟩
 have d10:(o==10)=false:=by simp [c10]
 by_cases c11:o=11
 ·obtain rfl:t=true:=ht.out.mpr (by simp [c11]);subst c11;clear ht;go_enter Tryz.func108,Tryz.ntmps108;go_wp2_with fail;go_ret;exact⟨rfl,by go_grown⟩
 have d11:(o==11)=false:=by simp [c11]
 obtain rfl:t=false:=by
  cases t
  ·rfl
  ·have:=ht.out.mp rfl;omega
 clear c4 c5 c8 c9 c10 c11 ht;go_enter Tryz.func108,Tryz.ntmps108;go_wp2_with fail;go_ret;exact⟨rfl,by go_grown⟩
theorem window_any (o : Int) (t : Bool) (w : World) (ht : Hid (t = true ↔ 1 ≤ o ∧ o ≤ 5 ∧ o ≠ 3)) : Calls Tryz.prog 141 #[.int .i64 o] w fun e w' => e = .returned (.bool t) ∧ Grown w w' := by
 by_cases c1 : 1 ≤ o
 ·have d1 : decide (1 ≤ o) = true := by simpa using c1
  by_cases c2 : o ≤ 5
  ·have d2 : decide (o ≤ 5) = true := by simpa using c2
   by_cases c3 : o = 3
   ·obtain rfl : t = false := by
     cases t
     ·rfl
     ·exact absurd c3 (ht.out.mp rfl).2.2
    subst c3
    clear c1 c2 d1 d2 ht
    go_enter Tryz.func141, Tryz.ntmps141
    go_wp2_with fail
    go_ret
    exact ⟨rfl, by go_grown⟩
   ·have d3 : (o != 3) = true := by simpa using c3
    obtain rfl : t = true := ht.out.mpr ⟨c1, c2, c3⟩
    clear c1 c2 c3 ht
    go_enter Tryz.func141, Tryz.ntmps141
    go_wp2_with fail
    go_ret
    exact ⟨rfl, by go_grown⟩
  ·have d2 : decide (o ≤ 5) = false := by simpa using c2
   obtain rfl : t = false := by
    cases t
    ·rfl
    ·exact absurd (ht.out.mp rfl).2.1 c2
   clear c1 c2 ht
   go_enter Tryz.func141, Tryz.ntmps141
   go_wp2_with fail
   go_ret
   exact ⟨rfl, by go_grown⟩
 ·have d1 : decide (1 ≤ o) = false := by simpa using c1
  obtain rfl : t = false := by
   cases t
   ·rfl
   ·exact absurd (ht.out.mp rfl).1 c1
  clear c1 ht
  go_enter Tryz.func141, Tryz.ntmps141
  go_wp2_with fail
  go_ret
  exact ⟨rfl, by go_grown⟩
end Go.Proofs.YtejllmjkeefloaaGreat
