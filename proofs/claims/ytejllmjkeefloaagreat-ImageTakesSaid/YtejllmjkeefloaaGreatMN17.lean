/- Take. Whole. A graph that may be has numbers that have room in their bytes; what was put and what is taken. Layer 9 in numbers: an image, its bytes, and how bytes are taken as one. -/
import Derived.Test.YtejllmjkeefloaaGreatMN13
import Derived.Test.YtejllmjkeefloaaGreatMI13
namespace Go.Proofs.YtejllmjkeefloaaGreat
open Go.ChangeShapes Go.WideShapes Go.ChangeAt Go.RowKit
set_option maxRecDepth 20000
set_option linter.unusedVariables false
def TookP (bs:List Int):Prop:=(graphR ⟨bs,false⟩).2.short=false/\valuesE (graphR ⟨bs,false⟩).1=0
def TakePost (bs:List Int) (W:World) (e:Ending) (w':World):Prop :=
 (TookP bs∧∃ gv,e=.returned (.tuple #[gv,.int .i64 ((bs.length:Int)-((graphR ⟨bs,false⟩).2.rest.length:Int)),.int .i64 0])∧IsGraph w' gv (graphR ⟨bs,false⟩).1∧Past W w') ∨
 (¬ TookP bs∧e=.returned (.tuple #[.agg #[.slice none 0 0,.slice none 0 0,.slice none 0 0],.int .i64 0,.int .i64 2])∧Past W w')
theorem bytes_of_nums {w:World}{A:Option Addr}{cap n:Nat}{bs:List Int}(h:IsNums .u8 w (.slice A n cap) bs):n=bs.length/\Bytes w w.heap.size A cap bs:=by
 obtain⟨A',cap',e,h2,h3,h4,h5,h6⟩:=h;simp only [Value.slice.injEq] at e;obtain⟨rfl,rfl,rfl⟩:=e;exact⟨rfl,h2,h3,h5,fun hp=>by
  obtain⟨b,off,e,hb,hc⟩:=h6 hp;exact⟨b,off,e,hb,hc⟩⟩
theorem graph_save {B:Nat}{w w':World}{v:Value}{g:GraphD}(h:IsGraph w v g)(hN:NoInt w B)(k:Save B w w'):IsGraph w' v g:=by
 obtain⟨a,b,c,rfl,h1,h2,h3⟩:=h;exact⟨a,b,c,rfl,vals_save h1 hN k,nodes_save h2 hN k,nums_save h3 hN k⟩
set_option maxHeartbeats 8000000 in
theorem take_any (bv : Value) (bs : List Int) (W : World) (hb : IsNums .u8 W bv bs) (hl : bs.length ≤ 1000000000) : Calls Tryz.prog 29 #[bv] W (TakePost bs W) := by
 have hb0 := hb
 obtain ⟨A, cap, rfl, _, _, _, _, _⟩ := hb
 have BY := LH (bytes_of_nums hb0).2
 have hm : bs.length ≤ 9223372036854775807 := by omega
 have HB := LH hb0
 clear hb0
 obtain ⟨r, hr⟩ : ∃ x, graphR ⟨bs, false⟩ = x := ⟨_, rfl⟩
 have HR := LH hr
 have CU : Hid (Cut r.1) := LH (by rw [← hr]; exact graphR_cut _ BY.out.bytesP)
 have CG := LH (fun w P (k : RdAt w W.heap.size P ⟨bs, false⟩) => graph_rd W.heap.size P ⟨bs, false⟩ w k)
 rw [hr] at CG
 clear hr
 go_enter Tryz.func29, Tryz.ntmps29
 go_upto_region 2 with fail
 obtain ⟨Q, hQ⟩ : ∃ Q, W.heap.size = Q := ⟨_, rfl⟩
 refine opq (fun w' => (Bx w' Q #[.slice none 0 0, .slice none 0 0, .slice none 0 0]) ∧ (Fr w' Q) ∧ Hid (RdAt w' W.heap.size (Q + 1) ⟨bs, false⟩) ∧ Past W w' ∧ Q + 2 ≤ w'.heap.size) (by
  subst hQ
  exact ⟨by (exact kKeep), by (exact kKeep), LH ⟨A, cap, by (exact kKeep), by (exact kKeep), BY.out.keep (P := W.heap.size + 1) (Keep.of_past (((Past.refl W).alloc _).alloc _)) (by omega) (Nat.le_refl _), by omega, by simp⟩, by (exact kKeep), by (exact kKeep)⟩) ?_
 rintro w0 ⟨q0, f0, R0, p0, s0⟩
 try rw [hQ]
 try simp only [World.size_alloc, hQ]
 go_wp2_with fail
 refine (CG.out _ _ R0.out).mono ?_
 rintro e w1 ⟨gv, rfl, ig, r1, k1⟩
 have IG := LH ig
 have q1 := box_keep k1 q0 (by omega) (by omega)
 have f1 := free_keep k1 f0 (by omega) (by omega)
 have p1 := k1.past p0 (by omega)
 have s1 : Q + 2 ≤ w1.heap.size := by have := k1.2.2.1; omega
 obtain ⟨iv, nv, ov, rfl, hi, hn, ho⟩ := ig
 obtain ⟨A1, c1, rfl, _, _, _, _, _⟩ := hi
 obtain ⟨A2, c2, rfl, _, _, _, _, _⟩ := hn
 obtain ⟨A3, c3, rfl, _, _, _, _, _⟩ := ho
 obtain ⟨AR, cr, rb, rf, rby, _, _⟩ := r1
 clear q0 f0 R0 p0 s0 k1 CG
 obtain ⟨S, hS⟩ : ∃ S, w1.heap.size = S := ⟨_, rfl⟩
 go_upto_region 3 with fail
 refine opq (fun w' => (Bx w' Q #[.slice none 0 0, .slice none 0 0, .slice none 0 0]) ∧ (Fr w' Q) ∧ (Bx w' (Q + 1) #[.slice AR r.2.rest.length cr, .bool r.2.short]) ∧ (Bx w' S #[.slice A1 r.1.ins.length c1, .slice A2 r.1.nodes.length c2, .slice A3 r.1.outs.length c3]) ∧ Past W w' ∧ Past w1 w' ∧ S + 1 ≤ w'.heap.size) (by
  subst hS
  exact ⟨by (exact kKeep), by (exact kKeep), by (exact kKeep), by (exact kKeep), by (exact kKeep), by (exact kKeep), by (exact kKeep)⟩) ?_
 rintro w2 ⟨q2, f2, rb2, x2, p2, pp2, s2⟩
 have IG2 := LH (IG.out.grow pp2)
 have hQS : Q + 2 ≤ S := by omega
 have hrl : r.2.rest.length ≤ 9223372036854775807 := by have := rby.1; have := rby.2.1; unfold maxLen at this; omega
 clear q1 f1 rb rf p1 s1 pp2 hS IG rby
 rcases Bool.eq_false_or_eq_true r.2.short with hs | hs
 ·rw [hs] at rb2
  have NT : Hid (¬ TookP bs) := LH (by unfold TookP; rw [HR.out]; intro f; rw [hs] at f; cases f.1)
  go_wp2_with fail
  have b4 := box_set3 (y0 := .slice none 0 0) (y1 := .slice none 0 0) (y2 := .slice none 0 0) q2
  have p4 : Past W (((w2.setCell ⟨Q, 0, none⟩ (.slice none 0 0)).setCell ⟨Q, 1, none⟩ (.slice none 0 0)).setCell ⟨Q, 2, none⟩ (.slice none 0 0)) := ((p2.setCell (p := ⟨Q, 0, none⟩) (by simp only; omega) _).setCell (p := ⟨Q, 1, none⟩) (by simp only; omega) _).setCell (p := ⟨Q, 2, none⟩) (by simp only; omega) _
  clear q2 p2
  generalize (((w2.setCell ⟨Q, 0, none⟩ (.slice none 0 0)).setCell ⟨Q, 1, none⟩ (.slice none 0 0)).setCell ⟨Q, 2, none⟩ (.slice none 0 0)) = w9 at *
  exact bodyPost_ret (v := .tuple #[.agg #[.slice none 0 0, .slice none 0 0, .slice none 0 0], .int .i64 0, .int .i64 2]) (by simp [results, Tryz.results29, go_sem, b4]) rfl (.inr ⟨NT.out, rfl, p4⟩)
 ·rw [hs] at rb2
  have CK := LH (check_any r.1 _ w2 IG2.out CU.out)
  obtain ⟨q, hq⟩ : ∃ q, valuesE r.1 = q := ⟨_, rfl⟩
  rw [hq] at CK
  have HQ := LH hq
  have HS := LH hs
  clear hq hs
  go_wp2_with fail
  refine CK.out.mono ?_
  rintro e w3 ⟨rfl, pp3⟩
  have q3 := box_past pp3 q2 (by omega)
  have rb3 := box_past pp3 rb2 (by omega)
  have x3 := box_past pp3 x2 (by omega)
  have p3 := p2.trans pp3
  have f3 := free_past pp3 f2 (by omega)
  have s3 : S + 1 ≤ w3.heap.size := by have := pp3.2.2.1; omega
  have IG3 := LH (IG2.out.grow pp3)
  clear q2 rb2 x2 p2 f2 s2 pp3 IG2 CK
  cases e0 : (q == 0) with
  | false =>
   have e1 : (q != 0) = true := by simp [bne, e0]
   have q0 : q ≠ 0 := by simpa using e0
   have NT : Hid (¬ TookP bs) := LH (by unfold TookP; rw [HR.out, HQ.out]; exact fun f => q0 f.2)
   clear q0
   go_wp2_with fail
   have b4 := box_set3 (y0 := .slice none 0 0) (y1 := .slice none 0 0) (y2 := .slice none 0 0) q3
   have p4 : Past W (((w3.setCell ⟨Q, 0, none⟩ (.slice none 0 0)).setCell ⟨Q, 1, none⟩ (.slice none 0 0)).setCell ⟨Q, 2, none⟩ (.slice none 0 0)) := ((p3.setCell (p := ⟨Q, 0, none⟩) (by simp only; omega) _).setCell (p := ⟨Q, 1, none⟩) (by simp only; omega) _).setCell (p := ⟨Q, 2, none⟩) (by simp only; omega) _
   clear q3 p3
   generalize (((w3.setCell ⟨Q, 0, none⟩ (.slice none 0 0)).setCell ⟨Q, 1, none⟩ (.slice none 0 0)).setCell ⟨Q, 2, none⟩ (.slice none 0 0)) = w9 at *
   exact bodyPost_ret (v := .tuple #[.agg #[.slice none 0 0, .slice none 0 0, .slice none 0 0], .int .i64 0, .int .i64 2]) (by simp [results, Tryz.results29, go_sem, b4]) rfl (.inr ⟨NT.out, rfl, p4⟩)
  | true =>
   have e1 : (q != 0) = false := by simp [bne, e0]
   have q0 : q = 0 := by simpa using e0
   subst q0
   have YT : Hid (TookP bs) := LH (by unfold TookP; rw [HR.out]; exact ⟨HS.out, HQ.out⟩)
   clear e0
   go_upto_region 5 with fail
   go_region
   all_goals
    have hN : NoInt w3 Q := noInt_box q3
    have IG4 := LH ((graph_save IG3.out hN ((((Save.refl Q w3).set 0 (.slice A1 r.1.ins.length c1)).set 1 (.slice A2 r.1.nodes.length c2)).set 2 (.slice A3 r.1.outs.length c3))).grow (Past.drew (Past.refl _)))
    have b4 := box_drew (box_set3 (y0 := .slice A1 r.1.ins.length c1) (y1 := .slice A2 r.1.nodes.length c2) (y2 := .slice A3 r.1.outs.length c3) q3)
    have p4 : Past W (((w3.setCell ⟨Q, 0, none⟩ (.slice A1 r.1.ins.length c1)).setCell ⟨Q, 1, none⟩ (.slice A2 r.1.nodes.length c2)).setCell ⟨Q, 2, none⟩ (.slice A3 r.1.outs.length c3)).drew := (((p3.setCell (p := ⟨Q, 0, none⟩) (by simp only; omega) _).setCell (p := ⟨Q, 1, none⟩) (by simp only; omega) _).setCell (p := ⟨Q, 2, none⟩) (by simp only; omega) _).drew
    clear q3 p3 hN x3 rb3 f3
    generalize (((w3.setCell ⟨Q, 0, none⟩ (.slice A1 r.1.ins.length c1)).setCell ⟨Q, 1, none⟩ (.slice A2 r.1.nodes.length c2)).setCell ⟨Q, 2, none⟩ (.slice A3 r.1.outs.length c3)).drew = w9 at *
    go_wp2_with fail
    exact bodyPost_ret (v := .tuple #[.agg #[.slice A1 r.1.ins.length c1, .slice A2 r.1.nodes.length c2, .slice A3 r.1.outs.length c3], .int .i64 ((bs.length : Int) - (r.2.rest.length : Int)), .int .i64 0]) (by simp [results, Tryz.results29, go_sem, b4]) rfl (.inl ⟨YT.out, by rw [HR.out]; exact ⟨_, rfl, IG4.out, p4⟩⟩)
end Go.Proofs.YtejllmjkeefloaaGreat
namespace Go.Proofs.YtejllmjkeefloaaGreat
open Go.ChangeShapes Go.WideShapes Go.ChangeAt Go.RowKit
set_option maxRecDepth 20000
set_option linter.unusedVariables false
end Go.Proofs.YtejllmjkeefloaaGreat
namespace Go.Proofs.YtejllmjkeefloaaGreat
open Go.ChangeShapes Go.WideShapes Go.ChangeAt Go.RowKit
set_option maxRecDepth 20000
set_option linter.unusedVariables false
theorem mem_getD {α:Type} [Inhabited α] {xs:List α}{x:α}(h:x∈xs)(d:α):∃ j,j<xs.length/\xs.getD j d=x:=by
 obtain⟨j,hj,rfl⟩:=List.getElem_of_mem h;exact⟨j,hj,by simp [List.getD,hj]⟩
theorem wf_of_nums {k:IntKind}{w:World}{v:Value}{xs:List Int}(h:IsNums k w v xs):∀ x∈xs,(Lit.int k x).wf=true:=by
 obtain⟨_,_,_,_,_,_,h5,_⟩:=h;exact h5
theorem wf_of_graph {w:World}{v:Value}{g:GraphD}(h:IsGraph w v g):∀ n∈g.nodes,wfN n:=by
 obtain⟨a,b,c,rfl,_,hn,_⟩:=h;obtain⟨A,cap,_,_,_,_,h5,h6⟩:=hn;intro n hn;obtain⟨j,hj,rfl⟩:=mem_getD hn default;obtain⟨b',off,_,_,hc⟩:=h6 (by omega);obtain⟨vi,vw,vb,hin,_⟩:=hc j hj;exact⟨h5 _ hn,wf_of_nums hin.1,wf_of_nums hin.2.1,wf_of_nums hin.2.2⟩
theorem put_took {bs:List Int} (hb:bytesP bs) (T:TookP bs):bs=graphB (graphR ⟨bs,false⟩).1++(graphR ⟨bs,false⟩).2.rest/\okG (graphR ⟨bs,false⟩).1:=by
 obtain ⟨_,h2,h3⟩:=graphR_inv.at ⟨bs,false⟩ hb T.1;exact ⟨h3,h2⟩
end Go.Proofs.YtejllmjkeefloaaGreat
namespace Go.Proofs.YtejllmjkeefloaaGreat
open Go.ChangeShapes Go.WideShapes Go.ChangeAt Go.RowKit
set_option maxRecDepth 20000
set_option linter.unusedVariables false
set_option linter.unusedSimpArgs false
structure ImgD where
 g:GraphD
 pl:List Int
 s0:List (List Int)
 s1:List (List Int)
 s2:List (List Int)
def zeroG:GraphD:=⟨[],[],[]⟩
def putS (l:List (List Int)):List Int:=Q8.putB l
def imgB (i:ImgD):List Int:=graphB i.g++(i.pl.flatMap (numB 3)++(putS i.s0++(putS i.s1++putS i.s2)))
def partR {α:Type}(d:α)(take:List Int->Option (α×List Int))(s:Rd):α×Rd:=match take s.rest with
 | none=>(d,⟨s.rest,true⟩)
 | some (x,r)=>(x,⟨r,s.short⟩)
open Classical in
noncomputable def graphT (b:List Int):Option (GraphD×List Int):=if TookP b then some ((graphR ⟨b,false⟩).1,(graphR ⟨b,false⟩).2.rest) else none
def markT (b:List Int):Option (Int×List Int):=if b.length<3 then none else some (foldB (b.take 3),b.drop 3)
noncomputable def gR (s:Rd):GraphD×Rd:=partR zeroG graphT s
def mR (s:Rd):Int×Rd:=partR 0 markT s
def sR (s:Rd):List (List Int)×Rd:=partR [] Q8.takeD s
def manyR {α:Type}(one:Rd->α×Rd):Nat->List α->Rd->List α×Rd
 | 0,acc,s=>(acc,s)
 | n+1,acc,s=>manyR one n (acc++[(one s).1]) (one s).2
noncomputable def pR (s:Rd):List Int×Rd:=manyR mR (valuesL (gR s).1).length [] (gR s).2
noncomputable def imgR (s:Rd):ImgD×Rd :=
 (⟨(gR s).1,(pR s).1,(sR (pR s).2).1,(sR (sR (pR s).2).2).1,(sR (sR (sR (pR s).2).2).2).1⟩,(sR (sR (sR (pR s).2).2).2).2)
theorem partR_short {α:Type}{d:α}{take:List Int->Option (α×List Int)}{s:Rd}(h:s.short=true):(partR d take s).2.short=true:=by
 unfold partR;split
 ·rfl
 ·exact h
theorem manyR_short {α:Type}{one:Rd->α×Rd}(hs:∀ s,s.short=true->(one s).2.short=true)(n:Nat):∀ (acc:List α)(s:Rd),s.short=true->(manyR one n acc s).2.short=true:=by
 induction n with
 | zero=>intro acc s h;exact h
 | succ n ih=>intro acc s h;exact ih _ _ (hs s h)
/-! ### Which images may be. -/
noncomputable def sizeV (v:ValD):Int:=sizeI v.h v.w v.c
def placedP (g:GraphD)(pl:List Int):Prop:=pl.length=(valuesL g).length/\∀ j,j<pl.length->0<=pl.getD j 0/\pl.getD j 0<=65536-sizeV ((valuesL g).getD j default)
open Classical in
/-- May's answer: the graph's error, that of its places, those of its streams, in order. -/
noncomputable def mayI (i:ImgD):Int:=if valuesE i.g≠0 then valuesE i.g else if ¬ placedP i.g i.pl then 1 else if Q8.putE i.s0≠0 then Q8.putE i.s0 else if Q8.putE i.s1≠0 then Q8.putE i.s1 else Q8.putE i.s2
def nats (l:List Int):List Nat:=l.map Int.toNat
theorem ints_nats {l:List Int}(h:bytesP l):Q7.ints (nats l)=l:=by
 unfold Q7.ints nats;rw [List.map_map];conv=>rhs;rw [<- List.map_id l]
 exact List.map_congr_left fun c hc=>by have:=h c hc;simp;omega
theorem nats_bytes {l:List Int}(h:bytesP l):Q7.Bytes (nats l):=by
 intro c hc;obtain⟨x,hx,rfl⟩:=List.mem_map.1 hc;have:=h x hx;omega
theorem nats_len (l:List Int):(nats l).length=l.length:=by simp [nats]
theorem putS_bytes (l:List (List Int)):bytesP (putS l):=Q8.putB_bytes l
theorem imgB_bytes (i:ImgD):bytesP (imgB i):=bytesP_app (graphB_bytes _) (bytesP_app (flat_bytes (numB_bytes 3)) (bytesP_app (putS_bytes _) (bytesP_app (putS_bytes _) (putS_bytes _))))
end Go.Proofs.YtejllmjkeefloaaGreat
