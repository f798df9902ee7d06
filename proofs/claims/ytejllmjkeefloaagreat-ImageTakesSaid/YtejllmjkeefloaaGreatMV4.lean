/- Values. What a graph's nodes make: numbers of GraphMakes. Check; graphs that a law has cut. -/
import Derived.Test.YtejllmjkeefloaaGreatMP1
import Derived.Test.YtejllmjkeefloaaGreatMV3
namespace Go.Proofs.YtejllmjkeefloaaGreat
open Go.ChangeShapes Go.WideShapes Go.ChangeAt Go.RowKit
set_option maxRecDepth 20000
set_option linter.unusedVariables false
open Classical in
/-- What nodes make, one behind the other: an error's number, or 0 and all values. -/
noncomputable def goS:List NodeD->List ValD->Int×List ValD
 | [],l=>(0,l)
 | n :: ns,l=>if namedP l n.ins then (if valueE n (namedL l n.ins)=0 then goS ns (l++[valueV n (namedL l n.ins)]) else (valueE n (namedL l n.ins),[])) else (13,[])
def sumW:List NodeD->Nat
 | []=>0
 | n :: ns=>n.ws.length+sumW ns
open Classical in
noncomputable def valuesE (g:GraphD):Int :=
 if beginsE g≠0 then beginsE g else if (goS g.nodes g.ins).1≠0 then (goS g.nodes g.ins).1 else if 4096<sumW g.nodes then 3 else if ¬ namedP (goS g.nodes g.ins).2 g.outs then 13 else 0
noncomputable def valuesL (g:GraphD):List ValD:=if valuesE g=0 then (goS g.nodes g.ins).2 else []
theorem goS_no {n:NodeD}{ns:List NodeD}{l:List ValD}(h:¬ namedP l n.ins):goS (n :: ns) l=(13,[]):=by unfold goS;rw [if_neg h]
theorem goS_err {n:NodeD}{ns:List NodeD}{l:List ValD}(h:namedP l n.ins)(e:valueE n (namedL l n.ins)≠0):goS (n :: ns) l=(valueE n (namedL l n.ins),[]):=by unfold goS;rw [if_pos h,if_neg e]
theorem goS_ok {n:NodeD}{ns:List NodeD}{l:List ValD}(h:namedP l n.ins)(e:valueE n (namedL l n.ins)=0):goS (n :: ns) l=goS ns (l++[valueV n (namedL l n.ins)]):=by
 conv=>lhs;unfold goS
 rw [if_pos h,if_pos e]
theorem sumW_take (ns:List NodeD)(k:Nat)(h:k<ns.length):sumW (ns.take (k+1))=sumW (ns.take k)+(ns.getD k default).ws.length:=by
 induction ns generalizing k with
 | nil=>simp at h
 | cons n ns ih =>
  cases k with
  | zero=>simp [sumW]
  | succ k =>
   have:=ih k (by simpa using h);simp only [List.take_succ_cons,sumW,List.getD_cons_succ] at this ⊢;omega
theorem drop_cons (ns:List NodeD)(k:Nat)(h:k<ns.length):ns.drop k=ns.getD k default :: ns.drop (k+1):=by
 rw [List.drop_eq_getElem_cons h];simp [List.getD,h]
theorem valueV_wf {n:NodeD}{vs:List ValD}(hz:(Lit.int .i64 n.zero).wf=true):ValWf (valueV n vs):=by
 unfold valueV;by_cases e:valueE n vs=0
 ·rw [if_pos e];have m:mayT (madeS n vs):=by
   apply Classical.byContradiction;intro m;by_cases h:hasOp n.op/\takesP (opD n.op) n vs
   ·rw [valueE_mk10' h m] at e;cases e
   ·rw [valueE_mk11 h] at e;cases e
  obtain⟨m1,m2,m3,m4,m5,m6⟩:=m;exact⟨WalkArith.wf_i64 (by dsimp only;omega),WalkArith.wf_i64 (by dsimp only;omega),WalkArith.wf_i64 (by dsimp only;omega),hz⟩
 ·rw [if_neg e];unfold ValWf;decide
def Cut (g:GraphD):Prop:=g.outs.length<=1000/\∀ n∈g.nodes,n.ins.length<=1000/\n.ws.length<=100000
def ValuesPost (g:GraphD)(W:World)(e:Ending)(w':World):Prop:=∃ v,e=.returned (.tuple #[v,.int .i64 (valuesE g)])/\IsVals w' v (valuesL g)/\Past W w'
theorem vals_nil (w:World):IsVals w (.slice none 0 0) []:=⟨none,0,rfl,Nat.le_refl _,Nat.zero_le _,fun _=>rfl,by simp,by simp⟩
theorem values_err {g:GraphD}{W w':World}{q:Int}(h:valuesE g=q)(h0:q≠0)(p:Past W w'):ValuesPost g W (.returned (.tuple #[.slice none 0 0,.int .i64 q])) w' :=
 ⟨_,by rw [h],by unfold valuesL;rw [if_neg (by rw [h];exact h0)];exact vals_nil _,p⟩
theorem own_more {w:World}{b b' e size n:Nat}{v:Value}{xs:List Value}(h:w.ownsRow b e size v n xs)(hb:b'<=b):w.ownsRow b' e size v n xs:=by
 refine⟨h.1,?_⟩;rcases h.2 with hn|⟨g,cap,cur,rfl,hg,rest⟩
 ·exact .inl hn
 ·exact .inr ⟨g,cap,cur,rfl,by omega,rest⟩
theorem valuesE_go {g:GraphD}{q:Int}(hb:0=beginsE g)(h:(goS g.nodes g.ins).1=q)(h0:q≠0):valuesE g=q:=by unfold valuesE;rw [if_neg (by rw [<- hb];simp),if_pos (by rw [h];exact h0),h]
theorem box_grownBy {w w':World}{row:Option Nat}{b:Nat}{cs:Array Value}(g:w.grownBy w' row)(h:(Bx w b cs))(hb:b<w.heap.size)(hr:some b≠row):(Bx w' b cs) :=
 fun o=>(World.cell?_of_block (a:=⟨b,o,none⟩) (g.block b hb hr)).trans (h o)
set_option maxHeartbeats 8000000 in
theorem values_any (g : GraphD) (gv : Value) (W : World) (hg : IsGraph W gv g) (hc : Cut g) : Calls Tryz.prog 30 #[gv] W (ValuesPost g W) := by
 obtain ⟨iv, nv, ov, rfl, hi, hn, ho⟩ := hg
 have HI := LH hi
 have HO := LH ho
 obtain ⟨A1, c1, rfl, i1, i2, _, _, _⟩ := hi
 obtain ⟨A2, c2, rfl, n1, n2, _, nw, n5⟩ := hn
 obtain ⟨A3, c3, rfl, o1, o2, _, _, _⟩ := ho
 have m2 : g.nodes.length ≤ 9223372036854775807 := by unfold maxLen at n2; omega
 have N5 := LH n5
 have NW := LH nw
 obtain ⟨q, hq⟩ : ∃ q, q = beginsE g := ⟨_, rfl⟩
 have HQ := LH hq
 have HC := LH hc
 have BE := LH (fun w (p : Grown W w) => begins_any g A1 A2 A3 c1 c2 c3 w q HQ (HI.out.grow (Grown.past p)) (by omega) (by omega))
 clear hq i1 i2 n1 n2 o1 o2 n5 nw hc
 go_enter Tryz.func30, Tryz.ntmps30
 go_upto_region 1 with fail
 refine opq (fun w' => (Bx w' W.heap.size #[.slice A1 g.ins.length c1, .slice A2 g.nodes.length c2, .slice A3 g.outs.length c3]) ∧ Grown W w' ∧ W.heap.size + 1 ≤ w'.heap.size) kKeep ?_
 rintro w1 ⟨b1, g1, s1⟩
 go_wp2_with fail
 refine (BE.out _ g1).mono ?_
 rintro e w2 ⟨rfl, p2⟩
 obtain ⟨b2, g2, s2⟩ : (Bx w2 W.heap.size #[.slice A1 g.ins.length c1, .slice A2 g.nodes.length c2, .slice A3 g.outs.length c3]) ∧ Grown W w2 ∧ W.heap.size + 1 ≤ w2.heap.size := by (exact kKeep)
 clear b1 g1 s1 p2 BE
 cases e0 : (q == 0) with
 | false =>
  have e1 : (q != 0) = true := by simp [bne, e0]
  have q0 : q ≠ 0 := by simpa using e0
  have HE : Hid (valuesE g = q) := LH (by unfold valuesE; rw [if_pos (by rw [← HQ.out]; exact q0)]; exact HQ.out.symm)
  have Q0 := LH q0
  clear q0
  go_wp2_with fail
  go_ret2
  exact values_err HE.out Q0.out (Grown.past g2)
 | true =>
  have e1 : (q != 0) = false := by simp [bne, e0]
  have q0 : q = 0 := by simpa using e0
  subst q0
  have hb := HQ.out
  have k1 : 1 ≤ g.ins.length ∧ g.ins.length ≤ 4 ∧ g.nodes.length ≤ 12 ∧ g.outs.length ≤ 4 := by
   unfold beginsE at hb
   by_cases a1 : 4 < g.ins.length ∨ 12 < g.nodes.length ∨ 4 < g.outs.length
   ·rw [if_pos a1] at hb; cases hb
   ·rw [if_neg a1] at hb
    by_cases a2 : g.ins.length = 0 ∨ g.outs.length = 0
    ·rw [if_pos a2] at hb; cases hb
    ·omega
  clear hb
  obtain ⟨k1, k2, k3, k4⟩ := k1
  obtain ⟨b, off, cap, hA, u1, u2, u3, u4⟩ := slice_of (HI.out.grow (Grown.past g2)) (by omega)
  obtain ⟨rfl, rfl⟩ : A1 = some ⟨b, off, none⟩ ∧ c1 = cap := by simpa using hA
  have CL := LH (clone_any g.ins b off c1 w2 (by omega) (by omega) u1 u3 u4)
  have WI : Hid (∀ x ∈ g.ins, ValWf x) := LH (by obtain ⟨_, _, _, _, _, _, h, _⟩ := HI.out; exact h)
  clear hA u1 u2 u3 u4 e0
  go_wp2_with fail
  refine CL.out.mono ?_
  rintro e w3 ⟨v, rfl, own3, p3⟩
  have own3 := LH (show OwnVals w3 (W.heap.size + 1) v g.ins from own_more own3 s2)
  obtain ⟨b3, p4, s3⟩ : (Bx w3 W.heap.size #[.slice (some ⟨b, off, none⟩) g.ins.length c1, .slice A2 g.nodes.length c2, .slice A3 g.outs.length c3]) ∧ Past W w3 ∧ W.heap.size + 1 ≤ w3.heap.size := ⟨box_past p3 b2 (by omega), (Grown.past g2).trans p3, size_past p3 s2⟩
  clear b2 g2 s2 p3 CL
  go_wp2_with fail
  go_loopw [5, 6, 26] (fun v s i wr => ∃ (k : Nat) (l : List ValD), k ≤ g.nodes.length ∧ i = .int .i64 k ∧ s = .int .i64 (sumW (g.nodes.take k)) ∧ sumW (g.nodes.take k) ≤ 100000 * k ∧ Hid (OwnVals wr (W.heap.size + 1) v l) ∧ Hid (∀ x ∈ l, ValWf x) ∧ Hid (goS g.nodes g.ins = goS (g.nodes.drop k) l) ∧ l.length = g.ins.length + k ∧ (Bx wr W.heap.size #[.slice (some ⟨b, off, none⟩) g.ins.length c1, .slice A2 g.nodes.length c2, .slice A3 g.outs.length c3]) ∧ Past W wr ∧ W.heap.size + 1 ≤ wr.heap.size) (fun _ _ i _ => g.nodes.length - (intOf i).toNat)
  case atStart => exact ⟨0, g.ins, by omega, rfl, by simp [sumW], by simp [sumW], own3, WI, LH (by simp), by omega, b3, p4, s3⟩
  case round =>
   clear own3 b3 p4 s3 e1
   obtain ⟨k, l, hk, rfl, rfl, hs, own, wl, hgo, hl, b3, p4, s3⟩ := hrel
   have HL := LH hl
   clear hl
   by_cases h : k < g.nodes.length
   ·obtain ⟨nb, no, rfl, hnb, hnc⟩ := N5.out (by omega)
    obtain ⟨vi, vw, vb, hin, hcell⟩ := (hnc k h).grow hnb p4
    obtain ⟨n, hnk⟩ : ∃ n, g.nodes.getD k default = n := ⟨_, rfl⟩
    rw [hnk] at hin hcell
    have mem : n ∈ g.nodes := by rw [← hnk]; simp [List.getD, h]
    have IN := LH hin
    obtain ⟨Ai, ci, rfl, f1, f2, _, _, _⟩ := hin.1
    obtain ⟨Aw, cw, rfl, f3, f4, _, _, _⟩ := hin.2.1
    obtain ⟨Ab, cb, rfl, f5, f6, _, _, _⟩ := hin.2.2
    have x0 := hcell 0 (by omega)
    have x1 := hcell 1 (by omega)
    have x2 := hcell 2 (by omega)
    have x3 := hcell 3 (by omega)
    have x4 := hcell 4 (by omega)
    have x5 := hcell 5 (by omega)
    have x6 := hcell 6 (by omega)
    have x7 := hcell 7 (by omega)
    have x8 := hcell 8 (by omega)
    have x9 := hcell 9 (by omega)
    have x10 := hcell 10 (by omega)
    have x11 := hcell 11 (by omega)
    have x12 := hcell 12 (by omega)
    have x13 := hcell 13 (by omega)
    simp only [nodeCells, List.getElem?_cons_zero, List.getElem?_cons_succ, Nat.add_zero] at x0 x1 x2 x3 x4 x5 x6 x7 x8 x9 x10 x11 x12 x13
    have NK := LH hnk
    have MEM := LH mem
    have i1 : (0 : Int) ≤ (k : Int) := by omega
    have i2 : (k : Int) < (g.nodes.length : Int) := by omega
    have n1 : W.heap.size ≠ wr.heap.size := by omega
    have n2 : W.heap.size < wr.heap.size := by omega
    obtain ⟨P8, hP⟩ : ∃ P8, wr.heap.size = P8 := ⟨_, rfl⟩
    clear hin hnk mem hcell hnc f1 f2 f3 f4 f5 f6
    go_upto_region 9 with fail
    refine opq (fun w' => ((Bx w' W.heap.size #[.slice (some ⟨b, off, none⟩) g.ins.length c1, .slice (some ⟨nb, no, none⟩) g.nodes.length c2, .slice A3 g.outs.length c3]) ∧ (Bx w' P8 (nC n (.slice Ai n.ins.length ci) (.slice Aw n.ws.length cw) (.slice Ab n.bs.length cb))) ∧ Past W w' ∧ P8 + 1 ≤ w'.heap.size ∧ Past wr w') ∧ OwnVals w' (W.heap.size + 1) u5 l) ⟨by
     subst hP
     (exact kKeep), World.ownsRow.alloc own.out _⟩ ?_
    rintro w4 ⟨⟨b4, x4, p4', s4, p5⟩, own4⟩
    have q8 : W.heap.size + 1 ≤ P8 := by omega
    have HLT : Hid (∀ j, u5.ownBlock = some j → W.heap.size + 1 ≤ j ∧ j < P8) := LH (by
     intro j hj
     have := World.ownsRow.lt own.out j hj
     omega)
    have OWN4 := LH own4
    have NA := LH (named_any u5 _ l n.ins w4 (vals_of_own own4 wl.out) (IN.out.1.grow p5) (HC.out.2 n MEM.out).1)
    have GO : Hid (goS g.nodes g.ins = goS (n :: g.nodes.drop (k + 1)) l) := LH (by rw [hgo.out, drop_cons _ _ h, NK.out])
    clear x0 x1 x2 x3 x5 x6 x7 x8 x9 x10 x11 x12 x13 own own4 b3 p4 s3 hP n1 n2 hgo
    go_wp2_with fail
    refine NA.out.mono ?_
    rintro e w5 H
    rcases H with ⟨hY, v2, rfl, hv2, p6⟩ | ⟨hN, rfl, p6⟩
    rotate_left
    ·have HE : Hid (valuesE g = 13) := LH (valuesE_go HQ.out (by rw [GO.out, goS_no hN]) (by decide))
     clear hN NA
     go_wp2_with fail
     go_ret2
     exact values_err HE.out (by decide) (p4'.trans p6)
    ·obtain ⟨b5, y5, p7, s5, p8⟩ : (Bx w5 W.heap.size #[.slice (some ⟨b, off, none⟩) g.ins.length c1, .slice (some ⟨nb, no, none⟩) g.nodes.length c2, .slice A3 g.outs.length c3]) ∧ (Bx w5 P8 (nC n (.slice Ai n.ins.length ci) (.slice Aw n.ws.length cw) (.slice Ab n.bs.length cb))) ∧ Past W w5 ∧ P8 + 1 ≤ w5.heap.size ∧ Past wr w5 := by (exact kKeep)
     have OWN5 := LH (show OwnVals w5 (W.heap.size + 1) u5 l from own_past' OWN4.out p6)
     have VA := value_any n _ _ _ v2 (namedL l n.ins) w5 (IN.out.grow p8) hv2
     have VW : ValWf (valueV n (namedL l n.ins)) := valueV_wf (NW.out n MEM.out).2.2.2.2.2.2.2.1
     obtain ⟨x, hx⟩ : ∃ x, valueV n (namedL l n.ins) = x := ⟨_, rfl⟩
     obtain ⟨qv, hqv⟩ : ∃ x, valueE n (namedL l n.ins) = x := ⟨_, rfl⟩
     unfold ValuePost at VA
     rw [hx, hqv] at VA
     rw [hx] at VW
     have VA := LH VA
     have VW := LH VW
     have HX := LH hx
     have HQV := LH hqv
     have HY := LH hY
     clear hx hqv hY hv2 p6 b4 x4 p4' s4 p5 OWN4 NA
     go_wp2_with fail
     refine VA.out.mono ?_
     rintro e w6 ⟨rfl, g6⟩
     have g6' := Grown.past g6
     obtain ⟨b6, y6, p9, s6, p10⟩ : (Bx w6 W.heap.size #[.slice (some ⟨b, off, none⟩) g.ins.length c1, .slice (some ⟨nb, no, none⟩) g.nodes.length c2, .slice A3 g.outs.length c3]) ∧ (Bx w6 P8 (nC n (.slice Ai n.ins.length ci) (.slice Aw n.ws.length cw) (.slice Ab n.bs.length cb))) ∧ Past W w6 ∧ P8 + 1 ≤ w6.heap.size ∧ Past wr w6 := by
      clear g6
      (exact kKeep)
     have OWN6 := LH (show OwnVals w6 (W.heap.size + 1) u5 l from own_past' OWN5.out g6')
     clear b5 y5 p7 s5 p8 g6 g6' OWN5 VA
     cases e2 : (qv == 0) with
     | false =>
      have e3 : (qv != 0) = true := by simp [bne, e2]
      have Q0 : Hid (qv ≠ 0) := LH (by simpa using e2)
      have HE : Hid (valuesE g = qv) := LH (valuesE_go HQ.out (by rw [GO.out, goS_err HY.out (by rw [HQV.out]; exact Q0.out), HQV.out]) Q0.out)
      go_wp2_with fail
      go_ret2
      exact values_err HE.out Q0.out (p9.alloc _)
     | true =>
      have e3 : (qv != 0) = false := by simp [bne, e2]
      have Q0 : Hid (qv = 0) := LH (by simpa using e2)
      have n6 : P8 ≠ w6.heap.size := by omega
      have n7 : P8 < w6.heap.size := by omega
      have n8 : W.heap.size ≠ w6.heap.size := by omega
      have n9 : W.heap.size < w6.heap.size := by omega
      obtain ⟨P11, hP⟩ : ∃ P11, w6.heap.size = P11 := ⟨_, rfl⟩
      go_upto_region 15 with fail
      refine opq (fun w' => ((Bx w' W.heap.size #[.slice (some ⟨b, off, none⟩) g.ins.length c1, .slice (some ⟨nb, no, none⟩) g.nodes.length c2, .slice A3 g.outs.length c3]) ∧ (Bx w' P8 (nC n (.slice Ai n.ins.length ci) (.slice Aw n.ws.length cw) (.slice Ab n.bs.length cb))) ∧ Past W w' ∧ P8 + 1 ≤ w'.heap.size ∧ (Bx w' P11 #[.int .i64 x.h, .int .i64 x.w, .int .i64 x.c, .int .i64 x.z]) ∧ P11 + 1 ≤ w'.heap.size) ∧ OwnVals w' (W.heap.size + 1) u5 l) ⟨by
       subst hP
       (exact kKeep), World.ownsRow.alloc OWN6.out _⟩ ?_
      rintro w7 ⟨⟨b7, y7, p11, s7, x7, s8⟩, own7⟩
      have OWN7 := LH own7
      have LL := LH (show l.length + 1 ≤ 1000 by have := HL.out; omega)
      have SB := LH (sumW_take g.nodes k h)
      have WB := LH (HC.out.2 n MEM.out).2
      obtain ⟨i0, hi0, hz0, hz1, hz2⟩ := info_parts info32
      have I1 := LH hi0
      have I2 := LH hz0
      have I3 := LH hz1
      have I4 := LH hz2
      have m5 : n.ws.length ≤ 100000 := WB.out
      have ms : sumW (List.take k g.nodes) ≤ 100000 * 12 := by omega
      clear b6 y6 p9 s6 p10 OWN6 n6 n7 n8 n9 hP own7 hi0 hz0 hz1 hz2 x4
      go_wp2_with (at_builtin; refine wpList_append_own _ rfl (.tmp 48) (.tmp 50) 24 rfl (W.heap.size + 1) 47 i0 _ 4 32 Tryz.underlying24 I1.out I2.out I3.out I4.out rfl (by decide) _ _ _ rfl (World.ownsRow.alloc OWN7.out _) ⟨w7.heap.size, 0, none⟩ 1 1 (valCells x) rfl rfl (fun j u hu => cells_new' w7 _ 47 j u hu) (val_one x) ?c4 ?c5 ?c6 ?_)
      case c4 => have := LL.out; unfold maxLen; omega
      case c5 => have := LL.out; omega
      case c6 => simp; omega
      intro v8 w8 hown8 hgrow _
      have b8 := box_grownBy hgrow (box_old (x := .cells (valCells x).toArray 47) b7 (by omega)) (by simp; omega) (fun e => by have := (HLT.out _ e.symm).1; omega)
      have y8 := box_grownBy hgrow (box_old (x := .cells (valCells x).toArray 47) y7 (by omega)) (by simp; omega) (fun e => by have := (HLT.out _ e.symm).2; omega)
      have p12 : Past W w8 := (p11.alloc _).grownBy hgrow (fun j hj => by have := (HLT.out j hj).1; omega)
      have s9 : W.heap.size + 1 ≤ w8.heap.size := by have := p12.2.2.1; have := hgrow.size; simp at this; omega
      have own8 : Hid (OwnVals w8 (W.heap.size + 1) v8 (l ++ [x])) := LH (by
       unfold OwnVals
       rw [valsCells_snoc]
       simp only [List.length_append, List.length_cons, List.length_nil]
       exact hown8)
      clear hown8 hgrow b7 y7 p11 s7 x7 s8 OWN7 I1 I2 I3 I4
      go_wp2_with fail
      go_roundw
      case rel => exact ⟨k + 1, l ++ [x], by omega, by go_num, by rw [SB.out, NK.out]; go_num, by rw [SB.out, NK.out]; omega, own8, LH (by
       intro y hy
       rcases List.mem_append.1 hy with hy | hy
       ·exact wl.out y hy
       ·simp only [List.mem_cons, List.not_mem_nil, or_false] at hy; subst hy; exact VW.out), LH (by
       rw [GO.out, goS_ok HY.out (by rw [HQV.out]; exact Q0.out), HX.out]), by have := HL.out; simp; omega, b8, p12, s9⟩
      case measure => simp [intOf]; omega
   ·have ek : k = g.nodes.length := by omega
    subst ek
    have hgo' := hgo.out
    rw [List.drop_length] at hgo'
    rw [List.take_length] at hs
    have GO : Hid (goS g.nodes g.ins = (0, l)) := LH (by rw [hgo']; rfl)
    have ms : sumW g.nodes ≤ 100000 * 12 := by omega
    have TK : List.take g.nodes.length g.nodes = g.nodes := List.take_length
    clear hgo hgo'
    by_cases hw : 4096 < sumW g.nodes
    ·have d1 : decide ((4096 : Int) < (sumW g.nodes : Int)) = true := by simp; omega
     have HE : Hid (valuesE g = 3) := LH (by unfold valuesE; rw [if_neg (by rw [← HQ.out]; simp), if_neg (by rw [GO.out]; simp), if_pos hw])
     clear hw
     go_wp2_with fail
     go_ret2
     exact values_err HE.out (by decide) p4
    ·have d1 : decide ((4096 : Int) < (sumW g.nodes : Int)) = false := by simp; omega
     have NA := LH (named_any u5 _ l g.outs wr (vals_of_own own.out wl.out) (HO.out.grow p4) HC.out.1)
     have IV := LH (vals_of_own own.out wl.out)
     have HW := LH hw
     clear hw own
     go_wp2_with fail
     refine NA.out.mono ?_
     rintro e w5 H
     rcases H with ⟨hY, v2, rfl, hv2, p6⟩ | ⟨hN, rfl, p6⟩
     ·have HE : Hid (valuesE g = 0) := LH (by unfold valuesE; rw [if_neg (by rw [← HQ.out]; simp), if_neg (by rw [GO.out]; simp), if_neg HW.out, GO.out, if_neg (fun f => f hY)])
      have HLL : Hid (valuesL g = l) := LH (by unfold valuesL; rw [if_pos HE.out, GO.out])
      clear hY hv2 NA
      go_wp2_with fail
      go_ret2
      exact ⟨_, by rw [HE.out]; rfl, by rw [HLL.out]; exact IV.out.grow p6, p4.trans p6⟩
     ·have HE : Hid (valuesE g = 13) := LH (by unfold valuesE; rw [if_neg (by rw [← HQ.out]; simp), if_neg (by rw [GO.out]; simp), if_neg HW.out, GO.out, if_pos hN])
      clear hN NA
      go_wp2_with fail
      go_ret2
      exact values_err HE.out (by decide) (p4.trans p6)
end Go.Proofs.YtejllmjkeefloaaGreat
namespace Go.Proofs.YtejllmjkeefloaaGreat
open Go.ChangeShapes Go.WideShapes Go.ChangeAt Go.RowKit
set_option linter.unusedVariables false
theorem valueE_facts {n:NodeD}{vs:List ValD}(e:valueE n vs=0):mayV (valueV n vs)/\(valueV n vs).z=n.zero:=by
 have m:mayT (madeS n vs):=by
  apply Classical.byContradiction;intro m;by_cases h:hasOp n.op/\takesP (opD n.op) n vs
  ·rw [valueE_mk10' h m] at e;cases e
  ·rw [valueE_mk11 h] at e;cases e
 rw [valueV_mk e];exact⟨m,rfl⟩
theorem getD_app_left {l r:List ValD}{j:Nat}(h:j<l.length):(l++r).getD j default=l.getD j default:=by simp [List.getD,List.getElem?_append_left h]
theorem goS_spec (ns:List NodeD):∀ (l r:List ValD),goS ns l=(0,r)->∃ m,r=l++m/\m.length=ns.length/\∀ j,j<ns.length->mayV (m.getD j default)/\(m.getD j default).z=(ns.getD j default).zero:=by
 induction ns with
 | nil =>
  intro l r h;simp only [goS,Prod.mk.injEq,true_and] at h;exact⟨[],by simp [h],rfl,fun j hj=>by simp at hj⟩
 | cons n ns ih =>
  intro l r h;by_cases hp:namedP l n.ins
  ·by_cases he:valueE n (namedL l n.ins)=0
   ·rw [goS_ok hp he] at h;obtain⟨m,rfl,hl,hm⟩:=ih _ _ h;refine⟨valueV n (namedL l n.ins) :: m,by simp,by simp [hl],fun j hj=>?_⟩;cases j with
    | zero=>simpa using valueE_facts he
    | succ j=>simpa using hm j (by simpa using hj)
   ·rw [goS_err hp he] at h;simp only [Prod.mk.injEq] at h;exact absurd h.1 he
  ·rw [goS_no hp] at h;simp at h
theorem values_ok {g:GraphD}(h:valuesE g=0):beginsE g=0/\goS g.nodes g.ins=(0,valuesL g)/\sumW g.nodes<=4096/\namedP (valuesL g) g.outs:=by
 have h':=h;unfold valuesE at h;by_cases a:beginsE g≠0
 ·rw [if_pos a] at h;exact absurd h a
 rw [if_neg a] at h;by_cases b:(goS g.nodes g.ins).1≠0
 ·rw [if_pos b] at h;exact absurd h b
 rw [if_neg b] at h;by_cases c:4096<sumW g.nodes
 ·rw [if_pos c] at h;cases h
 rw [if_neg c] at h;have e:valuesL g=(goS g.nodes g.ins).2:=by unfold valuesL;rw [if_pos h']
 by_cases d:namedP (goS g.nodes g.ins).2 g.outs
 ·refine⟨by simpa using a,?_,by omega,by rw [e];exact d⟩;rw [e];have:(goS g.nodes g.ins).1=0:=by simpa using b
  exact Prod.ext this rfl
 ·rw [if_pos d] at h;cases h
theorem begins_ok {g:GraphD}(h:beginsE g=0):(1<=g.ins.length/\g.ins.length<=4/\g.nodes.length<=12/\1<=g.outs.length/\g.outs.length<=4)/\(∀ j,j<g.ins.length->mayV (g.ins.getD j default))/\(∀ j,j<g.ins.length->-128<=(g.ins.getD j default).z/\(g.ins.getD j default).z<=127):=by
 unfold beginsE at h;by_cases a:4<g.ins.length\/12<g.nodes.length\/4<g.outs.length
 ·rw [if_pos a] at h;cases h
 rw [if_neg a] at h;by_cases b:g.ins.length=0\/g.outs.length=0
 ·rw [if_pos b] at h;cases h
 rw [if_neg b] at h;by_cases c:∀ j,j<g.ins.length->mayV (g.ins.getD j default)
 ·rw [if_neg (fun f=>f c)] at h;by_cases d:∀ j,j<g.ins.length->-128<=(g.ins.getD j default).z/\(g.ins.getD j default).z<=127
  ·exact⟨by omega,c,d⟩
  ·rw [if_pos d] at h;cases h
 ·rw [if_pos c] at h;cases h
theorem begins_mk {g:GraphD}(h:1<=g.ins.length/\g.ins.length<=4/\g.nodes.length<=12/\1<=g.outs.length/\g.outs.length<=4)(c:∀ j,j<g.ins.length->mayV (g.ins.getD j default))(d:∀ j,j<g.ins.length->-128<=(g.ins.getD j default).z/\(g.ins.getD j default).z<=127):beginsE g=0:=by
 unfold beginsE;rw [if_neg (by omega),if_neg (by omega),if_neg (fun f=>f c),if_neg (fun f=>f d)]
theorem makes_facts {g:GraphD}(h:valuesE g=0):(valuesL g).length=g.ins.length+g.nodes.length/\(∀ j,j<(valuesL g).length->mayV ((valuesL g).getD j default))/\∀ j,g.ins.length<=j->j<(valuesL g).length->((valuesL g).getD j default).z=(g.nodes.getD (j-g.ins.length) default).zero:=by
 obtain⟨h1,h2,h3,h4⟩:=values_ok h;obtain⟨_,b2,_⟩:=begins_ok h1;obtain⟨m,e,hl,hm⟩:=goS_spec _ _ _ h2;rw [e];have key:∀ j,g.ins.length<=j->(g.ins++m).getD j default=m.getD (j-g.ins.length) default:=fun j hj=>by simp [List.getD,List.getElem?_append_right hj]
 refine⟨by simp [hl],fun j hj=>?_,fun j h1 h2=>?_⟩
 ·by_cases c:j<g.ins.length
  ·rw [getD_app_left c];exact b2 j c
  ·rw [key j (by omega)];simp only [List.length_append] at hj;exact(hm _ (by omega)).1
 ·rw [key j h1];simp only [List.length_append] at h2;exact(hm _ (by omega)).2
end Go.Proofs.YtejllmjkeefloaaGreat
namespace Go.Proofs.YtejllmjkeefloaaGreat
open Go.ChangeShapes Go.WideShapes Go.ChangeAt Go.RowKit
set_option maxRecDepth 20000
set_option linter.unusedVariables false
def NoInt (w:World)(B:Nat):Prop:=∀ o k n,w.cell? ⟨B,o,none⟩≠some (.int k n)
theorem noInt_box {w:World}{B:Nat}{a1 a2 a3:Option Addr}{l1 l2 l3 c1 c2 c3:Nat}(h:(Bx w B #[.slice a1 l1 c1,.slice a2 l2 c2,.slice a3 l3 c3])):NoInt w B:=by
 intro o k n;rw [h o];match o with
 | 0=>simp
 | 1=>simp
 | 2=>simp
 | o+3=>simp
def Save (B:Nat)(w w':World):Prop:=w.heap.size<=w'.heap.size/\∀ k,k<w.heap.size->k≠B->w'.heap[k]? = w.heap[k]?
theorem Save.refl (B:Nat)(w:World):Save B w w:=⟨Nat.le_refl _,fun _ _ _=>rfl⟩
theorem Save.set {B:Nat}{w w':World}(h:Save B w w')(o:Nat)(u:Value):Save B w (w'.setCell ⟨B,o,none⟩ u) :=
 ⟨by simpa [World.setCell] using h.1,fun k hk hne=>(Below.heap_setCell w' ⟨B,o,none⟩ u k hne).trans (h.2 k hk hne)⟩
theorem Save.cell {B:Nat}{w w':World}(h:Save B w w'){b o:Nat}(hb:b<w.heap.size)(hne:b≠B):w'.cell? ⟨b,o,none⟩=w.cell? ⟨b,o,none⟩:=World.cell?_of_block (h.2 b hb hne)
theorem nums_save {k:IntKind}{B:Nat}{w w':World}{v:Value}{xs:List Int}(h:IsNums k w v xs)(hN:NoInt w B)(g:Save B w w'):IsNums k w' v xs:=by
 obtain⟨A,cap,h1,h2,h3,h4,h5,h6⟩:=h;refine⟨A,cap,h1,h2,h3,h4,h5,fun hp=>?_⟩;obtain⟨b,off,e,hb,hc⟩:=h6 hp;have hne:b≠B:=fun e=>hN _ _ _ (e ▸ hc 0 hp)
 exact⟨b,off,e,Nat.lt_of_lt_of_le hb g.1,fun i hi=>(g.cell hb hne).trans (hc i hi)⟩
theorem vals_save {B:Nat}{w w':World}{v:Value}{xs:List ValD}(h:IsVals w v xs)(hN:NoInt w B)(g:Save B w w'):IsVals w' v xs:=by
 obtain⟨A,cap,h1,h2,h3,h4,h5,h6⟩:=h;refine⟨A,cap,h1,h2,h3,h4,h5,fun hp=>?_⟩;obtain⟨b,off,e,hb,hc⟩:=h6 hp;have hne:b≠B:=fun e=>hN _ _ _ (e ▸ (hc 0 hp).1)
 exact⟨b,off,e,Nat.lt_of_lt_of_le hb g.1,fun i hi=>⟨(g.cell hb hne).trans (hc i hi).1,(g.cell hb hne).trans (hc i hi).2.1,(g.cell hb hne).trans (hc i hi).2.2.1,(g.cell hb hne).trans (hc i hi).2.2.2⟩⟩
theorem nodes_save {B:Nat}{w w':World}{v:Value}{ns:List NodeD}(h:IsNodes w v ns)(hN:NoInt w B)(g:Save B w w'):IsNodes w' v ns:=by
 obtain⟨A,cap,h1,h2,h3,h4,h5,h6⟩:=h;refine⟨A,cap,h1,h2,h3,h4,h5,fun hp=>?_⟩;obtain⟨b,off,e,hb,hc⟩:=h6 hp;have hne:b≠B:=fun e=>by
  obtain⟨vi,vw,vb,_,k⟩:=hc 0 hp;exact hN _ _ _ (e ▸ k 0 (by omega))
 refine⟨b,off,e,Nat.lt_of_lt_of_le hb g.1,fun i hi=>?_⟩;obtain⟨vi,vw,vb,hin,k⟩:=hc i hi;exact⟨vi,vw,vb,⟨nums_save hin.1 hN g,nums_save hin.2.1 hN g,nums_save hin.2.2 hN g⟩,fun j hj=>(g.cell hb hne).trans (k j hj)⟩
theorem box_set3 {w:World}{b:Nat}{x0 x1 x2 y0 y1 y2:Value}(h:(Bx w b #[x0,x1,x2])):(Bx (((w.setCell ⟨b,0,none⟩ y0).setCell ⟨b,1,none⟩ y1).setCell ⟨b,2,none⟩ y2) b #[y0,y1,y2]):=by
 have h0:=h 0;have h1:=h 1;have h2:=h 2;have c1:((w.setCell ⟨b,0,none⟩ y0).setCell ⟨b,1,none⟩ y1).cell? ⟨b,2,none⟩=some x2:=by
  rw [World.cell?_setCell_other _ _ _ _ (by simp),World.cell?_setCell_other _ _ _ _ (by simp)];exact h2
 have c2:(w.setCell ⟨b,0,none⟩ y0).cell? ⟨b,1,none⟩=some x1:=by
  rw [World.cell?_setCell_other _ _ _ _ (by simp)];exact h1
 intro o;match o with
 | 0 =>
  rw [World.cell?_setCell_other _ _ _ _ (by simp),World.cell?_setCell_other _ _ _ _ (by simp)];exact World.cell?_setCell_same w _ _ h0
 | 1 =>
  rw [World.cell?_setCell_other _ _ _ _ (by simp)];exact World.cell?_setCell_same _ _ _ c2
 | 2=>exact World.cell?_setCell_same _ _ _ c1
 | k+3 =>
  rw [World.cell?_setCell_other _ _ _ _ (by simp),World.cell?_setCell_other _ _ _ _ (by simp),World.cell?_setCell_other _ _ _ _ (by simp)];have:=h (k+3);simpa using this
theorem check_any (g:GraphD)(gv:Value)(W:World)(hg:IsGraph W gv g)(hc:Cut g):Calls Tryz.prog 62 #[gv] W fun e w'=>e=.returned (.int .i64 (valuesE g))/\Past W w':=by
 have HG:=LH hg;obtain⟨iv,nv,ov,rfl,hi,hn,ho⟩:=hg;obtain⟨A1,c1,rfl,_,_,_,_,_⟩:=hi;obtain⟨A2,c2,rfl,_,_,_,_,_⟩:=hn;obtain⟨A3,c3,rfl,_,_,_,_,_⟩:=ho;have HV:=LH (fun w (p:Past W w)=>values_any g _ w (HG.out.grow p) hc);clear hc;go_enter Tryz.func62,Tryz.ntmps62;go_upto_region 1 with fail;refine opq (fun w'=>(Bx w' W.heap.size #[.slice A1 g.ins.length c1,.slice A2 g.nodes.length c2,.slice A3 g.outs.length c3])/\Past W w') kKeep ?_;rintro w1 ⟨b1,p1⟩;go_wp2_with fail;refine(HV.out _ p1).mono ?_;rintro e w2 ⟨v,rfl,hv,p2⟩;obtain⟨A,c,rfl,_,_,_,_,_⟩:=hv;go_wp2_with fail;go_ret;exact⟨rfl,p1.trans p2⟩
end Go.Proofs.YtejllmjkeefloaaGreat
