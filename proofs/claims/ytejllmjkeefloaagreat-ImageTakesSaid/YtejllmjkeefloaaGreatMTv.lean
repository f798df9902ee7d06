/- The reference of layer 3: Values: OK just where the graph may be, and then its values. The reference of layer 4: Put. -/
import Derived.Test.YtejllmjkeefloaaGreatMR3F
namespace Go.Proofs.YtejllmjkeefloaaGreat
open Go.ChangeShapes Go.WideShapes Go.ChangeAt Go.RowKit
set_option maxRecDepth 20000
set_option linter.unusedVariables false
theorem ownVals_new {w:World} {base:Nat} (hb:base<=w.heap.size):OwnVals (w.alloc (.cells #[] 47)) base (.slice (some ⟨w.heap.size,0,none⟩) 0 0) []:=World.ownsRow_lit w #[] 0 hb (by decide) (by simp)
def RValuesPost (g:GraphD)(W:World)(e:Ending)(w':World):Prop:=∃ v q,e=.returned (.tuple #[v,.int .i64 q])/\(q=0↔valuesE g=0)/\(valuesE g=0->IsVals w' v (valuesL g))/\Past W w'
theorem rvalues_bad {g:GraphD}{W w':World}{q:Int}(h:valuesE g≠0)(h0:q≠0)(p:Past W w'):RValuesPost g W (.returned (.tuple #[.slice none 0 0,.int .i64 q])) w':=⟨_,_,rfl,⟨fun f=>absurd f h0,fun f=>absurd f h⟩,fun f=>absurd f h,p⟩
theorem values_begin {g:GraphD}(h:beginsE g≠0):valuesE g≠0:=by unfold valuesE;rw [if_pos h];exact h
theorem values_goS {g:GraphD}(h:(goS g.nodes g.ins).1≠0):valuesE g≠0:=by
 by_cases b:beginsE g=0
 ·unfold valuesE;rw [if_neg (fun f=>f b),if_pos h];exact h
 ·exact values_begin b
theorem values_mk {g:GraphD}{l:List ValD}(b:beginsE g=0)(h:goS g.nodes g.ins=(0,l))(hw:sumW g.nodes<=4096)(ho:namedP l g.outs):valuesE g=0/\valuesL g=l:=by
 have e:valuesE g=0:=by unfold valuesE;rw [if_neg (fun f=>f b),if_neg (by rw [h];simp),if_neg (by omega),h,if_neg (fun f=>f ho)]
 exact⟨e,by unfold valuesL;rw [if_pos e,h]⟩
theorem begins_bad {g:GraphD}(h:¬ ((1<=g.ins.length/\g.ins.length<=4/\g.nodes.length<=12/\1<=g.outs.length/\g.outs.length<=4)/\(∀ j,j<g.ins.length->mayV (g.ins.getD j default))/\(∀ j,j<g.ins.length->-128<=(g.ins.getD j default).z/\(g.ins.getD j default).z<=127))):valuesE g≠0:=values_begin (fun f=>h (begins_ok f))
set_option maxHeartbeats 8000000 in
theorem rvalues_any (g : GraphD) (gv : Value) (W : World) (hg : IsGraph W gv g) (hc : Cut g) : Calls Tryz.prog 48 #[gv] W (RValuesPost g W) := by
 obtain ⟨nv1, nv2, nv3, rfl, hi, hn, ho⟩ := hg
 obtain ⟨A1, c1, rfl, i1, i2, _, iw, i5⟩ := hi
 obtain ⟨A2, c2, rfl, n1, n2, _, nw, n5⟩ := hn
 obtain ⟨A3, c3, rfl, o1, o2, _, ow, o5⟩ := ho
 have m1 : g.ins.length ≤ 9223372036854775807 := by unfold maxLen at i2; omega
 have m2 : g.nodes.length ≤ 9223372036854775807 := by unfold maxLen at n2; omega
 have m3 : g.outs.length ≤ 9223372036854775807 := by unfold maxLen at o2; omega
 have IW := LH iw
 have I5 := LH i5
 have N5 := LH n5
 have NW := LH nw
 have O5 := LH o5
 have HC := LH hc
 obtain ⟨i0, hi0, hz0, hz1, hz2⟩ := info_parts info32
 have I1 := LH hi0
 have I2 := LH hz0
 have I3 := LH hz1
 have I4 := LH hz2
 clear hi0 hz0 hz1 hz2 i1 i2 n1 n2 o1 o2 iw i5 nw n5 ow o5 hc
 go_enter Tryz.func48, Tryz.ntmps48
 go_upto_region 1 with fail
 refine opq (fun w' => (Bx w' W.heap.size #[.slice A1 g.ins.length c1, .slice A2 g.nodes.length c2, .slice A3 g.outs.length c3]) ∧ Past W w' ∧ W.heap.size + 1 ≤ w'.heap.size) kKeep ?_
 rintro w1 ⟨b1, p1, z1⟩
 by_cases k1 : 4 < g.ins.length
 ·have HB := LH (begins_bad (g := g) (fun f => by omega))
  have d1 : decide ((4 : Int) < (g.ins.length : Int)) = true := by simp; omega
  go_wp2_with fail
  go_ret2
  exact rvalues_bad HB.out (by decide) p1
 have d1 : decide ((4 : Int) < (g.ins.length : Int)) = false := by simp; omega
 by_cases k2 : 12 < g.nodes.length
 ·have HB := LH (begins_bad (g := g) (fun f => by omega))
  have d2 : decide ((12 : Int) < (g.nodes.length : Int)) = true := by simp; omega
  go_wp2_with fail
  go_ret2
  exact rvalues_bad HB.out (by decide) p1
 have d2 : decide ((12 : Int) < (g.nodes.length : Int)) = false := by simp; omega
 by_cases k3 : 4 < g.outs.length
 ·have HB := LH (begins_bad (g := g) (fun f => by omega))
  have d3 : decide ((4 : Int) < (g.outs.length : Int)) = true := by simp; omega
  go_wp2_with fail
  go_ret2
  exact rvalues_bad HB.out (by decide) p1
 have d3 : decide ((4 : Int) < (g.outs.length : Int)) = false := by simp; omega
 by_cases k4 : g.ins.length = 0
 ·have HB := LH (begins_bad (g := g) (fun f => by omega))
  have d4 : ((g.ins.length : Int) == 0) = true := beq_iff_eq.2 (by omega)
  go_wp2_with fail
  go_ret2
  exact rvalues_bad HB.out (by decide) p1
 have d4 : ((g.ins.length : Int) == 0) = false := beq_eq_false_iff_ne.2 (by omega)
 by_cases k5 : g.outs.length = 0
 ·have HB := LH (begins_bad (g := g) (fun f => by omega))
  have d5 : ((g.outs.length : Int) == 0) = true := beq_iff_eq.2 (by omega)
  go_wp2_with fail
  go_ret2
  exact rvalues_bad HB.out (by decide) p1
 have d5 : ((g.outs.length : Int) == 0) = false := beq_eq_false_iff_ne.2 (by omega)
 go_upto_region 6 with fail
 refine opq (fun w' => OwnVals w' w1.heap.size (.slice (some ⟨w1.heap.size, 0, none⟩) 0 0) [] ∧ Past w1 w') ⟨ownVals_new (Nat.le_refl _), (Past.refl _).alloc _⟩ ?_
 rintro w2 ⟨own2, p2⟩
 have OWN2 := LH own2
 clear own2 d1 d2 d3 d4 d5
 go_wp2_with fail
 go_loopw [4, 5] (fun v i wr => ∃ k : Nat, k ≤ g.ins.length ∧ i = .int .i64 k ∧ Hid (OwnVals wr w1.heap.size v (g.ins.take k)) ∧ Hid (∀ j, j < k → mayV (g.ins.getD j default) ∧ (-128 ≤ (g.ins.getD j default).z ∧ (g.ins.getD j default).z ≤ 127)) ∧ Past w1 wr) (fun _ i _ => g.ins.length - (intOf i).toNat)
 case atStart => exact ⟨0, by omega, rfl, OWN2, LH (fun j hj => by omega), p2⟩
 case round =>
  clear OWN2 p2
  obtain ⟨k, hk, rfl, own, hall, pr⟩ := hrel
  have br := box_past pr b1 (by omega)
  by_cases h : k < g.ins.length
  ·obtain ⟨ib, io, rfl, hib, hic⟩ := I5.out (by omega)
   obtain ⟨y0, y1, y2, y3⟩ := (hic k h).grow hib (p1.trans pr)
   obtain ⟨y, hy⟩ : ∃ y, g.ins.getD k default = y := ⟨_, rfl⟩
   rw [hy] at y0 y1 y2 y3
   have HY := LH hy
   have i1 : (0 : Int) ≤ (k : Int) := by omega
   have i2 : (k : Int) < (g.ins.length : Int) := by omega
   clear hic hy
   by_cases hm : mayS y.h y.w y.c
   ·go_wp2_with fail
    refine (rmay_yes y.h y.w y.c _ hm).mono ?_
    rintro e w3 ⟨rfl, g3⟩
    have HM := LH hm
    have p3 := Grown.past g3
    have pr3 := pr.trans p3
    have OWN3 := LH (show OwnVals w3 w1.heap.size u4 (g.ins.take k) from own_past' own.out p3)
    have br3 := box_past pr3 b1 (by omega)
    have hib3 : ib < wr.heap.size := by have := (p1.trans pr).2.2.1; omega
    obtain ⟨y0', y1', y2', y3'⟩ := ValAt.grow (w := wr) (w' := w3) ⟨y0, y1, y2, y3⟩ hib3 p3
    clear y0 y1 y2 y3 br own pr g3 p3 hm
    by_cases hz : -128 ≤ y.z ∧ y.z ≤ 127
    ·have RI := LH (fun (w : World) => rin_any y.z (-128) 127 true w (LH ⟨fun _ => hz, fun _ => rfl⟩))
     go_wp2_with fail
     refine (RI.out _).mono ?_
     rintro e w4 ⟨rfl, g4⟩
     have p4 := Grown.past g4
     have pr4 := pr3.trans p4
     have OWN4 := LH (show OwnVals w4 w1.heap.size u4 (g.ins.take k) from own_past' OWN3.out p4)
     have br4 := box_past pr4 b1 (by omega)
     have hib4 : ib < w3.heap.size := by have := pr3.2.2.1; have := p1.2.2.1; omega
     obtain ⟨y0, y1, y2, y3⟩ := ValAt.grow (w := w3) (w' := w4) ⟨y0', y1', y2', y3'⟩ hib4 p4
     have HLT := LH (World.ownsRow.lt OWN4.out)
     have HZ := LH hz
     have lk : (g.ins.take k).length = k := by simp; omega
     have LK := LH lk
     have HT : Hid (g.ins.take (k + 1) = g.ins.take k ++ [y]) := LH (by
      rw [List.take_succ_eq_append_getElem h]
      congr 1
      rw [← HY.out]; simp [List.getD, h])
     have s4 : w1.heap.size ≤ w4.heap.size := pr4.2.2.1
     have PR4 := LH pr4
     clear y0' y1' y2' y3' OWN3 br3 pr3 g4 p4 hz RI lk pr4
     go_wp2_with (at_builtin; refine wpList_append_own _ rfl (.tmp 64) (.tmp 70) 24 rfl w1.heap.size 47 i0 _ 4 32 Tryz.underlying24 I1.out I2.out I3.out I4.out rfl (by decide) _ _ _ rfl (World.ownsRow.alloc OWN4.out _) ⟨w4.heap.size, 0, none⟩ 1 1 (valCells y) rfl rfl (fun j u hu => cells_new' w4 _ 47 j u hu) (val_one y) ?c4 ?c5 ?c6 ?_)
     case c4 => rw [LK.out]; unfold maxLen; omega
     case c5 => rw [LK.out]; omega
     case c6 => simp; omega
     intro v4 w5 hown5 hgrow _
     have pr5 : Past w1 w5 := (PR4.out.alloc _).grownBy hgrow (fun j hj => (HLT.out j hj).1)
     have OWN5 : Hid (OwnVals w5 w1.heap.size v4 (g.ins.take (k + 1))) := LH (by
      unfold OwnVals
      rw [HT.out, valsCells_snoc]
      simp only [List.length_append, List.length_cons, List.length_nil]
      rw [LK.out]
      exact hown5)
     clear hown5 hgrow OWN4 br4 y0 y1 y2 y3
     go_wp2_with fail
     go_roundw
     case rel => exact ⟨k + 1, by omega, by go_num, OWN5, LH (fun j hj => by
      by_cases c : j = k
      ·subst c; rw [HY.out]; exact ⟨HM.out, HZ.out⟩
      ·exact hall.out j (by omega)), pr5⟩
     case measure => simp [intOf]; omega
    ·have RI := LH (fun (w : World) => rin_any y.z (-128) 127 false w (LH ⟨fun f => by simp at f, fun f => absurd f hz⟩))
     have HB := LH (begins_bad (g := g) (fun f => hz (by have := f.2.2 k h; rw [HY.out] at this; exact this)))
     clear hz
     go_wp2_with fail
     refine (RI.out _).mono ?_
     rintro e w4 ⟨rfl, g4⟩
     have pr4 := p1.trans (pr3.trans (Grown.past g4))
     clear OWN3 br3 y0' y1' y2' y3' pr3 g4 RI
     go_wp2_with fail
     go_ret2
     exact rvalues_bad HB.out (by decide) pr4
   ·have HB := LH (begins_bad (g := g) (fun f => hm (by have := f.2.1 k h; rw [HY.out] at this; exact this)))
    go_wp2_with fail
    refine (rmay_no y.h y.w y.c _ hm).mono ?_
    rintro e w3 ⟨rfl, g3⟩
    have pr4 := p1.trans (pr.trans (Grown.past g3))
    clear br y0 y1 y2 y3 pr g3 hm own
    go_wp2_with fail
    go_ret2
    exact rvalues_bad HB.out (by decide) pr4
  ·obtain rfl : k = g.ins.length := by omega
   have HBE : Hid (beginsE g = 0) := LH (begins_mk (by omega) (fun j hj => (hall.out j hj).1) (fun j hj => (hall.out j hj).2))
   have OWNI : Hid (OwnVals wr w1.heap.size u4 g.ins) := LH (by have := own.out; rw [List.take_length] at this; exact this)
   have d6 : decide ((g.ins.length : Int) < (g.ins.length : Int)) = false := by simp
   obtain ⟨w8, hw8⟩ : ∃ w8, w8 = wr := ⟨_, rfl⟩
   subst hw8
   clear own hall
   go_wp2_with fail
   go_loopw [4, 6, 7] (fun v s i wr => ∃ (k : Nat) (l : List ValD), k ≤ g.nodes.length ∧ i = .int .i64 k ∧ s = .int .i64 (sumW (g.nodes.take k)) ∧ sumW (g.nodes.take k) ≤ 100000 * k ∧ Hid (OwnVals wr w1.heap.size v l) ∧ Hid (∀ x ∈ l, ValWf x) ∧ Hid (goS g.nodes g.ins = goS (g.nodes.drop k) l) ∧ l.length = g.ins.length + k ∧ Past w1 wr) (fun _ _ i _ => g.nodes.length - (intOf i).toNat)
   case atStart => exact ⟨0, g.ins, by omega, rfl, by simp [sumW], by simp [sumW], OWNI, IW, LH (by simp), by omega, pr⟩
   case round =>
    clear OWNI br pr d6
    obtain ⟨k, l, hk, rfl, rfl, hs, own, wl, hgo, hl, pr⟩ := hrel
    have br := box_past pr b1 (by omega)
    have HL := LH hl
    clear hl
    by_cases h : k < g.nodes.length
    ·obtain ⟨nb, no, rfl, hnb, hnc⟩ := N5.out (by omega)
     obtain ⟨vi, vw, vb, hin, hcell⟩ := (hnc k h).grow hnb (p1.trans pr)
     obtain ⟨n, hnk⟩ : ∃ n, g.nodes.getD k default = n := ⟨_, rfl⟩
     rw [hnk] at hin hcell
     have mem : n ∈ g.nodes := by rw [← hnk]; simp [List.getD, h]
     have IN := LH hin
     obtain ⟨Ai, ci, rfl, f1, f2, _, _, f7⟩ := hin.1
     obtain ⟨Aw, cw, rfl, f3, f4, _, _, _⟩ := hin.2.1
     obtain ⟨Ab, cb, rfl, f5, f6, _, _, _⟩ := hin.2.2
     have x0 := hcell 0 (by omega)
     have x1 := hcell 1 (by omega)
     have x2 := hcell 2 (by omega)
     have x3 := hcell 3 (by omega)
     have x4 := hcell 4 (by omega)
     have x5 := hcell 5 (by omega)
     have x6 := hcell 6 (by omega)
     have x7 := hcell 7 (by omega)
     have x8 := hcell 8 (by omega)
     have x9 := hcell 9 (by omega)
     have x10 := hcell 10 (by omega)
     have x11 := hcell 11 (by omega)
     have x12 := hcell 12 (by omega)
     have x13 := hcell 13 (by omega)
     simp only [nodeCells, List.getElem?_cons_zero, List.getElem?_cons_succ, Nat.add_zero] at x0 x1 x2 x3 x4 x5 x6 x7 x8 x9 x10 x11 x12 x13
     have NK := LH hnk
     have MEM := LH mem
     have F7 := LH f7
     have HCN := HC.out.2 n mem
     have lw : n.ws.length ≤ 100000 := HCN.2
     have li : n.ins.length ≤ 1000 := HCN.1
     have i1 : (0 : Int) ≤ (k : Int) := by omega
     have i2 : (k : Int) < (g.nodes.length : Int) := by omega
     obtain ⟨P8, hP⟩ : ∃ P8, wr.heap.size = P8 := ⟨_, rfl⟩
     have q8 : w1.heap.size ≤ P8 := by rw [← hP]; exact pr.2.2.1
     have hso := own_slice' own.out
     obtain ⟨Av, cv, rfl, hv1, hv2⟩ := hso
     have OWNR := LH own.out
     have GO : Hid (goS g.nodes g.ins = goS (n :: g.nodes.drop (k + 1)) l) := LH (by rw [hgo.out, drop_cons _ _ h, NK.out])
     have SB := LH (sumW_take g.nodes k h)
     have l100 : l.length ≤ 1000 := by have := HL.out; omega
     clear hin hnk mem hcell hnc f1 f2 f3 f4 f5 f6 f7 HCN own hgo
     go_upto_region 20 with fail
     refine opq (fun w' => (Bx w' P8 (nC n (.slice Ai n.ins.length ci) (.slice Aw n.ws.length cw) (.slice Ab n.bs.length cb))) ∧ OwnVals w' (P8 + 1) (.slice (some ⟨P8 + 1, 0, none⟩) 0 0) [] ∧ Past wr w' ∧ P8 + 1 ≤ w'.heap.size) ?_ ?_
     ·subst hP
      refine ⟨?_, ?_, ?_, ?_⟩
      ·(exact kKeep)
      ·have := ownVals_new (w := (wr.alloc (.cells (nC n (.slice Ai n.ins.length ci) (.slice Aw n.ws.length cw) (.slice Ab n.bs.length cb)) 63))) (base := wr.heap.size + 1) (by simp)
       simpa using this
      ·(exact kKeep)
      ·(exact kKeep)
     rintro w4 ⟨b4, own4, p4, s4⟩
     have OWN4 := LH own4
     have HWO := LH hP
     clear x0 x1 x2 x3 x4 x5 x6 x7 x8 x9 x10 x11 x12 x13 own4 hP br
     have br4 := box_past (pr.trans p4) b1 (by omega)
     go_wp2_with fail
     obtain ⟨wo, hwo⟩ : ∃ wo, wo = wr := ⟨_, rfl⟩
     subst hwo
     go_loopw [9, 10] (fun v i wq => ∃ j : Nat, j ≤ n.ins.length ∧ i = .int .i64 j ∧ Hid (OwnVals wq (P8 + 1) v (namedL l (n.ins.take j))) ∧ Hid (∀ t, t < j → 0 ≤ n.ins.getD t 0 ∧ n.ins.getD t 0 < (l.length : Int)) ∧ (Bx wq P8 (nC n (.slice Ai n.ins.length ci) (.slice Aw n.ws.length cw) (.slice Ab n.bs.length cb))) ∧ Past wo wq ∧ P8 + 1 ≤ wq.heap.size) (fun _ i _ => n.ins.length - (intOf i).toNat)
     case atStart => exact ⟨0, by omega, rfl, OWN4, LH (fun t ht => by omega), b4, p4, s4⟩
     case round =>
      clear OWN4 b4 p4 s4 br4
      obtain ⟨j, hj, rfl, own9, hin9, b8, p9, s9⟩ := hrel
      have br9 := box_past (pr.trans p9) b1 (by omega)
      by_cases hjl : j < n.ins.length
      ·obtain ⟨eb, eo, rfl, heb, hec⟩ := F7.out (by omega)
       have c0 := (p9.cell (p := ⟨eb, eo + j, none⟩) heb).trans (hec j hjl)
       obtain ⟨x, hx⟩ : ∃ x, n.ins.getD j 0 = x := ⟨_, rfl⟩
       rw [hx] at c0
       have HX := LH hx
       have j1 : (0 : Int) ≤ (j : Int) := by omega
       have j2 : (j : Int) < (n.ins.length : Int) := by omega
       have w5 : IntKind.i64.wrap ((l.length : Int) - 1) = (l.length : Int) - 1 := IntWalk.i64_in _ (by omega)
       have hebq : eb < wr.heap.size := by have := p9.2.2.1; omega
       clear hx hec
       by_cases hx : 0 ≤ x ∧ x ≤ (l.length : Int) - 1
       ·have RI := LH (fun (w : World) => rin_any x 0 ((l.length : Int) - 1) true w (LH ⟨fun _ => hx, fun _ => rfl⟩))
        go_wp2_with fail
        refine (RI.out _).mono ?_
        rintro e wz ⟨rfl, g9⟩
        have pz := Grown.past g9
        have p10 := p9.trans pz
        have bz := box_past pz b8 (by omega)
        have c0z := (pz.cell (p := ⟨eb, eo + j, none⟩) hebq).trans c0
        have ownz := LH (show OwnVals wz (P8 + 1) u9 (namedL l (n.ins.take j)) from own_past' own9.out pz)
        have LV := vals_of_own (own_past' OWNR.out p10) wl.out
        obtain ⟨m, rfl⟩ : ∃ m : Nat, x = m := ⟨x.toNat, by omega⟩
        have m2 : m < l.length := by omega
        obtain ⟨_, _, el, _, _, _, _, lv5⟩ := LV
        obtain ⟨b', off', e2, hbb', hc'⟩ := lv5 (by omega)
        subst e2
        simp only [Value.slice.injEq, true_and] at el
        obtain ⟨rfl, rfl⟩ := el
        obtain ⟨y0, y1, y2, y3⟩ := hc' m m2
        obtain ⟨y, hy⟩ : ∃ y, l.getD m default = y := ⟨_, rfl⟩
        rw [hy] at y0 y1 y2 y3
        have HY := LH hy
        have lk : (namedL l (n.ins.take j)).length = j := by simp [namedL]; omega
        have LK := LH lk
        have HLT := LH (World.ownsRow.lt ownz.out)
        have P10 := LH p10
        have sz : P8 + 1 ≤ wz.heap.size := by have := pz.2.2.1; omega
        have k1 : (0 : Int) ≤ (m : Int) := by omega
        have k2 : (m : Int) < (l.length : Int) := by omega
        have HM := LH hx
        clear c0 hc' lv5 hy lk p10 own9 g9 pz br9 p9 b8 s9 RI hx
        go_wp2_with (at_builtin; refine wpList_append_own _ rfl (.tmp 102) (.tmp 111) 24 rfl (P8 + 1) 47 i0 _ 4 32 Tryz.underlying24 I1.out I2.out I3.out I4.out rfl (by decide) _ _ _ rfl (World.ownsRow.alloc ownz.out _) ⟨wz.heap.size, 0, none⟩ 1 1 (valCells y) rfl rfl (fun j u hu => cells_new' wz _ 47 j u hu) (val_one y) ?c4 ?c5 ?c6 ?_)
        case c4 => rw [LK.out]; unfold maxLen; omega
        case c5 => rw [LK.out]; omega
        case c6 => simp; omega
        intro v4 w5' hown5 hgrow _
        have p11 : Past wo w5' := (P10.out.alloc _).grownBy hgrow (fun j hj => by have := (HLT.out j hj).1; have := HWO.out; omega)
        have b11 := box_grownBy hgrow (box_old (x := .cells (valCells y).toArray 47) bz (by omega)) (by simp; omega) (fun e => by have := (HLT.out _ e.symm).1; omega)
        have OWN5 : Hid (OwnVals w5' (P8 + 1) v4 (namedL l (n.ins.take (j + 1)))) := LH (by
         unfold OwnVals
         rw [namedL_take l n.ins j hjl, valsCells_snoc, HX.out]
         simp only [Int.toNat_natCast, HY.out, List.length_append, List.length_cons, List.length_nil]
         rw [LK.out]
         rw [LK.out] at hown5
         exact hown5)
        have s11 : P8 + 1 ≤ w5'.heap.size := by have := hgrow.size; simp at this; omega
        clear hown5 hgrow bz c0z ownz y0 y1 y2 y3 P10 HLT
        go_wp2_with fail
        go_roundw
        case rel => exact ⟨j + 1, by omega, by go_num, OWN5, LH (fun t ht => by
         by_cases c : t = j
         ·subst c; rw [HX.out]; exact ⟨by omega, by omega⟩
         ·exact hin9.out t (by omega)), b11, p11, s11⟩
        case measure => simp [intOf]; omega
       ·have RI := LH (fun (w : World) => rin_any x 0 ((l.length : Int) - 1) false w (LH ⟨fun f => by simp at f, fun f => absurd f hx⟩))
        have HB : Hid (valuesE g ≠ 0) := LH (values_goS (by
         rw [GO.out, goS_no (fun f => hx (by have := f j hjl; rw [HX.out] at this; omega))]
         decide))
        clear hx
        go_wp2_with fail
        refine (RI.out _).mono ?_
        rintro e wz ⟨rfl, g9⟩
        have pz := p1.trans (pr.trans (p9.trans (Grown.past g9)))
        clear own9 b8 p9 s9 c0 RI g9 br9
        go_wp2_with fail
        go_ret2
        exact rvalues_bad HB.out (by decide) pz
      ·obtain rfl : j = n.ins.length := by omega
       have hd : namedP l n.ins := hin9.out
       have ownl : OwnVals wr (P8 + 1) u9 (namedL l n.ins) := by have := own9.out; rw [List.take_length] at this; exact this
       have WFL : ∀ x ∈ namedL l n.ins, ValWf x := fun x hx => by
        simp only [namedL, List.mem_map] at hx
        obtain ⟨i, hi, rfl⟩ := hx
        obtain ⟨t, ht, rfl⟩ := List.getElem_of_mem hi
        have := hd t ht
        simp only [List.getD, ht, List.getElem?_eq_getElem, Option.getD_some] at this
        have hl : n.ins[t].toNat < l.length := by omega
        have : l.getD n.ins[t].toNat default = l[n.ins[t].toNat] := by simp [List.getD, hl]
        rw [this]
        exact wl.out _ (List.getElem_mem _)
       have LVV := LH (vals_of_own ownl WFL)
       have NDP := LH hd
       have VW : ValWf (valueV n (namedL l n.ins)) := valueV_wf (NW.out n MEM.out).2.2.2.2.2.2.2.1
       have VA := fun w (p : Past wr w) => rvalue_any n _ _ _ u9 (namedL l n.ins) w (IN.out.grow (p9.trans p)) (LVV.out.grow p)
       obtain ⟨x, hx⟩ : ∃ x, valueV n (namedL l n.ins) = x := ⟨_, rfl⟩
       obtain ⟨qv, hqv⟩ : ∃ x, valueE n (namedL l n.ins) = x := ⟨_, rfl⟩
       unfold ValuePost at VA
       rw [hx, hqv] at VA
       rw [hx] at VW
       have VA := LH VA
       have VW := LH VW
       have HX := LH hx
       have HQV := LH hqv
       obtain ⟨A9, c9, rfl, _⟩ := own_slice' ownl
       have d7 : decide ((n.ins.length : Int) < (n.ins.length : Int)) = false := by simp
       clear hx hqv hd ownl WFL own9 hin9
       go_wp2_with (refine wpList_load_box rfl 63 (.tmp 8) rfl P8 (nC n (.slice Ai n.ins.length ci) (.slice Aw n.ws.length cw) (.slice Ab n.bs.length cb)) rfl b8 Tryz.underlying63 rfl N14 ?_)
       refine (VA.out _ (Past.refl _)).mono ?_
       rintro e w11 ⟨rfl, g11⟩
       have pz := Grown.past g11
       have p12 := p9.trans pz
       have b12 := box_past pz b8 (by omega)
       have s12 : P8 + 1 ≤ w11.heap.size := by have := pz.2.2.1; omega
       have ownO := LH (show OwnVals w11 w1.heap.size (.slice Av l.length cv) l from own_past' OWNR.out p12)
       clear g11 pz p9 b8 s9 br9 VA LVV
       obtain ⟨P11, hP11⟩ : ∃ P11, w11.heap.size = P11 := ⟨_, rfl⟩
       have P11W := LH hP11
       go_upto_region 27 with fail
       refine opq (fun w' => (Bx w' P8 (nC n (.slice Ai n.ins.length ci) (.slice Aw n.ws.length cw) (.slice Ab n.bs.length cb))) ∧ (Bx w' P11 #[.int .i64 x.h, .int .i64 x.w, .int .i64 x.c, .int .i64 x.z]) ∧ Past w11 w' ∧ P11 + 1 ≤ w'.heap.size) (by subst hP11; (exact kKeep)) ?_
       rintro w13 ⟨b13, v13, p13, s13⟩
       have ownO := LH (show OwnVals w13 w1.heap.size (.slice Av l.length cv) l from own_past' ownO.out p13)
       have p14 := p12.trans p13
       clear b12 p12 hP11
       by_cases q0 : qv = 0
       ·have Q0 := LH q0
        have d8 : (qv != 0) = false := by simp [q0]
        have HLT := LH (World.ownsRow.lt ownO.out)
        have P14 := LH (pr.trans p14)
        have s14 : w1.heap.size ≤ w13.heap.size := (pr.trans p14).2.2.1
        have sw : sumW (g.nodes.take (k + 1)) = sumW (g.nodes.take k) + n.ws.length := by rw [SB.out, NK.out]
        have w6 : IntKind.i64.wrap ((sumW (g.nodes.take k) : Int) + (n.ws.length : Int)) = ((sumW (g.nodes.take (k + 1)) : Nat) : Int) := by
         rw [sw, Int.natCast_add]
         exact IntWalk.i64_in _ (by omega)
        have s8 : P8 ≤ P11 := by have := P11W.out; omega
        have s8' : P8 + 1 ≤ P11 := by have := P11W.out; omega
        clear p14 q0 pr p13
        go_wp2_with (at_builtin; refine wpList_append_own _ rfl (.tmp 122) (.tmp 124) 24 rfl w1.heap.size 47 i0 _ 4 32 Tryz.underlying24 I1.out I2.out I3.out I4.out rfl (by decide) _ _ _ rfl (World.ownsRow.alloc ownO.out _) ⟨w13.heap.size, 0, none⟩ 1 1 (valCells x) rfl rfl (fun j u hu => cells_new' w13 _ 47 j u hu) (val_one x) ?c4 ?c5 ?c6 ?_)
        case c4 => unfold maxLen; omega
        case c5 => omega
        case c6 => simp; omega
        intro v4 w14 hown14 hgrow _
        have p15 : Past w1 w14 := (P14.out.alloc _).grownBy hgrow (fun j hj => (HLT.out j hj).1)
        have hne : some P8 ≠ (Value.slice Av l.length cv).ownBlock := fun e => by
         have h1 := World.ownsRow.lt OWNR.out _ e.symm
         have h2 := HWO.out
         omega
        have b15 := box_grownBy hgrow (box_old (x := .cells (valCells x).toArray 47) b13 (by omega)) (by simp; omega) hne
        have OWN14 : Hid (OwnVals w14 w1.heap.size v4 (l ++ [x])) := LH (by
         unfold OwnVals
         rw [valsCells_snoc]
         simp only [List.length_append, List.length_cons, List.length_nil]
         exact hown14)
        clear hown14 hgrow b13 v13 ownO P14 HLT hne
        go_wp2_with fail
        go_roundw
        case rel => exact ⟨k + 1, l ++ [x], by omega, by go_num, by go_num, by omega, OWN14, LH (fun z hz => by
         rcases List.mem_append.1 hz with hz | hz
         ·exact wl.out z hz
         ·simp only [List.mem_cons, List.not_mem_nil, or_false] at hz; subst hz; exact VW.out), LH (by
         rw [GO.out, goS_ok NDP.out (by rw [HQV.out]; exact Q0.out), HX.out]), by have := HL.out; simp; omega, p15⟩
        case measure => simp [intOf]; omega
       ·have d8 : (qv != 0) = true := by simpa using q0
        have Q0 := LH q0
        have HB : Hid (valuesE g ≠ 0) := LH (values_goS (by
         rw [GO.out, goS_err NDP.out (by rw [HQV.out]; exact Q0.out)]
         show valueE n (namedL l n.ins) ≠ 0
         rw [HQV.out]; exact Q0.out))
        have pz := p1.trans (pr.trans p14)
        clear q0 b13 v13 ownO p14 p13
        go_wp2_with fail
        go_ret2
        exact rvalues_bad HB.out Q0.out pz
    ·obtain rfl : k = g.nodes.length := by omega
     have hgo' := hgo.out
     rw [List.drop_length] at hgo'
     rw [List.take_length] at hs
     have GO : Hid (goS g.nodes g.ins = (0, l)) := LH (by rw [hgo']; rfl)
     have TK : List.take g.nodes.length g.nodes = g.nodes := List.take_length
     have d6 : decide ((g.nodes.length : Int) < (g.nodes.length : Int)) = false := by simp
     rw [TK]
     clear hgo hgo' TK
     obtain ⟨Av, cv, rfl, hv1, hv2⟩ := own_slice' own.out
     have l100 : l.length ≤ 1000 := by have := HL.out; omega
     by_cases hw : 4096 < sumW g.nodes
     ·have d7 : decide ((4096 : Int) < (sumW g.nodes : Int)) = true := by simp; omega
      have HB : Hid (valuesE g ≠ 0) := LH (by
       intro f
       have := (values_ok f).2.2.1
       omega)
      have pz := p1.trans pr
      clear hw
      go_wp2_with fail
      go_ret2
      exact rvalues_bad HB.out (by decide) pz
     ·have d7 : decide ((4096 : Int) < (sumW g.nodes : Int)) = false := by simp; omega
      have HW := LH hw
      clear hw
      obtain ⟨wo, hwo⟩ : ∃ wo, wo = wr := ⟨_, rfl⟩
      subst hwo
      have w5 : IntKind.i64.wrap ((l.length : Int) - 1) = (l.length : Int) - 1 := IntWalk.i64_in _ (by omega)
      go_wp2_with fail
      go_loopw [13] (fun i wq => ∃ j : Nat, j ≤ g.outs.length ∧ i = .int .i64 j ∧ Hid (∀ t, t < j → 0 ≤ g.outs.getD t 0 ∧ g.outs.getD t 0 < (l.length : Int)) ∧ Past wo wq) (fun i _ => g.outs.length - (intOf i).toNat)
      case atStart => exact ⟨0, by omega, rfl, LH (fun t ht => by omega), Past.refl _⟩
      case round =>
       obtain ⟨j, hj, rfl, hin9, p9⟩ := hrel
       have p10 := pr.trans p9
       have b9 := box_past p10 b1 (by omega)
       by_cases hjl : j < g.outs.length
       ·obtain ⟨eb, eo, rfl, heb, hec⟩ := O5.out (by omega)
        have c0 := ((p1.trans p10).cell (p := ⟨eb, eo + j, none⟩) heb).trans (hec j hjl)
        obtain ⟨x, hx⟩ : ∃ x, g.outs.getD j 0 = x := ⟨_, rfl⟩
        rw [hx] at c0
        have HX := LH hx
        have j1 : (0 : Int) ≤ (j : Int) := by omega
        have j2 : (j : Int) < (g.outs.length : Int) := by omega
        clear hx hec
        by_cases hx : 0 ≤ x ∧ x ≤ (l.length : Int) - 1
        ·have RI := LH (fun (w : World) => rin_any x 0 ((l.length : Int) - 1) true w (LH ⟨fun _ => hx, fun _ => rfl⟩))
         go_wp2_with fail
         refine (RI.out _).mono ?_
         rintro e wz ⟨rfl, g9⟩
         have pz := p9.trans (Grown.past g9)
         clear c0 b9 g9 p9 p10 RI br
         go_wp2_with fail
         go_roundw
         case rel => exact ⟨j + 1, by omega, by go_num, LH (fun t ht => by
          by_cases c : t = j
          ·subst c; rw [HX.out]; exact ⟨by omega, by omega⟩
          ·exact hin9.out t (by omega)), pz⟩
         case measure => simp [intOf]; omega
        ·have RI := LH (fun (w : World) => rin_any x 0 ((l.length : Int) - 1) false w (LH ⟨fun f => by simp at f, fun f => absurd f hx⟩))
         have HB : Hid (valuesE g ≠ 0) := LH (by
          intro f
          have h1 := (values_ok f).2.2.2
          have h2 : valuesL g = l := by unfold valuesL; rw [if_pos f, GO.out]
          rw [h2] at h1
          have := h1 j hjl
          rw [HX.out] at this
          omega)
         clear hx
         go_wp2_with fail
         refine (RI.out _).mono ?_
         rintro e wz ⟨rfl, g9⟩
         have pz := p1.trans (p10.trans (Grown.past g9))
         clear c0 b9 g9 p9 p10 RI br
         go_wp2_with fail
         go_ret2
         exact rvalues_bad HB.out (by decide) pz
       ·obtain rfl : j = g.outs.length := by omega
        have VM := LH (values_mk HBE.out GO.out (by have := HW.out; omega) hin9.out)
        have d8 : decide ((g.outs.length : Int) < (g.outs.length : Int)) = false := by simp
        have OV := LH (vals_of_own (own_past' own.out p9) wl.out)
        have pz := p1.trans p10
        clear p9 p10 br
        go_wp2_with fail
        go_ret2
        exact ⟨_, _, rfl, ⟨fun _ => VM.out.1, fun _ => rfl⟩, fun _ => by rw [VM.out.2]; exact OV.out, pz⟩
end Go.Proofs.YtejllmjkeefloaaGreat
namespace Go.Proofs.YtejllmjkeefloaaGreat
open Go.ChangeShapes Go.WideShapes Go.ChangeAt Go.RowKit
set_option maxRecDepth 20000
set_option linter.unusedVariables false
def RPutPost (g:GraphD)(W:World)(e:Ending)(w':World):Prop:=∃ v q,e=.returned (.tuple #[v,.int .i64 q])/\(q=0↔valuesE g=0)/\(q=0->OwnB w' W.heap.size v (graphB g))/\(q≠0->v=.slice none 0 0)/\Past W w'
theorem ownB_one (w:World)(base:Nat)(x:Int)(hb:base<=w.heap.size):OwnB (w.alloc (.cells #[.int .u8 x] 5)) base (.slice (some ⟨w.heap.size,0,none⟩) 1 1) [x]:=⟨World.ownsRow_lit w #[.int .u8 x] 1 hb (by decide) rfl,fun e=>by simp at e⟩
set_option maxHeartbeats 8000000 in
theorem rput_any (g : GraphD) (gv : Value) (W : World) (hg : IsGraph W gv g) (hc : Cut g) (hz : (graphB g).length ≤ 900000000) : Calls Tryz.prog 43 #[gv] W (RPutPost g W) := by
 have HG := LH hg
 obtain ⟨iv, nv, ov, rfl, hi, hn, ho⟩ := hg
 have HO := LH ho
 obtain ⟨A1, c1, rfl, i1, i2, _, iw, i5⟩ := hi
 obtain ⟨A2, c2, rfl, n1, n2, _, nw, n5⟩ := hn
 obtain ⟨A3, c3, rfl, o1, o2, _, _, _⟩ := ho
 have m1 : g.ins.length ≤ 9223372036854775807 := by unfold maxLen at i2; omega
 have m2 : g.nodes.length ≤ 9223372036854775807 := by unfold maxLen at n2; omega
 have l1 : 4 * g.ins.length ≤ 900000000 := by rw [graphB_len] at hz; omega
 have l2 : g.nodes.length ≤ 900000000 := by
  have : ∀ ns : List NodeD, ns.length ≤ nodesLen ns := by
   intro ns
   induction ns with
   | nil => simp [nodesLen]
   | cons x xs ih => simp only [nodesLen, List.map_cons, List.sum_cons, List.length_cons] at ih ⊢; omega
  have := this g.nodes
  rw [graphB_len] at hz; omega
 have HZ := LH hz
 have I5 := LH i5
 have IW := LH iw
 have N5 := LH n5
 have NW := LH nw
 have CK := LH (fun w (p : Past W w) => rvalues_any g _ w (HG.out.grow p) hc)
 clear i1 i2 n1 n2 o1 o2 i5 iw n5 nw hc hz
 obtain ⟨i0, hi0, hz0, hz1, hz2⟩ := info_parts info8
 have I1' := LH hi0
 have I2' := LH hz0
 have I3' := LH hz1
 have I4' := LH hz2
 clear hi0 hz0 hz1 hz2
 go_enter Tryz.func43, Tryz.ntmps43
 go_upto_region 1 with fail
 obtain ⟨P, hP⟩ : ∃ P, W.heap.size = P := ⟨_, rfl⟩
 refine opq (fun w' => (Bx w' P #[.slice A1 g.ins.length c1, .slice A2 g.nodes.length c2, .slice A3 g.outs.length c3]) ∧ Past W w' ∧ P + 1 ≤ w'.heap.size) (by subst hP; exact ⟨box_new rfl, by (exact kKeep), by (exact kKeep)⟩) ?_
 rintro w0 ⟨b0, p0, s0⟩
 try rw [hP]
 go_wp2_with fail
 refine (CK.out _ p0).mono ?_
 rintro e w1 ⟨rv, q, rfl, hq, -, q1⟩
 have b1 := box_past q1 b0 (by omega)
 have p1 := p0.trans q1
 have s1 : P + 1 ≤ w1.heap.size := by have := q1.2.2.1; omega
 have HQ := LH hq
 clear b0 p0 s0 q1 hq CK
 cases e0 : (q == 0) with
 | false =>
  have e1 : (q != 0) = true := by simp [bne, e0]
  have q0 : q ≠ 0 := by simpa using e0
  have Q0 := LH q0
  clear q0
  go_wp2_with fail
  go_ret2
  exact ⟨_, _, rfl, HQ.out, fun f => absurd f Q0.out, fun _ => rfl, p1⟩
 | true =>
  have e1 : (q != 0) = false := by simp [bne, e0]
  have q0 : q = 0 := by simpa using e0
  subst q0
  clear e0
  have nb : NoRow w1 P P := noRow_box b1 (.slice A1 g.ins.length c1) (by simp) (by simp)
  have NB := LH nb
  go_upto_region 5 with fail
  refine opq (fun w' => Hid (OwnB w' P (.slice (some ⟨w1.heap.size, 0, none⟩) 1 1) [(g.ins.length : Int) % 256]) ∧ Lays P w1 w') ⟨LH (ownB_one w1 P _ (by omega)), (Lays.refl P w1).alloc _⟩ ?_
  rintro w2 ⟨o2, k2⟩
  have g2 : Lays P W w2 := (Lays.of_past p1).trans k2
  have b2 := box_lays b1 NB.out k2
  have s2 : P + 1 ≤ w2.heap.size := by have := k2.2.2.1; omega
  have g2 := LH g2
  have eN : [(g.ins.length : Int) % 256] = numsB 1 [(g.ins.length : Int)] := by simp [numsB, numB]
  rw [eN] at o2
  clear k2 b1 p1 s1 nb NB e1 eN
  go_wp2_with fail
  go_loopw [6, 7] (fun v i wr => ∃ k : Nat, k ≤ g.ins.length ∧ i = .int .i64 k ∧ Hid (OwnB wr P v (numsB 1 [(g.ins.length : Int)] ++ (g.ins.take k).flatMap valB)) ∧ Hid (Lays P W wr) ∧ (Bx wr P #[.slice A1 g.ins.length c1, .slice A2 g.nodes.length c2, .slice A3 g.outs.length c3]) ∧ P + 1 ≤ wr.heap.size) (fun _ i _ => g.ins.length - (intOf i).toNat)
  case atStart => exact ⟨0, by omega, rfl, LH (by simpa using o2.out), g2, b2, s2⟩
  case round =>
   clear b2 o2 g2 s2
   obtain ⟨k, hk, rfl, own, gg, b3, s3⟩ := hrel
   by_cases h : k < g.ins.length
   ·have p3 : Past W wr := (Past.refl W).trans (by have := gg.out; rw [← hP] at this; exact Lays.past (Past.refl W) this)
    obtain ⟨nb, no, rfl, hnb, hnc⟩ := I5.out (by omega)
    obtain ⟨x0, x1, x2, x3⟩ := (hnc k h).grow hnb p3
    obtain ⟨x, hxk⟩ : ∃ x, g.ins.getD k default = x := ⟨_, rfl⟩
    rw [hxk] at x0 x1 x2 x3
    have wx : ValWf x := IW.out x (by rw [← hxk]; simp [List.getD, h])
    have hnext := flat_take valB g.ins k h
    rw [hxk] at hnext
    have HNX := LH hnext
    have WX := LH wx
    have hlen : ((g.ins.take k).flatMap valB).length ≤ 900000000 := by
     have := flat_le valB g.ins k
     have h2 := HZ.out
     simp only [graphB, List.length_append] at h2
     omega
    have HLEN := LH hlen
    have n1 : P ≠ wr.heap.size := by omega
    have n2 : P < wr.heap.size := by omega
    obtain ⟨P8, hP8⟩ : ∃ P8, wr.heap.size = P8 := ⟨_, rfl⟩
    clear hxk wx hnext hlen hnc
    go_upto_region 9 with fail
    refine opq (fun w' => ((Bx w' P #[.slice (some ⟨nb, no, none⟩) g.ins.length c1, .slice A2 g.nodes.length c2, .slice A3 g.outs.length c3]) ∧ (Bx w' P8 #[.int .i64 x.h, .int .i64 x.w, .int .i64 x.c, .int .i64 x.z]) ∧ Past wr w' ∧ P8 + 1 ≤ w'.heap.size) ∧ OwnB w' P u6 (numsB 1 [(g.ins.length : Int)] ++ (g.ins.take k).flatMap valB)) ⟨by
     subst hP8
     (exact kKeep), own.out.alloc _⟩ ?_
    rintro w4 ⟨⟨b4, y4, p4, s4⟩, o4⟩
    have gg4 := LH (gg.out.trans (Lays.of_past p4))
    have C1 := LH (rsome_any P u6 (.slice (some ⟨w4.heap.size, 0, none⟩) 4 4) _ [x.h, x.w, x.c, x.z] (w4.alloc (.cells #[.int .i64 x.h, .int .i64 x.w, .int .i64 x.c, .int .i64 x.z] 3)) (o4.alloc _)
     (nums_new .i64 w4 3 [x.h, x.w, x.c, x.z] (by simp) (by simp [maxLen]) (by
      intro y hy
      simp only [List.mem_cons, List.not_mem_nil, or_false] at hy
      rcases hy with rfl | rfl | rfl | rfl
      ·exact WX.out.1
      ·exact WX.out.2.1
      ·exact WX.out.2.2.1
      ·exact WX.out.2.2.2)) (fun _ => apart0 _ _ _ _) (by simp; omega) (by have := HLEN.out; simp only [List.length_append, numsB_len, List.length_cons, List.length_nil]; omega))
    clear own b3 s3 gg p3 x0 x1 x2 x3 hP8 n1 n2 p4 o4
    go_wp2_with fail
    refine C1.out.mono ?_
    rintro e w5 ⟨v5, rfl, o5, k5⟩
    have k5 := ((Lays.refl P w4).alloc (.cells #[.int .i64 x.h, .int .i64 x.w, .int .i64 x.c, .int .i64 x.z] 3)).trans k5
    have g5 := LH (gg4.out.trans k5)
    have b5 := box_lays b4 (noRow_box b4 (.slice (some ⟨nb, no, none⟩) g.ins.length c1) (by simp) (by simp)) k5
    have s5 : P + 1 ≤ w5.heap.size := by have := k5.2.2.1; have := cell_lt ((b4 0).trans rfl); omega
    have o5 := LH (show OwnB w5 P v5 (numsB 1 [(g.ins.length : Int)] ++ (g.ins.take (k + 1)).flatMap valB) by
     rw [HNX.out, ← List.append_assoc]
     exact o5)
    clear C1 k5 b4 y4 gg4 s4
    go_wp2_with fail
    go_roundw
    case rel => exact ⟨k + 1, by omega, by go_num, o5, g5, b5, s5⟩
    case measure => simp [intOf]; omega
   ·have e : g.ins.take k = g.ins := List.take_of_length_le (by omega)
    rw [e] at own
    clear e I5 IW
    have nb : NoRow wr P P := noRow_box b3 (.slice A1 g.ins.length c1) (by simp) (by simp)
    have NB := LH nb
    have hl0 : (g.ins.flatMap valB).length ≤ 900000000 := by
     have h2 := HZ.out
     simp only [graphB, List.length_append] at h2
     omega
    have HL0 : Hid ((numsB 1 [(g.ins.length : Int)] ++ g.ins.flatMap valB).length ≤ 900000001) := LH (by simp only [List.length_append, numsB_len, List.length_cons, List.length_nil]; omega)
    have HN : Hid (numsB 1 [(g.nodes.length : Int)] = [(g.nodes.length : Int) % 256]) := LH (by simp [numsB, numB])
    obtain ⟨cs, hcs⟩ : ∃ cs, numsB 1 [(g.ins.length : Int)] ++ g.ins.flatMap valB = cs := ⟨_, rfl⟩
    have EC := LH hcs
    rw [hcs] at own HL0
    clear hcs hl0 nb
    go_wp2_with (at_builtin; refine wpList_append_own _ rfl (.tmp 49) (.tmp 54) 22 rfl P 5 i0 _ 1 1 Tryz.underlying22 I1'.out I2'.out I3'.out I4'.out rfl (by decide) _ _ _ rfl (World.ownsRow.alloc own.out.1 _) ⟨wr.heap.size, 0, none⟩ 1 1 [.int .u8 ((g.nodes.length : Int) % 256)] rfl rfl (fun j u hu => cells_new' wr _ 5 j u hu) (by intro u hu; simp at hu; subst hu; rfl) ?c4 ?c5 ?c6 ?_)
    case c4 => have := HL0.out; unfold maxLen; omega
    case c5 => have := HL0.out; omega
    case c6 => simp; omega
    intro v4 w4 hown4 hgrow _
    have o2 := LH (own_bytes rfl hown4)
    have k2 := Lays.grownBy ((Lays.refl P wr).alloc (.cells #[.int .u8 ((g.nodes.length : Int) % 256)] 5)) (own.out.alloc _) hgrow
    have g2 := LH (gg.out.trans k2)
    have b2 := box_lays b3 NB.out k2
    have s2 : P + 1 ≤ w4.heap.size := by have := k2.2.2.1; omega
    have o2 : Hid (OwnB w4 P v4 (numsB 1 [(g.ins.length : Int)] ++ g.ins.flatMap valB ++ numsB 1 [(g.nodes.length : Int)])) := LH (by rw [EC.out, HN.out]; exact o2.out)
    clear k2 b3 s3 gg NB hown4 hgrow HL0 EC HN own
    go_wp2_with fail
    go_loopw [6, 9] (fun v i wr => ∃ k : Nat, k ≤ g.nodes.length ∧ i = .int .i64 k ∧ Hid (OwnB wr P v (numsB 1 [(g.ins.length : Int)] ++ g.ins.flatMap valB ++ numsB 1 [(g.nodes.length : Int)] ++ (g.nodes.take k).flatMap nodeB)) ∧ Hid (Lays P W wr) ∧ (Bx wr P #[.slice A1 g.ins.length c1, .slice A2 g.nodes.length c2, .slice A3 g.outs.length c3]) ∧ P + 1 ≤ wr.heap.size) (fun _ i _ => g.nodes.length - (intOf i).toNat)
    case atStart => exact ⟨0, by omega, rfl, LH (by simpa using o2.out), g2, b2, s2⟩
    case round =>
     clear b2 o2 g2 s2 h hk
     obtain ⟨k, hk, rfl, own, gg, b3, s3⟩ := hrel
     by_cases h : k < g.nodes.length
     ·have p3 : Past W wr := (Past.refl W).trans (by have := gg.out; rw [← hP] at this; exact Lays.past (Past.refl W) this)
      obtain ⟨nb, no, rfl, hnb, hnc⟩ := N5.out (by omega)
      obtain ⟨vi, vw, vb, hin0, hcell⟩ := hnc k h
      obtain ⟨n, hnk⟩ : ∃ n, g.nodes.getD k default = n := ⟨_, rfl⟩
      rw [hnk] at hin0 hcell
      have mem : n ∈ g.nodes := by rw [← hnk]; simp [List.getD, h]
      have ai := LH (fun h0 => apart_old (base := P) (by omega) hin0.1 h0)
      have aw := LH (fun h0 => apart_old (base := P) (by omega) hin0.2.1 h0)
      have ab := LH (fun h0 => apart_old (base := P) (by omega) hin0.2.2 h0)
      have hin := hin0.grow p3
      have IN := LH hin
      obtain ⟨Ai, ci, rfl, f1, f2, _, _, _⟩ := hin.1
      obtain ⟨Aw, cw, rfl, f3, f4, _, _, _⟩ := hin.2.1
      obtain ⟨Ab, cb, rfl, f5, f6, _, _, _⟩ := hin.2.2
      have hcell := fun j (hj : j < 14) => (p3.cell hnb).trans (hcell j hj)
      have x0 := hcell 0 (by omega)
      have x1 := hcell 1 (by omega)
      have x2 := hcell 2 (by omega)
      have x3 := hcell 3 (by omega)
      have x4 := hcell 4 (by omega)
      have x5 := hcell 5 (by omega)
      have x6 := hcell 6 (by omega)
      have x7 := hcell 7 (by omega)
      have x8 := hcell 8 (by omega)
      have x9 := hcell 9 (by omega)
      have x10 := hcell 10 (by omega)
      have x11 := hcell 11 (by omega)
      have x12 := hcell 12 (by omega)
      have x13 := hcell 13 (by omega)
      simp only [nodeCells, List.getElem?_cons_zero, List.getElem?_cons_succ, Nat.add_zero] at x0 x1 x2 x3 x4 x5 x6 x7 x8 x9 x10 x11 x12 x13
      have hnext := flat_take nodeB g.nodes k h
      rw [hnk] at hnext
      have HNX := LH hnext
      have WN := LH (NW.out n mem)
      have hlen : ((g.ins.flatMap valB).length + ((g.nodes.take k).flatMap nodeB).length) + (nodeB n).length ≤ 900000000 := by
       have h1 := flat_le nodeB g.nodes (k + 1)
       rw [hnext, List.length_append] at h1
       have h2 := HZ.out
       simp only [graphB, List.length_append] at h2
       omega
      have HLEN := LH hlen
      have n1 : P ≠ wr.heap.size := by omega
      have n2 : P < wr.heap.size := by omega
      have i1 : (0 : Int) ≤ (k : Int) := by omega
      have i2 : (k : Int) < (g.nodes.length : Int) := by omega
      clear hnk hnext hlen hnc hin0 hin hcell mem f1 f2 f3 f4 f5 f6
      have C1 := LH (rnode_any P u6 _ n _ _ _ wr own.out IN.out WN.out ai.out aw.out ab.out (by omega) (by have := HLEN.out; simp only [List.length_append, numsB_len, List.length_cons, List.length_nil]; omega))
      clear own p3 n1 n2 ai aw ab
      go_wp2_with fail
      refine C1.out.mono ?_
      rintro e w5 ⟨v5, rfl, o5, k5⟩
      have g5 := LH (gg.out.trans k5)
      have b5 := box_lays b3 (noRow_box b3 (.slice A1 g.ins.length c1) (by simp) (by simp)) k5
      have s5 : P + 1 ≤ w5.heap.size := by have := k5.2.2.1; omega
      have o5 := LH (show OwnB w5 P v5 (numsB 1 [(g.ins.length : Int)] ++ g.ins.flatMap valB ++ numsB 1 [(g.nodes.length : Int)] ++ (g.nodes.take (k + 1)).flatMap nodeB) by
       rw [HNX.out, ← List.append_assoc]
       exact o5)
      clear C1 k5 b3 gg s3 x0 x1 x2 x3 x4 x5 x6 x7 x8 x9 x10 x11 x12 x13 IN i1 i2
      go_wp2_with fail
      go_roundw
      case rel => exact ⟨k + 1, by omega, by go_num, o5, g5, b5, s5⟩
      case measure => simp [intOf]; omega
     ·have e : g.nodes.take k = g.nodes := List.take_of_length_le (by omega)
      rw [e] at own
      clear e N5 NW
      have hl0 := HZ.out
      simp only [graphB, List.length_append, numsB_len, listB_len, List.length_cons, List.length_nil] at hl0
      have nb : NoRow wr P P := noRow_box b3 (.slice A1 g.ins.length c1) (by simp) (by simp)
      have NB := LH nb
      have HN : Hid (numsB 1 [(g.outs.length : Int)] = [(g.outs.length : Int) % 256]) := LH (by simp [numsB, numB])
      obtain ⟨cs, hcs⟩ : ∃ cs, numsB 1 [(g.ins.length : Int)] ++ g.ins.flatMap valB ++ numsB 1 [(g.nodes.length : Int)] ++ g.nodes.flatMap nodeB = cs := ⟨_, rfl⟩
      have EC := LH hcs
      have HL0 : Hid (cs.length ≤ 900000001) := LH (by rw [← hcs]; simp only [List.length_append, numsB_len, List.length_cons, List.length_nil]; omega)
      have HL2 : Hid (cs.length + g.outs.length ≤ 900000001) := LH (by rw [← hcs]; simp only [List.length_append, numsB_len, List.length_cons, List.length_nil]; omega)
      rw [hcs] at own
      clear hcs hl0 nb
      go_wp2_with (at_builtin; refine wpList_append_own _ rfl (.tmp 70) (.tmp 75) 22 rfl P 5 i0 _ 1 1 Tryz.underlying22 I1'.out I2'.out I3'.out I4'.out rfl (by decide) _ _ _ rfl (World.ownsRow.alloc own.out.1 _) ⟨wr.heap.size, 0, none⟩ 1 1 [.int .u8 ((g.outs.length : Int) % 256)] rfl rfl (fun j u hu => cells_new' wr _ 5 j u hu) (by intro u hu; simp at hu; subst hu; rfl) ?c4 ?c5 ?c6 ?_)
      case c4 => have := HL0.out; unfold maxLen; omega
      case c5 => have := HL0.out; omega
      case c6 => simp; omega
      intro v4 w4 hown4 hgrow _
      have o2 := LH (own_bytes rfl hown4)
      have k2 := Lays.grownBy ((Lays.refl P wr).alloc (.cells #[.int .u8 ((g.outs.length : Int) % 256)] 5)) (own.out.alloc _) hgrow
      have g2 := LH (gg.out.trans k2)
      have b2 := box_lays b3 NB.out k2
      have s2 : P + 1 ≤ w4.heap.size := by have := k2.2.2.1; omega
      clear k2 b3 s3 gg NB hown4 hgrow HL0 own
      have p3 : Past W w4 := (Past.refl W).trans (by have := g2.out; rw [← hP] at this; exact Lays.past (Past.refl W) this)
      have C0 := LH (rsome_any P v4 (.slice A3 g.outs.length c3) _ g.outs w4 o2.out (HO.out.grow p3) (fun h0 => apart_old (w := W) (by omega) HO.out h0) (by omega) (by have := HL2.out; simp only [List.length_append, List.length_cons, List.length_nil]; omega))
      go_wp2_with fail
      refine C0.out.mono ?_
      rintro e w5 ⟨v5, rfl, o5, k5⟩
      have g5 := g2.out.trans k5
      subst hP
      have pf := LH (Lays.past (Past.refl W) g5)
      rw [← HN.out, ← EC.out] at o5
      have of := LH o5
      clear C0 k5 g2 g5 o5 o2 p3 b2 s2
      go_wp2_with fail
      go_ret2
      exact ⟨_, _, rfl, ⟨fun _ => HQ.out.1 True.intro, fun _ => rfl⟩, fun _ => by simpa [graphB, listB] using of.out, fun f => absurd rfl f, pf.out⟩
end Go.Proofs.YtejllmjkeefloaaGreat
