/- The reference of layer 3: Values: OK just where the graph may be, and then its values. -/
import Derived.Test.YtgbedoffgahhaaaV4
import Derived.Test.YtgbedoffgahhaaaR3D
import Derived.Test.YtgbedoffgahhaaaP2
import Derived.Test.YtgbedoffgahhaaaM0
namespace Go.Proofs.Ytgbedoffgahhaaa
open Go.ChangeShapes Go.WideShapes Go.ChangeAt Go.RowKit
set_option maxRecDepth 20000
set_option linter.unusedVariables false

theorem ownVals_new {w : World} {base : Nat} (hb : base ≤ w.heap.size) : OwnVals (w.alloc (.cells #[] 52)) base (.slice (some ⟨w.heap.size, 0, none⟩) 0 0) [] := World.ownsRow_lit w #[] 0 hb (by decide) (by simp)

/-- What the reference answers: its error is known as OK or not alone. -/
def RValuesPost (g : GraphD) (W : World) (e : Ending) (w' : World) : Prop := ∃ v q, e = .returned (.tuple #[v, .int .i64 q]) ∧ (q = 0 ↔ valuesE g = 0) ∧ (valuesE g = 0 → IsVals w' v (valuesL g)) ∧ Past W w'
theorem rvalues_bad {g : GraphD} {W w' : World} {q : Int} (h : valuesE g ≠ 0) (h0 : q ≠ 0) (p : Past W w') : RValuesPost g W (.returned (.tuple #[.slice none 0 0, .int .i64 q])) w' := ⟨_, _, rfl, ⟨fun f => absurd f h0, fun f => absurd f h⟩, fun f => absurd f h, p⟩
theorem values_begin {g : GraphD} (h : beginsE g ≠ 0) : valuesE g ≠ 0 := by unfold valuesE; rw [if_pos h]; exact h
theorem values_goS {g : GraphD} (h : (goS g.nodes g.ins).1 ≠ 0) : valuesE g ≠ 0 := by
  by_cases b : beginsE g = 0
  · unfold valuesE; rw [if_neg (fun f => f b), if_pos h]; exact h
  · exact values_begin b
theorem values_mk {g : GraphD} {l : List ValD} (b : beginsE g = 0) (h : goS g.nodes g.ins = (0, l)) (hw : sumW g.nodes ≤ 4096) (ho : namedP l g.outs) : valuesE g = 0 ∧ valuesL g = l := by
  have e : valuesE g = 0 := by unfold valuesE; rw [if_neg (fun f => f b), if_neg (by rw [h]; simp), if_neg (by omega), h, if_neg (fun f => f ho)]
  exact ⟨e, by unfold valuesL; rw [if_pos e, h]⟩
theorem begins_bad {g : GraphD} (h : ¬ ((1 ≤ g.ins.length ∧ g.ins.length ≤ 4 ∧ g.nodes.length ≤ 12 ∧ 1 ≤ g.outs.length ∧ g.outs.length ≤ 4) ∧ (∀ j, j < g.ins.length → mayV (g.ins.getD j default)) ∧ (∀ j, j < g.ins.length → -128 ≤ (g.ins.getD j default).z ∧ (g.ins.getD j default).z ≤ 127))) : valuesE g ≠ 0 := values_begin (fun f => h (begins_ok f))

set_option maxHeartbeats 8000000 in
theorem rvalues_any (g : GraphD) (gv : Value) (W : World) (hg : IsGraph W gv g) (hc : Cut g) : Calls Try.prog 14 #[gv] W (RValuesPost g W) := by
  obtain ⟨nv1, nv2, nv3, rfl, hi, hn, ho⟩ := hg
  obtain ⟨A1, c1, rfl, i1, i2, _, iw, i5⟩ := hi
  obtain ⟨A2, c2, rfl, n1, n2, _, nw, n5⟩ := hn
  obtain ⟨A3, c3, rfl, o1, o2, _, ow, o5⟩ := ho
  have m1 : g.ins.length ≤ 9223372036854775807 := by unfold maxLen at i2; omega
  have m2 : g.nodes.length ≤ 9223372036854775807 := by unfold maxLen at n2; omega
  have m3 : g.outs.length ≤ 9223372036854775807 := by unfold maxLen at o2; omega
  have IW := Lib.hid iw
  have I5 := Lib.hid i5
  have N5 := Lib.hid n5
  have NW := Lib.hid nw
  have O5 := Lib.hid o5
  have HC := Lib.hid hc
  obtain ⟨i0, hi0, hz0, hz1, hz2⟩ := info_parts info32
  have I1 := Lib.hid hi0
  have I2 := Lib.hid hz0
  have I3 := Lib.hid hz1
  have I4 := Lib.hid hz2
  clear hi0 hz0 hz1 hz2 i1 i2 n1 n2 o1 o2 iw i5 nw n5 ow o5 hc
  go_enter Try.func14, Try.ntmps14
  go_upto_region 1 with fail
  refine opq (fun w' => (∀ o : Nat, w'.cell? ⟨W.heap.size, o, none⟩ = (#[.slice A1 g.ins.length c1, .slice A2 g.nodes.length c2, .slice A3 g.outs.length c3] : Array Value)[o]?) ∧ Past W w' ∧ W.heap.size + 1 ≤ w'.heap.size) kKeep ?_
  rintro w1 ⟨b1, p1, z1⟩
  by_cases k1 : 4 < g.ins.length
  · have HB := Lib.hid (begins_bad (g := g) (fun f => by omega))
    have d1 : decide ((4 : Int) < (g.ins.length : Int)) = true := by simp; omega
    go_wp2_with fail
    go_ret2
    exact rvalues_bad HB.out (by decide) p1
  have d1 : decide ((4 : Int) < (g.ins.length : Int)) = false := by simp; omega
  by_cases k2 : 12 < g.nodes.length
  · have HB := Lib.hid (begins_bad (g := g) (fun f => by omega))
    have d2 : decide ((12 : Int) < (g.nodes.length : Int)) = true := by simp; omega
    go_wp2_with fail
    go_ret2
    exact rvalues_bad HB.out (by decide) p1
  have d2 : decide ((12 : Int) < (g.nodes.length : Int)) = false := by simp; omega
  by_cases k3 : 4 < g.outs.length
  · have HB := Lib.hid (begins_bad (g := g) (fun f => by omega))
    have d3 : decide ((4 : Int) < (g.outs.length : Int)) = true := by simp; omega
    go_wp2_with fail
    go_ret2
    exact rvalues_bad HB.out (by decide) p1
  have d3 : decide ((4 : Int) < (g.outs.length : Int)) = false := by simp; omega
  by_cases k4 : g.ins.length = 0
  · have HB := Lib.hid (begins_bad (g := g) (fun f => by omega))
    have d4 : ((g.ins.length : Int) == 0) = true := beq_iff_eq.2 (by omega)
    go_wp2_with fail
    go_ret2
    exact rvalues_bad HB.out (by decide) p1
  have d4 : ((g.ins.length : Int) == 0) = false := beq_eq_false_iff_ne.2 (by omega)
  by_cases k5 : g.outs.length = 0
  · have HB := Lib.hid (begins_bad (g := g) (fun f => by omega))
    have d5 : ((g.outs.length : Int) == 0) = true := beq_iff_eq.2 (by omega)
    go_wp2_with fail
    go_ret2
    exact rvalues_bad HB.out (by decide) p1
  have d5 : ((g.outs.length : Int) == 0) = false := beq_eq_false_iff_ne.2 (by omega)
  go_upto_region 6 with fail
  refine opq (fun w' => OwnVals w' w1.heap.size (.slice (some ⟨w1.heap.size, 0, none⟩) 0 0) [] ∧ Past w1 w') ⟨ownVals_new (Nat.le_refl _), (Past.refl _).alloc _⟩ ?_
  rintro w2 ⟨own2, p2⟩
  have OWN2 := Lib.hid own2
  clear own2 d1 d2 d3 d4 d5
  go_wp2_with fail
  go_loopw [4, 5] (fun v i wr => ∃ k : Nat, k ≤ g.ins.length ∧ i = .int .i64 k ∧ Hid (OwnVals wr w1.heap.size v (g.ins.take k)) ∧ Hid (∀ j, j < k → mayV (g.ins.getD j default) ∧ (-128 ≤ (g.ins.getD j default).z ∧ (g.ins.getD j default).z ≤ 127)) ∧ Past w1 wr) (fun _ i _ => g.ins.length - (intOf i).toNat)
  case atStart => exact ⟨0, by omega, rfl, OWN2, Lib.hid (fun j hj => by omega), p2⟩
  case round =>
    clear OWN2 p2
    obtain ⟨k, hk, rfl, own, hall, pr⟩ := hrel
    have br := box_past pr b1 (by omega)
    by_cases h : k < g.ins.length
    · obtain ⟨ib, io, rfl, hib, hic⟩ := I5.out (by omega)
      obtain ⟨y0, y1, y2, y3⟩ := (hic k h).grow hib (p1.trans pr)
      obtain ⟨y, hy⟩ : ∃ y, g.ins.getD k default = y := ⟨_, rfl⟩
      rw [hy] at y0 y1 y2 y3
      have HY := Lib.hid hy
      have i1 : (0 : Int) ≤ (k : Int) := by omega
      have i2 : (k : Int) < (g.ins.length : Int) := by omega
      clear hic hy
      by_cases hm : mayS y.h y.w y.c
      · go_wp2_with fail
        refine (rmay_yes y.h y.w y.c _ hm).mono ?_
        rintro e w3 ⟨rfl, g3⟩
        have HM := Lib.hid hm
        have p3 := Grown.past g3
        have pr3 := pr.trans p3
        have OWN3 := Lib.hid (show OwnVals w3 w1.heap.size u4 (g.ins.take k) from own_past' own.out p3)
        have br3 := box_past pr3 b1 (by omega)
        have hib3 : ib < wr.heap.size := by have := (p1.trans pr).2.2.1; omega
        obtain ⟨y0', y1', y2', y3'⟩ := ValAt.grow (w := wr) (w' := w3) ⟨y0, y1, y2, y3⟩ hib3 p3
        clear y0 y1 y2 y3 br own pr g3 p3 hm
        by_cases hz : -128 ≤ y.z ∧ y.z ≤ 127
        · have RI := Lib.hid (fun (w : World) => rin_any y.z (-128) 127 true w (Lib.hid ⟨fun _ => hz, fun _ => rfl⟩))
          go_wp2_with fail
          refine (RI.out _).mono ?_
          rintro e w4 ⟨rfl, g4⟩
          have p4 := Grown.past g4
          have pr4 := pr3.trans p4
          have OWN4 := Lib.hid (show OwnVals w4 w1.heap.size u4 (g.ins.take k) from own_past' OWN3.out p4)
          have br4 := box_past pr4 b1 (by omega)
          have hib4 : ib < w3.heap.size := by have := pr3.2.2.1; have := p1.2.2.1; omega
          obtain ⟨y0, y1, y2, y3⟩ := ValAt.grow (w := w3) (w' := w4) ⟨y0', y1', y2', y3'⟩ hib4 p4
          have HLT := Lib.hid (World.ownsRow.lt OWN4.out)
          have HZ := Lib.hid hz
          have lk : (g.ins.take k).length = k := by simp; omega
          have LK := Lib.hid lk
          have HT : Hid (g.ins.take (k + 1) = g.ins.take k ++ [y]) := Lib.hid (by
            rw [List.take_succ_eq_append_getElem h]
            congr 1
            rw [← HY.out]; simp [List.getD, h])
          have s4 : w1.heap.size ≤ w4.heap.size := pr4.2.2.1
          have PR4 := Lib.hid pr4
          clear y0' y1' y2' y3' OWN3 br3 pr3 g4 p4 hz RI lk pr4
          go_wp2_with (at_builtin; refine wpList_append_own _ rfl (.tmp 64) (.tmp 70) 32 rfl w1.heap.size 52 i0 _ 4 32 Try.underlying32 I1.out I2.out I3.out I4.out rfl (by decide) _ _ _ rfl (World.ownsRow.alloc OWN4.out _) ⟨w4.heap.size, 0, none⟩ 1 1 (valCells y) rfl rfl (fun j u hu => cells_new' w4 _ 52 j u hu) (val_one y) ?c4 ?c5 ?c6 ?_)
          case c4 => rw [LK.out]; unfold maxLen; omega
          case c5 => rw [LK.out]; omega
          case c6 => simp; omega
          intro v4 w5 hown5 hgrow _
          have pr5 : Past w1 w5 := (PR4.out.alloc _).grownBy hgrow (fun j hj => (HLT.out j hj).1)
          have OWN5 : Hid (OwnVals w5 w1.heap.size v4 (g.ins.take (k + 1))) := Lib.hid (by
            unfold OwnVals
            rw [HT.out, valsCells_snoc]
            simp only [List.length_append, List.length_cons, List.length_nil]
            rw [LK.out]
            exact hown5)
          clear hown5 hgrow OWN4 br4 y0 y1 y2 y3
          go_wp2_with fail
          go_roundw
          case rel => exact ⟨k + 1, by omega, by go_num, OWN5, Lib.hid (fun j hj => by
            by_cases c : j = k
            · subst c; rw [HY.out]; exact ⟨HM.out, HZ.out⟩
            · exact hall.out j (by omega)), pr5⟩
          case measure => simp [intOf]; omega
        · have RI := Lib.hid (fun (w : World) => rin_any y.z (-128) 127 false w (Lib.hid ⟨fun f => by simp at f, fun f => absurd f hz⟩))
          have HB := Lib.hid (begins_bad (g := g) (fun f => hz (by have := f.2.2 k h; rw [HY.out] at this; exact this)))
          clear hz
          go_wp2_with fail
          refine (RI.out _).mono ?_
          rintro e w4 ⟨rfl, g4⟩
          have pr4 := p1.trans (pr3.trans (Grown.past g4))
          clear OWN3 br3 y0' y1' y2' y3' pr3 g4 RI
          go_wp2_with fail
          go_ret2
          exact rvalues_bad HB.out (by decide) pr4
      · have HB := Lib.hid (begins_bad (g := g) (fun f => hm (by have := f.2.1 k h; rw [HY.out] at this; exact this)))
        go_wp2_with fail
        refine (rmay_no y.h y.w y.c _ hm).mono ?_
        rintro e w3 ⟨rfl, g3⟩
        have pr4 := p1.trans (pr.trans (Grown.past g3))
        clear br y0 y1 y2 y3 pr g3 hm own
        go_wp2_with fail
        go_ret2
        exact rvalues_bad HB.out (by decide) pr4
    · obtain rfl : k = g.ins.length := by omega
      have HBE : Hid (beginsE g = 0) := Lib.hid (begins_mk (by omega) (fun j hj => (hall.out j hj).1) (fun j hj => (hall.out j hj).2))
      have OWNI : Hid (OwnVals wr w1.heap.size u4 g.ins) := Lib.hid (by have := own.out; rw [List.take_length] at this; exact this)
      have d6 : decide ((g.ins.length : Int) < (g.ins.length : Int)) = false := by simp
      obtain ⟨w8, hw8⟩ : ∃ w8, w8 = wr := ⟨_, rfl⟩
      subst hw8
      clear own hall
      go_wp2_with fail
      go_loopw [4, 6, 7] (fun v s i wr => ∃ (k : Nat) (l : List ValD), k ≤ g.nodes.length ∧ i = .int .i64 k ∧ s = .int .i64 (sumW (g.nodes.take k)) ∧ sumW (g.nodes.take k) ≤ 100000 * k ∧ Hid (OwnVals wr w1.heap.size v l) ∧ Hid (∀ x ∈ l, ValWf x) ∧ Hid (goS g.nodes g.ins = goS (g.nodes.drop k) l) ∧ l.length = g.ins.length + k ∧ Past w1 wr) (fun _ _ i _ => g.nodes.length - (intOf i).toNat)
      case atStart => exact ⟨0, g.ins, by omega, rfl, by simp [sumW], by simp [sumW], OWNI, IW, Lib.hid (by simp), by omega, pr⟩
      case round =>
        clear OWNI br pr d6
        obtain ⟨k, l, hk, rfl, rfl, hs, own, wl, hgo, hl, pr⟩ := hrel
        have br := box_past pr b1 (by omega)
        have HL := Lib.hid hl
        clear hl
        by_cases h : k < g.nodes.length
        · obtain ⟨nb, no, rfl, hnb, hnc⟩ := N5.out (by omega)
          obtain ⟨vi, vw, vb, hin, hcell⟩ := (hnc k h).grow hnb (p1.trans pr)
          obtain ⟨n, hnk⟩ : ∃ n, g.nodes.getD k default = n := ⟨_, rfl⟩
          rw [hnk] at hin hcell
          have mem : n ∈ g.nodes := by rw [← hnk]; simp [List.getD, h]
          have IN := Lib.hid hin
          obtain ⟨Ai, ci, rfl, f1, f2, _, _, f7⟩ := hin.1
          obtain ⟨Aw, cw, rfl, f3, f4, _, _, _⟩ := hin.2.1
          obtain ⟨Ab, cb, rfl, f5, f6, _, _, _⟩ := hin.2.2
          have x0 := hcell 0 (by omega)
          have x1 := hcell 1 (by omega)
          have x2 := hcell 2 (by omega)
          have x3 := hcell 3 (by omega)
          have x4 := hcell 4 (by omega)
          have x5 := hcell 5 (by omega)
          have x6 := hcell 6 (by omega)
          have x7 := hcell 7 (by omega)
          have x8 := hcell 8 (by omega)
          have x9 := hcell 9 (by omega)
          have x10 := hcell 10 (by omega)
          have x11 := hcell 11 (by omega)
          have x12 := hcell 12 (by omega)
          have x13 := hcell 13 (by omega)
          simp only [nodeCells, List.getElem?_cons_zero, List.getElem?_cons_succ, Nat.add_zero] at x0 x1 x2 x3 x4 x5 x6 x7 x8 x9 x10 x11 x12 x13
          have NK := Lib.hid hnk
          have MEM := Lib.hid mem
          have F7 := Lib.hid f7
          have HCN := HC.out.2 n mem
          have lw : n.ws.length ≤ 100000 := HCN.2
          have li : n.ins.length ≤ 1000 := HCN.1
          have i1 : (0 : Int) ≤ (k : Int) := by omega
          have i2 : (k : Int) < (g.nodes.length : Int) := by omega
          obtain ⟨P8, hP⟩ : ∃ P8, wr.heap.size = P8 := ⟨_, rfl⟩
          have q8 : w1.heap.size ≤ P8 := by rw [← hP]; exact pr.2.2.1
          have hso := own_slice' own.out
          obtain ⟨Av, cv, rfl, hv1, hv2⟩ := hso
          have OWNR := Lib.hid own.out
          have GO : Hid (goS g.nodes g.ins = goS (n :: g.nodes.drop (k + 1)) l) := Lib.hid (by rw [hgo.out, drop_cons _ _ h, NK.out])
          have SB := Lib.hid (sumW_take g.nodes k h)
          have l100 : l.length ≤ 1000 := by have := HL.out; omega
          clear hin hnk mem hcell hnc f1 f2 f3 f4 f5 f6 f7 HCN own hgo
          go_upto_region 20 with fail
          refine opq (fun w' => (∀ o : Nat, w'.cell? ⟨P8, o, none⟩ = (#[.int .i64 n.op, (.slice Ai n.ins.length ci), .int .i64 n.k, .int .i64 n.stride, .int .i64 n.pad, .int .i64 n.out, .int .i64 n.mul, .int .i64 n.shift, .int .i64 n.zero, .int .i64 n.th, .int .i64 n.tw, .int .i64 n.tc, (.slice Aw n.ws.length cw), (.slice Ab n.bs.length cb)] : Array Value)[o]?) ∧ OwnVals w' (P8 + 1) (.slice (some ⟨P8 + 1, 0, none⟩) 0 0) [] ∧ Past wr w' ∧ P8 + 1 ≤ w'.heap.size) ?_ ?_
          · subst hP
            refine ⟨?_, ?_, ?_, ?_⟩
            · (exact kKeep)
            · have := ownVals_new (w := (wr.alloc (.cells #[.int .i64 n.op, (.slice Ai n.ins.length ci), .int .i64 n.k, .int .i64 n.stride, .int .i64 n.pad, .int .i64 n.out, .int .i64 n.mul, .int .i64 n.shift, .int .i64 n.zero, .int .i64 n.th, .int .i64 n.tw, .int .i64 n.tc, (.slice Aw n.ws.length cw), (.slice Ab n.bs.length cb)] 50))) (base := wr.heap.size + 1) (by simp)
              simpa using this
            · (exact kKeep)
            · (exact kKeep)
          rintro w4 ⟨b4, own4, p4, s4⟩
          have OWN4 := Lib.hid own4
          have HWO := Lib.hid hP
          clear x0 x1 x2 x3 x4 x5 x6 x7 x8 x9 x10 x11 x12 x13 own4 hP br
          have br4 := box_past (pr.trans p4) b1 (by omega)
          go_wp2_with fail
          obtain ⟨wo, hwo⟩ : ∃ wo, wo = wr := ⟨_, rfl⟩
          subst hwo
          go_loopw [9, 10] (fun v i wq => ∃ j : Nat, j ≤ n.ins.length ∧ i = .int .i64 j ∧ Hid (OwnVals wq (P8 + 1) v (namedL l (n.ins.take j))) ∧ Hid (∀ t, t < j → 0 ≤ n.ins.getD t 0 ∧ n.ins.getD t 0 < (l.length : Int)) ∧ (∀ o : Nat, wq.cell? ⟨P8, o, none⟩ = (#[.int .i64 n.op, (.slice Ai n.ins.length ci), .int .i64 n.k, .int .i64 n.stride, .int .i64 n.pad, .int .i64 n.out, .int .i64 n.mul, .int .i64 n.shift, .int .i64 n.zero, .int .i64 n.th, .int .i64 n.tw, .int .i64 n.tc, (.slice Aw n.ws.length cw), (.slice Ab n.bs.length cb)] : Array Value)[o]?) ∧ Past wo wq ∧ P8 + 1 ≤ wq.heap.size) (fun _ i _ => n.ins.length - (intOf i).toNat)
          case atStart => exact ⟨0, by omega, rfl, OWN4, Lib.hid (fun t ht => by omega), b4, p4, s4⟩
          case round =>
            clear OWN4 b4 p4 s4 br4
            obtain ⟨j, hj, rfl, own9, hin9, b8, p9, s9⟩ := hrel
            have br9 := box_past (pr.trans p9) b1 (by omega)
            by_cases hjl : j < n.ins.length
            · obtain ⟨eb, eo, rfl, heb, hec⟩ := F7.out (by omega)
              have c0 := (p9.cell (p := ⟨eb, eo + j, none⟩) heb).trans (hec j hjl)
              obtain ⟨x, hx⟩ : ∃ x, n.ins.getD j 0 = x := ⟨_, rfl⟩
              rw [hx] at c0
              have HX := Lib.hid hx
              have j1 : (0 : Int) ≤ (j : Int) := by omega
              have j2 : (j : Int) < (n.ins.length : Int) := by omega
              have w5 : IntKind.i64.wrap ((l.length : Int) - 1) = (l.length : Int) - 1 := IntWalk.i64_in _ (by omega)
              have hebq : eb < wr.heap.size := by have := p9.2.2.1; omega
              clear hx hec
              by_cases hx : 0 ≤ x ∧ x ≤ (l.length : Int) - 1
              · have RI := Lib.hid (fun (w : World) => rin_any x 0 ((l.length : Int) - 1) true w (Lib.hid ⟨fun _ => hx, fun _ => rfl⟩))
                go_wp2_with fail
                refine (RI.out _).mono ?_
                rintro e wz ⟨rfl, g9⟩
                have pz := Grown.past g9
                have p10 := p9.trans pz
                have bz := box_past pz b8 (by omega)
                have c0z := (pz.cell (p := ⟨eb, eo + j, none⟩) hebq).trans c0
                have ownz := Lib.hid (show OwnVals wz (P8 + 1) u9 (namedL l (n.ins.take j)) from own_past' own9.out pz)
                have LV := vals_of_own (own_past' OWNR.out p10) wl.out
                obtain ⟨m, rfl⟩ : ∃ m : Nat, x = m := ⟨x.toNat, by omega⟩
                have m2 : m < l.length := by omega
                obtain ⟨_, _, el, _, _, _, _, lv5⟩ := LV
                obtain ⟨b', off', e2, hbb', hc'⟩ := lv5 (by omega)
                subst e2
                simp only [Value.slice.injEq, true_and] at el
                obtain ⟨rfl, rfl⟩ := el
                obtain ⟨y0, y1, y2, y3⟩ := hc' m m2
                obtain ⟨y, hy⟩ : ∃ y, l.getD m default = y := ⟨_, rfl⟩
                rw [hy] at y0 y1 y2 y3
                have HY := Lib.hid hy
                have lk : (namedL l (n.ins.take j)).length = j := by simp [namedL]; omega
                have LK := Lib.hid lk
                have HLT := Lib.hid (World.ownsRow.lt ownz.out)
                have P10 := Lib.hid p10
                have sz : P8 + 1 ≤ wz.heap.size := by have := pz.2.2.1; omega
                have k1 : (0 : Int) ≤ (m : Int) := by omega
                have k2 : (m : Int) < (l.length : Int) := by omega
                have HM := Lib.hid hx
                clear c0 hc' lv5 hy lk p10 own9 g9 pz br9 p9 b8 s9 RI hx
                go_wp2_with (at_builtin; refine wpList_append_own _ rfl (.tmp 102) (.tmp 111) 32 rfl (P8 + 1) 52 i0 _ 4 32 Try.underlying32 I1.out I2.out I3.out I4.out rfl (by decide) _ _ _ rfl (World.ownsRow.alloc ownz.out _) ⟨wz.heap.size, 0, none⟩ 1 1 (valCells y) rfl rfl (fun j u hu => cells_new' wz _ 52 j u hu) (val_one y) ?c4 ?c5 ?c6 ?_)
                case c4 => rw [LK.out]; unfold maxLen; omega
                case c5 => rw [LK.out]; omega
                case c6 => simp; omega
                intro v4 w5' hown5 hgrow _
                have p11 : Past wo w5' := (P10.out.alloc _).grownBy hgrow (fun j hj => by have := (HLT.out j hj).1; have := HWO.out; omega)
                have b11 := box_grownBy hgrow (box_old (x := .cells (valCells y).toArray 52) bz (by omega)) (by simp; omega) (fun e => by have := (HLT.out _ e.symm).1; omega)
                have OWN5 : Hid (OwnVals w5' (P8 + 1) v4 (namedL l (n.ins.take (j + 1)))) := Lib.hid (by
                  unfold OwnVals
                  rw [namedL_take l n.ins j hjl, valsCells_snoc, HX.out]
                  simp only [Int.toNat_natCast, HY.out, List.length_append, List.length_cons, List.length_nil]
                  rw [LK.out]
                  rw [LK.out] at hown5
                  exact hown5)
                have s11 : P8 + 1 ≤ w5'.heap.size := by have := hgrow.size; simp at this; omega
                clear hown5 hgrow bz c0z ownz y0 y1 y2 y3 P10 HLT
                go_wp2_with fail
                go_roundw
                case rel => exact ⟨j + 1, by omega, by go_num, OWN5, Lib.hid (fun t ht => by
                  by_cases c : t = j
                  · subst c; rw [HX.out]; exact ⟨by omega, by omega⟩
                  · exact hin9.out t (by omega)), b11, p11, s11⟩
                case measure => simp [intOf]; omega
              · have RI := Lib.hid (fun (w : World) => rin_any x 0 ((l.length : Int) - 1) false w (Lib.hid ⟨fun f => by simp at f, fun f => absurd f hx⟩))
                have HB : Hid (valuesE g ≠ 0) := Lib.hid (values_goS (by
                  rw [GO.out, goS_no (fun f => hx (by have := f j hjl; rw [HX.out] at this; omega))]
                  decide))
                clear hx
                go_wp2_with fail
                refine (RI.out _).mono ?_
                rintro e wz ⟨rfl, g9⟩
                have pz := p1.trans (pr.trans (p9.trans (Grown.past g9)))
                clear own9 b8 p9 s9 c0 RI g9 br9
                go_wp2_with fail
                go_ret2
                exact rvalues_bad HB.out (by decide) pz
            · obtain rfl : j = n.ins.length := by omega
              have hd : namedP l n.ins := hin9.out
              have ownl : OwnVals wr (P8 + 1) u9 (namedL l n.ins) := by have := own9.out; rw [List.take_length] at this; exact this
              have WFL : ∀ x ∈ namedL l n.ins, ValWf x := fun x hx => by
                simp only [namedL, List.mem_map] at hx
                obtain ⟨i, hi, rfl⟩ := hx
                obtain ⟨t, ht, rfl⟩ := List.getElem_of_mem hi
                have := hd t ht
                simp only [List.getD, ht, List.getElem?_eq_getElem, Option.getD_some] at this
                have hl : n.ins[t].toNat < l.length := by omega
                have : l.getD n.ins[t].toNat default = l[n.ins[t].toNat] := by simp [List.getD, hl]
                rw [this]
                exact wl.out _ (List.getElem_mem _)
              have LVV := Lib.hid (vals_of_own ownl WFL)
              have NDP := Lib.hid hd
              have VW : ValWf (valueV n (namedL l n.ins)) := valueV_wf (NW.out n MEM.out).2.2.2.2.2.2.2.1
              have VA := fun w (p : Past wr w) => rvalue_any n _ _ _ u9 (namedL l n.ins) w (IN.out.grow (p9.trans p)) (LVV.out.grow p)
              obtain ⟨x, hx⟩ : ∃ x, valueV n (namedL l n.ins) = x := ⟨_, rfl⟩
              obtain ⟨qv, hqv⟩ : ∃ x, valueE n (namedL l n.ins) = x := ⟨_, rfl⟩
              unfold ValuePost at VA
              rw [hx, hqv] at VA
              rw [hx] at VW
              have VA := Lib.hid VA
              have VW := Lib.hid VW
              have HX := Lib.hid hx
              have HQV := Lib.hid hqv
              obtain ⟨A9, c9, rfl, _⟩ := own_slice' ownl
              have d7 : decide ((n.ins.length : Int) < (n.ins.length : Int)) = false := by simp
              clear hx hqv hd ownl WFL own9 hin9
              go_wp2_with (refine wpList_load_box rfl 50 (.tmp 8) rfl P8 #[.int .i64 n.op, (.slice Ai n.ins.length ci), .int .i64 n.k, .int .i64 n.stride, .int .i64 n.pad, .int .i64 n.out, .int .i64 n.mul, .int .i64 n.shift, .int .i64 n.zero, .int .i64 n.th, .int .i64 n.tw, .int .i64 n.tc, (.slice Aw n.ws.length cw), (.slice Ab n.bs.length cb)] rfl b8 Try.underlying50 rfl N14 ?_)
              refine (VA.out _ (Past.refl _)).mono ?_
              rintro e w11 ⟨rfl, g11⟩
              have pz := Grown.past g11
              have p12 := p9.trans pz
              have b12 := box_past pz b8 (by omega)
              have s12 : P8 + 1 ≤ w11.heap.size := by have := pz.2.2.1; omega
              have ownO := Lib.hid (show OwnVals w11 w1.heap.size (.slice Av l.length cv) l from own_past' OWNR.out p12)
              clear g11 pz p9 b8 s9 br9 VA LVV
              obtain ⟨P11, hP11⟩ : ∃ P11, w11.heap.size = P11 := ⟨_, rfl⟩
              have P11W := Lib.hid hP11
              go_upto_region 27 with fail
              refine opq (fun w' => (∀ o : Nat, w'.cell? ⟨P8, o, none⟩ = (#[.int .i64 n.op, (.slice Ai n.ins.length ci), .int .i64 n.k, .int .i64 n.stride, .int .i64 n.pad, .int .i64 n.out, .int .i64 n.mul, .int .i64 n.shift, .int .i64 n.zero, .int .i64 n.th, .int .i64 n.tw, .int .i64 n.tc, (.slice Aw n.ws.length cw), (.slice Ab n.bs.length cb)] : Array Value)[o]?) ∧ (∀ o : Nat, w'.cell? ⟨P11, o, none⟩ = (#[.int .i64 x.h, .int .i64 x.w, .int .i64 x.c, .int .i64 x.z] : Array Value)[o]?) ∧ Past w11 w' ∧ P11 + 1 ≤ w'.heap.size) (by subst hP11; (exact kKeep)) ?_
              rintro w13 ⟨b13, v13, p13, s13⟩
              have ownO := Lib.hid (show OwnVals w13 w1.heap.size (.slice Av l.length cv) l from own_past' ownO.out p13)
              have p14 := p12.trans p13
              clear b12 p12 hP11
              by_cases q0 : qv = 0
              · have Q0 := Lib.hid q0
                have d8 : (qv != 0) = false := by simp [q0]
                have HLT := Lib.hid (World.ownsRow.lt ownO.out)
                have P14 := Lib.hid (pr.trans p14)
                have s14 : w1.heap.size ≤ w13.heap.size := (pr.trans p14).2.2.1
                have sw : sumW (g.nodes.take (k + 1)) = sumW (g.nodes.take k) + n.ws.length := by rw [SB.out, NK.out]
                have w6 : IntKind.i64.wrap ((sumW (g.nodes.take k) : Int) + (n.ws.length : Int)) = ((sumW (g.nodes.take (k + 1)) : Nat) : Int) := by
                  rw [sw, Int.natCast_add]
                  exact IntWalk.i64_in _ (by omega)
                have s8 : P8 ≤ P11 := by have := P11W.out; omega
                have s8' : P8 + 1 ≤ P11 := by have := P11W.out; omega
                clear p14 q0 pr p13
                go_wp2_with (at_builtin; refine wpList_append_own _ rfl (.tmp 122) (.tmp 124) 32 rfl w1.heap.size 52 i0 _ 4 32 Try.underlying32 I1.out I2.out I3.out I4.out rfl (by decide) _ _ _ rfl (World.ownsRow.alloc ownO.out _) ⟨w13.heap.size, 0, none⟩ 1 1 (valCells x) rfl rfl (fun j u hu => cells_new' w13 _ 52 j u hu) (val_one x) ?c4 ?c5 ?c6 ?_)
                case c4 => unfold maxLen; omega
                case c5 => omega
                case c6 => simp; omega
                intro v4 w14 hown14 hgrow _
                have p15 : Past w1 w14 := (P14.out.alloc _).grownBy hgrow (fun j hj => (HLT.out j hj).1)
                have hne : some P8 ≠ (Value.slice Av l.length cv).ownBlock := fun e => by
                  have h1 := World.ownsRow.lt OWNR.out _ e.symm
                  have h2 := HWO.out
                  omega
                have b15 := box_grownBy hgrow (box_old (x := .cells (valCells x).toArray 52) b13 (by omega)) (by simp; omega) hne
                have OWN14 : Hid (OwnVals w14 w1.heap.size v4 (l ++ [x])) := Lib.hid (by
                  unfold OwnVals
                  rw [valsCells_snoc]
                  simp only [List.length_append, List.length_cons, List.length_nil]
                  exact hown14)
                clear hown14 hgrow b13 v13 ownO P14 HLT hne
                go_wp2_with fail
                go_roundw
                case rel => exact ⟨k + 1, l ++ [x], by omega, by go_num, by go_num, by omega, OWN14, Lib.hid (fun z hz => by
                  rcases List.mem_append.1 hz with hz | hz
                  · exact wl.out z hz
                  · simp only [List.mem_cons, List.not_mem_nil, or_false] at hz; subst hz; exact VW.out), Lib.hid (by
                  rw [GO.out, goS_ok NDP.out (by rw [HQV.out]; exact Q0.out), HX.out]), by have := HL.out; simp; omega, p15⟩
                case measure => simp [intOf]; omega
              · have d8 : (qv != 0) = true := by simpa using q0
                have Q0 := Lib.hid q0
                have HB : Hid (valuesE g ≠ 0) := Lib.hid (values_goS (by
                  rw [GO.out, goS_err NDP.out (by rw [HQV.out]; exact Q0.out)]
                  show valueE n (namedL l n.ins) ≠ 0
                  rw [HQV.out]; exact Q0.out))
                have pz := p1.trans (pr.trans p14)
                clear q0 b13 v13 ownO p14 p13
                go_wp2_with fail
                go_ret2
                exact rvalues_bad HB.out Q0.out pz
        · obtain rfl : k = g.nodes.length := by omega
          have hgo' := hgo.out
          rw [List.drop_length] at hgo'
          rw [List.take_length] at hs
          have GO : Hid (goS g.nodes g.ins = (0, l)) := Lib.hid (by rw [hgo']; rfl)
          have TK : List.take g.nodes.length g.nodes = g.nodes := List.take_length
          have d6 : decide ((g.nodes.length : Int) < (g.nodes.length : Int)) = false := by simp
          rw [TK]
          clear hgo hgo' TK
          obtain ⟨Av, cv, rfl, hv1, hv2⟩ := own_slice' own.out
          have l100 : l.length ≤ 1000 := by have := HL.out; omega
          by_cases hw : 4096 < sumW g.nodes
          · have d7 : decide ((4096 : Int) < (sumW g.nodes : Int)) = true := by simp; omega
            have HB : Hid (valuesE g ≠ 0) := Lib.hid (by
              intro f
              have := (values_ok f).2.2.1
              omega)
            have pz := p1.trans pr
            clear hw
            go_wp2_with fail
            go_ret2
            exact rvalues_bad HB.out (by decide) pz
          · have d7 : decide ((4096 : Int) < (sumW g.nodes : Int)) = false := by simp; omega
            have HW := Lib.hid hw
            clear hw
            obtain ⟨wo, hwo⟩ : ∃ wo, wo = wr := ⟨_, rfl⟩
            subst hwo
            have w5 : IntKind.i64.wrap ((l.length : Int) - 1) = (l.length : Int) - 1 := IntWalk.i64_in _ (by omega)
            go_wp2_with fail
            go_loopw [13] (fun i wq => ∃ j : Nat, j ≤ g.outs.length ∧ i = .int .i64 j ∧ Hid (∀ t, t < j → 0 ≤ g.outs.getD t 0 ∧ g.outs.getD t 0 < (l.length : Int)) ∧ Past wo wq) (fun i _ => g.outs.length - (intOf i).toNat)
            case atStart => exact ⟨0, by omega, rfl, Lib.hid (fun t ht => by omega), Past.refl _⟩
            case round =>
              obtain ⟨j, hj, rfl, hin9, p9⟩ := hrel
              have p10 := pr.trans p9
              have b9 := box_past p10 b1 (by omega)
              by_cases hjl : j < g.outs.length
              · obtain ⟨eb, eo, rfl, heb, hec⟩ := O5.out (by omega)
                have c0 := ((p1.trans p10).cell (p := ⟨eb, eo + j, none⟩) heb).trans (hec j hjl)
                obtain ⟨x, hx⟩ : ∃ x, g.outs.getD j 0 = x := ⟨_, rfl⟩
                rw [hx] at c0
                have HX := Lib.hid hx
                have j1 : (0 : Int) ≤ (j : Int) := by omega
                have j2 : (j : Int) < (g.outs.length : Int) := by omega
                clear hx hec
                by_cases hx : 0 ≤ x ∧ x ≤ (l.length : Int) - 1
                · have RI := Lib.hid (fun (w : World) => rin_any x 0 ((l.length : Int) - 1) true w (Lib.hid ⟨fun _ => hx, fun _ => rfl⟩))
                  go_wp2_with fail
                  refine (RI.out _).mono ?_
                  rintro e wz ⟨rfl, g9⟩
                  have pz := p9.trans (Grown.past g9)
                  clear c0 b9 g9 p9 p10 RI br
                  go_wp2_with fail
                  go_roundw
                  case rel => exact ⟨j + 1, by omega, by go_num, Lib.hid (fun t ht => by
                    by_cases c : t = j
                    · subst c; rw [HX.out]; exact ⟨by omega, by omega⟩
                    · exact hin9.out t (by omega)), pz⟩
                  case measure => simp [intOf]; omega
                · have RI := Lib.hid (fun (w : World) => rin_any x 0 ((l.length : Int) - 1) false w (Lib.hid ⟨fun f => by simp at f, fun f => absurd f hx⟩))
                  have HB : Hid (valuesE g ≠ 0) := Lib.hid (by
                    intro f
                    have h1 := (values_ok f).2.2.2
                    have h2 : valuesL g = l := by unfold valuesL; rw [if_pos f, GO.out]
                    rw [h2] at h1
                    have := h1 j hjl
                    rw [HX.out] at this
                    omega)
                  clear hx
                  go_wp2_with fail
                  refine (RI.out _).mono ?_
                  rintro e wz ⟨rfl, g9⟩
                  have pz := p1.trans (p10.trans (Grown.past g9))
                  clear c0 b9 g9 p9 p10 RI br
                  go_wp2_with fail
                  go_ret2
                  exact rvalues_bad HB.out (by decide) pz
              · obtain rfl : j = g.outs.length := by omega
                have VM := Lib.hid (values_mk HBE.out GO.out (by have := HW.out; omega) hin9.out)
                have d8 : decide ((g.outs.length : Int) < (g.outs.length : Int)) = false := by simp
                have OV := Lib.hid (vals_of_own (own_past' own.out p9) wl.out)
                have pz := p1.trans p10
                clear p9 p10 br
                go_wp2_with fail
                go_ret2
                exact ⟨_, _, rfl, ⟨fun _ => VM.out.1, fun _ => rfl⟩, fun _ => by rw [VM.out.2]; exact OV.out, pz⟩
end Go.Proofs.Ytgbedoffgahhaaa
