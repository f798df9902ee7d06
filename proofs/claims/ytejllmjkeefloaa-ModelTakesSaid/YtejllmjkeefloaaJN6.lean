/- Put. -/
import Derived.Deep.DeepCutAuto
import Derived.Test.YtejllmjkeefloaaJP2
import Derived.Test.YtejllmjkeefloaaJN3
namespace Go.Proofs.Ytejllmjkeefloaa
open Go.ChangeShapes Go.WideShapes Go.ChangeAt Go.RowKit
set_option maxRecDepth 20000
set_option linter.unusedVariables false

theorem flat_take {α : Type} [Inhabited α] (f : α → List Int) (xs : List α) (k : Nat) (h : k < xs.length) : (xs.take (k + 1)).flatMap f = (xs.take k).flatMap f ++ f (xs.getD k default) := by
  rw [List.take_succ_eq_append_getElem h, List.flatMap_append]
  simp [List.getD, h]
theorem flat_le {α : Type} (f : α → List Int) (xs : List α) (k : Nat) : ((xs.take k).flatMap f).length ≤ (xs.flatMap f).length := by
  conv => rhs; rw [← List.take_append_drop k xs, List.flatMap_append]
  simp
def PutPost (g : GraphD) (W : World) (e : Ending) (w' : World) : Prop :=
  (valuesE g = 0 ∧ ∃ v, e = .returned (.tuple #[v, .int .i64 0]) ∧ OwnB w' W.heap.size v (graphB g) ∧ Past W w') ∨
  (valuesE g ≠ 0 ∧ e = .returned (.tuple #[.slice none 0 0, .int .i64 (valuesE g)]) ∧ Past W w')
theorem put_err {g : GraphD} {W w' : World} {q : Int} (h : valuesE g = q) (h0 : q ≠ 0) (p : Past W w') : PutPost g W (.returned (.tuple #[.slice none 0 0, .int .i64 q])) w' :=
  .inr ⟨by rw [h]; exact h0, by rw [h], p⟩
theorem put_ok {g : GraphD} {W w' : World} {v : Value} (h : valuesE g = 0) (o : OwnB w' W.heap.size v (graphB g)) (p : Past W w') : PutPost g W (.returned (.tuple #[v, .int .i64 0])) w' :=
  .inl ⟨h, v, rfl, o, p⟩
set_option maxHeartbeats 8000000 in
theorem put_any (g : GraphD) (gv : Value) (W : World) (hg : IsGraph W gv g) (hc : Cut g) (hz : (graphB g).length ≤ 900000000) : Calls Try.prog 20 #[gv] W (PutPost g W) := by
  have HG := Lib.hid hg
  obtain ⟨iv, nv, ov, rfl, hi, hn, ho⟩ := hg
  have HO := Lib.hid ho
  obtain ⟨A1, c1, rfl, i1, i2, _, iw, i5⟩ := hi
  obtain ⟨A2, c2, rfl, n1, n2, _, nw, n5⟩ := hn
  obtain ⟨A3, c3, rfl, o1, o2, _, _, _⟩ := ho
  have m1 : g.ins.length ≤ 9223372036854775807 := by unfold maxLen at i2; omega
  have m2 : g.nodes.length ≤ 9223372036854775807 := by unfold maxLen at n2; omega
  have l1 : 4 * g.ins.length ≤ 900000000 := by rw [graphB_len] at hz; omega
  have l2 : g.nodes.length ≤ 900000000 := by
    have : ∀ ns : List NodeD, ns.length ≤ nodesLen ns := by
      intro ns
      induction ns with
      | nil => simp [nodesLen]
      | cons x xs ih => simp only [nodesLen, List.map_cons, List.sum_cons, List.length_cons] at ih ⊢; omega
    have := this g.nodes
    rw [graphB_len] at hz; omega
  have HZ := Lib.hid hz
  have I5 := Lib.hid i5
  have IW := Lib.hid iw
  have N5 := Lib.hid n5
  have NW := Lib.hid nw
  have CK := Lib.hid (fun w (p : Past W w) => check_any g _ w (HG.out.grow p) hc)
  clear i1 i2 n1 n2 o1 o2 i5 iw n5 nw hc hz
  go_enter Try.func20, Try.ntmps20
  go_upto_region 1 with fail
  obtain ⟨P, hP⟩ : ∃ P, W.heap.size = P := ⟨_, rfl⟩
  refine opq (fun w' => (∀ o : Nat, w'.cell? ⟨P, o, none⟩ = (#[.slice A1 g.ins.length c1, .slice A2 g.nodes.length c2, .slice A3 g.outs.length c3] : Array Value)[o]?) ∧ Past W w' ∧ P + 1 ≤ w'.heap.size) (by subst hP; exact ⟨box_new rfl, by (exact kKeep), by (exact kKeep)⟩) ?_
  rintro w0 ⟨b0, p0, s0⟩
  try rw [hP]
  go_wp2_with fail
  refine (CK.out _ p0).mono ?_
  rintro e w1 ⟨rfl, q1⟩
  obtain ⟨q, hq⟩ : ∃ q, valuesE g = q := ⟨_, rfl⟩
  rw [hq]
  have b1 := box_past q1 b0 (by omega)
  have p1 := p0.trans q1
  have s1 : P + 1 ≤ w1.heap.size := by have := q1.2.2.1; omega
  have HQ := Lib.hid hq
  clear b0 p0 s0 q1 hq CK
  cases e0 : (q == 0) with
  | false =>
    have e1 : (q != 0) = true := by simp [bne, e0]
    have q0 : q ≠ 0 := by simpa using e0
    have Q0 := Lib.hid q0
    clear q0
    go_wp2_with fail
    go_ret2
    exact put_err HQ.out Q0.out p1
  | true =>
    have e1 : (q != 0) = false := by simp [bne, e0]
    have q0 : q = 0 := by simpa using e0
    subst q0
    clear e0
    have nb : NoRow w1 P P := noRow_box b1 (.slice A1 g.ins.length c1) (by simp) (by simp)
    have NB := Lib.hid nb
    have C0 := Lib.hid (lay_int P 1 (.slice none 0 0) (.slice (some ⟨w1.heap.size, 0, none⟩) 1 1) [] [(g.ins.length : Int)] (w1.alloc (.cells #[.int .i64 (g.ins.length : Int)] 3)) (by omega) (OwnB.nil _ _)
      (nums_new .i64 w1 3 [(g.ins.length : Int)] (by simp) (by simp [maxLen]) (by simp; exact len_wf _ (by omega))) (fun _ => apart0 _ _ _ _) (by simp; omega) (by simp))
    go_wp2_with fail
    refine C0.out.mono ?_
    rintro e w2 ⟨v2, rfl, o2, k2⟩
    have k2 := ((Lays.refl P w1).alloc (.cells #[.int .i64 (g.ins.length : Int)] 3)).trans k2
    have g2 : Lays P W w2 := (Lays.of_past p1).trans k2
    have b2 := box_lays b1 NB.out k2
    have s2 : P + 1 ≤ w2.heap.size := by have := k2.2.2.1; omega
    have o2 := Lib.hid o2
    have g2 := Lib.hid g2
    clear C0 k2 b1 p1 s1 nb NB e1
    go_wp2_with fail
    go_loopw [5, 23] (fun v i wr => ∃ k : Nat, k ≤ g.ins.length ∧ i = .int .i64 k ∧ Hid (OwnB wr P v (numsB 1 [(g.ins.length : Int)] ++ (g.ins.take k).flatMap valB)) ∧ Hid (Lays P W wr) ∧ (∀ o : Nat, wr.cell? ⟨P, o, none⟩ = (#[.slice A1 g.ins.length c1, .slice A2 g.nodes.length c2, .slice A3 g.outs.length c3] : Array Value)[o]?) ∧ P + 1 ≤ wr.heap.size) (fun _ i _ => g.ins.length - (intOf i).toNat)
    case atStart => exact ⟨0, by omega, rfl, Lib.hid (by simpa using o2.out), g2, b2, s2⟩
    case round =>
      clear b2 o2 g2 s2
      obtain ⟨k, hk, rfl, own, gg, b3, s3⟩ := hrel
      by_cases h : k < g.ins.length
      · have p3 : Past W wr := (Past.refl W).trans (by have := gg.out; rw [← hP] at this; exact Lays.past (Past.refl W) this)
        obtain ⟨nb, no, rfl, hnb, hnc⟩ := I5.out (by omega)
        obtain ⟨x0, x1, x2, x3⟩ := (hnc k h).grow hnb p3
        obtain ⟨x, hxk⟩ : ∃ x, g.ins.getD k default = x := ⟨_, rfl⟩
        rw [hxk] at x0 x1 x2 x3
        have wx : ValWf x := IW.out x (by rw [← hxk]; simp [List.getD, h])
        have hnext := flat_take valB g.ins k h
        rw [hxk] at hnext
        have HNX := Lib.hid hnext
        have WX := Lib.hid wx
        have hlen : ((g.ins.take k).flatMap valB).length ≤ 900000000 := by
          have := flat_le valB g.ins k
          have h2 := HZ.out
          simp only [graphB, List.length_append] at h2
          omega
        have HLEN := Lib.hid hlen
        have n1 : P ≠ wr.heap.size := by omega
        have n2 : P < wr.heap.size := by omega
        obtain ⟨P8, hP8⟩ : ∃ P8, wr.heap.size = P8 := ⟨_, rfl⟩
        clear hxk wx hnext hlen hnc
        go_upto_region 8 with fail
        refine opq (fun w' => ((∀ o : Nat, w'.cell? ⟨P, o, none⟩ = (#[.slice (some ⟨nb, no, none⟩) g.ins.length c1, .slice A2 g.nodes.length c2, .slice A3 g.outs.length c3] : Array Value)[o]?) ∧ (∀ o : Nat, w'.cell? ⟨P8, o, none⟩ = (#[.int .i64 x.h, .int .i64 x.w, .int .i64 x.c, .int .i64 x.z] : Array Value)[o]?) ∧ Past wr w' ∧ P8 + 1 ≤ w'.heap.size) ∧ OwnB w' P u5 (numsB 1 [(g.ins.length : Int)] ++ (g.ins.take k).flatMap valB)) ⟨by
          subst hP8
          (exact kKeep), own.out.alloc _⟩ ?_
        rintro w4 ⟨⟨b4, y4, p4, s4⟩, o4⟩
        have gg4 := Lib.hid (gg.out.trans (Lays.of_past p4))
        have C1 := Lib.hid (lay_int P 1 u5 (.slice (some ⟨w4.heap.size, 0, none⟩) 4 4) _ [x.h, x.w, x.c, x.z] (w4.alloc (.cells #[.int .i64 x.h, .int .i64 x.w, .int .i64 x.c, .int .i64 x.z] 3)) (by omega) (o4.alloc _)
          (nums_new .i64 w4 3 [x.h, x.w, x.c, x.z] (by simp) (by simp [maxLen]) (by
            intro y hy
            simp only [List.mem_cons, List.not_mem_nil, or_false] at hy
            rcases hy with rfl | rfl | rfl | rfl
            · exact WX.out.1
            · exact WX.out.2.1
            · exact WX.out.2.2.1
            · exact WX.out.2.2.2)) (fun _ => apart0 _ _ _ _) (by simp; omega) (by have := HLEN.out; simp only [List.length_append, numsB_len, List.length_cons, List.length_nil]; omega))
        clear own b3 s3 gg p3 x0 x1 x2 x3 hP8 n1 n2 p4 o4
        go_wp2_with fail
        refine C1.out.mono ?_
        rintro e w5 ⟨v5, rfl, o5, k5⟩
        have k5 := ((Lays.refl P w4).alloc (.cells #[.int .i64 x.h, .int .i64 x.w, .int .i64 x.c, .int .i64 x.z] 3)).trans k5
        have g5 := Lib.hid (gg4.out.trans k5)
        have b5 := box_lays b4 (noRow_box b4 (.slice (some ⟨nb, no, none⟩) g.ins.length c1) (by simp) (by simp)) k5
        have s5 : P + 1 ≤ w5.heap.size := by have := k5.2.2.1; have := cell_lt ((b4 0).trans rfl); omega
        have o5 := Lib.hid (show OwnB w5 P v5 (numsB 1 [(g.ins.length : Int)] ++ (g.ins.take (k + 1)).flatMap valB) by
          rw [HNX.out, ← List.append_assoc]
          exact o5)
        clear C1 k5 b4 y4 gg4 s4
        go_wp2_with fail
        go_roundw
        case rel => exact ⟨k + 1, by omega, by go_num, o5, g5, b5, s5⟩
        case measure => simp [intOf]; omega
      · have e : g.ins.take k = g.ins := List.take_of_length_le (by omega)
        rw [e] at own
        clear e I5 IW
        have nb : NoRow wr P P := noRow_box b3 (.slice A1 g.ins.length c1) (by simp) (by simp)
        have NB := Lib.hid nb
        have hl0 : (g.ins.flatMap valB).length ≤ 900000000 := by
          have h2 := HZ.out
          simp only [graphB, List.length_append] at h2
          omega
        have C0 := Lib.hid (lay_int P 1 u5 (.slice (some ⟨wr.heap.size, 0, none⟩) 1 1) _ [(g.nodes.length : Int)] (wr.alloc (.cells #[.int .i64 (g.nodes.length : Int)] 3)) (by omega) (own.out.alloc _)
          (nums_new .i64 wr 3 [(g.nodes.length : Int)] (by simp) (by simp [maxLen]) (by simp; exact len_wf _ (by omega))) (fun _ => apart0 _ _ _ _) (by simp; omega) (by simp only [List.length_append, numsB_len, List.length_cons, List.length_nil]; omega))
        clear own hl0 nb
        go_wp2_with fail
        refine C0.out.mono ?_
        rintro e w2 ⟨v2, rfl, o2, k2⟩
        have k2 := ((Lays.refl P wr).alloc (.cells #[.int .i64 (g.nodes.length : Int)] 3)).trans k2
        have g2 := Lib.hid (gg.out.trans k2)
        have b2 := box_lays b3 NB.out k2
        have s2 : P + 1 ≤ w2.heap.size := by have := k2.2.2.1; omega
        have o2 := Lib.hid o2
        clear C0 k2 b3 s3 gg NB
        go_wp2_with fail
        go_loopw [5, 51] (fun v i wr => ∃ k : Nat, k ≤ g.nodes.length ∧ i = .int .i64 k ∧ Hid (OwnB wr P v (numsB 1 [(g.ins.length : Int)] ++ g.ins.flatMap valB ++ numsB 1 [(g.nodes.length : Int)] ++ (g.nodes.take k).flatMap nodeB)) ∧ Hid (Lays P W wr) ∧ (∀ o : Nat, wr.cell? ⟨P, o, none⟩ = (#[.slice A1 g.ins.length c1, .slice A2 g.nodes.length c2, .slice A3 g.outs.length c3] : Array Value)[o]?) ∧ P + 1 ≤ wr.heap.size) (fun _ i _ => g.nodes.length - (intOf i).toNat)
        case atStart => exact ⟨0, by omega, rfl, Lib.hid (by simpa using o2.out), g2, b2, s2⟩
        case round =>
          clear b2 o2 g2 s2 h hk
          obtain ⟨k, hk, rfl, own, gg, b3, s3⟩ := hrel
          by_cases h : k < g.nodes.length
          · have p3 : Past W wr := (Past.refl W).trans (by have := gg.out; rw [← hP] at this; exact Lays.past (Past.refl W) this)
            obtain ⟨nb, no, rfl, hnb, hnc⟩ := N5.out (by omega)
            obtain ⟨vi, vw, vb, hin0, hcell⟩ := hnc k h
            obtain ⟨n, hnk⟩ : ∃ n, g.nodes.getD k default = n := ⟨_, rfl⟩
            rw [hnk] at hin0 hcell
            have mem : n ∈ g.nodes := by rw [← hnk]; simp [List.getD, h]
            have ai := Lib.hid (fun h0 => apart_old (base := P) (by omega) hin0.1 h0)
            have aw := Lib.hid (fun h0 => apart_old (base := P) (by omega) hin0.2.1 h0)
            have ab := Lib.hid (fun h0 => apart_old (base := P) (by omega) hin0.2.2 h0)
            have hin := hin0.grow p3
            have IN := Lib.hid hin
            obtain ⟨Ai, ci, rfl, f1, f2, _, _, _⟩ := hin.1
            obtain ⟨Aw, cw, rfl, f3, f4, _, _, _⟩ := hin.2.1
            obtain ⟨Ab, cb, rfl, f5, f6, _, _, _⟩ := hin.2.2
            have hcell := fun j (hj : j < 14) => (p3.cell hnb).trans (hcell j hj)
            have x0 := hcell 0 (by omega)
            have x1 := hcell 1 (by omega)
            have x2 := hcell 2 (by omega)
            have x3 := hcell 3 (by omega)
            have x4 := hcell 4 (by omega)
            have x5 := hcell 5 (by omega)
            have x6 := hcell 6 (by omega)
            have x7 := hcell 7 (by omega)
            have x8 := hcell 8 (by omega)
            have x9 := hcell 9 (by omega)
            have x10 := hcell 10 (by omega)
            have x11 := hcell 11 (by omega)
            have x12 := hcell 12 (by omega)
            have x13 := hcell 13 (by omega)
            simp only [nodeCells, List.getElem?_cons_zero, List.getElem?_cons_succ, Nat.add_zero] at x0 x1 x2 x3 x4 x5 x6 x7 x8 x9 x10 x11 x12 x13
            have hnext := flat_take nodeB g.nodes k h
            rw [hnk] at hnext
            have HNX := Lib.hid hnext
            have WN := Lib.hid (NW.out n mem)
            have hlen : ((g.ins.flatMap valB).length + ((g.nodes.take k).flatMap nodeB).length) + (nodeB n).length ≤ 900000000 := by
              have h1 := flat_le nodeB g.nodes (k + 1)
              rw [hnext, List.length_append] at h1
              have h2 := HZ.out
              simp only [graphB, List.length_append] at h2
              omega
            have HLEN := Lib.hid hlen
            have n1 : P ≠ wr.heap.size := by omega
            have n2 : P < wr.heap.size := by omega
            have i1 : (0 : Int) ≤ (k : Int) := by omega
            have i2 : (k : Int) < (g.nodes.length : Int) := by omega
            obtain ⟨P8, hP8⟩ : ∃ P8, wr.heap.size = P8 := ⟨_, rfl⟩
            clear hnk hnext hlen hnc hin0 hin hcell mem f1 f2 f3 f4 f5 f6
            go_upto_region 14 with fail
            refine opq (fun w' => ((∀ o : Nat, w'.cell? ⟨P, o, none⟩ = (#[.slice A1 g.ins.length c1, .slice (some ⟨nb, no, none⟩) g.nodes.length c2, .slice A3 g.outs.length c3] : Array Value)[o]?) ∧ (∀ o : Nat, w'.cell? ⟨P8, o, none⟩ = (#[.int .i64 n.op, (.slice Ai n.ins.length ci), .int .i64 n.k, .int .i64 n.stride, .int .i64 n.pad, .int .i64 n.out, .int .i64 n.mul, .int .i64 n.shift, .int .i64 n.zero, .int .i64 n.th, .int .i64 n.tw, .int .i64 n.tc, (.slice Aw n.ws.length cw), (.slice Ab n.bs.length cb)] : Array Value)[o]?) ∧ Past wr w' ∧ P8 + 1 ≤ w'.heap.size) ∧ OwnB w' P u5 (numsB 1 [(g.ins.length : Int)] ++ g.ins.flatMap valB ++ numsB 1 [(g.nodes.length : Int)] ++ (g.nodes.take k).flatMap nodeB)) ⟨by
              subst hP8
              (exact kKeep), own.out.alloc _⟩ ?_
            rintro w4 ⟨⟨b4, y4, p4, s4⟩, o4⟩
            have gg4 := Lib.hid (gg.out.trans (Lays.of_past p4))
            have C1 := Lib.hid (layNode_any P u5 _ n _ _ _ w4 o4 (IN.out.grow p4) WN.out ai.out aw.out ab.out (by omega) (by have := HLEN.out; simp only [List.length_append, numsB_len, List.length_cons, List.length_nil]; omega))
            clear own b3 s3 gg p3 x0 x1 x2 x3 x4 x5 x6 x7 x8 x9 x10 x11 x12 x13 hP8 n1 n2 p4 o4 ai aw ab IN
            go_wp2_with fail
            refine C1.out.mono ?_
            rintro e w5 ⟨v5, rfl, o5, k5⟩
            have g5 := Lib.hid (gg4.out.trans k5)
            have b5 := box_lays b4 (noRow_box b4 (.slice A1 g.ins.length c1) (by simp) (by simp)) k5
            have s5 : P + 1 ≤ w5.heap.size := by have := k5.2.2.1; have := cell_lt ((b4 0).trans rfl); omega
            have o5 := Lib.hid (show OwnB w5 P v5 (numsB 1 [(g.ins.length : Int)] ++ g.ins.flatMap valB ++ numsB 1 [(g.nodes.length : Int)] ++ (g.nodes.take (k + 1)).flatMap nodeB) by
              rw [HNX.out, ← List.append_assoc]
              exact o5)
            clear C1 k5 b4 y4 gg4 s4 i1 i2
            go_wp2_with fail
            go_roundw
            case rel => exact ⟨k + 1, by omega, by go_num, o5, g5, b5, s5⟩
            case measure => simp [intOf]; omega
          · have e : g.nodes.take k = g.nodes := List.take_of_length_le (by omega)
            rw [e] at own
            clear e N5 NW
            have p3 : Past W wr := (Past.refl W).trans (by have := gg.out; rw [← hP] at this; exact Lays.past (Past.refl W) this)
            have hl0 := HZ.out
            simp only [graphB, List.length_append, numsB_len, listB_len, List.length_cons, List.length_nil] at hl0
            have C0 := Lib.hid (list_int P 1 1 u5 (.slice A3 g.outs.length c3) _ g.outs wr (by omega) (by omega) own.out (HO.out.grow p3) (fun h0 => apart_old (w := W) (by omega) HO.out h0) (by omega) (by simp only [List.length_append, numsB_len, List.length_cons, List.length_nil]; omega))
            clear own hl0
            go_wp2_with fail
            refine C0.out.mono ?_
            rintro e w2 ⟨v2, rfl, o2, k2⟩
            have g2 := gg.out.trans k2
            subst hP
            have pf := Lib.hid (Lays.past (Past.refl W) g2)
            have of := Lib.hid o2
            clear C0 k2 b3 s3 gg g2 o2 p3
            go_wp2_with fail
            go_ret2
            exact put_ok HQ.out of.out pf.out
end Go.Proofs.Ytejllmjkeefloaa
