/- Values. -/
import Derived.Test.YtgbedoffgahhaaaV3
import Derived.Test.YtgbedoffgahhaaaL0
namespace Go.Proofs.Ytgbedoffgahhaaa
open Go.ChangeShapes Go.WideShapes Go.ChangeAt Go.RowKit
set_option maxRecDepth 20000
set_option linter.unusedVariables false

open Classical in
/-- What nodes make, one behind the other: an error's number, or 0 and all values. -/
noncomputable def goS : List NodeD → List ValD → Int × List ValD
  | [], l => (0, l)
  | n :: ns, l => if namedP l n.ins then (if valueE n (namedL l n.ins) = 0 then goS ns (l ++ [valueV n (namedL l n.ins)]) else (valueE n (namedL l n.ins), [])) else (13, [])
def sumW : List NodeD → Nat
  | [] => 0
  | n :: ns => n.ws.length + sumW ns
open Classical in
noncomputable def valuesE (g : GraphD) : Int :=
  if beginsE g ≠ 0 then beginsE g else if (goS g.nodes g.ins).1 ≠ 0 then (goS g.nodes g.ins).1 else if 4096 < sumW g.nodes then 3 else if ¬ namedP (goS g.nodes g.ins).2 g.outs then 13 else 0
noncomputable def valuesL (g : GraphD) : List ValD := if valuesE g = 0 then (goS g.nodes g.ins).2 else []

theorem goS_no {n : NodeD} {ns : List NodeD} {l : List ValD} (h : ¬ namedP l n.ins) : goS (n :: ns) l = (13, []) := by unfold goS; rw [if_neg h]
theorem goS_err {n : NodeD} {ns : List NodeD} {l : List ValD} (h : namedP l n.ins) (e : valueE n (namedL l n.ins) ≠ 0) : goS (n :: ns) l = (valueE n (namedL l n.ins), []) := by unfold goS; rw [if_pos h, if_neg e]
theorem goS_ok {n : NodeD} {ns : List NodeD} {l : List ValD} (h : namedP l n.ins) (e : valueE n (namedL l n.ins) = 0) : goS (n :: ns) l = goS ns (l ++ [valueV n (namedL l n.ins)]) := by
  conv => lhs; unfold goS
  rw [if_pos h, if_pos e]
theorem sumW_take (ns : List NodeD) (k : Nat) (h : k < ns.length) : sumW (ns.take (k + 1)) = sumW (ns.take k) + (ns.getD k default).ws.length := by
  induction ns generalizing k with
  | nil => simp at h
  | cons n ns ih =>
    cases k with
    | zero => simp [sumW]
    | succ k =>
      have := ih k (by simpa using h)
      simp only [List.take_succ_cons, sumW, List.getD_cons_succ] at this ⊢
      omega
theorem drop_cons (ns : List NodeD) (k : Nat) (h : k < ns.length) : ns.drop k = ns.getD k default :: ns.drop (k + 1) := by
  rw [List.drop_eq_getElem_cons h]
  simp [List.getD, h]
theorem valueV_wf {n : NodeD} {vs : List ValD} (hz : (Lit.int .i64 n.zero).wf = true) : ValWf (valueV n vs) := by
  unfold valueV
  by_cases e : valueE n vs = 0
  · rw [if_pos e]
    have m : mayT (madeS n vs) := by
      apply Classical.byContradiction
      intro m
      by_cases h : hasOp n.op ∧ takesP (opD n.op) n vs
      · rw [valueE_mk10' h m] at e; cases e
      · rw [valueE_mk11 h] at e; cases e
    obtain ⟨m1, m2, m3, m4, m5, m6⟩ := m
    exact ⟨WalkArith.wf_i64 (by dsimp only; omega), WalkArith.wf_i64 (by dsimp only; omega), WalkArith.wf_i64 (by dsimp only; omega), hz⟩
  · rw [if_neg e]; unfold ValWf; decide

/-- A graph that a law has cut. -/
def Cut (g : GraphD) : Prop := g.outs.length ≤ 1000 ∧ ∀ n ∈ g.nodes, n.ins.length ≤ 1000 ∧ n.ws.length ≤ 100000

def ValuesPost (g : GraphD) (W : World) (e : Ending) (w' : World) : Prop := ∃ v, e = .returned (.tuple #[v, .int .i64 (valuesE g)]) ∧ IsVals w' v (valuesL g) ∧ Past W w'

theorem vals_nil (w : World) : IsVals w (.slice none 0 0) [] := ⟨none, 0, rfl, Nat.le_refl _, Nat.zero_le _, fun _ => rfl, by simp, by simp⟩
theorem values_err {g : GraphD} {W w' : World} {q : Int} (h : valuesE g = q) (h0 : q ≠ 0) (p : Past W w') : ValuesPost g W (.returned (.tuple #[.slice none 0 0, .int .i64 q])) w' :=
  ⟨_, by rw [h], by unfold valuesL; rw [if_neg (by rw [h]; exact h0)]; exact vals_nil _, p⟩

theorem own_more {w : World} {b b' e size n : Nat} {v : Value} {xs : List Value} (h : w.ownsRow b e size v n xs) (hb : b' ≤ b) : w.ownsRow b' e size v n xs := by
  refine ⟨h.1, ?_⟩
  rcases h.2 with hn | ⟨g, cap, cur, rfl, hg, rest⟩
  · exact .inl hn
  · exact .inr ⟨g, cap, cur, rfl, by omega, rest⟩

theorem valuesE_go {g : GraphD} {q : Int} (hb : 0 = beginsE g) (h : (goS g.nodes g.ins).1 = q) (h0 : q ≠ 0) : valuesE g = q := by unfold valuesE; rw [if_neg (by rw [← hb]; simp), if_pos (by rw [h]; exact h0), h]
theorem box_grownBy {w w' : World} {row : Option Nat} {b : Nat} {cs : Array Value} (g : w.grownBy w' row) (h : (∀ o : Nat, w.cell? ⟨b, o, none⟩ = (cs : Array Value)[o]?)) (hb : b < w.heap.size) (hr : some b ≠ row) : (∀ o : Nat, w'.cell? ⟨b, o, none⟩ = (cs : Array Value)[o]?) :=
  fun o => (World.cell?_of_block (a := ⟨b, o, none⟩) (g.block b hb hr)).trans (h o)

set_option maxHeartbeats 8000000 in
theorem values_any (g : GraphD) (gv : Value) (W : World) (hg : IsGraph W gv g) (hc : Cut g) : Calls Try.prog 26 #[gv] W (ValuesPost g W) := by
  obtain ⟨iv, nv, ov, rfl, hi, hn, ho⟩ := hg
  have HI := Lib.hid hi
  have HO := Lib.hid ho
  obtain ⟨A1, c1, rfl, i1, i2, _, _, _⟩ := hi
  obtain ⟨A2, c2, rfl, n1, n2, _, nw, n5⟩ := hn
  obtain ⟨A3, c3, rfl, o1, o2, _, _, _⟩ := ho
  have m2 : g.nodes.length ≤ 9223372036854775807 := by unfold maxLen at n2; omega
  have N5 := Lib.hid n5
  have NW := Lib.hid nw
  obtain ⟨q, hq⟩ : ∃ q, q = beginsE g := ⟨_, rfl⟩
  have HQ := Lib.hid hq
  have HC := Lib.hid hc
  have BE := Lib.hid (fun w (p : Grown W w) => begins_any g A1 A2 A3 c1 c2 c3 w q HQ (HI.out.grow (Grown.past p)) (by omega) (by omega))
  clear hq i1 i2 n1 n2 o1 o2 n5 nw hc
  go_enter Try.func26, Try.ntmps26
  go_upto_region 1 with fail
  refine opq (fun w' => (∀ o : Nat, w'.cell? ⟨W.heap.size, o, none⟩ = (#[.slice A1 g.ins.length c1, .slice A2 g.nodes.length c2, .slice A3 g.outs.length c3] : Array Value)[o]?) ∧ Grown W w' ∧ W.heap.size + 1 ≤ w'.heap.size) kKeep ?_
  rintro w1 ⟨b1, g1, s1⟩
  go_wp2_with fail
  refine (BE.out _ g1).mono ?_
  rintro e w2 ⟨rfl, p2⟩
  obtain ⟨b2, g2, s2⟩ : (∀ o : Nat, w2.cell? ⟨W.heap.size, o, none⟩ = (#[.slice A1 g.ins.length c1, .slice A2 g.nodes.length c2, .slice A3 g.outs.length c3] : Array Value)[o]?) ∧ Grown W w2 ∧ W.heap.size + 1 ≤ w2.heap.size := by (exact kKeep)
  clear b1 g1 s1 p2 BE
  cases e0 : (q == 0) with
  | false =>
    have e1 : (q != 0) = true := by simp [bne, e0]
    have q0 : q ≠ 0 := by simpa using e0
    have HE : Hid (valuesE g = q) := Lib.hid (by unfold valuesE; rw [if_pos (by rw [← HQ.out]; exact q0)]; exact HQ.out.symm)
    have Q0 := Lib.hid q0
    clear q0
    go_wp2_with fail
    go_ret2
    exact values_err HE.out Q0.out (Grown.past g2)
  | true =>
    have e1 : (q != 0) = false := by simp [bne, e0]
    have q0 : q = 0 := by simpa using e0
    subst q0
    have hb := HQ.out
    have k1 : 1 ≤ g.ins.length ∧ g.ins.length ≤ 4 ∧ g.nodes.length ≤ 12 ∧ g.outs.length ≤ 4 := by
      unfold beginsE at hb
      by_cases a1 : 4 < g.ins.length ∨ 12 < g.nodes.length ∨ 4 < g.outs.length
      · rw [if_pos a1] at hb; cases hb
      · rw [if_neg a1] at hb
        by_cases a2 : g.ins.length = 0 ∨ g.outs.length = 0
        · rw [if_pos a2] at hb; cases hb
        · omega
    clear hb
    obtain ⟨k1, k2, k3, k4⟩ := k1
    obtain ⟨b, off, cap, hA, u1, u2, u3, u4⟩ := slice_of (HI.out.grow (Grown.past g2)) (by omega)
    obtain ⟨rfl, rfl⟩ : A1 = some ⟨b, off, none⟩ ∧ c1 = cap := by simpa using hA
    have CL := Lib.hid (clone_any g.ins b off c1 w2 (by omega) (by omega) u1 u3 u4)
    have WI : Hid (∀ x ∈ g.ins, ValWf x) := Lib.hid (by obtain ⟨_, _, _, _, _, _, h, _⟩ := HI.out; exact h)
    clear hA u1 u2 u3 u4 e0
    go_wp2_with fail
    refine CL.out.mono ?_
    rintro e w3 ⟨v, rfl, own3, p3⟩
    have own3 := Lib.hid (show OwnVals w3 (W.heap.size + 1) v g.ins from own_more own3 s2)
    obtain ⟨b3, p4, s3⟩ : (∀ o : Nat, w3.cell? ⟨W.heap.size, o, none⟩ = (#[.slice (some ⟨b, off, none⟩) g.ins.length c1, .slice A2 g.nodes.length c2, .slice A3 g.outs.length c3] : Array Value)[o]?) ∧ Past W w3 ∧ W.heap.size + 1 ≤ w3.heap.size := ⟨box_past p3 b2 (by omega), (Grown.past g2).trans p3, size_past p3 s2⟩
    clear b2 g2 s2 p3 CL
    go_wp2_with fail
    go_loopw [5, 6, 26] (fun v s i wr => ∃ (k : Nat) (l : List ValD), k ≤ g.nodes.length ∧ i = .int .i64 k ∧ s = .int .i64 (sumW (g.nodes.take k)) ∧ sumW (g.nodes.take k) ≤ 100000 * k ∧ Hid (OwnVals wr (W.heap.size + 1) v l) ∧ Hid (∀ x ∈ l, ValWf x) ∧ Hid (goS g.nodes g.ins = goS (g.nodes.drop k) l) ∧ l.length = g.ins.length + k ∧ (∀ o : Nat, wr.cell? ⟨W.heap.size, o, none⟩ = (#[.slice (some ⟨b, off, none⟩) g.ins.length c1, .slice A2 g.nodes.length c2, .slice A3 g.outs.length c3] : Array Value)[o]?) ∧ Past W wr ∧ W.heap.size + 1 ≤ wr.heap.size) (fun _ _ i _ => g.nodes.length - (intOf i).toNat)
    case atStart => exact ⟨0, g.ins, by omega, rfl, by simp [sumW], by simp [sumW], own3, WI, Lib.hid (by simp), by omega, b3, p4, s3⟩
    case round =>
      clear own3 b3 p4 s3 e1
      obtain ⟨k, l, hk, rfl, rfl, hs, own, wl, hgo, hl, b3, p4, s3⟩ := hrel
      have HL := Lib.hid hl
      clear hl
      by_cases h : k < g.nodes.length
      · obtain ⟨nb, no, rfl, hnb, hnc⟩ := N5.out (by omega)
        obtain ⟨vi, vw, vb, hin, hcell⟩ := (hnc k h).grow hnb p4
        obtain ⟨n, hnk⟩ : ∃ n, g.nodes.getD k default = n := ⟨_, rfl⟩
        rw [hnk] at hin hcell
        have mem : n ∈ g.nodes := by rw [← hnk]; simp [List.getD, h]
        have IN := Lib.hid hin
        obtain ⟨Ai, ci, rfl, f1, f2, _, _, _⟩ := hin.1
        obtain ⟨Aw, cw, rfl, f3, f4, _, _, _⟩ := hin.2.1
        obtain ⟨Ab, cb, rfl, f5, f6, _, _, _⟩ := hin.2.2
        have x0 := hcell 0 (by omega)
        have x1 := hcell 1 (by omega)
        have x2 := hcell 2 (by omega)
        have x3 := hcell 3 (by omega)
        have x4 := hcell 4 (by omega)
        have x5 := hcell 5 (by omega)
        have x6 := hcell 6 (by omega)
        have x7 := hcell 7 (by omega)
        have x8 := hcell 8 (by omega)
        have x9 := hcell 9 (by omega)
        have x10 := hcell 10 (by omega)
        have x11 := hcell 11 (by omega)
        have x12 := hcell 12 (by omega)
        have x13 := hcell 13 (by omega)
        simp only [nodeCells, List.getElem?_cons_zero, List.getElem?_cons_succ, Nat.add_zero] at x0 x1 x2 x3 x4 x5 x6 x7 x8 x9 x10 x11 x12 x13
        have NK := Lib.hid hnk
        have MEM := Lib.hid mem
        have i1 : (0 : Int) ≤ (k : Int) := by omega
        have i2 : (k : Int) < (g.nodes.length : Int) := by omega
        have n1 : W.heap.size ≠ wr.heap.size := by omega
        have n2 : W.heap.size < wr.heap.size := by omega
        obtain ⟨P8, hP⟩ : ∃ P8, wr.heap.size = P8 := ⟨_, rfl⟩
        clear hin hnk mem hcell hnc f1 f2 f3 f4 f5 f6
        go_upto_region 9 with fail
        refine opq (fun w' => ((∀ o : Nat, w'.cell? ⟨W.heap.size, o, none⟩ = (#[.slice (some ⟨b, off, none⟩) g.ins.length c1, .slice (some ⟨nb, no, none⟩) g.nodes.length c2, .slice A3 g.outs.length c3] : Array Value)[o]?) ∧ (∀ o : Nat, w'.cell? ⟨P8, o, none⟩ = (#[.int .i64 n.op, (.slice Ai n.ins.length ci), .int .i64 n.k, .int .i64 n.stride, .int .i64 n.pad, .int .i64 n.out, .int .i64 n.mul, .int .i64 n.shift, .int .i64 n.zero, .int .i64 n.th, .int .i64 n.tw, .int .i64 n.tc, (.slice Aw n.ws.length cw), (.slice Ab n.bs.length cb)] : Array Value)[o]?) ∧ Past W w' ∧ P8 + 1 ≤ w'.heap.size ∧ Past wr w') ∧ OwnVals w' (W.heap.size + 1) u5 l) ⟨by
          subst hP
          (exact kKeep), World.ownsRow.alloc own.out _⟩ ?_
        rintro w4 ⟨⟨b4, x4, p4', s4, p5⟩, own4⟩
        have q8 : W.heap.size + 1 ≤ P8 := by omega
        have HLT : Hid (∀ j, u5.ownBlock = some j → W.heap.size + 1 ≤ j ∧ j < P8) := Lib.hid (by
          intro j hj
          have := World.ownsRow.lt own.out j hj
          omega)
        have OWN4 := Lib.hid own4
        have NA := Lib.hid (named_any u5 _ l n.ins w4 (vals_of_own own4 wl.out) (IN.out.1.grow p5) (HC.out.2 n MEM.out).1)
        have GO : Hid (goS g.nodes g.ins = goS (n :: g.nodes.drop (k + 1)) l) := Lib.hid (by rw [hgo.out, drop_cons _ _ h, NK.out])
        clear x0 x1 x2 x3 x5 x6 x7 x8 x9 x10 x11 x12 x13 own own4 b3 p4 s3 hP n1 n2 hgo
        go_wp2_with fail
        refine NA.out.mono ?_
        rintro e w5 H
        rcases H with ⟨hY, v2, rfl, hv2, p6⟩ | ⟨hN, rfl, p6⟩
        rotate_left
        · have HE : Hid (valuesE g = 13) := Lib.hid (valuesE_go HQ.out (by rw [GO.out, goS_no hN]) (by decide))
          clear hN NA
          go_wp2_with fail
          go_ret2
          exact values_err HE.out (by decide) (p4'.trans p6)
        · obtain ⟨b5, y5, p7, s5, p8⟩ : (∀ o : Nat, w5.cell? ⟨W.heap.size, o, none⟩ = (#[.slice (some ⟨b, off, none⟩) g.ins.length c1, .slice (some ⟨nb, no, none⟩) g.nodes.length c2, .slice A3 g.outs.length c3] : Array Value)[o]?) ∧ (∀ o : Nat, w5.cell? ⟨P8, o, none⟩ = (#[.int .i64 n.op, (.slice Ai n.ins.length ci), .int .i64 n.k, .int .i64 n.stride, .int .i64 n.pad, .int .i64 n.out, .int .i64 n.mul, .int .i64 n.shift, .int .i64 n.zero, .int .i64 n.th, .int .i64 n.tw, .int .i64 n.tc, (.slice Aw n.ws.length cw), (.slice Ab n.bs.length cb)] : Array Value)[o]?) ∧ Past W w5 ∧ P8 + 1 ≤ w5.heap.size ∧ Past wr w5 := by (exact kKeep)
          have OWN5 := Lib.hid (show OwnVals w5 (W.heap.size + 1) u5 l from own_past' OWN4.out p6)
          have VA := value_any n _ _ _ v2 (namedL l n.ins) w5 (IN.out.grow p8) hv2
          have VW : ValWf (valueV n (namedL l n.ins)) := valueV_wf (NW.out n MEM.out).2.2.2.2.2.2.2.1
          obtain ⟨x, hx⟩ : ∃ x, valueV n (namedL l n.ins) = x := ⟨_, rfl⟩
          obtain ⟨qv, hqv⟩ : ∃ x, valueE n (namedL l n.ins) = x := ⟨_, rfl⟩
          unfold ValuePost at VA
          rw [hx, hqv] at VA
          rw [hx] at VW
          have VA := Lib.hid VA
          have VW := Lib.hid VW
          have HX := Lib.hid hx
          have HQV := Lib.hid hqv
          have HY := Lib.hid hY
          clear hx hqv hY hv2 p6 b4 x4 p4' s4 p5 OWN4 NA
          go_wp2_with fail
          refine VA.out.mono ?_
          rintro e w6 ⟨rfl, g6⟩
          have g6' := Grown.past g6
          obtain ⟨b6, y6, p9, s6, p10⟩ : (∀ o : Nat, w6.cell? ⟨W.heap.size, o, none⟩ = (#[.slice (some ⟨b, off, none⟩) g.ins.length c1, .slice (some ⟨nb, no, none⟩) g.nodes.length c2, .slice A3 g.outs.length c3] : Array Value)[o]?) ∧ (∀ o : Nat, w6.cell? ⟨P8, o, none⟩ = (#[.int .i64 n.op, (.slice Ai n.ins.length ci), .int .i64 n.k, .int .i64 n.stride, .int .i64 n.pad, .int .i64 n.out, .int .i64 n.mul, .int .i64 n.shift, .int .i64 n.zero, .int .i64 n.th, .int .i64 n.tw, .int .i64 n.tc, (.slice Aw n.ws.length cw), (.slice Ab n.bs.length cb)] : Array Value)[o]?) ∧ Past W w6 ∧ P8 + 1 ≤ w6.heap.size ∧ Past wr w6 := by
            clear g6
            (exact kKeep)
          have OWN6 := Lib.hid (show OwnVals w6 (W.heap.size + 1) u5 l from own_past' OWN5.out g6')
          clear b5 y5 p7 s5 p8 g6 g6' OWN5 VA
          cases e2 : (qv == 0) with
          | false =>
            have e3 : (qv != 0) = true := by simp [bne, e2]
            have Q0 : Hid (qv ≠ 0) := Lib.hid (by simpa using e2)
            have HE : Hid (valuesE g = qv) := Lib.hid (valuesE_go HQ.out (by rw [GO.out, goS_err HY.out (by rw [HQV.out]; exact Q0.out), HQV.out]) Q0.out)
            go_wp2_with fail
            go_ret2
            exact values_err HE.out Q0.out (p9.alloc _)
          | true =>
            have e3 : (qv != 0) = false := by simp [bne, e2]
            have Q0 : Hid (qv = 0) := Lib.hid (by simpa using e2)
            have n6 : P8 ≠ w6.heap.size := by omega
            have n7 : P8 < w6.heap.size := by omega
            have n8 : W.heap.size ≠ w6.heap.size := by omega
            have n9 : W.heap.size < w6.heap.size := by omega
            obtain ⟨P11, hP⟩ : ∃ P11, w6.heap.size = P11 := ⟨_, rfl⟩
            go_upto_region 15 with fail
            refine opq (fun w' => ((∀ o : Nat, w'.cell? ⟨W.heap.size, o, none⟩ = (#[.slice (some ⟨b, off, none⟩) g.ins.length c1, .slice (some ⟨nb, no, none⟩) g.nodes.length c2, .slice A3 g.outs.length c3] : Array Value)[o]?) ∧ (∀ o : Nat, w'.cell? ⟨P8, o, none⟩ = (#[.int .i64 n.op, (.slice Ai n.ins.length ci), .int .i64 n.k, .int .i64 n.stride, .int .i64 n.pad, .int .i64 n.out, .int .i64 n.mul, .int .i64 n.shift, .int .i64 n.zero, .int .i64 n.th, .int .i64 n.tw, .int .i64 n.tc, (.slice Aw n.ws.length cw), (.slice Ab n.bs.length cb)] : Array Value)[o]?) ∧ Past W w' ∧ P8 + 1 ≤ w'.heap.size ∧ (∀ o : Nat, w'.cell? ⟨P11, o, none⟩ = (#[.int .i64 x.h, .int .i64 x.w, .int .i64 x.c, .int .i64 x.z] : Array Value)[o]?) ∧ P11 + 1 ≤ w'.heap.size) ∧ OwnVals w' (W.heap.size + 1) u5 l) ⟨by
              subst hP
              (exact kKeep), World.ownsRow.alloc OWN6.out _⟩ ?_
            rintro w7 ⟨⟨b7, y7, p11, s7, x7, s8⟩, own7⟩
            have OWN7 := Lib.hid own7
            have LL := Lib.hid (show l.length + 1 ≤ 1000 by have := HL.out; omega)
            have SB := Lib.hid (sumW_take g.nodes k h)
            have WB := Lib.hid (HC.out.2 n MEM.out).2
            obtain ⟨i0, hi0, hz0, hz1, hz2⟩ := info_parts info32
            have I1 := Lib.hid hi0
            have I2 := Lib.hid hz0
            have I3 := Lib.hid hz1
            have I4 := Lib.hid hz2
            have m5 : n.ws.length ≤ 100000 := WB.out
            have ms : sumW (List.take k g.nodes) ≤ 100000 * 12 := by omega
            clear b6 y6 p9 s6 p10 OWN6 n6 n7 n8 n9 hP own7 hi0 hz0 hz1 hz2 x4
            go_wp2_with (at_builtin; refine wpList_append_own _ rfl (.tmp 48) (.tmp 50) 32 rfl (W.heap.size + 1) 52 i0 _ 4 32 Try.underlying32 I1.out I2.out I3.out I4.out rfl (by decide) _ _ _ rfl (World.ownsRow.alloc OWN7.out _) ⟨w7.heap.size, 0, none⟩ 1 1 (valCells x) rfl rfl (fun j u hu => cells_new' w7 _ 52 j u hu) (val_one x) ?c4 ?c5 ?c6 ?_)
            case c4 => have := LL.out; unfold maxLen; omega
            case c5 => have := LL.out; omega
            case c6 => simp; omega
            intro v8 w8 hown8 hgrow _
            have b8 := box_grownBy hgrow (box_old (x := .cells (valCells x).toArray 52) b7 (by omega)) (by simp; omega) (fun e => by have := (HLT.out _ e.symm).1; omega)
            have y8 := box_grownBy hgrow (box_old (x := .cells (valCells x).toArray 52) y7 (by omega)) (by simp; omega) (fun e => by have := (HLT.out _ e.symm).2; omega)
            have p12 : Past W w8 := (p11.alloc _).grownBy hgrow (fun j hj => by have := (HLT.out j hj).1; omega)
            have s9 : W.heap.size + 1 ≤ w8.heap.size := by have := p12.2.2.1; have := hgrow.size; simp at this; omega
            have own8 : Hid (OwnVals w8 (W.heap.size + 1) v8 (l ++ [x])) := Lib.hid (by
              unfold OwnVals
              rw [valsCells_snoc]
              simp only [List.length_append, List.length_cons, List.length_nil]
              exact hown8)
            clear hown8 hgrow b7 y7 p11 s7 x7 s8 OWN7 I1 I2 I3 I4
            go_wp2_with fail
            go_roundw
            case rel => exact ⟨k + 1, l ++ [x], by omega, by go_num, by rw [SB.out, NK.out]; go_num, by rw [SB.out, NK.out]; omega, own8, Lib.hid (by
              intro y hy
              rcases List.mem_append.1 hy with hy | hy
              · exact wl.out y hy
              · simp only [List.mem_cons, List.not_mem_nil, or_false] at hy; subst hy; exact VW.out), Lib.hid (by
              rw [GO.out, goS_ok HY.out (by rw [HQV.out]; exact Q0.out), HX.out]), by have := HL.out; simp; omega, b8, p12, s9⟩
            case measure => simp [intOf]; omega
      · have ek : k = g.nodes.length := by omega
        subst ek
        have hgo' := hgo.out
        rw [List.drop_length] at hgo'
        rw [List.take_length] at hs
        have GO : Hid (goS g.nodes g.ins = (0, l)) := Lib.hid (by rw [hgo']; rfl)
        have ms : sumW g.nodes ≤ 100000 * 12 := by omega
        have TK : List.take g.nodes.length g.nodes = g.nodes := List.take_length
        clear hgo hgo'
        by_cases hw : 4096 < sumW g.nodes
        · have d1 : decide ((4096 : Int) < (sumW g.nodes : Int)) = true := by simp; omega
          have HE : Hid (valuesE g = 3) := Lib.hid (by unfold valuesE; rw [if_neg (by rw [← HQ.out]; simp), if_neg (by rw [GO.out]; simp), if_pos hw])
          clear hw
          go_wp2_with fail
          go_ret2
          exact values_err HE.out (by decide) p4
        · have d1 : decide ((4096 : Int) < (sumW g.nodes : Int)) = false := by simp; omega
          have NA := Lib.hid (named_any u5 _ l g.outs wr (vals_of_own own.out wl.out) (HO.out.grow p4) HC.out.1)
          have IV := Lib.hid (vals_of_own own.out wl.out)
          have HW := Lib.hid hw
          clear hw own
          go_wp2_with fail
          refine NA.out.mono ?_
          rintro e w5 H
          rcases H with ⟨hY, v2, rfl, hv2, p6⟩ | ⟨hN, rfl, p6⟩
          · have HE : Hid (valuesE g = 0) := Lib.hid (by unfold valuesE; rw [if_neg (by rw [← HQ.out]; simp), if_neg (by rw [GO.out]; simp), if_neg HW.out, GO.out, if_neg (fun f => f hY)])
            have HLL : Hid (valuesL g = l) := Lib.hid (by unfold valuesL; rw [if_pos HE.out, GO.out])
            clear hY hv2 NA
            go_wp2_with fail
            go_ret2
            exact ⟨_, by rw [HE.out]; rfl, by rw [HLL.out]; exact IV.out.grow p6, p4.trans p6⟩
          · have HE : Hid (valuesE g = 13) := Lib.hid (by unfold valuesE; rw [if_neg (by rw [← HQ.out]; simp), if_neg (by rw [GO.out]; simp), if_neg HW.out, GO.out, if_pos hN])
            clear hN NA
            go_wp2_with fail
            go_ret2
            exact values_err HE.out (by decide) (p4.trans p6)
end Go.Proofs.Ytgbedoffgahhaaa
