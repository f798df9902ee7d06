/- quiltlaw12's less: an image of at most 6 values, 14 nodes, 6 that come out, 30 places, no streams. -/
import Derived.Test.YtgbedoffgahhaaaP2
import Derived.Test.YtgbedoffgahhaaaM0
import Derived.Laws.AppendOwn
import Derived.OwnWalk
import Derived.Deep.DeepCutAuto
namespace Go.Proofs.Ytgbedoffgahhaaa
open Go.ChangeShapes Go.WideShapes Go.ChangeAt Go.RowKit
set_option maxRecDepth 20000
set_option linter.unusedVariables false
set_option linter.unusedSimpArgs false


def fewD (n : NodeD) : NodeD := { n with ins := n.ins.take 20, ws := n.ws.take 5000, bs := n.bs.take 20 }
def lessD (g : GraphD) : GraphD := { ins := g.ins.take 6, nodes := (g.nodes.take 14).map fewD, outs := g.outs.take 6 }

/-- A slice, or its first m. -/
theorem nums_cut' {k : IntKind} {w : World} {A : Option Addr} {len cap : Nat} {xs : List Int} (m : Nat) (h : IsNums k w (.slice A len cap) xs) : IsNums k w (.slice A (xs.take m).length cap) (xs.take m) := by
  obtain ⟨A', cap', e, h2, h3, h4, h5, h6⟩ := h
  simp only [Value.slice.injEq] at e
  obtain ⟨rfl, rfl, rfl⟩ := e
  have hl : (xs.take m).length ≤ xs.length := by simp; omega
  refine ⟨A, cap, rfl, by omega, h3, h4, fun x hx => h5 x (List.mem_of_mem_take hx), fun hp => ?_⟩
  obtain ⟨b, off, rfl, hb, hc⟩ := h6 (by omega)
  refine ⟨b, off, rfl, hb, fun i hi => ?_⟩
  rw [hc i (by omega)]
  have : i < m := by simp at hi; omega
  simp [List.getD, this]
theorem vals_cut' {w : World} {A : Option Addr} {len cap : Nat} {xs : List ValD} (m : Nat) (h : IsVals w (.slice A len cap) xs) : IsVals w (.slice A (xs.take m).length cap) (xs.take m) := by
  obtain ⟨A', cap', e, h2, h3, h4, h5, h6⟩ := h
  simp only [Value.slice.injEq] at e
  obtain ⟨rfl, rfl, rfl⟩ := e
  have hl : (xs.take m).length ≤ xs.length := by simp; omega
  refine ⟨A, cap, rfl, by omega, h3, h4, fun x hx => h5 x (List.mem_of_mem_take hx), fun hp => ?_⟩
  obtain ⟨b, off, rfl, hb, hc⟩ := h6 (by omega)
  refine ⟨b, off, rfl, hb, fun i hi => ?_⟩
  have hm : i < m := by simp at hi; omega
  have e : (xs.take m).getD i default = xs.getD i default := by simp [List.getD, hm]
  rw [e]
  exact hc i (by omega)

/-- Nodes whose slices stand in what was there. -/
def RowsO (w : World) (l : List NodeD) (xs : List Value) : Prop :=
  ∀ j, j < l.length → ∃ vi vw vb, NodeIn w (l.getD j default) vi vw vb ∧ (xs.drop (j * 14)).take 14 = nodeCells (l.getD j default) vi vw vb
theorem RowsO.more {w : World} {l : List NodeD} {n : NodeD} {xs : List Value} {vi vw vb : Value} (h : RowsO w l xs) (hl : xs.length = l.length * 14) (hn : NodeIn w n vi vw vb) : RowsO w (l ++ [n]) (xs ++ nodeCells n vi vw vb) := by
  intro j hj
  simp only [List.length_append, List.length_cons, List.length_nil] at hj
  by_cases c : j < l.length
  · obtain ⟨a1, a2, a3, k1, k2⟩ := h j c
    have e : (l ++ [n]).getD j default = l.getD j default := by simp [List.getD, List.getElem?_append_left c]
    rw [e]
    refine ⟨a1, a2, a3, k1, ?_⟩
    rw [List.drop_append_of_le_length (by omega), List.take_append_of_le_length (by rw [List.length_drop]; omega)]
    exact k2
  · obtain rfl : j = l.length := by omega
    have e : (l ++ [n]).getD l.length default = n := by simp [List.getD]
    rw [e]
    refine ⟨vi, vw, vb, hn, ?_⟩
    rw [← hl, List.drop_left]
    rfl
theorem nodes_of_rowsO {W w : World} {base : Nat} {v : Value} {ns : List NodeD} {xs : List Value} (ho : w.ownsRow base 50 14 v ns.length xs) (hr : RowsO W ns xs) (g : Past W w) (wf : ∀ n ∈ ns, NodeWf n) : IsNodes w v ns := by
  obtain ⟨hl, h⟩ := ho
  rcases h with ⟨rfl, h0⟩ | ⟨b, cap, cur, rfl, hb, hg, hn, hm, hs, ht⟩
  · have : ns = [] := List.eq_nil_of_length_eq_zero h0
    subst this
    exact ⟨none, 0, rfl, Nat.le_refl _, Nat.zero_le _, fun _ => rfl, by simp, by simp⟩
  · refine ⟨some ⟨b, 0, none⟩, cap, rfl, hn, hm, (fun h => by cases h), wf, fun hp => ⟨b, 0, rfl, (Array.getElem?_eq_some_iff.1 hg).1, fun i hi => ?_⟩⟩
    obtain ⟨vi, vw, vb, h1, h2⟩ := hr i hi
    refine ⟨vi, vw, vb, h1.grow g, fun j hj => ?_⟩
    rw [← h2, List.getElem?_take_of_lt hj, List.getElem?_drop, ← ht, List.getElem?_take_of_lt (by omega)]
    simp [World.cell?, hg]
theorem node_cells_one {w : World} {n : NodeD} {vi vw vb : Value} (h : NodeIn w n vi vw vb) : ∀ u ∈ nodeCells n vi vw vb, u.oneCell' = true := by
  obtain ⟨⟨a, b, rfl, _⟩, ⟨c, d, rfl, _⟩, ⟨e, f, rfl, _⟩⟩ := h
  intro u hu
  simp only [nodeCells, List.mem_cons, List.not_mem_nil, or_false] at hu
  rcases hu with rfl | rfl | rfl | rfl | rfl | rfl | rfl | rfl | rfl | rfl | rfl | rfl | rfl | rfl <;> rfl

theorem own_set_ne {w : World} {base e size n Q o : Nat} {u v : Value} {xs : List Value} (h : w.ownsRow base e size v n xs) (hQ : ∀ j, v.ownBlock = some j → j ≠ Q) : (w.setCell ⟨Q, o, none⟩ u).ownsRow base e size v n xs := by
  refine ⟨h.1, ?_⟩
  rcases h.2 with hn | ⟨b, cap, cur, rfl, hb, hg, rest⟩
  · exact Or.inl hn
  · exact Or.inr ⟨b, cap, cur, rfl, hb, (Below.heap_setCell w ⟨Q, o, none⟩ u b (hQ b rfl)).trans hg, rest⟩
theorem few_take (ns : List NodeD) (k : Nat) (h : k < ns.length) : (ns.take (k + 1)).map fewD = (ns.take k).map fewD ++ [fewD (ns.getD k default)] := by
  rw [List.take_succ_eq_append_getElem h, List.map_append]
  simp [List.getD, h]

theorem free_grownBy' {w w' : World} {row : Option Nat} {b : Nat} (g : w.grownBy w' row) (h : (∀ o : Nat, w.frozen? ⟨b, o, none⟩ = false)) (hb : b < w.heap.size) (hr : some b ≠ row) : (∀ o : Nat, w'.frozen? ⟨b, o, none⟩ = false) :=
  fun o => (World.frozen?_of_block (a := ⟨b, o, none⟩) (g.block b hb hr)).trans (h o)
theorem infoNode' : (Try.prog.info? 50).map (fun i => (i.zero, i.size, i.bytes)) = some (some (.agg #[.int .i64 0, .slice none 0 0, .int .i64 0, .int .i64 0, .int .i64 0, .int .i64 0, .int .i64 0, .int .i64 0, .int .i64 0, .int .i64 0, .int .i64 0, .int .i64 0, .slice none 0 0, .slice none 0 0]), 14, 160) := by kernel_rfl
theorem size_setCell (w : World) (a : Addr) (u : Value) : (w.setCell a u).heap.size = w.heap.size := by simp [World.setCell]
theorem box_at {w : World} {b : Nat} {cs : Array Value} (h : (∀ o : Nat, w.cell? ⟨b, o, none⟩ = (cs : Array Value)[o]?)) (i : Nat) (hi : i < cs.size) (y : Value) : (∀ o : Nat, (w.setCell ⟨b, i, none⟩ y).cell? ⟨b, o, none⟩ = (cs.setIfInBounds i y : Array Value)[o]?) := by
  intro o
  by_cases c : i = o
  · subst c
    rw [World.cell?_setCell_same w _ _ ((h i).trans (Array.getElem?_eq_getElem hi)), Array.getElem?_setIfInBounds_self_of_lt hi]
  · rw [World.cell?_setCell_other _ _ _ _ (by first | (simp; done) | (simp; omega)), Array.getElem?_setIfInBounds_ne c]
    exact h o
theorem graph_save {B : Nat} {w w' : World} {v : Value} {g : GraphD} (h : IsGraph w v g) (hN : NoInt w B) (s : Save B w w') : IsGraph w' v g := by
  obtain ⟨iv, nv, ov, rfl, hi, hn, ho⟩ := h
  exact ⟨iv, nv, ov, rfl, vals_save hi hN s, nodes_save hn hN s, nums_save ho hN s⟩

set_option maxHeartbeats 8000000 in
theorem box_set7 {w : World} {b : Nat} {x0 x1 x2 x3 x4 x5 x6 y0 y1 y2 y3 y4 y5 y6 : Value} (h : (∀ o : Nat, w.cell? ⟨b, o, none⟩ = (#[x0, x1, x2, x3, x4, x5, x6] : Array Value)[o]?)) : (∀ o : Nat, (((((((w.setCell ⟨b, 0, none⟩ y0).setCell ⟨b, 1, none⟩ y1).setCell ⟨b, 2, none⟩ y2).setCell ⟨b, 3, none⟩ y3).setCell ⟨b, 4, none⟩ y4).setCell ⟨b, 5, none⟩ y5).setCell ⟨b, 6, none⟩ y6).cell? ⟨b, o, none⟩ = (#[y0, y1, y2, y3, y4, y5, y6] : Array Value)[o]?) := by
  have h0 := box_at h 0 (by simp) y0
  rw [show (#[x0, x1, x2, x3, x4, x5, x6] : Array Value).setIfInBounds 0 y0 = #[y0, x1, x2, x3, x4, x5, x6] from rfl] at h0
  have h1 := box_at h0 1 (by simp) y1
  rw [show (#[y0, x1, x2, x3, x4, x5, x6] : Array Value).setIfInBounds 1 y1 = #[y0, y1, x2, x3, x4, x5, x6] from rfl] at h1
  have h2 := box_at h1 2 (by simp) y2
  rw [show (#[y0, y1, x2, x3, x4, x5, x6] : Array Value).setIfInBounds 2 y2 = #[y0, y1, y2, x3, x4, x5, x6] from rfl] at h2
  have h3 := box_at h2 3 (by simp) y3
  rw [show (#[y0, y1, y2, x3, x4, x5, x6] : Array Value).setIfInBounds 3 y3 = #[y0, y1, y2, y3, x4, x5, x6] from rfl] at h3
  have h4 := box_at h3 4 (by simp) y4
  rw [show (#[y0, y1, y2, y3, x4, x5, x6] : Array Value).setIfInBounds 4 y4 = #[y0, y1, y2, y3, y4, x5, x6] from rfl] at h4
  have h5 := box_at h4 5 (by simp) y5
  rw [show (#[y0, y1, y2, y3, y4, x5, x6] : Array Value).setIfInBounds 5 y5 = #[y0, y1, y2, y3, y4, y5, x6] from rfl] at h5
  have h6 := box_at h5 6 (by simp) y6
  rw [show (#[y0, y1, y2, y3, y4, y5, x6] : Array Value).setIfInBounds 6 y6 = #[y0, y1, y2, y3, y4, y5, y6] from rfl] at h6
  exact h6
theorem noInt7 {w : World} {B : Nat} {a0 a1 a2 a3 a4 a5 a6 : Option Addr} {l0 l1 l2 l3 l4 l5 l6 c0 c1 c2 c3 c4 c5 c6 : Nat} (h : (∀ o : Nat, w.cell? ⟨B, o, none⟩ = (#[.slice a0 l0 c0, .slice a1 l1 c1, .slice a2 l2 c2, .slice a3 l3 c3, .slice a4 l4 c4, .slice a5 l5 c5, .slice a6 l6 c6] : Array Value)[o]?)) : NoInt w B := by
  intro o k n
  rw [h o]
  match o with
  | 0 => simp
  | 1 => simp
  | 2 => simp
  | 3 => simp
  | 4 => simp
  | 5 => simp
  | 6 => simp
  | o + 7 => simp
theorem len_min {α : Type} (l : List α) (m : Nat) : (l.take m).length = min m l.length := List.length_take ..
theorem nums_cap {k : IntKind} {w : World} {A : Option Addr} {len cap : Nat} {l : List Int} (h : IsNums k w (.slice A len cap) l) : l.length ≤ cap ∧ cap ≤ maxLen ∧ (0 < l.length → ∃ b off, A = some ⟨b, off, none⟩) := by
  obtain ⟨A', c', e, h1, h2, h3, h4, h5⟩ := h
  simp only [Value.slice.injEq] at e
  obtain ⟨rfl, rfl, rfl⟩ := e
  refine ⟨h1, h2, fun hp => ?_⟩
  obtain ⟨b, off, e, _⟩ := h5 hp
  exact ⟨b, off, e⟩

set_option maxHeartbeats 8000000 in
theorem less12_any (g : GraphD) (pl : List Int) (iv nv ov pv t0 t1 t2 : Value) (W : World) (hgr : IsGraph W (.agg #[iv, nv, ov]) g) (hpl : IsNums .i64 W pv pl) : Calls Try.prog 13 #[.agg #[iv, nv, ov, pv, t0, t1, t2]] W fun e w' => ∃ (A1 : Option Addr) (n1 c1 : Nat) (A2 : Option Addr) (n2 c2 : Nat) (A3 : Option Addr) (n3 c3 : Nat) (A4 : Option Addr) (n4 c4 : Nat), e = .returned (.agg #[.slice A1 n1 c1, .slice A2 n2 c2, .slice A3 n3 c3, .slice A4 n4 c4, .slice none 0 0, .slice none 0 0, .slice none 0 0]) ∧ IsGraph w' (.agg #[.slice A1 n1 c1, .slice A2 n2 c2, .slice A3 n3 c3]) (lessD g) ∧ IsNums .i64 w' (.slice A4 n4 c4) (pl.take 30) ∧ Past W w' := by
  obtain ⟨a, b, d, e, hi0, hn0, ho0⟩ := id hgr
  simp only [Value.agg.injEq, Array.mk.injEq, List.cons.injEq, and_true] at e
  obtain ⟨rfl, rfl, rfl⟩ := e
  obtain ⟨A1, c1, rfl, _⟩ := hi0
  obtain ⟨A2, c2, rfl, _⟩ := hn0
  obtain ⟨A3, c3, rfl, _⟩ := ho0
  obtain ⟨A4, c4, rfl, _⟩ := id hpl
  obtain ⟨LP, hLP⟩ : ∃ n, (pl.take 30).length = n := ⟨_, rfl⟩
  have IPL := Lib.hid (fun w (p : Past W w) => nums_cut' 30 (hpl.grow p))
  rw [hLP] at IPL
  have HLP := Lib.hid (hLP.symm.trans (len_min _ _))
  have CPL := Lib.hid (nums_cap hpl)
  have mp : pl.length ≤ 9223372036854775807 := by have := CPL.out.1; have := CPL.out.2.1; unfold maxLen at this; omega
  have HG := Lib.hid hgr
  clear hgr hpl hLP
  obtain ⟨Q, hQ⟩ : ∃ Q, W.heap.size = Q := ⟨_, rfl⟩
  obtain ⟨R, hR⟩ : ∃ R, Q + 1 = R := ⟨_, rfl⟩
  obtain ⟨G, hG⟩ : ∃ G, R + 1 = G := ⟨_, rfl⟩
  go_enter Try.func13, Try.ntmps13
  go_upto_region 1 with fail
  refine opq (fun w' => (∀ o : Nat, w'.cell? ⟨Q, o, none⟩ = (#[.slice A1 g.ins.length c1, .slice A2 g.nodes.length c2, .slice A3 g.outs.length c3, .slice A4 pl.length c4, t0, t1, t2] : Array Value)[o]?) ∧ (∀ o : Nat, w'.cell? ⟨R, o, none⟩ = (#[.slice none 0 0, .slice none 0 0, .slice none 0 0, .slice none 0 0, .slice none 0 0, .slice none 0 0, .slice none 0 0] : Array Value)[o]?) ∧ (∀ o : Nat, w'.frozen? ⟨R, o, none⟩ = false) ∧ Past W w' ∧ w'.heap.size = G) (by
    subst hG
    subst hR
    subst hQ
    exact ⟨by (exact kKeep), by (exact kKeep), by (exact kKeep), by (exact kKeep), by simp⟩) ?_
  rintro W1 ⟨m1, q1, e1, p1, z1⟩
  try rw [hQ]
  try rw [hR]
  have hg := HG.out.grow p1
  have PW := Lib.hid p1
  have M1 := Lib.hid m1
  obtain ⟨av, bv, cv0, ev, hi, hn, ho⟩ := hg
  simp only [Value.agg.injEq, Array.mk.injEq, List.cons.injEq, and_true] at ev
  obtain ⟨rfl, rfl, rfl⟩ := ev
  have HI := Lib.hid hi
  have HO := Lib.hid ho
  obtain ⟨_, _, ei, i1, i2, _, _, i5⟩ := hi
  simp only [Value.slice.injEq, true_and] at ei
  obtain ⟨rfl, rfl⟩ := ei
  obtain ⟨_, _, en, n1, n2, _, nw, n5⟩ := hn
  simp only [Value.slice.injEq, true_and] at en
  obtain ⟨rfl, rfl⟩ := en
  obtain ⟨_, _, eo, o1, o2, _, _, o5⟩ := ho
  simp only [Value.slice.injEq, true_and] at eo
  obtain ⟨rfl, rfl⟩ := eo
  have m1 : g.ins.length ≤ 9223372036854775807 := by unfold maxLen at i2; omega
  have m2 : g.nodes.length ≤ 9223372036854775807 := by unfold maxLen at n2; omega
  have m3 : g.outs.length ≤ 9223372036854775807 := by unfold maxLen at o2; omega
  have I5 := Lib.hid (fun h => i5 h)
  have O5 := Lib.hid (fun h => o5 h)
  have N5 := Lib.hid n5
  have NW := Lib.hid nw
  have hc1 : g.ins.length ≤ c1 := i1
  have hc3 : g.outs.length ≤ c3 := o1
  obtain ⟨k0, hi0, hz0, hz1, hz2⟩ := info_parts infoNode'
  have I1 := Lib.hid hi0
  have I2 := Lib.hid hz0
  have I3 := Lib.hid hz1
  have I4 := Lib.hid hz2
  have Q1 := Lib.hid q1
  have m0 := M1.out
  clear hi0 hz0 hz1 hz2 i1 i2 n1 n2 o1 o2 i5 o5 n5 nw
  go_upto_region 2 with fail
  refine opq (fun w' => (∀ o : Nat, w'.cell? ⟨G, o, none⟩ = (#[.slice A1 g.ins.length c1, .slice A2 g.nodes.length c2, .slice A3 g.outs.length c3] : Array Value)[o]?) ∧ (∀ o : Nat, w'.frozen? ⟨G, o, none⟩ = false) ∧ (∀ o : Nat, w'.cell? ⟨R, o, none⟩ = (#[.slice none 0 0, .slice none 0 0, .slice none 0 0, .slice none 0 0, .slice none 0 0, .slice none 0 0, .slice none 0 0] : Array Value)[o]?) ∧ (∀ o : Nat, w'.frozen? ⟨R, o, none⟩ = false) ∧ Past W1 w' ∧ G + 1 ≤ w'.heap.size) (by
    exact ⟨by (exact kKeep), by (exact kKeep), by (exact kKeep), by (exact kKeep), by (exact kKeep), by simp; omega⟩) ?_
  rintro w0 ⟨b0, f0, q0, e0, p0, s0⟩
  try rw [z1]
  clear q1 e1 p1 m0 Q1
  go_upto_if  13 with fail
  go_cut [] (fun w' => (∀ o : Nat, w'.cell? ⟨G, o, none⟩ = (#[.slice A1 (g.ins.take 6).length c1, .slice A2 g.nodes.length c2, .slice A3 g.outs.length c3] : Array Value)[o]?) ∧ (∀ o : Nat, w'.frozen? ⟨G, o, none⟩ = false) ∧ (∀ o : Nat, w'.cell? ⟨R, o, none⟩ = (#[.slice none 0 0, .slice none 0 0, .slice none 0 0, .slice none 0 0, .slice none 0 0, .slice none 0 0, .slice none 0 0] : Array Value)[o]?) ∧ (∀ o : Nat, w'.frozen? ⟨R, o, none⟩ = false) ∧ Past W1 w' ∧ G + 1 ≤ w'.heap.size)
  case first =>
    by_cases h : 6 < g.ins.length
    · obtain ⟨b, off, rfl, _⟩ := I5.out (by omega)
      have e : (g.ins.take 6).length = 6 := by simp; omega
      go_wp2_with fail
      go_meet
      exact ⟨by rw [e]; exact box_at b0 0 (by simp) _, by (exact kKeep), by (exact kKeep), by (exact kKeep), by (exact kKeep), by simpa only [size_setCell] using s0⟩
    · have e : g.ins.take 6 = g.ins := List.take_of_length_le (by omega)
      go_wp2_with fail
      go_meet
      exact ⟨by rw [e]; exact b0, f0, q0, e0, p0, s0⟩
  case rest =>
    clear b0 f0 q0 e0 p0 s0 I5
    obtain ⟨b0, f0, q0, e0, p0, s0⟩ := hcut
    go_upto_if  21 with fail
    go_cut [] (fun w' => (∀ o : Nat, w'.cell? ⟨G, o, none⟩ = (#[.slice A1 (g.ins.take 6).length c1, .slice A2 g.nodes.length c2, .slice A3 (g.outs.take 6).length c3] : Array Value)[o]?) ∧ (∀ o : Nat, w'.frozen? ⟨G, o, none⟩ = false) ∧ (∀ o : Nat, w'.cell? ⟨R, o, none⟩ = (#[.slice none 0 0, .slice none 0 0, .slice none 0 0, .slice none 0 0, .slice none 0 0, .slice none 0 0, .slice none 0 0] : Array Value)[o]?) ∧ (∀ o : Nat, w'.frozen? ⟨R, o, none⟩ = false) ∧ Past W1 w' ∧ G + 1 ≤ w'.heap.size)
    case first =>
      by_cases h : 6 < g.outs.length
      · obtain ⟨b, off, rfl, _⟩ := O5.out (by omega)
        have e : (g.outs.take 6).length = 6 := by simp; omega
        go_wp2_with fail
        go_meet
        exact ⟨by rw [e]; exact box_at b0 2 (by simp) _, by (exact kKeep), by (exact kKeep), by (exact kKeep), by (exact kKeep), by simpa only [size_setCell] using s0⟩
      · have e : g.outs.take 6 = g.outs := List.take_of_length_le (by omega)
        go_wp2_with fail
        go_meet
        exact ⟨by rw [e]; exact b0, f0, q0, e0, p0, s0⟩
    case rest =>
      clear b0 f0 q0 e0 p0 s0 O5
      obtain ⟨b0, f0, q0, e0, p0, s0⟩ := hcut
      have V1 := Lib.hid (vals_cut' 6 HI.out)
      have V3 := Lib.hid (nums_cut' 6 HO.out)
      obtain ⟨L1, hL1⟩ : ∃ n, (g.ins.take 6).length = n := ⟨_, rfl⟩
      obtain ⟨L3, hL3⟩ : ∃ n, (g.outs.take 6).length = n := ⟨_, rfl⟩
      rw [hL1] at b0 V1
      rw [hL3] at b0 V3
      have HL := Lib.hid (And.intro hL1 hL3)
      clear hL1 hL3 HI HO
      go_upto_region  7 with fail
      obtain ⟨P3, hP3⟩ : ∃ n, wc.heap.size = n := ⟨_, rfl⟩
      refine opq (fun w' => (∀ o : Nat, w'.cell? ⟨G, o, none⟩ = (#[.slice A1 L1 c1, .slice A2 g.nodes.length c2, .slice A3 L3 c3] : Array Value)[o]?) ∧ (∀ o : Nat, w'.frozen? ⟨G, o, none⟩ = false) ∧ (∀ o : Nat, w'.cell? ⟨R, o, none⟩ = (#[.slice none 0 0, .slice none 0 0, .slice none 0 0, .slice none 0 0, .slice none 0 0, .slice none 0 0, .slice none 0 0] : Array Value)[o]?) ∧ (∀ o : Nat, w'.frozen? ⟨R, o, none⟩ = false) ∧ Past W1 w' ∧ G + 2 ≤ w'.heap.size ∧ Hid (w'.ownsRow (G + 1) 50 14 (.slice (some ⟨P3, 0, none⟩) 0 0) 0 [])) (by
        subst hP3
        exact ⟨by (exact kKeep), by (exact kKeep), by (exact kKeep), by (exact kKeep), by (exact kKeep), by simp; omega, Lib.hid (World.ownsRow_made wc #[] 0 (by omega) (by simp) (by simp))⟩) ?_
      rintro w1 ⟨b1, f1, q1, e1, p1, s1, ow1⟩
      try rw [hP3]
      clear b0 f0 q0 e0 p0 s0 hP3
      obtain ⟨N, hN⟩ : ∃ N, N = min g.nodes.length 14 := ⟨_, rfl⟩
      go_wp2_with fail
      go_loopw [4, 5] (fun v i wr => ∃ (k : Nat) (xs : List Value), k ≤ N ∧ i = .int .i64 k ∧ Hid (wr.ownsRow (G + 1) 50 14 v k xs) ∧ Hid (RowsO W1 ((g.nodes.take k).map fewD) xs) ∧ (∀ o : Nat, wr.cell? ⟨G, o, none⟩ = (#[.slice A1 L1 c1, .slice A2 g.nodes.length c2, .slice A3 L3 c3] : Array Value)[o]?) ∧ (∀ o : Nat, wr.frozen? ⟨G, o, none⟩ = false) ∧ (∀ o : Nat, wr.cell? ⟨R, o, none⟩ = (#[.slice none 0 0, .slice none 0 0, .slice none 0 0, .slice none 0 0, .slice none 0 0, .slice none 0 0, .slice none 0 0] : Array Value)[o]?) ∧ (∀ o : Nat, wr.frozen? ⟨R, o, none⟩ = false) ∧ Past W1 wr ∧ G + 2 ≤ wr.heap.size) (fun _ i _ => N - (intOf i).toNat)
      case atStart => exact ⟨0, [], by omega, rfl, ow1, Lib.hid (fun j hj => by simp at hj), b1, f1, q1, e1, p1, s1⟩
      case round =>
        clear ow1 b1 f1 q1 e1 p1 s1
        obtain ⟨k, xs, hk, rfl, own, rows, b1, f1, q1, e1, p1, s1⟩ := hrel
        by_cases h : k < N
        · have h1 : k < g.nodes.length := by omega
          have h2 : k < 14 := by omega
          obtain ⟨nb, no, rfl, hnb, hnc⟩ := N5.out (by omega)
          obtain ⟨vi, vw, vb, hin, hcell⟩ := hnc k h1
          obtain ⟨n, hnk⟩ : ∃ n, g.nodes.getD k default = n := ⟨_, rfl⟩
          rw [hnk] at hin hcell
          have IN := Lib.hid hin
          obtain ⟨Ai, ci, rfl, f3, f4, _, _, f7⟩ := hin.1
          obtain ⟨Aw, cw, rfl, f5, f6, _, _, f8⟩ := hin.2.1
          obtain ⟨Ab, cb, rfl, f9, f10, _, _, f11⟩ := hin.2.2
          have hi1 : n.ins.length ≤ 9223372036854775807 := by unfold maxLen at f4; omega
          have hi2 : n.ws.length ≤ 9223372036854775807 := by unfold maxLen at f6; omega
          have hi3 : n.bs.length ≤ 9223372036854775807 := by unfold maxLen at f10; omega
          have F7 := Lib.hid (fun h => f7 h)
          have F8 := Lib.hid (fun h => f8 h)
          have F11 := Lib.hid (fun h => f11 h)
          have hcell := fun j (hj : j < 14) => (p1.cell hnb).trans (hcell j hj)
          have x0 := hcell 0 (by omega)
          have x1 := hcell 1 (by omega)
          have x2 := hcell 2 (by omega)
          have x3 := hcell 3 (by omega)
          have x4 := hcell 4 (by omega)
          have x5 := hcell 5 (by omega)
          have x6 := hcell 6 (by omega)
          have x7 := hcell 7 (by omega)
          have x8 := hcell 8 (by omega)
          have x9 := hcell 9 (by omega)
          have x10 := hcell 10 (by omega)
          have x11 := hcell 11 (by omega)
          have x12 := hcell 12 (by omega)
          have x13 := hcell 13 (by omega)
          simp only [nodeCells, List.getElem?_cons_zero, List.getElem?_cons_succ, Nat.add_zero] at x0 x1 x2 x3 x4 x5 x6 x7 x8 x9 x10 x11 x12 x13
          have NK := Lib.hid hnk
          have n1 : G ≠ wr.heap.size := by omega
          have n2 : G < wr.heap.size := by omega
          have i1 : (0 : Int) ≤ (k : Int) := by omega
          have i2 : (k : Int) < (g.nodes.length : Int) := by omega
          obtain ⟨P8, hP8⟩ : ∃ P8, wr.heap.size = P8 := ⟨_, rfl⟩
          clear hnk hnc hin hcell f7 f8 f11 f4 f6 f10
          go_upto_region  11 with fail
          refine opq (fun w' => (∀ o : Nat, w'.cell? ⟨P8, o, none⟩ = (#[.int .i64 n.op, (.slice Ai n.ins.length ci), .int .i64 n.k, .int .i64 n.stride, .int .i64 n.pad, .int .i64 n.out, .int .i64 n.mul, .int .i64 n.shift, .int .i64 n.zero, .int .i64 n.th, .int .i64 n.tw, .int .i64 n.tc, (.slice Aw n.ws.length cw), (.slice Ab n.bs.length cb)] : Array Value)[o]?) ∧ (∀ o : Nat, w'.frozen? ⟨P8, o, none⟩ = false) ∧ (∀ o : Nat, w'.cell? ⟨G, o, none⟩ = (#[.slice A1 L1 c1, .slice (some ⟨nb, no, none⟩) g.nodes.length c2, .slice A3 L3 c3] : Array Value)[o]?) ∧ (∀ o : Nat, w'.frozen? ⟨G, o, none⟩ = false) ∧ (∀ o : Nat, w'.cell? ⟨R, o, none⟩ = (#[.slice none 0 0, .slice none 0 0, .slice none 0 0, .slice none 0 0, .slice none 0 0, .slice none 0 0, .slice none 0 0] : Array Value)[o]?) ∧ (∀ o : Nat, w'.frozen? ⟨R, o, none⟩ = false) ∧ Past W1 w' ∧ P8 + 1 ≤ w'.heap.size ∧ Hid (w'.ownsRow (G + 1) 50 14 u4 k xs)) (by
            subst hP8
            exact ⟨by (exact kKeep), by (exact kKeep), by (exact kKeep), by (exact kKeep), by (exact kKeep), by (exact kKeep), by (exact kKeep), by simp, Lib.hid (World.ownsRow.alloc own.out _)⟩) ?_
          rintro w2 ⟨y2, z2, b2, f2, q2, e2, p2, s2, ow2⟩
          have hP : G + 2 ≤ P8 := by omega
          have HLT0 : Hid (∀ j, u4.ownBlock = some j → G + 1 ≤ j ∧ j < P8) := Lib.hid (by
            intro j hj
            have := World.ownsRow.lt own.out j hj
            omega)
          clear x0 x1 x2 x3 x4 x5 x6 x7 x8 x9 x10 x11 x12 x13 own b1 f1 q1 e1 p1 s1 hP8 n1 n2
          go_upto_if  46 with fail
          go_cut [] (fun w' => (∀ o : Nat, w'.cell? ⟨P8, o, none⟩ = (#[.int .i64 n.op, (.slice Ai (n.ins.take 20).length ci), .int .i64 n.k, .int .i64 n.stride, .int .i64 n.pad, .int .i64 n.out, .int .i64 n.mul, .int .i64 n.shift, .int .i64 n.zero, .int .i64 n.th, .int .i64 n.tw, .int .i64 n.tc, (.slice Aw n.ws.length cw), (.slice Ab n.bs.length cb)] : Array Value)[o]?) ∧ (∀ o : Nat, w'.frozen? ⟨P8, o, none⟩ = false) ∧ (∀ o : Nat, w'.cell? ⟨G, o, none⟩ = (#[.slice A1 L1 c1, .slice (some ⟨nb, no, none⟩) g.nodes.length c2, .slice A3 L3 c3] : Array Value)[o]?) ∧ (∀ o : Nat, w'.frozen? ⟨G, o, none⟩ = false) ∧ (∀ o : Nat, w'.cell? ⟨R, o, none⟩ = (#[.slice none 0 0, .slice none 0 0, .slice none 0 0, .slice none 0 0, .slice none 0 0, .slice none 0 0, .slice none 0 0] : Array Value)[o]?) ∧ (∀ o : Nat, w'.frozen? ⟨R, o, none⟩ = false) ∧ Past W1 w' ∧ P8 + 1 ≤ w'.heap.size ∧ Hid (w'.ownsRow (G + 1) 50 14 u4 k xs))
          case first =>
            by_cases hc : 20 < n.ins.length
            · obtain ⟨b, off, rfl, _⟩ := F7.out (by omega)
              have e : (n.ins.take 20).length = 20 := by simp; omega
              have hcap2 : 20 ≤ ci := by
                obtain ⟨_, _, hv, hcap, _, _, _, _⟩ := IN.out.1
                simp only [Value.slice.injEq] at hv
                omega
              go_wp2_with fail
              go_meet
              exact ⟨by rw [e]; exact box_at y2 1 (by simp) _, by (exact kKeep), by (exact kKeep), by (exact kKeep), by (exact kKeep), by (exact kKeep), by (exact kKeep), by simpa only [size_setCell] using s2, Lib.hid (own_set_ne ow2.out (fun j hj => by have := (HLT0.out j hj).2; omega))⟩
            · have e : n.ins.take 20 = n.ins := List.take_of_length_le (by omega)
              go_wp2_with fail
              go_meet
              exact ⟨by rw [e]; exact y2, z2, b2, f2, q2, e2, p2, s2, ow2⟩
          case rest =>
            clear y2 z2 b2 f2 q2 e2 p2 s2 ow2 F7
            obtain ⟨y2, z2, b2, f2, q2, e2, p2, s2, ow2⟩ := hcut
            go_upto_if  54 with fail
            go_cut [] (fun w' => (∀ o : Nat, w'.cell? ⟨P8, o, none⟩ = (#[.int .i64 n.op, (.slice Ai (n.ins.take 20).length ci), .int .i64 n.k, .int .i64 n.stride, .int .i64 n.pad, .int .i64 n.out, .int .i64 n.mul, .int .i64 n.shift, .int .i64 n.zero, .int .i64 n.th, .int .i64 n.tw, .int .i64 n.tc, (.slice Aw (n.ws.take 5000).length cw), (.slice Ab n.bs.length cb)] : Array Value)[o]?) ∧ (∀ o : Nat, w'.frozen? ⟨P8, o, none⟩ = false) ∧ (∀ o : Nat, w'.cell? ⟨G, o, none⟩ = (#[.slice A1 L1 c1, .slice (some ⟨nb, no, none⟩) g.nodes.length c2, .slice A3 L3 c3] : Array Value)[o]?) ∧ (∀ o : Nat, w'.frozen? ⟨G, o, none⟩ = false) ∧ (∀ o : Nat, w'.cell? ⟨R, o, none⟩ = (#[.slice none 0 0, .slice none 0 0, .slice none 0 0, .slice none 0 0, .slice none 0 0, .slice none 0 0, .slice none 0 0] : Array Value)[o]?) ∧ (∀ o : Nat, w'.frozen? ⟨R, o, none⟩ = false) ∧ Past W1 w' ∧ P8 + 1 ≤ w'.heap.size ∧ Hid (w'.ownsRow (G + 1) 50 14 u4 k xs))
            case first =>
              by_cases hc : 5000 < n.ws.length
              · obtain ⟨b, off, rfl, _⟩ := F8.out (by omega)
                have e : (n.ws.take 5000).length = 5000 := by simp; omega
                have hcap2 : 5000 ≤ cw := by
                  obtain ⟨_, _, hv, hcap, _, _, _, _⟩ := IN.out.2.1
                  simp only [Value.slice.injEq] at hv
                  omega
                go_wp2_with fail
                go_meet
                exact ⟨by rw [e]; exact box_at y2 12 (by simp) _, by (exact kKeep), by (exact kKeep), by (exact kKeep), by (exact kKeep), by (exact kKeep), by (exact kKeep), by simpa only [size_setCell] using s2, Lib.hid (own_set_ne ow2.out (fun j hj => by have := (HLT0.out j hj).2; omega))⟩
              · have e : n.ws.take 5000 = n.ws := List.take_of_length_le (by omega)
                go_wp2_with fail
                go_meet
                exact ⟨by rw [e]; exact y2, z2, b2, f2, q2, e2, p2, s2, ow2⟩
            case rest =>
              clear y2 z2 b2 f2 q2 e2 p2 s2 ow2 F8
              obtain ⟨y2, z2, b2, f2, q2, e2, p2, s2, ow2⟩ := hcut
              go_upto_if  62 with fail
              go_cut [] (fun w' => (∀ o : Nat, w'.cell? ⟨P8, o, none⟩ = (#[.int .i64 n.op, (.slice Ai (n.ins.take 20).length ci), .int .i64 n.k, .int .i64 n.stride, .int .i64 n.pad, .int .i64 n.out, .int .i64 n.mul, .int .i64 n.shift, .int .i64 n.zero, .int .i64 n.th, .int .i64 n.tw, .int .i64 n.tc, (.slice Aw (n.ws.take 5000).length cw), (.slice Ab (n.bs.take 20).length cb)] : Array Value)[o]?) ∧ (∀ o : Nat, w'.frozen? ⟨P8, o, none⟩ = false) ∧ (∀ o : Nat, w'.cell? ⟨G, o, none⟩ = (#[.slice A1 L1 c1, .slice (some ⟨nb, no, none⟩) g.nodes.length c2, .slice A3 L3 c3] : Array Value)[o]?) ∧ (∀ o : Nat, w'.frozen? ⟨G, o, none⟩ = false) ∧ (∀ o : Nat, w'.cell? ⟨R, o, none⟩ = (#[.slice none 0 0, .slice none 0 0, .slice none 0 0, .slice none 0 0, .slice none 0 0, .slice none 0 0, .slice none 0 0] : Array Value)[o]?) ∧ (∀ o : Nat, w'.frozen? ⟨R, o, none⟩ = false) ∧ Past W1 w' ∧ P8 + 1 ≤ w'.heap.size ∧ Hid (w'.ownsRow (G + 1) 50 14 u4 k xs))
              case first =>
                by_cases hc : 20 < n.bs.length
                · obtain ⟨b, off, rfl, _⟩ := F11.out (by omega)
                  have e : (n.bs.take 20).length = 20 := by simp; omega
                  have hcap2 : 20 ≤ cb := by
                    obtain ⟨_, _, hv, hcap, _, _, _, _⟩ := IN.out.2.2
                    simp only [Value.slice.injEq] at hv
                    omega
                  go_wp2_with fail
                  go_meet
                  exact ⟨by rw [e]; exact box_at y2 13 (by simp) _, by (exact kKeep), by (exact kKeep), by (exact kKeep), by (exact kKeep), by (exact kKeep), by (exact kKeep), by simpa only [size_setCell] using s2, Lib.hid (own_set_ne ow2.out (fun j hj => by have := (HLT0.out j hj).2; omega))⟩
                · have e : n.bs.take 20 = n.bs := List.take_of_length_le (by omega)
                  go_wp2_with fail
                  go_meet
                  exact ⟨by rw [e]; exact y2, z2, b2, f2, q2, e2, p2, s2, ow2⟩
              case rest =>
                clear y2 z2 b2 f2 q2 e2 p2 s2 ow2 F11
                obtain ⟨y2, z2, b2, f2, q2, e2, p2, s2, ow2⟩ := hcut
                have IF : Hid (NodeIn W1 (fewD n) (.slice Ai (n.ins.take 20).length ci) (.slice Aw (n.ws.take 5000).length cw) (.slice Ab (n.bs.take 20).length cb)) := Lib.hid ⟨nums_cut' 20 IN.out.1, nums_cut' 5000 IN.out.2.1, nums_cut' 20 IN.out.2.2⟩
                obtain ⟨La, hLa⟩ : ∃ m, (n.ins.take 20).length = m := ⟨_, rfl⟩
                obtain ⟨Lw, hLw⟩ : ∃ m, (n.ws.take 5000).length = m := ⟨_, rfl⟩
                obtain ⟨Lb, hLb⟩ : ∃ m, (n.bs.take 20).length = m := ⟨_, rfl⟩
                rw [hLa, hLw, hLb] at y2 IF
                clear hLa hLw hLb
                have HXL := Lib.hid ow2.out.1
                go_wp2_with (at_builtin; refine wpList_append_own _ rfl (.tmp  67) (.tmp  69) 33 rfl (G + 1) 50 k0 _ 14 160 Try.underlying33 I1.out I2.out I3.out I4.out rfl (by decide) _ _ _ rfl (World.ownsRow.alloc ow2.out _) ⟨wc.heap.size, 0, none⟩ 1 1 (nodeCells (fewD n) (.slice Ai La ci) (.slice Aw Lw cw) (.slice Ab Lb cb)) rfl rfl (fun j u hu => cells_new' wc _ 50 j u hu) (node_cells_one IF.out) ?c4 ?c5 ?c6 ?_)
                case c4 => unfold maxLen; omega
                case c5 => omega
                case c6 => first | omega | (simp; omega)
                intro v4 w4 hown4 hgrow _
                have hr4 : ∀ j, u4.ownBlock = some j → G + 1 ≤ j := fun j hj => (HLT0.out j hj).1
                have b4 := box_grownBy hgrow (box_old b2 (by omega)) (by simp; omega) (fun e => by have := hr4 _ e.symm; omega)
                have f4 := free_grownBy' hgrow (free_alloc f2) (by simp; omega) (fun e => by have := hr4 _ e.symm; omega)
                have q4 := box_grownBy hgrow (box_old q2 (by omega)) (by simp; omega) (fun e => by have := hr4 _ e.symm; omega)
                have e4 := free_grownBy' hgrow (free_alloc e2) (by simp; omega) (fun e => by have := hr4 _ e.symm; omega)
                have p4 : Past W1 w4 := (p2.alloc _).grownBy hgrow (fun j hj => by have := hr4 j hj; omega)
                have s4 : G + 2 ≤ w4.heap.size := by have := hgrow.size; simp only [World.size_alloc] at this; omega
                have ow4 := Lib.hid hown4
                have rows4 : Hid (RowsO W1 ((g.nodes.take (k + 1)).map fewD) (xs ++ (nodeCells (fewD n) (.slice Ai La ci) (.slice Aw Lw cw) (.slice Ab Lb cb)))) := Lib.hid (by
                  rw [few_take _ _ h1, NK.out]
                  exact rows.out.more (by rw [HXL.out]; simp; omega) IF.out)
                clear hown4 hgrow hr4 y2 z2 b2 f2 q2 e2 p2 s2 ow2 IF HXL HLT0 rows
                go_wp2_with fail
                go_roundw
                case rel => exact ⟨k + 1, xs ++ (nodeCells (fewD n) (.slice Ai La ci) (.slice Aw Lw cw) (.slice Ab Lb cb)), by omega, by go_num, ow4, rows4, b4, f4, q4, e4, p4, s4⟩
                case measure => simp [intOf]; omega
        · obtain ⟨Av, cv, rfl, _, _⟩ := own_slice' own.out
          have hkl : ((g.nodes.take 14).map fewD).length = k := by simp; omega
          have htk : g.nodes.take k = g.nodes.take 14 := by
            by_cases c : g.nodes.length ≤ 14
            · rw [List.take_of_length_le (by omega), List.take_of_length_le (by omega)]
            · congr 1; omega
          have rows' := rows.out
          rw [htk] at rows'
          have FIN : Hid (∀ (w : World) (A : Option Addr) (c : Nat), w.ownsRow (G + 1) 50 14 (.slice A k c) k xs → Past W1 w → IsGraph w (.agg #[.slice A1 L1 c1, .slice A k c, .slice A3 L3 c3]) (lessD g)) := Lib.hid (by
            intro w A c ho p
            refine ⟨_, _, _, rfl, V1.out.grow p, ?_, V3.out.grow p⟩
            refine nodes_of_rowsO (base := G + 1) (by rw [show (lessD g).nodes.length = k from hkl]; exact ho) rows' p (fun n hn => ?_)
            obtain ⟨m, hm, rfl⟩ := List.mem_map.1 hn
            exact NW.out m (List.mem_of_mem_take hm))
          clear hkl htk rows' rows
          by_cases hx : k < g.nodes.length
          · have hx2 : ¬ k < 14 := by omega
            have d1 : decide ((k : Int) < 14) = false := by simp; omega
            go_upto_region 19 with fail
            have hGO : G + 2 ≤ wr.heap.size := s1
            have HLT : Hid (∀ j, (Value.slice Av k cv).ownBlock = some j → G + 1 ≤ j ∧ j < wr.heap.size) := Lib.hid (World.ownsRow.lt own.out)
            obtain ⟨O, hO⟩ : ∃ O, wr.heap.size = O := ⟨_, rfl⟩
            rw [hO] at HLT hGO s1
            have m1 := box_past p1 M1.out (by omega)
            refine opq (fun w' => (∀ o : Nat, w'.cell? ⟨G, o, none⟩ = (#[.slice A1 L1 c1, .slice Av k cv, .slice A3 L3 c3] : Array Value)[o]?) ∧ (∀ o : Nat, w'.cell? ⟨R, o, none⟩ = (#[.slice none 0 0, .slice none 0 0, .slice none 0 0, .slice none 0 0, .slice none 0 0, .slice none 0 0, .slice none 0 0] : Array Value)[o]?) ∧ (∀ o : Nat, w'.frozen? ⟨R, o, none⟩ = false) ∧ (∀ o : Nat, w'.cell? ⟨Q, o, none⟩ = (#[.slice A1 g.ins.length c1, .slice A2 g.nodes.length c2, .slice A3 g.outs.length c3, .slice A4 pl.length c4, t0, t1, t2] : Array Value)[o]?) ∧ Past W1 w' ∧ w'.heap.size = O ∧ Hid (w'.ownsRow (G + 1) 50 14 (.slice Av k cv) k xs)) ⟨box_at b1 1 (by simp) _, by (exact kKeep), by (exact kKeep), by (exact kKeep), by (exact kKeep), by simpa [World.setCell] using hO, Lib.hid (own_set_ne own.out (fun j hj => by have := (HLT.out j hj).1; omega))⟩ ?_
            clear b1 f1 q1 e1 m1 p1 s1 own hO
            rintro w3 ⟨g3, q3, e3, m3, p3, hO, ow3⟩
            go_upto_region 20 with fail
            refine opq (fun w' => (∀ o : Nat, w'.cell? ⟨O, o, none⟩ = (#[.slice A1 L1 c1, .slice Av k cv, .slice A3 L3 c3, .slice A4 pl.length c4, .slice none 0 0, .slice none 0 0, .slice none 0 0] : Array Value)[o]?) ∧ (∀ o : Nat, w'.frozen? ⟨O, o, none⟩ = false) ∧ (∀ o : Nat, w'.cell? ⟨R, o, none⟩ = (#[.slice none 0 0, .slice none 0 0, .slice none 0 0, .slice none 0 0, .slice none 0 0, .slice none 0 0, .slice none 0 0] : Array Value)[o]?) ∧ (∀ o : Nat, w'.frozen? ⟨R, o, none⟩ = false) ∧ (∀ o : Nat, w'.cell? ⟨Q, o, none⟩ = (#[.slice A1 g.ins.length c1, .slice A2 g.nodes.length c2, .slice A3 g.outs.length c3, .slice A4 pl.length c4, t0, t1, t2] : Array Value)[o]?) ∧ Past W1 w' ∧ O + 1 ≤ w'.heap.size ∧ Hid (w'.ownsRow (G + 1) 50 14 (.slice Av k cv) k xs)) (by
              subst hO
              exact ⟨by (exact kKeep), by (exact kKeep), by (exact kKeep), by (exact kKeep), by (exact kKeep), by (exact kKeep), by simp, Lib.hid (World.ownsRow.alloc ow3.out _)⟩) ?_
            rintro w4 ⟨b0, f0, q0, e0, m0, p0, s0, ow0⟩
            try rw [hO]
            clear g3 q3 e3 m3 p3 ow3 hO
            go_upto_if 80 with fail
            go_cut [] (fun w' => (∀ o : Nat, w'.cell? ⟨O, o, none⟩ = (#[.slice A1 L1 c1, .slice Av k cv, .slice A3 L3 c3, .slice A4 LP c4, .slice none 0 0, .slice none 0 0, .slice none 0 0] : Array Value)[o]?) ∧ (∀ o : Nat, w'.frozen? ⟨O, o, none⟩ = false) ∧ (∀ o : Nat, w'.cell? ⟨R, o, none⟩ = (#[.slice none 0 0, .slice none 0 0, .slice none 0 0, .slice none 0 0, .slice none 0 0, .slice none 0 0, .slice none 0 0] : Array Value)[o]?) ∧ (∀ o : Nat, w'.frozen? ⟨R, o, none⟩ = false) ∧ (∀ o : Nat, w'.cell? ⟨Q, o, none⟩ = (#[.slice A1 g.ins.length c1, .slice A2 g.nodes.length c2, .slice A3 g.outs.length c3, .slice A4 pl.length c4, t0, t1, t2] : Array Value)[o]?) ∧ Past W1 w' ∧ O + 1 ≤ w'.heap.size ∧ Hid (w'.ownsRow (G + 1) 50 14 (.slice Av k cv) k xs))
            case first =>
              by_cases h : 30 < pl.length
              · have e : LP = 30 := by have := HLP.out; omega
                have hcap : 30 ≤ c4 := by have := CPL.out.1; omega
                obtain ⟨b, off, hA⟩ := CPL.out.2.2 (by omega)
                subst hA
                go_wp2_with fail
                go_meet
                exact ⟨by rw [e]; exact box_at b0 3 (by simp) _, by (exact kKeep), by (exact kKeep), by (exact kKeep), by (exact kKeep), by (exact kKeep), by simpa only [size_setCell] using s0, Lib.hid (own_set_ne ow0.out (fun j hj => by have := (HLT.out j hj).2; omega))⟩
              · have e : LP = pl.length := by have := HLP.out; omega
                go_wp2_with fail
                go_meet
                exact ⟨by rw [e]; exact b0, f0, q0, e0, m0, p0, s0, ow0⟩
            case rest =>
              clear b0 f0 q0 e0 m0 p0 s0 ow0
              obtain ⟨b0, f0, q0, e0, m0, p0, s0, ow0⟩ := hcut
              obtain ⟨wz, hwz⟩ : ∃ wz, wz = wc := ⟨_, rfl⟩
              subst hwz
              go_wp2_with fail
              have q9 := box_set7 q0 (y0 := .slice A1 L1 c1) (y1 := .slice Av k cv) (y2 := .slice A3 L3 c3) (y3 := .slice A4 LP c4) (y4 := .slice none 0 0) (y5 := .slice none 0 0) (y6 := .slice none 0 0)
              have IG0 := FIN.out _ _ _ ow0.out p0
              have sv := ((((((((Save.refl R wz).set 0 (.slice A1 L1 c1)).set 1 (.slice Av k cv)).set 2 (.slice A3 L3 c3)).set 3 (.slice A4 LP c4)).set 4 (.slice none 0 0)).set 5 (.slice none 0 0)).set 6 (.slice none 0 0))
              have IG := Lib.hid (graph_save IG0 (noInt7 q0) sv)
              have pW := PW.out.trans p0
              have p9 : Past W (((((((wz.setCell ⟨R, 0, none⟩ (.slice A1 L1 c1)).setCell ⟨R, 1, none⟩ (.slice Av k cv)).setCell ⟨R, 2, none⟩ (.slice A3 L3 c3)).setCell ⟨R, 3, none⟩ (.slice A4 LP c4)).setCell ⟨R, 4, none⟩ (.slice none 0 0)).setCell ⟨R, 5, none⟩ (.slice none 0 0)).setCell ⟨R, 6, none⟩ (.slice none 0 0)) := ((((((((((((((pW).setCell (p := ⟨R, 0, none⟩) (by simp only; omega) _)).setCell (p := ⟨R, 1, none⟩) (by simp only; omega) _)).setCell (p := ⟨R, 2, none⟩) (by simp only; omega) _)).setCell (p := ⟨R, 3, none⟩) (by simp only; omega) _)).setCell (p := ⟨R, 4, none⟩) (by simp only; omega) _)).setCell (p := ⟨R, 5, none⟩) (by simp only; omega) _)).setCell (p := ⟨R, 6, none⟩) (by simp only; omega) _)
              clear q0 b0 f0 e0 m0 p0 s0 ow0 IG0 sv pW
              generalize (((((((wz.setCell ⟨R, 0, none⟩ (.slice A1 L1 c1)).setCell ⟨R, 1, none⟩ (.slice Av k cv)).setCell ⟨R, 2, none⟩ (.slice A3 L3 c3)).setCell ⟨R, 3, none⟩ (.slice A4 LP c4)).setCell ⟨R, 4, none⟩ (.slice none 0 0)).setCell ⟨R, 5, none⟩ (.slice none 0 0)).setCell ⟨R, 6, none⟩ (.slice none 0 0)) = w9 at *
              have IP := IPL.out _ p9
              exact bodyPost_ret (v := .agg #[.slice A1 L1 c1, .slice Av k cv, .slice A3 L3 c3, .slice A4 LP c4, .slice none 0 0, .slice none 0 0, .slice none 0 0]) (by simp [results, Try.results13, go_sem, q9]) rfl ⟨_, _, _, _, _, _, _, _, _, _, _, _, rfl, IG.out, IP, p9⟩
          · have d1 : decide ((k : Int) < (g.nodes.length : Int)) = false := by simp; omega
            go_upto_region 19 with fail
            have hGO : G + 2 ≤ wr.heap.size := s1
            have HLT : Hid (∀ j, (Value.slice Av k cv).ownBlock = some j → G + 1 ≤ j ∧ j < wr.heap.size) := Lib.hid (World.ownsRow.lt own.out)
            obtain ⟨O, hO⟩ : ∃ O, wr.heap.size = O := ⟨_, rfl⟩
            rw [hO] at HLT hGO s1
            have m1 := box_past p1 M1.out (by omega)
            refine opq (fun w' => (∀ o : Nat, w'.cell? ⟨G, o, none⟩ = (#[.slice A1 L1 c1, .slice Av k cv, .slice A3 L3 c3] : Array Value)[o]?) ∧ (∀ o : Nat, w'.cell? ⟨R, o, none⟩ = (#[.slice none 0 0, .slice none 0 0, .slice none 0 0, .slice none 0 0, .slice none 0 0, .slice none 0 0, .slice none 0 0] : Array Value)[o]?) ∧ (∀ o : Nat, w'.frozen? ⟨R, o, none⟩ = false) ∧ (∀ o : Nat, w'.cell? ⟨Q, o, none⟩ = (#[.slice A1 g.ins.length c1, .slice A2 g.nodes.length c2, .slice A3 g.outs.length c3, .slice A4 pl.length c4, t0, t1, t2] : Array Value)[o]?) ∧ Past W1 w' ∧ w'.heap.size = O ∧ Hid (w'.ownsRow (G + 1) 50 14 (.slice Av k cv) k xs)) ⟨box_at b1 1 (by simp) _, by (exact kKeep), by (exact kKeep), by (exact kKeep), by (exact kKeep), by simpa [World.setCell] using hO, Lib.hid (own_set_ne own.out (fun j hj => by have := (HLT.out j hj).1; omega))⟩ ?_
            clear b1 f1 q1 e1 m1 p1 s1 own hO
            rintro w3 ⟨g3, q3, e3, m3, p3, hO, ow3⟩
            go_upto_region 20 with fail
            refine opq (fun w' => (∀ o : Nat, w'.cell? ⟨O, o, none⟩ = (#[.slice A1 L1 c1, .slice Av k cv, .slice A3 L3 c3, .slice A4 pl.length c4, .slice none 0 0, .slice none 0 0, .slice none 0 0] : Array Value)[o]?) ∧ (∀ o : Nat, w'.frozen? ⟨O, o, none⟩ = false) ∧ (∀ o : Nat, w'.cell? ⟨R, o, none⟩ = (#[.slice none 0 0, .slice none 0 0, .slice none 0 0, .slice none 0 0, .slice none 0 0, .slice none 0 0, .slice none 0 0] : Array Value)[o]?) ∧ (∀ o : Nat, w'.frozen? ⟨R, o, none⟩ = false) ∧ (∀ o : Nat, w'.cell? ⟨Q, o, none⟩ = (#[.slice A1 g.ins.length c1, .slice A2 g.nodes.length c2, .slice A3 g.outs.length c3, .slice A4 pl.length c4, t0, t1, t2] : Array Value)[o]?) ∧ Past W1 w' ∧ O + 1 ≤ w'.heap.size ∧ Hid (w'.ownsRow (G + 1) 50 14 (.slice Av k cv) k xs)) (by
              subst hO
              exact ⟨by (exact kKeep), by (exact kKeep), by (exact kKeep), by (exact kKeep), by (exact kKeep), by (exact kKeep), by simp, Lib.hid (World.ownsRow.alloc ow3.out _)⟩) ?_
            rintro w4 ⟨b0, f0, q0, e0, m0, p0, s0, ow0⟩
            try rw [hO]
            clear g3 q3 e3 m3 p3 ow3 hO
            go_upto_if 80 with fail
            go_cut [] (fun w' => (∀ o : Nat, w'.cell? ⟨O, o, none⟩ = (#[.slice A1 L1 c1, .slice Av k cv, .slice A3 L3 c3, .slice A4 LP c4, .slice none 0 0, .slice none 0 0, .slice none 0 0] : Array Value)[o]?) ∧ (∀ o : Nat, w'.frozen? ⟨O, o, none⟩ = false) ∧ (∀ o : Nat, w'.cell? ⟨R, o, none⟩ = (#[.slice none 0 0, .slice none 0 0, .slice none 0 0, .slice none 0 0, .slice none 0 0, .slice none 0 0, .slice none 0 0] : Array Value)[o]?) ∧ (∀ o : Nat, w'.frozen? ⟨R, o, none⟩ = false) ∧ (∀ o : Nat, w'.cell? ⟨Q, o, none⟩ = (#[.slice A1 g.ins.length c1, .slice A2 g.nodes.length c2, .slice A3 g.outs.length c3, .slice A4 pl.length c4, t0, t1, t2] : Array Value)[o]?) ∧ Past W1 w' ∧ O + 1 ≤ w'.heap.size ∧ Hid (w'.ownsRow (G + 1) 50 14 (.slice Av k cv) k xs))
            case first =>
              by_cases h : 30 < pl.length
              · have e : LP = 30 := by have := HLP.out; omega
                have hcap : 30 ≤ c4 := by have := CPL.out.1; omega
                obtain ⟨b, off, hA⟩ := CPL.out.2.2 (by omega)
                subst hA
                go_wp2_with fail
                go_meet
                exact ⟨by rw [e]; exact box_at b0 3 (by simp) _, by (exact kKeep), by (exact kKeep), by (exact kKeep), by (exact kKeep), by (exact kKeep), by simpa only [size_setCell] using s0, Lib.hid (own_set_ne ow0.out (fun j hj => by have := (HLT.out j hj).2; omega))⟩
              · have e : LP = pl.length := by have := HLP.out; omega
                go_wp2_with fail
                go_meet
                exact ⟨by rw [e]; exact b0, f0, q0, e0, m0, p0, s0, ow0⟩
            case rest =>
              clear b0 f0 q0 e0 m0 p0 s0 ow0
              obtain ⟨b0, f0, q0, e0, m0, p0, s0, ow0⟩ := hcut
              obtain ⟨wz, hwz⟩ : ∃ wz, wz = wc := ⟨_, rfl⟩
              subst hwz
              go_wp2_with fail
              have q9 := box_set7 q0 (y0 := .slice A1 L1 c1) (y1 := .slice Av k cv) (y2 := .slice A3 L3 c3) (y3 := .slice A4 LP c4) (y4 := .slice none 0 0) (y5 := .slice none 0 0) (y6 := .slice none 0 0)
              have IG0 := FIN.out _ _ _ ow0.out p0
              have sv := ((((((((Save.refl R wz).set 0 (.slice A1 L1 c1)).set 1 (.slice Av k cv)).set 2 (.slice A3 L3 c3)).set 3 (.slice A4 LP c4)).set 4 (.slice none 0 0)).set 5 (.slice none 0 0)).set 6 (.slice none 0 0))
              have IG := Lib.hid (graph_save IG0 (noInt7 q0) sv)
              have pW := PW.out.trans p0
              have p9 : Past W (((((((wz.setCell ⟨R, 0, none⟩ (.slice A1 L1 c1)).setCell ⟨R, 1, none⟩ (.slice Av k cv)).setCell ⟨R, 2, none⟩ (.slice A3 L3 c3)).setCell ⟨R, 3, none⟩ (.slice A4 LP c4)).setCell ⟨R, 4, none⟩ (.slice none 0 0)).setCell ⟨R, 5, none⟩ (.slice none 0 0)).setCell ⟨R, 6, none⟩ (.slice none 0 0)) := ((((((((((((((pW).setCell (p := ⟨R, 0, none⟩) (by simp only; omega) _)).setCell (p := ⟨R, 1, none⟩) (by simp only; omega) _)).setCell (p := ⟨R, 2, none⟩) (by simp only; omega) _)).setCell (p := ⟨R, 3, none⟩) (by simp only; omega) _)).setCell (p := ⟨R, 4, none⟩) (by simp only; omega) _)).setCell (p := ⟨R, 5, none⟩) (by simp only; omega) _)).setCell (p := ⟨R, 6, none⟩) (by simp only; omega) _)
              clear q0 b0 f0 e0 m0 p0 s0 ow0 IG0 sv pW
              generalize (((((((wz.setCell ⟨R, 0, none⟩ (.slice A1 L1 c1)).setCell ⟨R, 1, none⟩ (.slice Av k cv)).setCell ⟨R, 2, none⟩ (.slice A3 L3 c3)).setCell ⟨R, 3, none⟩ (.slice A4 LP c4)).setCell ⟨R, 4, none⟩ (.slice none 0 0)).setCell ⟨R, 5, none⟩ (.slice none 0 0)).setCell ⟨R, 6, none⟩ (.slice none 0 0)) = w9 at *
              have IP := IPL.out _ p9
              exact bodyPost_ret (v := .agg #[.slice A1 L1 c1, .slice Av k cv, .slice A3 L3 c3, .slice A4 LP c4, .slice none 0 0, .slice none 0 0, .slice none 0 0]) (by simp [results, Try.results13, go_sem, q9]) rfl ⟨_, _, _, _, _, _, _, _, _, _, _, _, rfl, IG.out, IP, p9⟩
end Go.Proofs.Ytgbedoffgahhaaa
