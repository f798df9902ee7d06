/- quiltlaw06's less: a graph of at most 6 values, 14 nodes, 6 that come out. -/
import Derived.Test.YtliijchcpooplaaGreatOMLde
namespace Go.Proofs.YtliijchcpooplaaGreat
open Go.ChangeShapes Go.WideShapes Go.ChangeAt Go.RowKit
set_option maxRecDepth 20000
set_option linter.unusedVariables false
theorem box_set3 {w : World} {b : Nat} {x0 x1 x2 y0 y1 y2 : Value} (h : (Bx w b #[x0, x1, x2])) : (Bx (((w.setCell ⟨b, 0, none⟩ y0).setCell ⟨b, 1, none⟩ y1).setCell ⟨b, 2, none⟩ y2) b #[y0, y1, y2]) := by
  have h0 := h 0
  have h1 := h 1
  have h2 := h 2
  have c1 : ((w.setCell ⟨b, 0, none⟩ y0).setCell ⟨b, 1, none⟩ y1).cell? ⟨b, 2, none⟩ = some x2 := by
    rw [World.cell?_setCell_other _ _ _ _ (by simp), World.cell?_setCell_other _ _ _ _ (by simp)]; exact h2
  have c2 : (w.setCell ⟨b, 0, none⟩ y0).cell? ⟨b, 1, none⟩ = some x1 := by
    rw [World.cell?_setCell_other _ _ _ _ (by simp)]; exact h1
  intro o
  match o with
  | 0 =>
    rw [World.cell?_setCell_other _ _ _ _ (by simp), World.cell?_setCell_other _ _ _ _ (by simp)]
    exact World.cell?_setCell_same w _ _ h0
  | 1 =>
    rw [World.cell?_setCell_other _ _ _ _ (by simp)]
    exact World.cell?_setCell_same _ _ _ c2
  | 2 => exact World.cell?_setCell_same _ _ _ c1
  | k + 3 =>
    rw [World.cell?_setCell_other _ _ _ _ (by simp), World.cell?_setCell_other _ _ _ _ (by simp), World.cell?_setCell_other _ _ _ _ (by simp)]
    have := h (k + 3)
    simpa using this
theorem box_at {w : World} {b : Nat} {cs : Array Value} (h : (Bx w b cs)) (i : Nat) (hi : i < cs.size) (y : Value) : (Bx (w.setCell ⟨b, i, none⟩ y) b (cs.setIfInBounds i y)) := by
  intro o
  by_cases c : i = o
  . subst c
    rw [World.cell?_setCell_same w _ _ ((h i).trans (Array.getElem?_eq_getElem hi)), Array.getElem?_setIfInBounds_self_of_lt hi]
  . rw [World.cell?_setCell_other _ _ _ _ (by first | (simp; done) | (simp; omega)), Array.getElem?_setIfInBounds_ne c]
    exact h o
theorem own_set {w : World} {base e size n Q o : Nat} {u v : Value} {xs : List Value} (h : w.ownsRow base e size v n xs) (hQ : Q < base) : (w.setCell ⟨Q, o, none⟩ u).ownsRow base e size v n xs := by
  refine ⟨h.1, ?_⟩
  rcases h.2 with hn | ⟨b, cap, cur, rfl, hb, hg, rest⟩
  . exact Or.inl hn
  . exact Or.inr ⟨b, cap, cur, rfl, hb, (Below.heap_setCell w ⟨Q, o, none⟩ u b (by simp only; omega)).trans hg, rest⟩
theorem size_setCell (w : World) (a : Addr) (u : Value) : (w.setCell a u).heap.size = w.heap.size := by simp [World.setCell]
theorem infoNode' : (Tryz.prog.info? 44).map (fun i => (i.zero, i.size, i.bytes)) = some (some (.agg #[.int .i64 0, .slice none 0 0, .int .i64 0, .int .i64 0, .int .i64 0, .int .i64 0, .int .i64 0, .int .i64 0, .int .i64 0, .int .i64 0, .int .i64 0, .int .i64 0, .slice none 0 0, .slice none 0 0]), 14, 160) := by kernel_rfl
def fewD (n : NodeD) : NodeD := { n with ins := n.ins.take 20, ws := n.ws.take 5000, bs := n.bs.take 20 }
def lessD (g : GraphD) : GraphD := { ins := g.ins.take 6, nodes := (g.nodes.take 14).map fewD, outs := g.outs.take 6 }
theorem nums_cut' {k : IntKind} {w : World} {A : Option Addr} {len cap : Nat} {xs : List Int} (m : Nat) (h : IsNums k w (.slice A len cap) xs) : IsNums k w (.slice A (xs.take m).length cap) (xs.take m) := by
  obtain ⟨A', cap', e, h2, h3, h4, h5, h6⟩ := h
  simp only [Value.slice.injEq] at e
  obtain ⟨rfl, rfl, rfl⟩ := e
  have hl : (xs.take m).length <= xs.length := by simp; omega
  refine ⟨A, cap, rfl, by omega, h3, h4, fun x hx => h5 x (List.mem_of_mem_take hx), fun hp => ?_⟩
  obtain ⟨b, off, rfl, hb, hc⟩ := h6 (by omega)
  refine ⟨b, off, rfl, hb, fun i hi => ?_⟩
  rw [hc i (by omega)]
  have : i < m := by simp at hi; omega
  simp [List.getD, this]
theorem vals_cut' {w : World} {A : Option Addr} {len cap : Nat} {xs : List ValD} (m : Nat) (h : IsVals w (.slice A len cap) xs) : IsVals w (.slice A (xs.take m).length cap) (xs.take m) := by
  obtain ⟨A', cap', e, h2, h3, h4, h5, h6⟩ := h
  simp only [Value.slice.injEq] at e
  obtain ⟨rfl, rfl, rfl⟩ := e
  have hl : (xs.take m).length <= xs.length := by simp; omega
  refine ⟨A, cap, rfl, by omega, h3, h4, fun x hx => h5 x (List.mem_of_mem_take hx), fun hp => ?_⟩
  obtain ⟨b, off, rfl, hb, hc⟩ := h6 (by omega)
  refine ⟨b, off, rfl, hb, fun i hi => ?_⟩
  have hm : i < m := by simp at hi; omega
  have e : (xs.take m).getD i default = xs.getD i default := by simp [List.getD, hm]
  rw [e]
  exact hc i (by omega)
def RowsO (w : World) (l : List NodeD) (xs : List Value) : Prop :=
  ∀ j, j < l.length -> ∃ vi vw vb, NodeIn w (l.getD j default) vi vw vb /\ (xs.drop (j * 14)).take 14 = nodeCells (l.getD j default) vi vw vb
theorem RowsO.more {w : World} {l : List NodeD} {n : NodeD} {xs : List Value} {vi vw vb : Value} (h : RowsO w l xs) (hl : xs.length = l.length * 14) (hn : NodeIn w n vi vw vb) : RowsO w (l ++ [n]) (xs ++ nodeCells n vi vw vb) := by
  intro j hj
  simp only [List.length_append, List.length_cons, List.length_nil] at hj
  by_cases c : j < l.length
  . obtain ⟨a1, a2, a3, k1, k2⟩ := h j c
    have e : (l ++ [n]).getD j default = l.getD j default := by simp [List.getD, List.getElem?_append_left c]
    rw [e]
    refine ⟨a1, a2, a3, k1, ?_⟩
    rw [List.drop_append_of_le_length (by omega), List.take_append_of_le_length (by rw [List.length_drop]; omega)]
    exact k2
  . obtain rfl : j = l.length := by omega
    have e : (l ++ [n]).getD l.length default = n := by simp [List.getD]
    rw [e]
    refine ⟨vi, vw, vb, hn, ?_⟩
    rw [<- hl, List.drop_left]
    rfl
theorem nodes_of_rowsO {W w : World} {base : Nat} {v : Value} {ns : List NodeD} {xs : List Value} (ho : w.ownsRow base 44 14 v ns.length xs) (hr : RowsO W ns xs) (g : Past W w) (wf : ∀ n ∈ ns, NodeWf n) : IsNodes w v ns := by
  obtain ⟨hl, h⟩ := ho
  rcases h with ⟨rfl, h0⟩ | ⟨b, cap, cur, rfl, hb, hg, hn, hm, hs, ht⟩
  . have : ns = [] := List.eq_nil_of_length_eq_zero h0
    subst this
    exact ⟨none, 0, rfl, Nat.le_refl _, Nat.zero_le _, fun _ => rfl, by simp, by simp⟩
  . refine ⟨some ⟨b, 0, none⟩, cap, rfl, hn, hm, (fun h => by cases h), wf, fun hp => ⟨b, 0, rfl, (Array.getElem?_eq_some_iff.1 hg).1, fun i hi => ?_⟩⟩
    obtain ⟨vi, vw, vb, h1, h2⟩ := hr i hi
    refine ⟨vi, vw, vb, h1.grow g, fun j hj => ?_⟩
    rw [<- h2, List.getElem?_take_of_lt hj, List.getElem?_drop, <- ht, List.getElem?_take_of_lt (by omega)]
    simp [World.cell?, hg]
theorem node_cells_one {w : World} {n : NodeD} {vi vw vb : Value} (h : NodeIn w n vi vw vb) : ∀ u ∈ nodeCells n vi vw vb, u.oneCell' = true := by
  obtain ⟨⟨a, b, rfl, _⟩, ⟨c, d, rfl, _⟩, ⟨e, f, rfl, _⟩⟩ := h
  intro u hu
  simp only [nodeCells, List.mem_cons, List.not_mem_nil, or_false] at hu
  rcases hu with rfl | rfl | rfl | rfl | rfl | rfl | rfl | rfl | rfl | rfl | rfl | rfl | rfl | rfl <;> rfl
theorem own_set_ne {w : World} {base e size n Q o : Nat} {u v : Value} {xs : List Value} (h : w.ownsRow base e size v n xs) (hQ : ∀ j, v.ownBlock = some j -> j ≠ Q) : (w.setCell ⟨Q, o, none⟩ u).ownsRow base e size v n xs := by
  refine ⟨h.1, ?_⟩
  rcases h.2 with hn | ⟨b, cap, cur, rfl, hb, hg, rest⟩
  . exact Or.inl hn
  . exact Or.inr ⟨b, cap, cur, rfl, hb, (Below.heap_setCell w ⟨Q, o, none⟩ u b (hQ b rfl)).trans hg, rest⟩
theorem few_take (ns : List NodeD) (k : Nat) (h : k < ns.length) : (ns.take (k + 1)).map fewD = (ns.take k).map fewD ++ [fewD (ns.getD k default)] := by
  rw [List.take_succ_eq_append_getElem h, List.map_append]
  simp [List.getD, h]
theorem free_grownBy' {w w' : World} {row : Option Nat} {b : Nat} (g : w.grownBy w' row) (h : (Fr w b)) (hb : b < w.heap.size) (hr : some b ≠ row) : (Fr w' b) :=
  fun o => (World.frozen?_of_block (a := ⟨b, o, none⟩) (g.block b hb hr)).trans (h o)
def LessPost (g : GraphD) (W : World) (e : Ending) (w' : World) : Prop := ∃ gv, e = .returned gv /\ IsGraph w' gv g /\ Past W w'
set_option maxHeartbeats 8000000 in
theorem less_any (g : GraphD) (gv : Value) (W : World) (hg : IsGraph W gv g) : Calls Tryz.prog 7 #[gv] W (LessPost (lessD g) W) := by
  obtain ⟨iv, nv, ov, rfl, hi, hn, ho⟩ := hg
  have HI := Lib.hid hi
  have HO := Lib.hid ho
  obtain ⟨A1, c1, rfl, i1, i2, _, _, i5⟩ := hi
  obtain ⟨A2, c2, rfl, n1, n2, _, nw, n5⟩ := hn
  obtain ⟨A3, c3, rfl, o1, o2, _, _, o5⟩ := ho
  have m1 : g.ins.length <= 9223372036854775807 := by unfold maxLen at i2; omega
  have m2 : g.nodes.length <= 9223372036854775807 := by unfold maxLen at n2; omega
  have m3 : g.outs.length <= 9223372036854775807 := by unfold maxLen at o2; omega
  have I5 := Lib.hid (fun h => i5 h)
  have O5 := Lib.hid (fun h => o5 h)
  have N5 := Lib.hid n5
  have NW := Lib.hid nw
  have hc1 : g.ins.length <= c1 := i1
  have hc3 : g.outs.length <= c3 := o1
  obtain ⟨k0, hi0, hz0, hz1, hz2⟩ := info_parts infoNode'
  have I1 := Lib.hid hi0
  have I2 := Lib.hid hz0
  have I3 := Lib.hid hz1
  have I4 := Lib.hid hz2
  clear hi0 hz0 hz1 hz2 i1 i2 n1 n2 o1 o2 i5 o5 n5 nw
  obtain ⟨Q, hQ⟩ : ∃ Q, W.heap.size = Q := ⟨_, rfl⟩
  go_enter Tryz.func7, Tryz.ntmps7
  go_upto_region 1 with fail
  refine opq (fun w' => (Bx w' Q #[.slice A1 g.ins.length c1, .slice A2 g.nodes.length c2, .slice A3 g.outs.length c3]) /\ (Fr w' Q) /\ (Bx w' (Q + 1) #[.slice none 0 0, .slice none 0 0, .slice none 0 0]) /\ (Fr w' (Q + 1)) /\ Past W w' /\ Q + 2 <= w'.heap.size) (by
    subst hQ
    exact ⟨by (exact kKeep), by (exact kKeep), by (exact kKeep), by (exact kKeep), by (exact kKeep), by simp⟩) ?_
  rintro w0 ⟨b0, f0, q0, e0, p0, s0⟩
  try rw [hQ]
  go_upto_if 9 with fail
  go_cut [] (fun w' => (Bx w' Q #[.slice A1 (g.ins.take 6).length c1, .slice A2 g.nodes.length c2, .slice A3 g.outs.length c3]) /\ (Fr w' Q) /\ (Bx w' (Q + 1) #[.slice none 0 0, .slice none 0 0, .slice none 0 0]) /\ (Fr w' (Q + 1)) /\ Past W w' /\ Q + 2 <= w'.heap.size)
  case first =>
    by_cases h : 6 < g.ins.length
    . obtain ⟨b, off, rfl, _⟩ := I5.out (by omega)
      have e : (g.ins.take 6).length = 6 := by simp; omega
      go_wp2_with fail
      go_meet
      exact ⟨by rw [e]; exact box_at b0 0 (by simp) _, by (exact kKeep), by (exact kKeep), by (exact kKeep), by (exact kKeep), by simpa only [size_setCell] using s0⟩
    . have e : g.ins.take 6 = g.ins := List.take_of_length_le (by omega)
      go_wp2_with fail
      go_meet
      exact ⟨by rw [e]; exact b0, f0, q0, e0, p0, s0⟩
  case rest =>
    clear b0 f0 q0 e0 p0 s0 I5
    obtain ⟨b0, f0, q0, e0, p0, s0⟩ := hcut
    go_upto_if 17 with fail
    go_cut [] (fun w' => (Bx w' Q #[.slice A1 (g.ins.take 6).length c1, .slice A2 g.nodes.length c2, .slice A3 (g.outs.take 6).length c3]) /\ (Fr w' Q) /\ (Bx w' (Q + 1) #[.slice none 0 0, .slice none 0 0, .slice none 0 0]) /\ (Fr w' (Q + 1)) /\ Past W w' /\ Q + 2 <= w'.heap.size)
    case first =>
      by_cases h : 6 < g.outs.length
      . obtain ⟨b, off, rfl, _⟩ := O5.out (by omega)
        have e : (g.outs.take 6).length = 6 := by simp; omega
        go_wp2_with fail
        go_meet
        exact ⟨by rw [e]; exact box_at b0 2 (by simp) _, by (exact kKeep), by (exact kKeep), by (exact kKeep), by (exact kKeep), by simpa only [size_setCell] using s0⟩
      . have e : g.outs.take 6 = g.outs := List.take_of_length_le (by omega)
        go_wp2_with fail
        go_meet
        exact ⟨by rw [e]; exact b0, f0, q0, e0, p0, s0⟩
    case rest =>
      clear b0 f0 q0 e0 p0 s0 O5
      obtain ⟨b0, f0, q0, e0, p0, s0⟩ := hcut
      have V1 := Lib.hid (vals_cut' 6 HI.out)
      have V3 := Lib.hid (nums_cut' 6 HO.out)
      obtain ⟨L1, hL1⟩ : ∃ n, (g.ins.take 6).length = n := ⟨_, rfl⟩
      obtain ⟨L3, hL3⟩ : ∃ n, (g.outs.take 6).length = n := ⟨_, rfl⟩
      rw [hL1] at b0 V1
      rw [hL3] at b0 V3
      have HL := Lib.hid (And.intro hL1 hL3)
      clear hL1 hL3 HI HO
      go_upto_region 6 with fail
      obtain ⟨P3, hP3⟩ : ∃ n, wc.heap.size = n := ⟨_, rfl⟩
      refine opq (fun w' => (Bx w' Q #[.slice A1 L1 c1, .slice A2 g.nodes.length c2, .slice A3 L3 c3]) /\ (Fr w' Q) /\ (Bx w' (Q + 1) #[.slice none 0 0, .slice none 0 0, .slice none 0 0]) /\ (Fr w' (Q + 1)) /\ Past W w' /\ Q + 3 <= w'.heap.size /\ Hid (w'.ownsRow (Q + 2) 44 14 (.slice (some ⟨P3, 0, none⟩) 0 0) 0 [])) (by
        subst hP3
        exact ⟨by (exact kKeep), by (exact kKeep), by (exact kKeep), by (exact kKeep), by (exact kKeep), by simp; omega, Lib.hid (World.ownsRow_made wc #[] 0 (by omega) (by simp) (by simp))⟩) ?_
      rintro w1 ⟨b1, f1, q1, e1, p1, s1, ow1⟩
      try rw [hP3]
      clear b0 f0 q0 e0 p0 s0 hP3
      obtain ⟨N, hN⟩ : ∃ N, N = min g.nodes.length 14 := ⟨_, rfl⟩
      go_wp2_with fail
      go_loopw [3, 4] (fun v i wr => ∃ (k : Nat) (xs : List Value), k <= N /\ i = .int .i64 k /\ Hid (wr.ownsRow (Q + 2) 44 14 v k xs) /\ Hid (RowsO W ((g.nodes.take k).map fewD) xs) /\ (Bx wr Q #[.slice A1 L1 c1, .slice A2 g.nodes.length c2, .slice A3 L3 c3]) /\ (Fr wr Q) /\ (Bx wr (Q + 1) #[.slice none 0 0, .slice none 0 0, .slice none 0 0]) /\ (Fr wr (Q + 1)) /\ Past W wr /\ Q + 3 <= wr.heap.size) (fun _ i _ => N - (intOf i).toNat)
      case atStart => exact ⟨0, [], by omega, rfl, ow1, Lib.hid (fun j hj => by simp at hj), b1, f1, q1, e1, p1, s1⟩
      case round =>
        clear ow1 b1 f1 q1 e1 p1 s1
        obtain ⟨k, xs, hk, rfl, own, rows, b1, f1, q1, e1, p1, s1⟩ := hrel
        by_cases h : k < N
        . have h1 : k < g.nodes.length := by omega
          have h2 : k < 14 := by omega
          obtain ⟨nb, no, rfl, hnb, hnc⟩ := N5.out (by omega)
          obtain ⟨vi, vw, vb, hin, hcell⟩ := hnc k h1
          obtain ⟨n, hnk⟩ : ∃ n, g.nodes.getD k default = n := ⟨_, rfl⟩
          rw [hnk] at hin hcell
          have IN := Lib.hid hin
          obtain ⟨Ai, ci, rfl, f3, f4, _, _, f7⟩ := hin.1
          obtain ⟨Aw, cw, rfl, f5, f6, _, _, f8⟩ := hin.2.1
          obtain ⟨Ab, cb, rfl, f9, f10, _, _, f11⟩ := hin.2.2
          have hi1 : n.ins.length <= 9223372036854775807 := by unfold maxLen at f4; omega
          have hi2 : n.ws.length <= 9223372036854775807 := by unfold maxLen at f6; omega
          have hi3 : n.bs.length <= 9223372036854775807 := by unfold maxLen at f10; omega
          have F7 := Lib.hid (fun h => f7 h)
          have F8 := Lib.hid (fun h => f8 h)
          have F11 := Lib.hid (fun h => f11 h)
          have hcell := fun j (hj : j < 14) => (p1.cell hnb).trans (hcell j hj)
          have x0 := hcell 0 (by omega)
          have x1 := hcell 1 (by omega)
          have x2 := hcell 2 (by omega)
          have x3 := hcell 3 (by omega)
          have x4 := hcell 4 (by omega)
          have x5 := hcell 5 (by omega)
          have x6 := hcell 6 (by omega)
          have x7 := hcell 7 (by omega)
          have x8 := hcell 8 (by omega)
          have x9 := hcell 9 (by omega)
          have x10 := hcell 10 (by omega)
          have x11 := hcell 11 (by omega)
          have x12 := hcell 12 (by omega)
          have x13 := hcell 13 (by omega)
          simp only [nodeCells, List.getElem?_cons_zero, List.getElem?_cons_succ, Nat.add_zero] at x0 x1 x2 x3 x4 x5 x6 x7 x8 x9 x10 x11 x12 x13
          have NK := Lib.hid hnk
          have n1 : Q ≠ wr.heap.size := by omega
          have n2 : Q < wr.heap.size := by omega
          have i1 : (0 : Int) <= (k : Int) := by omega
          have i2 : (k : Int) < (g.nodes.length : Int) := by omega
          obtain ⟨P8, hP8⟩ : ∃ P8, wr.heap.size = P8 := ⟨_, rfl⟩
          clear hnk hnc hin hcell f7 f8 f11 f4 f6 f10
          go_upto_region 10 with fail
          refine opq (fun w' => (Bx w' P8 (nC n (.slice Ai n.ins.length ci) (.slice Aw n.ws.length cw) (.slice Ab n.bs.length cb))) /\ (Fr w' P8) /\ (Bx w' Q #[.slice A1 L1 c1, .slice (some ⟨nb, no, none⟩) g.nodes.length c2, .slice A3 L3 c3]) /\ (Fr w' Q) /\ (Bx w' (Q + 1) #[.slice none 0 0, .slice none 0 0, .slice none 0 0]) /\ (Fr w' (Q + 1)) /\ Past W w' /\ P8 + 1 <= w'.heap.size /\ Hid (w'.ownsRow (Q + 2) 44 14 u3 k xs)) (by
            subst hP8
            exact ⟨by (exact kKeep), by (exact kKeep), by (exact kKeep), by (exact kKeep), by (exact kKeep), by (exact kKeep), by (exact kKeep), by simp, Lib.hid (World.ownsRow.alloc own.out _)⟩) ?_
          rintro w2 ⟨y2, z2, b2, f2, q2, e2, p2, s2, ow2⟩
          have hP : Q + 3 <= P8 := by omega
          have HLT0 : Hid (∀ j, u3.ownBlock = some j -> Q + 2 <= j /\ j < P8) := Lib.hid (by
            intro j hj
            have := World.ownsRow.lt own.out j hj
            omega)
          clear x0 x1 x2 x3 x4 x5 x6 x7 x8 x9 x10 x11 x12 x13 own b1 f1 q1 e1 p1 s1 hP8 n1 n2
          go_upto_if 42 with fail
          go_cut [] (fun w' => (Bx w' P8 (nC n (.slice Ai (n.ins.take 20).length ci) (.slice Aw n.ws.length cw) (.slice Ab n.bs.length cb))) /\ (Fr w' P8) /\ (Bx w' Q #[.slice A1 L1 c1, .slice (some ⟨nb, no, none⟩) g.nodes.length c2, .slice A3 L3 c3]) /\ (Fr w' Q) /\ (Bx w' (Q + 1) #[.slice none 0 0, .slice none 0 0, .slice none 0 0]) /\ (Fr w' (Q + 1)) /\ Past W w' /\ P8 + 1 <= w'.heap.size /\ Hid (w'.ownsRow (Q + 2) 44 14 u3 k xs))
          case first =>
            by_cases hc : 20 < n.ins.length
            . obtain ⟨b, off, rfl, _⟩ := F7.out (by omega)
              have e : (n.ins.take 20).length = 20 := by simp; omega
              have hcap2 : 20 <= ci := by
                obtain ⟨_, _, hv, hcap, _, _, _, _⟩ := IN.out.1
                simp only [Value.slice.injEq] at hv
                omega
              go_wp2_with fail
              go_meet
              exact ⟨by rw [e]; exact box_at y2 1 (by simp) _, by (exact kKeep), by (exact kKeep), by (exact kKeep), by (exact kKeep), by (exact kKeep), by (exact kKeep), by simpa only [size_setCell] using s2, Lib.hid (own_set_ne ow2.out (fun j hj => by have := (HLT0.out j hj).2; omega))⟩
            . have e : n.ins.take 20 = n.ins := List.take_of_length_le (by omega)
              go_wp2_with fail
              go_meet
              exact ⟨by rw [e]; exact y2, z2, b2, f2, q2, e2, p2, s2, ow2⟩
          case rest =>
            clear y2 z2 b2 f2 q2 e2 p2 s2 ow2 F7
            obtain ⟨y2, z2, b2, f2, q2, e2, p2, s2, ow2⟩ := hcut
            go_upto_if 50 with fail
            go_cut [] (fun w' => (Bx w' P8 (nC n (.slice Ai (n.ins.take 20).length ci) (.slice Aw (n.ws.take 5000).length cw) (.slice Ab n.bs.length cb))) /\ (Fr w' P8) /\ (Bx w' Q #[.slice A1 L1 c1, .slice (some ⟨nb, no, none⟩) g.nodes.length c2, .slice A3 L3 c3]) /\ (Fr w' Q) /\ (Bx w' (Q + 1) #[.slice none 0 0, .slice none 0 0, .slice none 0 0]) /\ (Fr w' (Q + 1)) /\ Past W w' /\ P8 + 1 <= w'.heap.size /\ Hid (w'.ownsRow (Q + 2) 44 14 u3 k xs))
            case first =>
              by_cases hc : 5000 < n.ws.length
              . obtain ⟨b, off, rfl, _⟩ := F8.out (by omega)
                have e : (n.ws.take 5000).length = 5000 := by simp; omega
                have hcap2 : 5000 <= cw := by
                  obtain ⟨_, _, hv, hcap, _, _, _, _⟩ := IN.out.2.1
                  simp only [Value.slice.injEq] at hv
                  omega
                go_wp2_with fail
                go_meet
                exact ⟨by rw [e]; exact box_at y2 12 (by simp) _, by (exact kKeep), by (exact kKeep), by (exact kKeep), by (exact kKeep), by (exact kKeep), by (exact kKeep), by simpa only [size_setCell] using s2, Lib.hid (own_set_ne ow2.out (fun j hj => by have := (HLT0.out j hj).2; omega))⟩
              . have e : n.ws.take 5000 = n.ws := List.take_of_length_le (by omega)
                go_wp2_with fail
                go_meet
                exact ⟨by rw [e]; exact y2, z2, b2, f2, q2, e2, p2, s2, ow2⟩
            case rest =>
              clear y2 z2 b2 f2 q2 e2 p2 s2 ow2 F8
              obtain ⟨y2, z2, b2, f2, q2, e2, p2, s2, ow2⟩ := hcut
              go_upto_if 58 with fail
              go_cut [] (fun w' => (Bx w' P8 (nC n (.slice Ai (n.ins.take 20).length ci) (.slice Aw (n.ws.take 5000).length cw) (.slice Ab (n.bs.take 20).length cb))) /\ (Fr w' P8) /\ (Bx w' Q #[.slice A1 L1 c1, .slice (some ⟨nb, no, none⟩) g.nodes.length c2, .slice A3 L3 c3]) /\ (Fr w' Q) /\ (Bx w' (Q + 1) #[.slice none 0 0, .slice none 0 0, .slice none 0 0]) /\ (Fr w' (Q + 1)) /\ Past W w' /\ P8 + 1 <= w'.heap.size /\ Hid (w'.ownsRow (Q + 2) 44 14 u3 k xs))
              case first =>
                by_cases hc : 20 < n.bs.length
                . obtain ⟨b, off, rfl, _⟩ := F11.out (by omega)
                  have e : (n.bs.take 20).length = 20 := by simp; omega
                  have hcap2 : 20 <= cb := by
                    obtain ⟨_, _, hv, hcap, _, _, _, _⟩ := IN.out.2.2
                    simp only [Value.slice.injEq] at hv
                    omega
                  go_wp2_with fail
                  go_meet
                  exact ⟨by rw [e]; exact box_at y2 13 (by simp) _, by (exact kKeep), by (exact kKeep), by (exact kKeep), by (exact kKeep), by (exact kKeep), by (exact kKeep), by simpa only [size_setCell] using s2, Lib.hid (own_set_ne ow2.out (fun j hj => by have := (HLT0.out j hj).2; omega))⟩
                . have e : n.bs.take 20 = n.bs := List.take_of_length_le (by omega)
                  go_wp2_with fail
                  go_meet
                  exact ⟨by rw [e]; exact y2, z2, b2, f2, q2, e2, p2, s2, ow2⟩
              case rest =>
                clear y2 z2 b2 f2 q2 e2 p2 s2 ow2 F11
                obtain ⟨y2, z2, b2, f2, q2, e2, p2, s2, ow2⟩ := hcut
                have IF : Hid (NodeIn W (fewD n) (.slice Ai (n.ins.take 20).length ci) (.slice Aw (n.ws.take 5000).length cw) (.slice Ab (n.bs.take 20).length cb)) := Lib.hid ⟨nums_cut' 20 IN.out.1, nums_cut' 5000 IN.out.2.1, nums_cut' 20 IN.out.2.2⟩
                obtain ⟨La, hLa⟩ : ∃ m, (n.ins.take 20).length = m := ⟨_, rfl⟩
                obtain ⟨Lw, hLw⟩ : ∃ m, (n.ws.take 5000).length = m := ⟨_, rfl⟩
                obtain ⟨Lb, hLb⟩ : ∃ m, (n.bs.take 20).length = m := ⟨_, rfl⟩
                rw [hLa, hLw, hLb] at y2 IF
                clear hLa hLw hLb
                have HXL := Lib.hid ow2.out.1
                go_wp2_with (at_builtin; refine wpList_append_own _ rfl (.tmp 63) (.tmp 65) 23 rfl (Q + 2) 44 k0 _ 14 160 Tryz.underlying23 I1.out I2.out I3.out I4.out rfl (by decide) _ _ _ rfl (World.ownsRow.alloc ow2.out _) ⟨wc.heap.size, 0, none⟩ 1 1 (nodeCells (fewD n) (.slice Ai La ci) (.slice Aw Lw cw) (.slice Ab Lb cb)) rfl rfl (fun j u hu => cells_new' wc _ 44 j u hu) (node_cells_one IF.out) ?c4 ?c5 ?c6 ?_)
                case c4 => unfold maxLen; omega
                case c5 => omega
                case c6 => first | omega | (simp; omega)
                intro v4 w4 hown4 hgrow _
                have hr4 : ∀ j, u3.ownBlock = some j -> Q + 2 <= j := fun j hj => (HLT0.out j hj).1
                have b4 := box_grownBy hgrow (box_old b2 (by omega)) (by simp; omega) (fun e => by have := hr4 _ e.symm; omega)
                have f4 := free_grownBy' hgrow (free_alloc f2) (by simp; omega) (fun e => by have := hr4 _ e.symm; omega)
                have q4 := box_grownBy hgrow (box_old q2 (by omega)) (by simp; omega) (fun e => by have := hr4 _ e.symm; omega)
                have e4 := free_grownBy' hgrow (free_alloc e2) (by simp; omega) (fun e => by have := hr4 _ e.symm; omega)
                have p4 : Past W w4 := (p2.alloc _).grownBy hgrow (fun j hj => by have := hr4 j hj; omega)
                have s4 : Q + 3 <= w4.heap.size := by have := hgrow.size; simp only [World.size_alloc] at this; omega
                have ow4 := Lib.hid hown4
                have rows4 : Hid (RowsO W ((g.nodes.take (k + 1)).map fewD) (xs ++ (nodeCells (fewD n) (.slice Ai La ci) (.slice Aw Lw cw) (.slice Ab Lb cb)))) := Lib.hid (by
                  rw [few_take _ _ h1, NK.out]
                  exact rows.out.more (by rw [HXL.out]; simp; omega) IF.out)
                clear hown4 hgrow hr4 y2 z2 b2 f2 q2 e2 p2 s2 ow2 IF HXL HLT0 rows
                go_wp2_with fail
                go_roundw
                case rel => exact ⟨k + 1, xs ++ (nodeCells (fewD n) (.slice Ai La ci) (.slice Aw Lw cw) (.slice Ab Lb cb)), by omega, by go_num, ow4, rows4, b4, f4, q4, e4, p4, s4⟩
                case measure => simp [intOf]; omega
        . obtain ⟨Av, cv, rfl, _, _⟩ := own_slice' own.out
          have hkl : ((g.nodes.take 14).map fewD).length = k := by simp; omega
          have htk : g.nodes.take k = g.nodes.take 14 := by
            by_cases c : g.nodes.length <= 14
            . rw [List.take_of_length_le (by omega), List.take_of_length_le (by omega)]
            . congr 1; omega
          have rows' := rows.out
          rw [htk] at rows'
          have FIN : Hid (∀ (w : World) (A : Option Addr) (c : Nat), w.ownsRow (Q + 2) 44 14 (.slice A k c) k xs -> Past W w -> IsGraph w (.agg #[.slice A1 L1 c1, .slice A k c, .slice A3 L3 c3]) (lessD g)) := Lib.hid (by
            intro w A c ho p
            refine ⟨_, _, _, rfl, V1.out.grow p, ?_, V3.out.grow p⟩
            refine nodes_of_rowsO (base := Q + 2) (by rw [show (lessD g).nodes.length = k from hkl]; exact ho) rows' p (fun n hn => ?_)
            obtain ⟨m, hm, rfl⟩ := List.mem_map.1 hn
            exact NW.out m (List.mem_of_mem_take hm))
          clear hkl htk rows' rows
          by_cases hx : k < g.nodes.length
          . have hx2 : ¬ k < 14 := by omega
            have d1 : decide ((k : Int) < 14) = false := by simp; omega
            go_wp2_with fail
            have b2 := box_at b1 1 (by simp) (.slice Av k cv)
            have g2 := b2
            have q2 := box_set3 (w := wr.setCell ⟨Q, 1, none⟩ (.slice Av k cv)) (y0 := .slice A1 L1 c1) (y1 := .slice Av k cv) (y2 := .slice A3 L3 c3) (box_set q1 (by first | (simp; done) | (simp; omega)))
            have ow9 := Lib.hid (own_set (Q := Q + 1) (o := 2) (u := .slice A3 L3 c3) (own_set (Q := Q + 1) (o := 1) (u := .slice Av k cv) (own_set (Q := Q + 1) (o := 0) (u := .slice A1 L1 c1) (own_set (Q := Q) (o := 1) (u := .slice Av k cv) own.out (by omega)) (by omega)) (by omega)) (by omega))
            have p9 : Past W ((((wr.setCell ⟨Q, 1, none⟩ (.slice Av k cv)).setCell ⟨Q + 1, 0, none⟩ (.slice A1 L1 c1)).setCell ⟨Q + 1, 1, none⟩ (.slice Av k cv)).setCell ⟨Q + 1, 2, none⟩ (.slice A3 L3 c3)) := (((p1.setCell (p := ⟨Q, 1, none⟩) (by simp only; omega) _).setCell (p := ⟨Q + 1, 0, none⟩) (by simp only; omega) _).setCell (p := ⟨Q + 1, 1, none⟩) (by simp only; omega) _).setCell (p := ⟨Q + 1, 2, none⟩) (by simp only; omega) _
            clear b2 g2 b1 q1 p1 own
            generalize ((((wr.setCell ⟨Q, 1, none⟩ (.slice Av k cv)).setCell ⟨Q + 1, 0, none⟩ (.slice A1 L1 c1)).setCell ⟨Q + 1, 1, none⟩ (.slice Av k cv)).setCell ⟨Q + 1, 2, none⟩ (.slice A3 L3 c3)) = w9 at *
            have IG := Lib.hid (FIN.out _ _ _ ow9.out p9)
            exact bodyPost_ret (v := .agg #[.slice A1 L1 c1, .slice Av k cv, .slice A3 L3 c3]) (by simp [results, Tryz.results7, go_sem, q2]) rfl ⟨_, rfl, IG.out, p9⟩
          . have d1 : decide ((k : Int) < (g.nodes.length : Int)) = false := by simp; omega
            go_wp2_with fail
            have b2 := box_at b1 1 (by simp) (.slice Av k cv)
            have g2 := b2
            have q2 := box_set3 (w := wr.setCell ⟨Q, 1, none⟩ (.slice Av k cv)) (y0 := .slice A1 L1 c1) (y1 := .slice Av k cv) (y2 := .slice A3 L3 c3) (box_set q1 (by first | (simp; done) | (simp; omega)))
            have ow9 := Lib.hid (own_set (Q := Q + 1) (o := 2) (u := .slice A3 L3 c3) (own_set (Q := Q + 1) (o := 1) (u := .slice Av k cv) (own_set (Q := Q + 1) (o := 0) (u := .slice A1 L1 c1) (own_set (Q := Q) (o := 1) (u := .slice Av k cv) own.out (by omega)) (by omega)) (by omega)) (by omega))
            have p9 : Past W ((((wr.setCell ⟨Q, 1, none⟩ (.slice Av k cv)).setCell ⟨Q + 1, 0, none⟩ (.slice A1 L1 c1)).setCell ⟨Q + 1, 1, none⟩ (.slice Av k cv)).setCell ⟨Q + 1, 2, none⟩ (.slice A3 L3 c3)) := (((p1.setCell (p := ⟨Q, 1, none⟩) (by simp only; omega) _).setCell (p := ⟨Q + 1, 0, none⟩) (by simp only; omega) _).setCell (p := ⟨Q + 1, 1, none⟩) (by simp only; omega) _).setCell (p := ⟨Q + 1, 2, none⟩) (by simp only; omega) _
            clear b2 g2 b1 q1 p1 own
            generalize ((((wr.setCell ⟨Q, 1, none⟩ (.slice Av k cv)).setCell ⟨Q + 1, 0, none⟩ (.slice A1 L1 c1)).setCell ⟨Q + 1, 1, none⟩ (.slice Av k cv)).setCell ⟨Q + 1, 2, none⟩ (.slice A3 L3 c3)) = w9 at *
            have IG := Lib.hid (FIN.out _ _ _ ow9.out p9)
            exact bodyPost_ret (v := .agg #[.slice A1 L1 c1, .slice Av k cv, .slice A3 L3 c3]) (by simp [results, Tryz.results7, go_sem, q2]) rfl ⟨_, rfl, IG.out, p9⟩
end Go.Proofs.YtliijchcpooplaaGreat
