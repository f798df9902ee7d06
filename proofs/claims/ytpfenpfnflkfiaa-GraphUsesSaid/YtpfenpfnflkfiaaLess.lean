/- less: a graph of at most 6 values, 14 nodes, 6 that come out. -/
import Derived.Test.YtpfenpfnflkfiaaFew
import Derived.Laws.AppendOwn
import Derived.OwnWalk
namespace Go.Proofs.Ytpfenpfnflkfiaa
open Go.ChangeShapes Go.WideShapes Go.ChangeAt Go.RowKit
set_option maxRecDepth 100000
set_option linter.unusedVariables false
theorem info28 : (Try.prog.info? 28).map (fun i => (i.zero, i.size, i.bytes)) = some (some (.agg #[.int .i64 0, .slice none 0 0, .int .i64 0, .int .i64 0, .int .i64 0, .int .i64 0, .int .i64 0, .int .i64 0, .int .i64 0, .int .i64 0, .int .i64 0, .int .i64 0, .slice none 0 0, .slice none 0 0]), 14, 160) := by kernel_rfl

def lessD (g : GraphD) : GraphD := { ins := g.ins.take 6, nodes := (g.nodes.take 14).map fewD, outs := g.outs.take 6 }

/-- The first k nodes, cut, stand in these cells (their slices where they were). -/
def Rows14 (w : World) (ns : List NodeD) (k : Nat) (xs : List Value) : Prop :=
  ∀ j, j < k → ∃ vi vw vb, NodeIn w (ns.getD j default) vi vw vb ∧ (xs.drop (j * 14)).take 14 = nodeCells (ns.getD j default) vi vw vb

theorem Rows14.zero (w : World) (ns : List NodeD) : Rows14 w ns 0 [] := fun j hj => by omega

theorem Rows14.more {w : World} {ns : List NodeD} {k : Nat} {xs : List Value} {vi vw vb : Value} (h : Rows14 w ns k xs) (hl : xs.length = k * 14) (hin : NodeIn w (ns.getD k default) vi vw vb) : Rows14 w ns (k + 1) (xs ++ nodeCells (ns.getD k default) vi vw vb) := by
  intro j hj
  by_cases c : j < k
  · obtain ⟨a, b, d, h1, h2⟩ := h j c
    refine ⟨a, b, d, h1, ?_⟩
    rw [List.drop_append_of_le_length (by omega), List.take_append_of_le_length (by rw [List.length_drop]; omega)]
    exact h2
  · obtain rfl : j = k := by omega
    refine ⟨vi, vw, vb, hin, ?_⟩
    rw [← hl, List.drop_left]
    rfl

/-- Nodes that the call owns, read. -/
theorem nodes_of_own {w0 w : World} {base : Nat} {v : Value} {ns : List NodeD} {xs : List Value} (ho : w.ownsRow base 28 14 v ns.length xs) (hr : Rows14 w0 ns ns.length xs) (g : Past w0 w) (wf : ∀ n ∈ ns, NodeWf n) : IsNodes w v ns := by
  obtain ⟨hl, h⟩ := ho
  rcases h with ⟨rfl, h0⟩ | ⟨b, cap, cur, rfl, hb, hg, hn, hm, hs, ht⟩
  · have : ns = [] := List.eq_nil_of_length_eq_zero h0
    subst this
    exact ⟨none, 0, rfl, Nat.le_refl _, Nat.zero_le _, fun _ => rfl, by simp, by simp⟩
  · refine ⟨some ⟨b, 0, none⟩, cap, rfl, hn, hm, (fun h => by cases h), wf, fun hp => ⟨b, 0, rfl, (Array.getElem?_eq_some_iff.1 hg).1, fun i hi => ?_⟩⟩
    obtain ⟨vi, vw, vb, h1, h2⟩ := hr i hi
    refine ⟨vi, vw, vb, h1.grow g, fun j hj => ?_⟩
    rw [← h2, List.getElem?_take_of_lt hj, List.getElem?_drop, ← ht, List.getElem?_take_of_lt (by omega)]
    simp [World.cell?, hg]

/-- The two boxes of less: the graph's, and the result's. -/
def Boxes (b : Nat) (v0 v1 v2 : Value) (w : World) : Prop :=
  w.cell? ⟨b, 0, none⟩ = some v0 ∧ w.cell? ⟨b, 1, none⟩ = some v1 ∧ w.cell? ⟨b, 2, none⟩ = some v2 ∧ (∀ i, w.frozen? ⟨b, i, none⟩ = false) ∧ (∀ i, w.frozen? ⟨b + 1, i, none⟩ = false) ∧
    (∃ cs : Array Value, w.heap[b + 1]? = some (.cells cs 40 (0, 0)) ∧ cs.size = 3) ∧ b + 1 < w.heap.size

theorem Boxes.step {b : Nat} {v0 v1 v2 : Value} {w w' : World} (h : Boxes b v0 v1 v2 w) (g : Past w w') : Boxes b v0 v1 v2 w' := by
  obtain ⟨h0, h1, h2, h3, h4, ⟨cs, h5, h6⟩, l⟩ := h
  have l0 : b < w.heap.size := by omega
  exact ⟨(g.cell l0).trans h0, (g.cell l0).trans h1, (g.cell l0).trans h2, fun i => (g.free l0).trans (h3 i), fun i => (g.free l).trans (h4 i), ⟨cs, (g.2.2.2 _ l).trans h5, h6⟩, Nat.lt_of_lt_of_le l g.2.2.1⟩

/-- The same, where an append has grown the row of another block. -/
theorem Boxes.grownBy {b : Nat} {v0 v1 v2 : Value} {w w' : World} {row : Option Nat} (h : Boxes b v0 v1 v2 w) (g : w.grownBy w' row) (hr : ∀ k, row = some k → b + 2 ≤ k) : Boxes b v0 v1 v2 w' := by
  obtain ⟨h0, h1, h2, h3, h4, ⟨cs, h5, h6⟩, l⟩ := h
  have l0 : b < w.heap.size := by omega
  have n0 : some b ≠ row := fun e => by have := hr b e.symm; omega
  have n1 : some (b + 1) ≠ row := fun e => by have := hr (b + 1) e.symm; omega
  have e0 := g.block b l0 n0
  have e1 := g.block (b + 1) l n1
  exact ⟨(World.cell?_of_block (a := ⟨b, 0, none⟩) e0).trans h0, (World.cell?_of_block (a := ⟨b, 1, none⟩) e0).trans h1, (World.cell?_of_block (a := ⟨b, 2, none⟩) e0).trans h2, fun i => (World.frozen?_of_block (a := ⟨b, i, none⟩) e0).trans (h3 i), fun i => (World.frozen?_of_block (a := ⟨b + 1, i, none⟩) e1).trans (h4 i), ⟨cs, e1.trans h5, h6⟩, Nat.lt_of_lt_of_le l g.size⟩

theorem own_past {w w' : World} {base e size n : Nat} {v : Value} {xs : List Value} (h : w.ownsRow base e size v n xs) (g : Past w w') : w'.ownsRow base e size v n xs := by
  refine ⟨h.1, ?_⟩
  rcases h.2 with hn | ⟨b, cap, cur, rfl, hb, hg, rest⟩
  · exact Or.inl hn
  · exact Or.inr ⟨b, cap, cur, rfl, hb, (g.2.2.2 b (Array.getElem?_eq_some_iff.1 hg).1).trans hg, rest⟩

theorem nums_one {k : IntKind} {w : World} {v : Value} {xs : List Int} (h : IsNums k w v xs) : v.oneCell' = true := by
  obtain ⟨A, cap, rfl, _⟩ := h
  rfl
theorem node_one {w : World} {n : NodeD} {vi vw vb : Value} (h : NodeIn w n vi vw vb) : ∀ u ∈ nodeCells n vi vw vb, u.oneCell' = true := by
  intro u hu
  simp only [nodeCells, List.mem_cons, List.not_mem_nil, or_false] at hu
  rcases hu with rfl | rfl | rfl | rfl | rfl | rfl | rfl | rfl | rfl | rfl | rfl | rfl | rfl | rfl
  all_goals first | rfl | exact nums_one h.1 | exact nums_one h.2.1 | exact nums_one h.2.2
theorem cells_new (w : World) (l : List Value) (t : TypeId) (j : Nat) (u : Value) (h : l[j]? = some u) : (w.alloc (.cells ⟨l⟩ t)).cell? ((⟨w.heap.size, 0, none⟩ : Addr).add j) = some u := by
  rw [add_plain]
  have := heap_alloc_new w (.cells ⟨l⟩ t)
  unfold World.cell?
  simp only [this]
  simpa using h

theorem own_slice {w : World} {base e size n : Nat} {v : Value} {xs : List Value} (h : w.ownsRow base e size v n xs) : ∃ A m c, v = .slice A m c := by
  rcases h.2 with ⟨rfl, _⟩ | ⟨g, cap, cur, rfl, _⟩
  · exact ⟨_, _, _, rfl⟩
  · exact ⟨_, _, _, rfl⟩

theorem box_cells {w : World} {b : Nat} (h : ∃ cs : Array Value, w.heap[b]? = some (.cells cs 40 (0, 0)) ∧ cs.size = 3) : ∃ r0 r1 r2, w.cell? ⟨b, 0, none⟩ = some r0 ∧ w.cell? ⟨b, 1, none⟩ = some r1 ∧ w.cell? ⟨b, 2, none⟩ = some r2 := by
  obtain ⟨⟨l⟩, h1, h2⟩ := h
  obtain ⟨r0, r1, r2, rfl⟩ := three h2
  refine ⟨r0, r1, r2, ?_, ?_, ?_⟩
  all_goals
    unfold World.cell?
    simp only [h1]
    rfl

theorem less_end {w wr : World} {v u0 u1 u2 u3 : Value} {ns : List NodeD} {xs : List Value} {k : Nat} (ho : wr.ownsRow (w.heap.size + 2) 28 14 v k xs) (hr : Rows14 w ((ns.take 14).map fewD) k xs) (g : Past w wr) (wf : ∀ n ∈ ns, NodeWf n) (hk : ((ns.take 14).map fewD).length = k) :
    IsNodes ((((wr.setCell ⟨w.heap.size, 1, none⟩ u0).setCell ⟨w.heap.size + 1, 0, none⟩ u1).setCell ⟨w.heap.size + 1, 1, none⟩ u2).setCell ⟨w.heap.size + 1, 2, none⟩ u3) v ((ns.take 14).map fewD) := by
  subst hk
  refine nodes_of_own (w0 := w) (base := w.heap.size + 2) (ownsRow_setCell_below (ownsRow_setCell_below (ownsRow_setCell_below (ownsRow_setCell_below ho ?_ _) ?_ _) ?_ _) ?_ _) hr ((((g.setCell ?_ _).setCell ?_ _).setCell ?_ _).setCell ?_ _) ?_
  · simp
  · simp
  · simp
  · simp
  · simp
  · simp
  · simp
  · simp
  · intro n hn
    obtain ⟨m, hm, rfl⟩ := List.mem_map.1 hn
    exact wf m (List.mem_of_mem_take hm)

set_option maxHeartbeats 2000000 in
theorem less_00 (w : World) (A2 : Option Addr) (A1 : Option Addr) (A3 : Option Addr) (l1 c1 l2 c2 l3 c3 : Nat) (p1 : l1 ≤ 6) (p3 : l3 ≤ 6) (ns : List NodeD) (hn : IsNodes w (.slice A2 l2 c2) ns) :
    Calls Try.prog 14 #[.agg #[.slice A1 l1 c1, .slice A2 l2 c2, .slice A3 l3 c3]] w fun e w' => ∃ v, e = .returned (.agg #[.slice A1 l1 c1, v, .slice A3 l3 c3]) ∧ IsNodes w' v ((ns.take 14).map fewD) ∧ Past w w' := by
  obtain ⟨A, cap, hA, hl2, hc2, hn0, hwf, hat⟩ := hn
  obtain ⟨rfl, rfl, rfl⟩ : A2 = A ∧ l2 = ns.length ∧ c2 = cap := by simpa using hA
  obtain ⟨N, hN⟩ : ∃ N, N = min ns.length 14 := ⟨_, rfl⟩
  obtain ⟨i0, hi0, hz0, hz1, hz2⟩ := info_parts info28
  go_enter Try.func14, Try.ntmps14
  go_wp2
  have facts : Boxes w.heap.size (.slice A1 l1 c1) (.slice A2 ns.length c2) (.slice A3 l3 c3) (((w.alloc (.cells #[.slice A1 l1 c1, .slice A2 ns.length c2, .slice A3 l3 c3] 40)).alloc (.cells #[.slice none 0 0, .slice none 0 0, .slice none 0 0] 40)).alloc (.cells #[] 28)) := by
    refine ⟨by go_cell, by go_cell, by go_cell, ?_, ?_, ?_, by simp⟩
    · intro i
      rw [frozen?_alloc_cells, frozen?_alloc_cells, frozen?_alloc_cells]
      unfold World.frozen?
      rw [Array.getElem?_eq_none (by simp)]
    · intro i
      rw [frozen?_alloc_cells, frozen?_alloc_cells, frozen?_alloc_cells]
      unfold World.frozen?
      rw [Array.getElem?_eq_none (by simp)]
    · exact ⟨_, (heap_alloc_old _ _ (by simp)).trans (heap_alloc2_new _ _ _), rfl⟩
  have own : (((w.alloc (.cells #[.slice A1 l1 c1, .slice A2 ns.length c2, .slice A3 l3 c3] 40)).alloc (.cells #[.slice none 0 0, .slice none 0 0, .slice none 0 0] 40)).alloc (.cells #[] 28)).ownsRow (w.heap.size + 2) 28 14 (.slice (some ⟨w.heap.size + 1 + 1, 0, none⟩) 0 0) 0 [] := by
    have := World.ownsRow_made (base := w.heap.size + 2) (e := 28) (size := 14) ((w.alloc (.cells #[.slice A1 l1 c1, .slice A2 ns.length c2, .slice A3 l3 c3] 40)).alloc (.cells #[.slice none 0 0, .slice none 0 0, .slice none 0 0] 40)) #[] 0 (by simp) (by simp) (by simp)
    simpa using this
  have past : Past w (((w.alloc (.cells #[.slice A1 l1 c1, .slice A2 ns.length c2, .slice A3 l3 c3] 40)).alloc (.cells #[.slice none 0 0, .slice none 0 0, .slice none 0 0] 40)).alloc (.cells #[] 28)) := (((Past.refl w).alloc _).alloc _).alloc _
  generalize ((w.alloc (.cells #[.slice A1 l1 c1, .slice A2 ns.length c2, .slice A3 l3 c3] 40)).alloc (.cells #[.slice none 0 0, .slice none 0 0, .slice none 0 0] 40)).alloc (.cells #[] 28) = W0 at facts own past ⊢
  go_loopw [3, 4] (fun s i wr => ∃ (k : Nat) (xs : List Value), k ≤ N ∧ i = .int .i64 k ∧ wr.ownsRow (w.heap.size + 2) 28 14 s k xs ∧ Rows14 w ((ns.take 14).map fewD) k xs ∧ Boxes w.heap.size (.slice A1 l1 c1) (.slice A2 ns.length c2) (.slice A3 l3 c3) wr ∧ Past w wr) (fun _ i _ => N - (intOf i).toNat)
  case atStart => exact ⟨0, [], by omega, rfl, own, Rows14.zero _ _, facts, past⟩
  case round =>
    obtain ⟨k, xs, hk, rfl, hown, hrows, hbox, hpast⟩ := hrel
    clear facts own past
    by_cases l : k < N
    · have hlen : k < ns.length := by omega
      have h14 : k < 14 := by omega
      obtain ⟨b, off, rfl, hb, hc⟩ := hat (by omega)
      obtain ⟨vi, vw, vb, hin, hcell⟩ := hc k hlen
      have wfk : NodeWf (ns.getD k default) := by
        have : ns.getD k default = ns[k] := by simp [List.getD, hlen]
        rw [this]; exact hwf _ (List.getElem_mem _)
      generalize hnk : ns.getD k default = n at hcell hin wfk
      have x0 := (hpast.cell (p := ⟨b, off + k * 14, none⟩) hb).trans (hcell 0 (by omega))
      have x1 := (hpast.cell (p := ⟨b, off + k * 14 + 1, none⟩) hb).trans (hcell 1 (by omega))
      have x2 := (hpast.cell (p := ⟨b, off + k * 14 + 2, none⟩) hb).trans (hcell 2 (by omega))
      have x3 := (hpast.cell (p := ⟨b, off + k * 14 + 3, none⟩) hb).trans (hcell 3 (by omega))
      have x4 := (hpast.cell (p := ⟨b, off + k * 14 + 4, none⟩) hb).trans (hcell 4 (by omega))
      have x5 := (hpast.cell (p := ⟨b, off + k * 14 + 5, none⟩) hb).trans (hcell 5 (by omega))
      have x6 := (hpast.cell (p := ⟨b, off + k * 14 + 6, none⟩) hb).trans (hcell 6 (by omega))
      have x7 := (hpast.cell (p := ⟨b, off + k * 14 + 7, none⟩) hb).trans (hcell 7 (by omega))
      have x8 := (hpast.cell (p := ⟨b, off + k * 14 + 8, none⟩) hb).trans (hcell 8 (by omega))
      have x9 := (hpast.cell (p := ⟨b, off + k * 14 + 9, none⟩) hb).trans (hcell 9 (by omega))
      have x10 := (hpast.cell (p := ⟨b, off + k * 14 + 10, none⟩) hb).trans (hcell 10 (by omega))
      have x11 := (hpast.cell (p := ⟨b, off + k * 14 + 11, none⟩) hb).trans (hcell 11 (by omega))
      have x12 := (hpast.cell (p := ⟨b, off + k * 14 + 12, none⟩) hb).trans (hcell 12 (by omega))
      have x13 := (hpast.cell (p := ⟨b, off + k * 14 + 13, none⟩) hb).trans (hcell 13 (by omega))
      simp only [nodeCells, List.getElem?_cons_zero, List.getElem?_cons_succ] at x0 x1 x2 x3 x4 x5 x6 x7 x8 x9 x10 x11 x12 x13
      have hbox' := Lib.hid hbox
      have hm : ns.length ≤ 9223372036854775807 := Nat.le_trans (by omega) (show maxLen ≤ 9223372036854775807 by decide)
      obtain ⟨y0, y1, y2, y3, y4, y5, y6⟩ := hbox
      clear y0 y2 y3 y4 y5 y6
      go_wp2_with fail
      refine (few_any w wr _ n ⟨vi, vw, vb, rfl, hin, wfk⟩).mono ?_
      rintro e w3 ⟨v', rfl, ⟨ui, uw, ub, rfl, uin, uwf⟩, g3⟩
      have hown3 := own_past hown (Grown.past g3)
      have hbox3 := hbox'.out.step (Grown.past g3)
      have hpast3 := hpast.trans (Grown.past g3)
      clear hown hbox' hpast g3 x0 x1 x2 x3 x4 x5 x6 x7 x8 x9 x10 x11 x12 x13 y1 hcell
      have hone := node_one uin
      have hsz : w.heap.size + 1 < w3.heap.size := hbox3.2.2.2.2.2.2
      have hlt := hown3.lt
      unfold nodeCells
      go_wp2_with (at_builtin; refine wpList_append_own _ rfl (.tmp 33) (.tmp 40) 38 rfl (w.heap.size + 2) 28 i0 _ 14 160 Try.underlying38 hi0 hz0 hz1 hz2 rfl (by decide) _ k xs rfl (hown3.alloc _) ⟨w3.heap.size, 0, none⟩ 1 1 (nodeCells (fewD n) ui uw ub) rfl rfl (fun j u hu => cells_new w3 _ 28 j u hu) hone ?c4 ?c5 ?c6 ?_)
      case c4 => have : maxLen = 9223372036854775807 := by decide
                 omega
      case c5 => omega
      case c6 => simp; omega
      intro v4 w4 hown4 hgrow _
      have hbox4 := (hbox3.step ((Past.refl w3).alloc _)).grownBy hgrow (fun j hj => (hlt j hj).1)
      have hpast4 := (hpast3.alloc _).grownBy hgrow (fun j hj => by have := (hlt j hj).1; omega)
      have hrow4 : Rows14 w ((ns.take 14).map fewD) (k + 1) (xs ++ nodeCells (fewD n) ui uw ub) := by
        have e : ((ns.take 14).map fewD).getD k default = fewD n := by
          rw [← hnk]
          simp [List.getD, h14, hlen]
        rw [← e]
        exact hrows.more hown3.1 (by rw [e]; exact uin)
      clear hown3 hbox3 hpast3 hgrow hrows hlt hsz hone
      go_wp2_with fail
      go_roundw
      case rel => exact ⟨k + 1, _, by omega, by go_num, hown4, hrow4, hbox4, hpast4⟩
      case measure => simp [intOf]; omega
    · obtain rfl : k = N := by omega
      have hm : ns.length ≤ 9223372036854775807 := Nat.le_trans (by omega) (show maxLen ≤ 9223372036854775807 by decide)
      obtain ⟨y0, y1, y2, y3, y4, y5, y7⟩ := hbox
      obtain ⟨r0, r1, r2, y8, y9, y10⟩ := box_cells y5
      have z0 := y3 0
      have z1 := y3 1
      have z2 := y3 2
      have z3 := y4 0
      have z4 := y4 1
      have z5 := y4 2
      obtain ⟨A4, l4, c4, rfl⟩ := own_slice hown
      by_cases t : k < ns.length
      · have t14 : k = 14 := by omega
        go_wp2_with fail
        try simp only [Exit.inBlock, Exit.then]
        refine bodyPost_ret (v := .agg #[.slice A1 l1 c1, .slice A4 l4 c4, .slice A3 l3 c3]) ?_ rfl ⟨_, rfl, ?_, ?_⟩
        · rw [results_cell_one rfl]
          go_simp
        · exact less_end hown hrows hpast hwf (by simp; omega)
        · exact (((hpast.setCell (by simp) _).setCell (by simp) _).setCell (by simp) _).setCell (by simp) _
      · have t2 : k = ns.length := by omega
        go_wp2_with fail
        try simp only [Exit.inBlock, Exit.then]
        refine bodyPost_ret (v := .agg #[.slice A1 l1 c1, .slice A4 l4 c4, .slice A3 l3 c3]) ?_ rfl ⟨_, rfl, ?_, ?_⟩
        · rw [results_cell_one rfl]
          go_simp
        · exact less_end hown hrows hpast hwf (by simp; omega)
        · exact (((hpast.setCell (by simp) _).setCell (by simp) _).setCell (by simp) _).setCell (by simp) _

set_option maxHeartbeats 2000000 in
theorem less_01 (w : World) (A2 : Option Addr) (A1 : Option Addr) (b3 o3 : Nat) (l1 c1 l2 c2 l3 c3 : Nat) (p1 : l1 ≤ 6) (p3 : 6 < l3) (q3 : l3 ≤ c3) (ns : List NodeD) (hn : IsNodes w (.slice A2 l2 c2) ns) :
    Calls Try.prog 14 #[.agg #[.slice A1 l1 c1, .slice A2 l2 c2, .slice (some ⟨b3, o3, none⟩) l3 c3]] w fun e w' => ∃ v, e = .returned (.agg #[.slice A1 l1 c1, v, .slice (some ⟨b3, o3, none⟩) 6 c3]) ∧ IsNodes w' v ((ns.take 14).map fewD) ∧ Past w w' := by
  obtain ⟨A, cap, hA, hl2, hc2, hn0, hwf, hat⟩ := hn
  obtain ⟨rfl, rfl, rfl⟩ : A2 = A ∧ l2 = ns.length ∧ c2 = cap := by simpa using hA
  obtain ⟨N, hN⟩ : ∃ N, N = min ns.length 14 := ⟨_, rfl⟩
  obtain ⟨i0, hi0, hz0, hz1, hz2⟩ := info_parts info28
  have t3 : decide ((6 : Int) < (l3 : Int)) = true := by simp; omega
  go_enter Try.func14, Try.ntmps14
  go_wp2
  have facts : Boxes w.heap.size (.slice A1 l1 c1) (.slice A2 ns.length c2) (.slice (some ⟨b3, o3, none⟩) 6 c3) (((w.alloc (.cells #[.slice A1 l1 c1, .slice A2 ns.length c2, .slice (some ⟨b3, o3, none⟩) 6 c3] 40)).alloc (.cells #[.slice none 0 0, .slice none 0 0, .slice none 0 0] 40)).alloc (.cells #[] 28)) := by
    refine ⟨by go_cell, by go_cell, by go_cell, ?_, ?_, ?_, by simp⟩
    · intro i
      rw [frozen?_alloc_cells, frozen?_alloc_cells, frozen?_alloc_cells]
      unfold World.frozen?
      rw [Array.getElem?_eq_none (by simp)]
    · intro i
      rw [frozen?_alloc_cells, frozen?_alloc_cells, frozen?_alloc_cells]
      unfold World.frozen?
      rw [Array.getElem?_eq_none (by simp)]
    · exact ⟨_, (heap_alloc_old _ _ (by simp)).trans (heap_alloc2_new _ _ _), rfl⟩
  have own : (((w.alloc (.cells #[.slice A1 l1 c1, .slice A2 ns.length c2, .slice (some ⟨b3, o3, none⟩) 6 c3] 40)).alloc (.cells #[.slice none 0 0, .slice none 0 0, .slice none 0 0] 40)).alloc (.cells #[] 28)).ownsRow (w.heap.size + 2) 28 14 (.slice (some ⟨w.heap.size + 1 + 1, 0, none⟩) 0 0) 0 [] := by
    have := World.ownsRow_made (base := w.heap.size + 2) (e := 28) (size := 14) ((w.alloc (.cells #[.slice A1 l1 c1, .slice A2 ns.length c2, .slice (some ⟨b3, o3, none⟩) 6 c3] 40)).alloc (.cells #[.slice none 0 0, .slice none 0 0, .slice none 0 0] 40)) #[] 0 (by simp) (by simp) (by simp)
    simpa using this
  have past : Past w (((w.alloc (.cells #[.slice A1 l1 c1, .slice A2 ns.length c2, .slice (some ⟨b3, o3, none⟩) 6 c3] 40)).alloc (.cells #[.slice none 0 0, .slice none 0 0, .slice none 0 0] 40)).alloc (.cells #[] 28)) := (((Past.refl w).alloc _).alloc _).alloc _
  generalize ((w.alloc (.cells #[.slice A1 l1 c1, .slice A2 ns.length c2, .slice (some ⟨b3, o3, none⟩) 6 c3] 40)).alloc (.cells #[.slice none 0 0, .slice none 0 0, .slice none 0 0] 40)).alloc (.cells #[] 28) = W0 at facts own past ⊢
  clear p3 q3
  go_loopw [3, 4] (fun s i wr => ∃ (k : Nat) (xs : List Value), k ≤ N ∧ i = .int .i64 k ∧ wr.ownsRow (w.heap.size + 2) 28 14 s k xs ∧ Rows14 w ((ns.take 14).map fewD) k xs ∧ Boxes w.heap.size (.slice A1 l1 c1) (.slice A2 ns.length c2) (.slice (some ⟨b3, o3, none⟩) 6 c3) wr ∧ Past w wr) (fun _ i _ => N - (intOf i).toNat)
  case atStart => exact ⟨0, [], by omega, rfl, own, Rows14.zero _ _, facts, past⟩
  case round =>
    obtain ⟨k, xs, hk, rfl, hown, hrows, hbox, hpast⟩ := hrel
    clear facts own past
    by_cases l : k < N
    · have hlen : k < ns.length := by omega
      have h14 : k < 14 := by omega
      obtain ⟨b, off, rfl, hb, hc⟩ := hat (by omega)
      obtain ⟨vi, vw, vb, hin, hcell⟩ := hc k hlen
      have wfk : NodeWf (ns.getD k default) := by
        have : ns.getD k default = ns[k] := by simp [List.getD, hlen]
        rw [this]; exact hwf _ (List.getElem_mem _)
      generalize hnk : ns.getD k default = n at hcell hin wfk
      have x0 := (hpast.cell (p := ⟨b, off + k * 14, none⟩) hb).trans (hcell 0 (by omega))
      have x1 := (hpast.cell (p := ⟨b, off + k * 14 + 1, none⟩) hb).trans (hcell 1 (by omega))
      have x2 := (hpast.cell (p := ⟨b, off + k * 14 + 2, none⟩) hb).trans (hcell 2 (by omega))
      have x3 := (hpast.cell (p := ⟨b, off + k * 14 + 3, none⟩) hb).trans (hcell 3 (by omega))
      have x4 := (hpast.cell (p := ⟨b, off + k * 14 + 4, none⟩) hb).trans (hcell 4 (by omega))
      have x5 := (hpast.cell (p := ⟨b, off + k * 14 + 5, none⟩) hb).trans (hcell 5 (by omega))
      have x6 := (hpast.cell (p := ⟨b, off + k * 14 + 6, none⟩) hb).trans (hcell 6 (by omega))
      have x7 := (hpast.cell (p := ⟨b, off + k * 14 + 7, none⟩) hb).trans (hcell 7 (by omega))
      have x8 := (hpast.cell (p := ⟨b, off + k * 14 + 8, none⟩) hb).trans (hcell 8 (by omega))
      have x9 := (hpast.cell (p := ⟨b, off + k * 14 + 9, none⟩) hb).trans (hcell 9 (by omega))
      have x10 := (hpast.cell (p := ⟨b, off + k * 14 + 10, none⟩) hb).trans (hcell 10 (by omega))
      have x11 := (hpast.cell (p := ⟨b, off + k * 14 + 11, none⟩) hb).trans (hcell 11 (by omega))
      have x12 := (hpast.cell (p := ⟨b, off + k * 14 + 12, none⟩) hb).trans (hcell 12 (by omega))
      have x13 := (hpast.cell (p := ⟨b, off + k * 14 + 13, none⟩) hb).trans (hcell 13 (by omega))
      simp only [nodeCells, List.getElem?_cons_zero, List.getElem?_cons_succ] at x0 x1 x2 x3 x4 x5 x6 x7 x8 x9 x10 x11 x12 x13
      have hbox' := Lib.hid hbox
      have hm : ns.length ≤ 9223372036854775807 := Nat.le_trans (by omega) (show maxLen ≤ 9223372036854775807 by decide)
      obtain ⟨y0, y1, y2, y3, y4, y5, y6⟩ := hbox
      clear y0 y2 y3 y4 y5 y6
      go_wp2_with fail
      refine (few_any w wr _ n ⟨vi, vw, vb, rfl, hin, wfk⟩).mono ?_
      rintro e w3 ⟨v', rfl, ⟨ui, uw, ub, rfl, uin, uwf⟩, g3⟩
      have hown3 := own_past hown (Grown.past g3)
      have hbox3 := hbox'.out.step (Grown.past g3)
      have hpast3 := hpast.trans (Grown.past g3)
      clear hown hbox' hpast g3 x0 x1 x2 x3 x4 x5 x6 x7 x8 x9 x10 x11 x12 x13 y1 hcell
      have hone := node_one uin
      have hsz : w.heap.size + 1 < w3.heap.size := hbox3.2.2.2.2.2.2
      have hlt := hown3.lt
      unfold nodeCells
      go_wp2_with (at_builtin; refine wpList_append_own _ rfl (.tmp 33) (.tmp 40) 38 rfl (w.heap.size + 2) 28 i0 _ 14 160 Try.underlying38 hi0 hz0 hz1 hz2 rfl (by decide) _ k xs rfl (hown3.alloc _) ⟨w3.heap.size, 0, none⟩ 1 1 (nodeCells (fewD n) ui uw ub) rfl rfl (fun j u hu => cells_new w3 _ 28 j u hu) hone ?c4 ?c5 ?c6 ?_)
      case c4 => have : maxLen = 9223372036854775807 := by decide
                 omega
      case c5 => omega
      case c6 => simp; omega
      intro v4 w4 hown4 hgrow _
      have hbox4 := (hbox3.step ((Past.refl w3).alloc _)).grownBy hgrow (fun j hj => (hlt j hj).1)
      have hpast4 := (hpast3.alloc _).grownBy hgrow (fun j hj => by have := (hlt j hj).1; omega)
      have hrow4 : Rows14 w ((ns.take 14).map fewD) (k + 1) (xs ++ nodeCells (fewD n) ui uw ub) := by
        have e : ((ns.take 14).map fewD).getD k default = fewD n := by
          rw [← hnk]
          simp [List.getD, h14, hlen]
        rw [← e]
        exact hrows.more hown3.1 (by rw [e]; exact uin)
      clear hown3 hbox3 hpast3 hgrow hrows hlt hsz hone
      go_wp2_with fail
      go_roundw
      case rel => exact ⟨k + 1, _, by omega, by go_num, hown4, hrow4, hbox4, hpast4⟩
      case measure => simp [intOf]; omega
    · obtain rfl : k = N := by omega
      have hm : ns.length ≤ 9223372036854775807 := Nat.le_trans (by omega) (show maxLen ≤ 9223372036854775807 by decide)
      obtain ⟨y0, y1, y2, y3, y4, y5, y7⟩ := hbox
      obtain ⟨r0, r1, r2, y8, y9, y10⟩ := box_cells y5
      have z0 := y3 0
      have z1 := y3 1
      have z2 := y3 2
      have z3 := y4 0
      have z4 := y4 1
      have z5 := y4 2
      obtain ⟨A4, l4, c4, rfl⟩ := own_slice hown
      by_cases t : k < ns.length
      · have t14 : k = 14 := by omega
        go_wp2_with fail
        try simp only [Exit.inBlock, Exit.then]
        refine bodyPost_ret (v := .agg #[.slice A1 l1 c1, .slice A4 l4 c4, .slice (some ⟨b3, o3, none⟩) 6 c3]) ?_ rfl ⟨_, rfl, ?_, ?_⟩
        · rw [results_cell_one rfl]
          go_simp
        · exact less_end hown hrows hpast hwf (by simp; omega)
        · exact (((hpast.setCell (by simp) _).setCell (by simp) _).setCell (by simp) _).setCell (by simp) _
      · have t2 : k = ns.length := by omega
        go_wp2_with fail
        try simp only [Exit.inBlock, Exit.then]
        refine bodyPost_ret (v := .agg #[.slice A1 l1 c1, .slice A4 l4 c4, .slice (some ⟨b3, o3, none⟩) 6 c3]) ?_ rfl ⟨_, rfl, ?_, ?_⟩
        · rw [results_cell_one rfl]
          go_simp
        · exact less_end hown hrows hpast hwf (by simp; omega)
        · exact (((hpast.setCell (by simp) _).setCell (by simp) _).setCell (by simp) _).setCell (by simp) _

set_option maxHeartbeats 2000000 in
theorem less_10 (w : World) (A2 : Option Addr) (b1 o1 : Nat) (A3 : Option Addr) (l1 c1 l2 c2 l3 c3 : Nat) (p1 : 6 < l1) (q1 : l1 ≤ c1) (p3 : l3 ≤ 6) (ns : List NodeD) (hn : IsNodes w (.slice A2 l2 c2) ns) :
    Calls Try.prog 14 #[.agg #[.slice (some ⟨b1, o1, none⟩) l1 c1, .slice A2 l2 c2, .slice A3 l3 c3]] w fun e w' => ∃ v, e = .returned (.agg #[.slice (some ⟨b1, o1, none⟩) 6 c1, v, .slice A3 l3 c3]) ∧ IsNodes w' v ((ns.take 14).map fewD) ∧ Past w w' := by
  obtain ⟨A, cap, hA, hl2, hc2, hn0, hwf, hat⟩ := hn
  obtain ⟨rfl, rfl, rfl⟩ : A2 = A ∧ l2 = ns.length ∧ c2 = cap := by simpa using hA
  obtain ⟨N, hN⟩ : ∃ N, N = min ns.length 14 := ⟨_, rfl⟩
  obtain ⟨i0, hi0, hz0, hz1, hz2⟩ := info_parts info28
  have t1 : decide ((6 : Int) < (l1 : Int)) = true := by simp; omega
  go_enter Try.func14, Try.ntmps14
  go_wp2
  have facts : Boxes w.heap.size (.slice (some ⟨b1, o1, none⟩) 6 c1) (.slice A2 ns.length c2) (.slice A3 l3 c3) (((w.alloc (.cells #[.slice (some ⟨b1, o1, none⟩) 6 c1, .slice A2 ns.length c2, .slice A3 l3 c3] 40)).alloc (.cells #[.slice none 0 0, .slice none 0 0, .slice none 0 0] 40)).alloc (.cells #[] 28)) := by
    refine ⟨by go_cell, by go_cell, by go_cell, ?_, ?_, ?_, by simp⟩
    · intro i
      rw [frozen?_alloc_cells, frozen?_alloc_cells, frozen?_alloc_cells]
      unfold World.frozen?
      rw [Array.getElem?_eq_none (by simp)]
    · intro i
      rw [frozen?_alloc_cells, frozen?_alloc_cells, frozen?_alloc_cells]
      unfold World.frozen?
      rw [Array.getElem?_eq_none (by simp)]
    · exact ⟨_, (heap_alloc_old _ _ (by simp)).trans (heap_alloc2_new _ _ _), rfl⟩
  have own : (((w.alloc (.cells #[.slice (some ⟨b1, o1, none⟩) 6 c1, .slice A2 ns.length c2, .slice A3 l3 c3] 40)).alloc (.cells #[.slice none 0 0, .slice none 0 0, .slice none 0 0] 40)).alloc (.cells #[] 28)).ownsRow (w.heap.size + 2) 28 14 (.slice (some ⟨w.heap.size + 1 + 1, 0, none⟩) 0 0) 0 [] := by
    have := World.ownsRow_made (base := w.heap.size + 2) (e := 28) (size := 14) ((w.alloc (.cells #[.slice (some ⟨b1, o1, none⟩) 6 c1, .slice A2 ns.length c2, .slice A3 l3 c3] 40)).alloc (.cells #[.slice none 0 0, .slice none 0 0, .slice none 0 0] 40)) #[] 0 (by simp) (by simp) (by simp)
    simpa using this
  have past : Past w (((w.alloc (.cells #[.slice (some ⟨b1, o1, none⟩) 6 c1, .slice A2 ns.length c2, .slice A3 l3 c3] 40)).alloc (.cells #[.slice none 0 0, .slice none 0 0, .slice none 0 0] 40)).alloc (.cells #[] 28)) := (((Past.refl w).alloc _).alloc _).alloc _
  generalize ((w.alloc (.cells #[.slice (some ⟨b1, o1, none⟩) 6 c1, .slice A2 ns.length c2, .slice A3 l3 c3] 40)).alloc (.cells #[.slice none 0 0, .slice none 0 0, .slice none 0 0] 40)).alloc (.cells #[] 28) = W0 at facts own past ⊢
  clear p1 q1
  go_loopw [3, 4] (fun s i wr => ∃ (k : Nat) (xs : List Value), k ≤ N ∧ i = .int .i64 k ∧ wr.ownsRow (w.heap.size + 2) 28 14 s k xs ∧ Rows14 w ((ns.take 14).map fewD) k xs ∧ Boxes w.heap.size (.slice (some ⟨b1, o1, none⟩) 6 c1) (.slice A2 ns.length c2) (.slice A3 l3 c3) wr ∧ Past w wr) (fun _ i _ => N - (intOf i).toNat)
  case atStart => exact ⟨0, [], by omega, rfl, own, Rows14.zero _ _, facts, past⟩
  case round =>
    obtain ⟨k, xs, hk, rfl, hown, hrows, hbox, hpast⟩ := hrel
    clear facts own past
    by_cases l : k < N
    · have hlen : k < ns.length := by omega
      have h14 : k < 14 := by omega
      obtain ⟨b, off, rfl, hb, hc⟩ := hat (by omega)
      obtain ⟨vi, vw, vb, hin, hcell⟩ := hc k hlen
      have wfk : NodeWf (ns.getD k default) := by
        have : ns.getD k default = ns[k] := by simp [List.getD, hlen]
        rw [this]; exact hwf _ (List.getElem_mem _)
      generalize hnk : ns.getD k default = n at hcell hin wfk
      have x0 := (hpast.cell (p := ⟨b, off + k * 14, none⟩) hb).trans (hcell 0 (by omega))
      have x1 := (hpast.cell (p := ⟨b, off + k * 14 + 1, none⟩) hb).trans (hcell 1 (by omega))
      have x2 := (hpast.cell (p := ⟨b, off + k * 14 + 2, none⟩) hb).trans (hcell 2 (by omega))
      have x3 := (hpast.cell (p := ⟨b, off + k * 14 + 3, none⟩) hb).trans (hcell 3 (by omega))
      have x4 := (hpast.cell (p := ⟨b, off + k * 14 + 4, none⟩) hb).trans (hcell 4 (by omega))
      have x5 := (hpast.cell (p := ⟨b, off + k * 14 + 5, none⟩) hb).trans (hcell 5 (by omega))
      have x6 := (hpast.cell (p := ⟨b, off + k * 14 + 6, none⟩) hb).trans (hcell 6 (by omega))
      have x7 := (hpast.cell (p := ⟨b, off + k * 14 + 7, none⟩) hb).trans (hcell 7 (by omega))
      have x8 := (hpast.cell (p := ⟨b, off + k * 14 + 8, none⟩) hb).trans (hcell 8 (by omega))
      have x9 := (hpast.cell (p := ⟨b, off + k * 14 + 9, none⟩) hb).trans (hcell 9 (by omega))
      have x10 := (hpast.cell (p := ⟨b, off + k * 14 + 10, none⟩) hb).trans (hcell 10 (by omega))
      have x11 := (hpast.cell (p := ⟨b, off + k * 14 + 11, none⟩) hb).trans (hcell 11 (by omega))
      have x12 := (hpast.cell (p := ⟨b, off + k * 14 + 12, none⟩) hb).trans (hcell 12 (by omega))
      have x13 := (hpast.cell (p := ⟨b, off + k * 14 + 13, none⟩) hb).trans (hcell 13 (by omega))
      simp only [nodeCells, List.getElem?_cons_zero, List.getElem?_cons_succ] at x0 x1 x2 x3 x4 x5 x6 x7 x8 x9 x10 x11 x12 x13
      have hbox' := Lib.hid hbox
      have hm : ns.length ≤ 9223372036854775807 := Nat.le_trans (by omega) (show maxLen ≤ 9223372036854775807 by decide)
      obtain ⟨y0, y1, y2, y3, y4, y5, y6⟩ := hbox
      clear y0 y2 y3 y4 y5 y6
      go_wp2_with fail
      refine (few_any w wr _ n ⟨vi, vw, vb, rfl, hin, wfk⟩).mono ?_
      rintro e w3 ⟨v', rfl, ⟨ui, uw, ub, rfl, uin, uwf⟩, g3⟩
      have hown3 := own_past hown (Grown.past g3)
      have hbox3 := hbox'.out.step (Grown.past g3)
      have hpast3 := hpast.trans (Grown.past g3)
      clear hown hbox' hpast g3 x0 x1 x2 x3 x4 x5 x6 x7 x8 x9 x10 x11 x12 x13 y1 hcell
      have hone := node_one uin
      have hsz : w.heap.size + 1 < w3.heap.size := hbox3.2.2.2.2.2.2
      have hlt := hown3.lt
      unfold nodeCells
      go_wp2_with (at_builtin; refine wpList_append_own _ rfl (.tmp 33) (.tmp 40) 38 rfl (w.heap.size + 2) 28 i0 _ 14 160 Try.underlying38 hi0 hz0 hz1 hz2 rfl (by decide) _ k xs rfl (hown3.alloc _) ⟨w3.heap.size, 0, none⟩ 1 1 (nodeCells (fewD n) ui uw ub) rfl rfl (fun j u hu => cells_new w3 _ 28 j u hu) hone ?c4 ?c5 ?c6 ?_)
      case c4 => have : maxLen = 9223372036854775807 := by decide
                 omega
      case c5 => omega
      case c6 => simp; omega
      intro v4 w4 hown4 hgrow _
      have hbox4 := (hbox3.step ((Past.refl w3).alloc _)).grownBy hgrow (fun j hj => (hlt j hj).1)
      have hpast4 := (hpast3.alloc _).grownBy hgrow (fun j hj => by have := (hlt j hj).1; omega)
      have hrow4 : Rows14 w ((ns.take 14).map fewD) (k + 1) (xs ++ nodeCells (fewD n) ui uw ub) := by
        have e : ((ns.take 14).map fewD).getD k default = fewD n := by
          rw [← hnk]
          simp [List.getD, h14, hlen]
        rw [← e]
        exact hrows.more hown3.1 (by rw [e]; exact uin)
      clear hown3 hbox3 hpast3 hgrow hrows hlt hsz hone
      go_wp2_with fail
      go_roundw
      case rel => exact ⟨k + 1, _, by omega, by go_num, hown4, hrow4, hbox4, hpast4⟩
      case measure => simp [intOf]; omega
    · obtain rfl : k = N := by omega
      have hm : ns.length ≤ 9223372036854775807 := Nat.le_trans (by omega) (show maxLen ≤ 9223372036854775807 by decide)
      obtain ⟨y0, y1, y2, y3, y4, y5, y7⟩ := hbox
      obtain ⟨r0, r1, r2, y8, y9, y10⟩ := box_cells y5
      have z0 := y3 0
      have z1 := y3 1
      have z2 := y3 2
      have z3 := y4 0
      have z4 := y4 1
      have z5 := y4 2
      obtain ⟨A4, l4, c4, rfl⟩ := own_slice hown
      by_cases t : k < ns.length
      · have t14 : k = 14 := by omega
        go_wp2_with fail
        try simp only [Exit.inBlock, Exit.then]
        refine bodyPost_ret (v := .agg #[.slice (some ⟨b1, o1, none⟩) 6 c1, .slice A4 l4 c4, .slice A3 l3 c3]) ?_ rfl ⟨_, rfl, ?_, ?_⟩
        · rw [results_cell_one rfl]
          go_simp
        · exact less_end hown hrows hpast hwf (by simp; omega)
        · exact (((hpast.setCell (by simp) _).setCell (by simp) _).setCell (by simp) _).setCell (by simp) _
      · have t2 : k = ns.length := by omega
        go_wp2_with fail
        try simp only [Exit.inBlock, Exit.then]
        refine bodyPost_ret (v := .agg #[.slice (some ⟨b1, o1, none⟩) 6 c1, .slice A4 l4 c4, .slice A3 l3 c3]) ?_ rfl ⟨_, rfl, ?_, ?_⟩
        · rw [results_cell_one rfl]
          go_simp
        · exact less_end hown hrows hpast hwf (by simp; omega)
        · exact (((hpast.setCell (by simp) _).setCell (by simp) _).setCell (by simp) _).setCell (by simp) _

set_option maxHeartbeats 2000000 in
theorem less_11 (w : World) (A2 : Option Addr) (b1 o1 : Nat) (b3 o3 : Nat) (l1 c1 l2 c2 l3 c3 : Nat) (p1 : 6 < l1) (q1 : l1 ≤ c1) (p3 : 6 < l3) (q3 : l3 ≤ c3) (ns : List NodeD) (hn : IsNodes w (.slice A2 l2 c2) ns) :
    Calls Try.prog 14 #[.agg #[.slice (some ⟨b1, o1, none⟩) l1 c1, .slice A2 l2 c2, .slice (some ⟨b3, o3, none⟩) l3 c3]] w fun e w' => ∃ v, e = .returned (.agg #[.slice (some ⟨b1, o1, none⟩) 6 c1, v, .slice (some ⟨b3, o3, none⟩) 6 c3]) ∧ IsNodes w' v ((ns.take 14).map fewD) ∧ Past w w' := by
  obtain ⟨A, cap, hA, hl2, hc2, hn0, hwf, hat⟩ := hn
  obtain ⟨rfl, rfl, rfl⟩ : A2 = A ∧ l2 = ns.length ∧ c2 = cap := by simpa using hA
  obtain ⟨N, hN⟩ : ∃ N, N = min ns.length 14 := ⟨_, rfl⟩
  obtain ⟨i0, hi0, hz0, hz1, hz2⟩ := info_parts info28
  have t1 : decide ((6 : Int) < (l1 : Int)) = true := by simp; omega
  have t3 : decide ((6 : Int) < (l3 : Int)) = true := by simp; omega
  go_enter Try.func14, Try.ntmps14
  go_wp2
  have facts : Boxes w.heap.size (.slice (some ⟨b1, o1, none⟩) 6 c1) (.slice A2 ns.length c2) (.slice (some ⟨b3, o3, none⟩) 6 c3) (((w.alloc (.cells #[.slice (some ⟨b1, o1, none⟩) 6 c1, .slice A2 ns.length c2, .slice (some ⟨b3, o3, none⟩) 6 c3] 40)).alloc (.cells #[.slice none 0 0, .slice none 0 0, .slice none 0 0] 40)).alloc (.cells #[] 28)) := by
    refine ⟨by go_cell, by go_cell, by go_cell, ?_, ?_, ?_, by simp⟩
    · intro i
      rw [frozen?_alloc_cells, frozen?_alloc_cells, frozen?_alloc_cells]
      unfold World.frozen?
      rw [Array.getElem?_eq_none (by simp)]
    · intro i
      rw [frozen?_alloc_cells, frozen?_alloc_cells, frozen?_alloc_cells]
      unfold World.frozen?
      rw [Array.getElem?_eq_none (by simp)]
    · exact ⟨_, (heap_alloc_old _ _ (by simp)).trans (heap_alloc2_new _ _ _), rfl⟩
  have own : (((w.alloc (.cells #[.slice (some ⟨b1, o1, none⟩) 6 c1, .slice A2 ns.length c2, .slice (some ⟨b3, o3, none⟩) 6 c3] 40)).alloc (.cells #[.slice none 0 0, .slice none 0 0, .slice none 0 0] 40)).alloc (.cells #[] 28)).ownsRow (w.heap.size + 2) 28 14 (.slice (some ⟨w.heap.size + 1 + 1, 0, none⟩) 0 0) 0 [] := by
    have := World.ownsRow_made (base := w.heap.size + 2) (e := 28) (size := 14) ((w.alloc (.cells #[.slice (some ⟨b1, o1, none⟩) 6 c1, .slice A2 ns.length c2, .slice (some ⟨b3, o3, none⟩) 6 c3] 40)).alloc (.cells #[.slice none 0 0, .slice none 0 0, .slice none 0 0] 40)) #[] 0 (by simp) (by simp) (by simp)
    simpa using this
  have past : Past w (((w.alloc (.cells #[.slice (some ⟨b1, o1, none⟩) 6 c1, .slice A2 ns.length c2, .slice (some ⟨b3, o3, none⟩) 6 c3] 40)).alloc (.cells #[.slice none 0 0, .slice none 0 0, .slice none 0 0] 40)).alloc (.cells #[] 28)) := (((Past.refl w).alloc _).alloc _).alloc _
  generalize ((w.alloc (.cells #[.slice (some ⟨b1, o1, none⟩) 6 c1, .slice A2 ns.length c2, .slice (some ⟨b3, o3, none⟩) 6 c3] 40)).alloc (.cells #[.slice none 0 0, .slice none 0 0, .slice none 0 0] 40)).alloc (.cells #[] 28) = W0 at facts own past ⊢
  clear p1 q1 p3 q3
  go_loopw [3, 4] (fun s i wr => ∃ (k : Nat) (xs : List Value), k ≤ N ∧ i = .int .i64 k ∧ wr.ownsRow (w.heap.size + 2) 28 14 s k xs ∧ Rows14 w ((ns.take 14).map fewD) k xs ∧ Boxes w.heap.size (.slice (some ⟨b1, o1, none⟩) 6 c1) (.slice A2 ns.length c2) (.slice (some ⟨b3, o3, none⟩) 6 c3) wr ∧ Past w wr) (fun _ i _ => N - (intOf i).toNat)
  case atStart => exact ⟨0, [], by omega, rfl, own, Rows14.zero _ _, facts, past⟩
  case round =>
    obtain ⟨k, xs, hk, rfl, hown, hrows, hbox, hpast⟩ := hrel
    clear facts own past
    by_cases l : k < N
    · have hlen : k < ns.length := by omega
      have h14 : k < 14 := by omega
      obtain ⟨b, off, rfl, hb, hc⟩ := hat (by omega)
      obtain ⟨vi, vw, vb, hin, hcell⟩ := hc k hlen
      have wfk : NodeWf (ns.getD k default) := by
        have : ns.getD k default = ns[k] := by simp [List.getD, hlen]
        rw [this]; exact hwf _ (List.getElem_mem _)
      generalize hnk : ns.getD k default = n at hcell hin wfk
      have x0 := (hpast.cell (p := ⟨b, off + k * 14, none⟩) hb).trans (hcell 0 (by omega))
      have x1 := (hpast.cell (p := ⟨b, off + k * 14 + 1, none⟩) hb).trans (hcell 1 (by omega))
      have x2 := (hpast.cell (p := ⟨b, off + k * 14 + 2, none⟩) hb).trans (hcell 2 (by omega))
      have x3 := (hpast.cell (p := ⟨b, off + k * 14 + 3, none⟩) hb).trans (hcell 3 (by omega))
      have x4 := (hpast.cell (p := ⟨b, off + k * 14 + 4, none⟩) hb).trans (hcell 4 (by omega))
      have x5 := (hpast.cell (p := ⟨b, off + k * 14 + 5, none⟩) hb).trans (hcell 5 (by omega))
      have x6 := (hpast.cell (p := ⟨b, off + k * 14 + 6, none⟩) hb).trans (hcell 6 (by omega))
      have x7 := (hpast.cell (p := ⟨b, off + k * 14 + 7, none⟩) hb).trans (hcell 7 (by omega))
      have x8 := (hpast.cell (p := ⟨b, off + k * 14 + 8, none⟩) hb).trans (hcell 8 (by omega))
      have x9 := (hpast.cell (p := ⟨b, off + k * 14 + 9, none⟩) hb).trans (hcell 9 (by omega))
      have x10 := (hpast.cell (p := ⟨b, off + k * 14 + 10, none⟩) hb).trans (hcell 10 (by omega))
      have x11 := (hpast.cell (p := ⟨b, off + k * 14 + 11, none⟩) hb).trans (hcell 11 (by omega))
      have x12 := (hpast.cell (p := ⟨b, off + k * 14 + 12, none⟩) hb).trans (hcell 12 (by omega))
      have x13 := (hpast.cell (p := ⟨b, off + k * 14 + 13, none⟩) hb).trans (hcell 13 (by omega))
      simp only [nodeCells, List.getElem?_cons_zero, List.getElem?_cons_succ] at x0 x1 x2 x3 x4 x5 x6 x7 x8 x9 x10 x11 x12 x13
      have hbox' := Lib.hid hbox
      have hm : ns.length ≤ 9223372036854775807 := Nat.le_trans (by omega) (show maxLen ≤ 9223372036854775807 by decide)
      obtain ⟨y0, y1, y2, y3, y4, y5, y6⟩ := hbox
      clear y0 y2 y3 y4 y5 y6
      go_wp2_with fail
      refine (few_any w wr _ n ⟨vi, vw, vb, rfl, hin, wfk⟩).mono ?_
      rintro e w3 ⟨v', rfl, ⟨ui, uw, ub, rfl, uin, uwf⟩, g3⟩
      have hown3 := own_past hown (Grown.past g3)
      have hbox3 := hbox'.out.step (Grown.past g3)
      have hpast3 := hpast.trans (Grown.past g3)
      clear hown hbox' hpast g3 x0 x1 x2 x3 x4 x5 x6 x7 x8 x9 x10 x11 x12 x13 y1 hcell
      have hone := node_one uin
      have hsz : w.heap.size + 1 < w3.heap.size := hbox3.2.2.2.2.2.2
      have hlt := hown3.lt
      unfold nodeCells
      go_wp2_with (at_builtin; refine wpList_append_own _ rfl (.tmp 33) (.tmp 40) 38 rfl (w.heap.size + 2) 28 i0 _ 14 160 Try.underlying38 hi0 hz0 hz1 hz2 rfl (by decide) _ k xs rfl (hown3.alloc _) ⟨w3.heap.size, 0, none⟩ 1 1 (nodeCells (fewD n) ui uw ub) rfl rfl (fun j u hu => cells_new w3 _ 28 j u hu) hone ?c4 ?c5 ?c6 ?_)
      case c4 => have : maxLen = 9223372036854775807 := by decide
                 omega
      case c5 => omega
      case c6 => simp; omega
      intro v4 w4 hown4 hgrow _
      have hbox4 := (hbox3.step ((Past.refl w3).alloc _)).grownBy hgrow (fun j hj => (hlt j hj).1)
      have hpast4 := (hpast3.alloc _).grownBy hgrow (fun j hj => by have := (hlt j hj).1; omega)
      have hrow4 : Rows14 w ((ns.take 14).map fewD) (k + 1) (xs ++ nodeCells (fewD n) ui uw ub) := by
        have e : ((ns.take 14).map fewD).getD k default = fewD n := by
          rw [← hnk]
          simp [List.getD, h14, hlen]
        rw [← e]
        exact hrows.more hown3.1 (by rw [e]; exact uin)
      clear hown3 hbox3 hpast3 hgrow hrows hlt hsz hone
      go_wp2_with fail
      go_roundw
      case rel => exact ⟨k + 1, _, by omega, by go_num, hown4, hrow4, hbox4, hpast4⟩
      case measure => simp [intOf]; omega
    · obtain rfl : k = N := by omega
      have hm : ns.length ≤ 9223372036854775807 := Nat.le_trans (by omega) (show maxLen ≤ 9223372036854775807 by decide)
      obtain ⟨y0, y1, y2, y3, y4, y5, y7⟩ := hbox
      obtain ⟨r0, r1, r2, y8, y9, y10⟩ := box_cells y5
      have z0 := y3 0
      have z1 := y3 1
      have z2 := y3 2
      have z3 := y4 0
      have z4 := y4 1
      have z5 := y4 2
      obtain ⟨A4, l4, c4, rfl⟩ := own_slice hown
      by_cases t : k < ns.length
      · have t14 : k = 14 := by omega
        go_wp2_with fail
        try simp only [Exit.inBlock, Exit.then]
        refine bodyPost_ret (v := .agg #[.slice (some ⟨b1, o1, none⟩) 6 c1, .slice A4 l4 c4, .slice (some ⟨b3, o3, none⟩) 6 c3]) ?_ rfl ⟨_, rfl, ?_, ?_⟩
        · rw [results_cell_one rfl]
          go_simp
        · exact less_end hown hrows hpast hwf (by simp; omega)
        · exact (((hpast.setCell (by simp) _).setCell (by simp) _).setCell (by simp) _).setCell (by simp) _
      · have t2 : k = ns.length := by omega
        go_wp2_with fail
        try simp only [Exit.inBlock, Exit.then]
        refine bodyPost_ret (v := .agg #[.slice (some ⟨b1, o1, none⟩) 6 c1, .slice A4 l4 c4, .slice (some ⟨b3, o3, none⟩) 6 c3]) ?_ rfl ⟨_, rfl, ?_, ?_⟩
        · rw [results_cell_one rfl]
          go_simp
        · exact less_end hown hrows hpast hwf (by simp; omega)
        · exact (((hpast.setCell (by simp) _).setCell (by simp) _).setCell (by simp) _).setCell (by simp) _

theorem vals_cut {w : World} {v : Value} {xs : List ValD} (m : Nat) (h : IsVals w v xs) :
    (∃ (A : Option Addr) (len cap : Nat), v = .slice A len cap ∧ len ≤ m ∧ IsVals w (.slice A len cap) (xs.take m)) ∨
    (∃ (b off len cap : Nat), v = .slice (some ⟨b, off, none⟩) len cap ∧ m < len ∧ len ≤ cap ∧ IsVals w (.slice (some ⟨b, off, none⟩) m cap) (xs.take m)) := by
  have h0 := h
  obtain ⟨A, cap, h1, h2, h3, h4, h5, h6⟩ := h
  by_cases c : xs.length ≤ m
  · exact Or.inl ⟨A, xs.length, cap, h1, c, by rw [List.take_of_length_le c, ← h1]; exact h0⟩
  · obtain ⟨b, off, rfl, hb, hc⟩ := h6 (by omega)
    have hl : (xs.take m).length = m := by rw [List.length_take]; omega
    refine Or.inr ⟨b, off, xs.length, cap, h1, by omega, h2, some ⟨b, off, none⟩, cap, by rw [hl], by omega, h3, (fun h => by cases h), fun x hx => h5 x (List.mem_of_mem_take hx), fun _ => ⟨b, off, rfl, hb, fun i hi => ?_⟩⟩
    rw [hl] at hi
    have e : (xs.take m).getD i default = xs.getD i default := by simp [List.getD, hi]
    rw [e]
    exact hc i (by omega)

theorem less_any (w : World) (v : Value) (g : GraphD) (h : IsGraph w v g) : Calls Try.prog 14 #[v] w fun e w' => ∃ v', e = .returned v' ∧ IsGraph w' v' (lessD g) ∧ Past w w' := by
  obtain ⟨a, b, c, rfl, hi, hn, ho⟩ := h
  obtain ⟨A2, l2, c2, rfl⟩ : ∃ A l c, b = .slice A l c := by
    obtain ⟨A, cap, rfl, _⟩ := hn
    exact ⟨_, _, _, rfl⟩
  rcases vals_cut 6 hi with ⟨A1, l1, c1, rfl, p1, S1⟩ | ⟨b1, o1, l1, c1, rfl, p1, q1, S1⟩
  · rcases nums_cut 6 ho with ⟨A3, l3, c3, rfl, p3, q3, r3, S3⟩ | ⟨b3, o3, l3, c3, rfl, p3, q3, r3, S3⟩
    · exact (less_00 w A2 A1 A3 l1 c1 l2 c2 l3 c3 p1 p3 g.nodes hn).mono fun e w' ⟨v', he, hv', hp⟩ => ⟨_, he, ⟨_, _, _, rfl, S1.grow hp, hv', S3.grow hp⟩, hp⟩
    · exact (less_01 w A2 A1 b3 o3 l1 c1 l2 c2 l3 c3 p1 p3 q3 g.nodes hn).mono fun e w' ⟨v', he, hv', hp⟩ => ⟨_, he, ⟨_, _, _, rfl, S1.grow hp, hv', S3.grow hp⟩, hp⟩
  · rcases nums_cut 6 ho with ⟨A3, l3, c3, rfl, p3, q3, r3, S3⟩ | ⟨b3, o3, l3, c3, rfl, p3, q3, r3, S3⟩
    · exact (less_10 w A2 b1 o1 A3 l1 c1 l2 c2 l3 c3 p1 q1 p3 g.nodes hn).mono fun e w' ⟨v', he, hv', hp⟩ => ⟨_, he, ⟨_, _, _, rfl, S1.grow hp, hv', S3.grow hp⟩, hp⟩
    · exact (less_11 w A2 b1 o1 b3 o3 l1 c1 l2 c2 l3 c3 p1 q1 p3 q3 g.nodes hn).mono fun e w' ⟨v', he, hv', hp⟩ => ⟨_, he, ⟨_, _, _, rfl, S1.grow hp, hv', S3.grow hp⟩, hp⟩
end Go.Proofs.Ytpfenpfnflkfiaa
