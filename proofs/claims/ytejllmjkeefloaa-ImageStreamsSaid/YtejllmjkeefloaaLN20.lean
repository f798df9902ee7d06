/- quiltlaw04's less: a graph of at most 6 values, 14 nodes, 6 that come out. -/
import Derived.Test.YtejllmjkeefloaaLN13
namespace Go.Proofs.Ytejllmjkeefloaa
open Go.ChangeShapes Go.WideShapes Go.ChangeAt Go.RowKit
set_option maxRecDepth 20000
set_option linter.unusedVariables false

def fewD (n : NodeD) : NodeD := { n with ins := n.ins.take 20, ws := n.ws.take 5000, bs := n.bs.take 20 }
def lessD (g : GraphD) : GraphD := { ins := g.ins.take 6, nodes := (g.nodes.take 14).map fewD, outs := g.outs.take 6 }
/-- A slice, or its first m. -/
theorem nums_cut' {k : IntKind} {w : World} {A : Option Addr} {len cap : Nat} {xs : List Int} (m : Nat) (h : IsNums k w (.slice A len cap) xs) : IsNums k w (.slice A (xs.take m).length cap) (xs.take m) := by
  obtain ⟨A', cap', e, h2, h3, h4, h5, h6⟩ := h
  simp only [Value.slice.injEq] at e
  obtain ⟨rfl, rfl, rfl⟩ := e
  have hl : (xs.take m).length ≤ xs.length := by simp; omega
  refine ⟨A, cap, rfl, by omega, h3, h4, fun x hx => h5 x (List.mem_of_mem_take hx), fun hp => ?_⟩
  obtain ⟨b, off, rfl, hb, hc⟩ := h6 (by omega)
  refine ⟨b, off, rfl, hb, fun i hi => ?_⟩
  rw [hc i (by omega)]
  have : i < m := by simp at hi; omega
  simp [List.getD, this]
theorem vals_cut' {w : World} {A : Option Addr} {len cap : Nat} {xs : List ValD} (m : Nat) (h : IsVals w (.slice A len cap) xs) : IsVals w (.slice A (xs.take m).length cap) (xs.take m) := by
  obtain ⟨A', cap', e, h2, h3, h4, h5, h6⟩ := h
  simp only [Value.slice.injEq] at e
  obtain ⟨rfl, rfl, rfl⟩ := e
  have hl : (xs.take m).length ≤ xs.length := by simp; omega
  refine ⟨A, cap, rfl, by omega, h3, h4, fun x hx => h5 x (List.mem_of_mem_take hx), fun hp => ?_⟩
  obtain ⟨b, off, rfl, hb, hc⟩ := h6 (by omega)
  refine ⟨b, off, rfl, hb, fun i hi => ?_⟩
  have hm : i < m := by simp at hi; omega
  have e : (xs.take m).getD i default = xs.getD i default := by simp [List.getD, hm]
  rw [e]
  exact hc i (by omega)
/-- Nodes whose slices stand in what was there. -/
def RowsO (w : World) (l : List NodeD) (xs : List Value) : Prop :=
  ∀ j, j < l.length → ∃ vi vw vb, NodeIn w (l.getD j default) vi vw vb ∧ (xs.drop (j * 14)).take 14 = nodeCells (l.getD j default) vi vw vb
theorem RowsO.more {w : World} {l : List NodeD} {n : NodeD} {xs : List Value} {vi vw vb : Value} (h : RowsO w l xs) (hl : xs.length = l.length * 14) (hn : NodeIn w n vi vw vb) : RowsO w (l ++ [n]) (xs ++ nodeCells n vi vw vb) := by
  intro j hj
  simp only [List.length_append, List.length_cons, List.length_nil] at hj
  by_cases c : j < l.length
  · obtain ⟨a1, a2, a3, k1, k2⟩ := h j c
    have e : (l ++ [n]).getD j default = l.getD j default := by simp [List.getD, List.getElem?_append_left c]
    rw [e]
    refine ⟨a1, a2, a3, k1, ?_⟩
    rw [List.drop_append_of_le_length (by omega), List.take_append_of_le_length (by rw [List.length_drop]; omega)]
    exact k2
  · obtain rfl : j = l.length := by omega
    have e : (l ++ [n]).getD l.length default = n := by simp [List.getD]
    rw [e]
    refine ⟨vi, vw, vb, hn, ?_⟩
    rw [← hl, List.drop_left]
    rfl
theorem nodes_of_rowsO {W w : World} {base : Nat} {v : Value} {ns : List NodeD} {xs : List Value} (ho : w.ownsRow base 70 14 v ns.length xs) (hr : RowsO W ns xs) (g : Past W w) (wf : ∀ n ∈ ns, NodeWf n) : IsNodes w v ns := by
  obtain ⟨hl, h⟩ := ho
  rcases h with ⟨rfl, h0⟩ | ⟨b, cap, cur, rfl, hb, hg, hn, hm, hs, ht⟩
  · have : ns = [] := List.eq_nil_of_length_eq_zero h0
    subst this
    exact ⟨none, 0, rfl, Nat.le_refl _, Nat.zero_le _, fun _ => rfl, by simp, by simp⟩
  · refine ⟨some ⟨b, 0, none⟩, cap, rfl, hn, hm, (fun h => by cases h), wf, fun hp => ⟨b, 0, rfl, (Array.getElem?_eq_some_iff.1 hg).1, fun i hi => ?_⟩⟩
    obtain ⟨vi, vw, vb, h1, h2⟩ := hr i hi
    refine ⟨vi, vw, vb, h1.grow g, fun j hj => ?_⟩
    rw [← h2, List.getElem?_take_of_lt hj, List.getElem?_drop, ← ht, List.getElem?_take_of_lt (by omega)]
    simp [World.cell?, hg]
theorem node_cells_one {w : World} {n : NodeD} {vi vw vb : Value} (h : NodeIn w n vi vw vb) : ∀ u ∈ nodeCells n vi vw vb, u.oneCell' = true := by
  obtain ⟨⟨a, b, rfl, _⟩, ⟨c, d, rfl, _⟩, ⟨e, f, rfl, _⟩⟩ := h
  intro u hu
  simp only [nodeCells, List.mem_cons, List.not_mem_nil, or_false] at hu
  rcases hu with rfl | rfl | rfl | rfl | rfl | rfl | rfl | rfl | rfl | rfl | rfl | rfl | rfl | rfl <;> rfl
theorem own_set_ne {w : World} {base e size n Q o : Nat} {u v : Value} {xs : List Value} (h : w.ownsRow base e size v n xs) (hQ : ∀ j, v.ownBlock = some j → j ≠ Q) : (w.setCell ⟨Q, o, none⟩ u).ownsRow base e size v n xs := by
  refine ⟨h.1, ?_⟩
  rcases h.2 with hn | ⟨b, cap, cur, rfl, hb, hg, rest⟩
  · exact Or.inl hn
  · exact Or.inr ⟨b, cap, cur, rfl, hb, (Below.heap_setCell w ⟨Q, o, none⟩ u b (hQ b rfl)).trans hg, rest⟩
theorem few_take (ns : List NodeD) (k : Nat) (h : k < ns.length) : (ns.take (k + 1)).map fewD = (ns.take k).map fewD ++ [fewD (ns.getD k default)] := by
  rw [List.take_succ_eq_append_getElem h, List.map_append]
  simp [List.getD, h]
theorem free_grownBy' {w w' : World} {row : Option Nat} {b : Nat} (g : w.grownBy w' row) (h : (∀ o : Nat, w.frozen? ⟨b, o, none⟩ = false)) (hb : b < w.heap.size) (hr : some b ≠ row) : (∀ o : Nat, w'.frozen? ⟨b, o, none⟩ = false) :=
  fun o => (World.frozen?_of_block (a := ⟨b, o, none⟩) (g.block b hb hr)).trans (h o)
end Go.Proofs.Ytejllmjkeefloaa
