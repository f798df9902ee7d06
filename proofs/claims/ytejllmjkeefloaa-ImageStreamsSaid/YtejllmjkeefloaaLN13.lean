/- The reader: node. The reader: a list of nodes. What is read may stand in memory; from rows that a call owns to graphs. The reader: graph. Take. Whole. A graph that may be has numbers that have room in their bytes; what was put and what is taken. -/
import Derived.Test.YtejllmjkeefloaaLP2
namespace Go.Proofs.Ytejllmjkeefloaa
open Go.ChangeShapes Go.WideShapes Go.ChangeAt Go.RowKit
set_option maxRecDepth 20000
set_option linter.unusedVariables false

theorem box_at {w : World} {b : Nat} {cs : Array Value} (h : (∀ o : Nat, w.cell? ⟨b, o, none⟩ = (cs : Array Value)[o]?)) (i : Nat) (hi : i < cs.size) (y : Value) : (∀ o : Nat, (w.setCell ⟨b, i, none⟩ y).cell? ⟨b, o, none⟩ = (cs.setIfInBounds i y : Array Value)[o]?) := by
  intro o
  by_cases c : i = o
  · subst c
    rw [World.cell?_setCell_same w _ _ ((h i).trans (Array.getElem?_eq_getElem hi)), Array.getElem?_setIfInBounds_self_of_lt hi]
  · rw [World.cell?_setCell_other _ _ _ _ (by first | (simp; done) | (simp; omega)), Array.getElem?_setIfInBounds_ne c]
    exact h o
theorem own_set {w : World} {base e size n Q o : Nat} {u v : Value} {xs : List Value} (h : w.ownsRow base e size v n xs) (hQ : Q < base) : (w.setCell ⟨Q, o, none⟩ u).ownsRow base e size v n xs := by
  refine ⟨h.1, ?_⟩
  rcases h.2 with hn | ⟨b, cap, cur, rfl, hb, hg, rest⟩
  · exact Or.inl hn
  · exact Or.inr ⟨b, cap, cur, rfl, hb, (Below.heap_setCell w ⟨Q, o, none⟩ u b (by simp only; omega)).trans hg, rest⟩
theorem size_setCell (w : World) (a : Addr) (u : Value) : (w.setCell a u).heap.size = w.heap.size := by simp [World.setCell]
/-- A node's slices, which a call owns. -/
def NodeOwn (w : World) (base : Nat) (n : NodeD) (vi vw vb : Value) : Prop := OwnI .i64 3 w base vi n.ins ∧ OwnI .i8 93 w base vw n.ws ∧ OwnI .i32 21 w base vb n.bs
theorem own_moreI {k : IntKind} {t : TypeId} {w : World} {b b' : Nat} {v : Value} {xs : List Int} (h : OwnI k t w b v xs) (hb : b' ≤ b) : OwnI k t w b' v xs := own_more h hb
end Go.Proofs.Ytejllmjkeefloaa

namespace Go.Proofs.Ytejllmjkeefloaa
open Go.ChangeShapes Go.WideShapes Go.ChangeAt Go.RowKit
set_option maxRecDepth 20000
set_option linter.unusedVariables false

theorem infoNode' : (Try.prog.info? 70).map (fun i => (i.zero, i.size, i.bytes)) = some (some (.agg #[.int .i64 0, .slice none 0 0, .int .i64 0, .int .i64 0, .int .i64 0, .int .i64 0, .int .i64 0, .int .i64 0, .int .i64 0, .int .i64 0, .int .i64 0, .int .i64 0, .slice none 0 0, .slice none 0 0]), 14, 160) := by kernel_rfl
theorem own_ne {w : World} {b b' e e' size size' n n' : Nat} {v v' : Value} {xs xs' : List Value} (h : w.ownsRow b e size v n xs) (k : w.ownsRow b' e' size' v' n' xs') (he : e ≠ e') : v.ownBlock = none ∨ v.ownBlock ≠ v'.ownBlock := by
  rcases h.2 with ⟨rfl, _⟩ | ⟨g, cap, cur, rfl, _, hg, _⟩
  · exact .inl rfl
  · refine .inr fun e1 => ?_
    rcases k.2 with ⟨rfl, _⟩ | ⟨g', cap', cur', rfl, _, hg', _⟩
    · simp [Value.ownBlock] at e1
    · simp only [Value.ownBlock, Option.some.injEq] at e1
      subst e1
      rw [hg] at hg'
      simp only [Option.some.injEq, Obj.cells.injEq] at hg'
      exact he hg'.2.1
/-- The cells of nodes in a row, whose slices a call owns. -/
def RowsN (w : World) (base : Nat) (l : List NodeD) (xs : List Value) : Prop :=
  ∀ j, j < l.length → ∃ vi vw vb, NodeOwn w base (l.getD j default) vi vw vb ∧ (xs.drop (j * 14)).take 14 = nodeCells (l.getD j default) vi vw vb
theorem RowsN.nil (w : World) (base : Nat) : RowsN w base [] [] := fun j hj => by simp at hj
theorem NodeOwn.keep {w w' : World} {base P : Nat} {n : NodeD} {vi vw vb : Value} (h : NodeOwn w base n vi vw vb) (g : Keep P w w') (hP : P < base) : NodeOwn w' base n vi vw vb := ⟨own_keep h.1 g hP, own_keep h.2.1 g hP, own_keep h.2.2 g hP⟩
theorem NodeOwn.alloc {w : World} {base : Nat} {n : NodeD} {vi vw vb : Value} (h : NodeOwn w base n vi vw vb) (x : Obj) : NodeOwn (w.alloc x) base n vi vw vb := ⟨World.ownsRow.alloc h.1 x, World.ownsRow.alloc h.2.1 x, World.ownsRow.alloc h.2.2 x⟩
theorem NodeOwn.set {w : World} {base Q o : Nat} {u : Value} {n : NodeD} {vi vw vb : Value} (h : NodeOwn w base n vi vw vb) (hQ : Q < base) : NodeOwn (w.setCell ⟨Q, o, none⟩ u) base n vi vw vb := ⟨own_set h.1 hQ, own_set h.2.1 hQ, own_set h.2.2 hQ⟩
theorem NodeOwn.more {w : World} {base base' : Nat} {n : NodeD} {vi vw vb : Value} (h : NodeOwn w base n vi vw vb) (hb : base' ≤ base) : NodeOwn w base' n vi vw vb := ⟨own_moreI h.1 hb, own_moreI h.2.1 hb, own_moreI h.2.2 hb⟩
theorem NodeOwn.grow {w w' : World} {base b k : Nat} {n : NodeD} {vi vw vb v : Value} {xs : List Value} (h : NodeOwn w base n vi vw vb) (ho : w.ownsRow b 70 14 v k xs) (g : w.grownBy w' v.ownBlock) : NodeOwn w' base n vi vw vb :=
  ⟨World.ownsRow.kept h.1 g (own_ne h.1 ho (by decide)), World.ownsRow.kept h.2.1 g (own_ne h.2.1 ho (by decide)), World.ownsRow.kept h.2.2 g (own_ne h.2.2 ho (by decide))⟩
theorem RowsN.map {w w' : World} {base base' : Nat} {l : List NodeD} {xs : List Value} (h : RowsN w base l xs) (f : ∀ n vi vw vb, NodeOwn w base n vi vw vb → NodeOwn w' base' n vi vw vb) : RowsN w' base' l xs := by
  intro j hj
  obtain ⟨vi, vw, vb, h1, h2⟩ := h j hj
  exact ⟨vi, vw, vb, f _ _ _ _ h1, h2⟩
theorem RowsN.more {w : World} {base : Nat} {l : List NodeD} {n : NodeD} {xs : List Value} {vi vw vb : Value} (h : RowsN w base l xs) (hl : xs.length = l.length * 14) (hn : NodeOwn w base n vi vw vb) : RowsN w base (l ++ [n]) (xs ++ nodeCells n vi vw vb) := by
  intro j hj
  simp only [List.length_append, List.length_cons, List.length_nil] at hj
  by_cases c : j < l.length
  · obtain ⟨a1, a2, a3, k1, k2⟩ := h j c
    have e : (l ++ [n]).getD j default = l.getD j default := by simp [List.getD, List.getElem?_append_left c]
    rw [e]
    refine ⟨a1, a2, a3, k1, ?_⟩
    rw [List.drop_append_of_le_length (by omega), List.take_append_of_le_length (by rw [List.length_drop]; omega)]
    exact k2
  · obtain rfl : j = l.length := by omega
    have e : (l ++ [n]).getD l.length default = n := by simp [List.getD]
    rw [e]
    refine ⟨vi, vw, vb, hn, ?_⟩
    rw [← hl, List.drop_left]
    rfl
/-- Nodes in a row that a call owns. -/
def OwnNodes (w : World) (base : Nat) (v : Value) (l : List NodeD) : Prop := ∃ xs, w.ownsRow base 70 14 v l.length xs ∧ RowsN w base l xs
theorem OwnNodes.nil (w : World) (base : Nat) : OwnNodes w base (.slice none 0 0) [] := ⟨[], World.ownsRow_nil _ _ _ _, RowsN.nil _ _⟩
theorem OwnNodes.keep {w w' : World} {base P : Nat} {v : Value} {l : List NodeD} (h : OwnNodes w base v l) (g : Keep P w w') (hP : P < base) : OwnNodes w' base v l := by
  obtain ⟨xs, h1, h2⟩ := h
  exact ⟨xs, own_keep h1 g hP, h2.map fun _ _ _ _ k => k.keep g hP⟩
theorem OwnNodes.alloc {w : World} {base : Nat} {v : Value} {l : List NodeD} (h : OwnNodes w base v l) (x : Obj) : OwnNodes (w.alloc x) base v l := by
  obtain ⟨xs, h1, h2⟩ := h
  exact ⟨xs, World.ownsRow.alloc h1 x, h2.map fun _ _ _ _ k => k.alloc x⟩
theorem OwnNodes.set {w : World} {base Q o : Nat} {u v : Value} {l : List NodeD} (h : OwnNodes w base v l) (hQ : Q < base) : OwnNodes (w.setCell ⟨Q, o, none⟩ u) base v l := by
  obtain ⟨xs, h1, h2⟩ := h
  exact ⟨xs, own_set h1 hQ, h2.map fun _ _ _ _ k => k.set hQ⟩
theorem OwnNodes.less {w : World} {base base' : Nat} {v : Value} {l : List NodeD} (h : OwnNodes w base v l) (hb : base' ≤ base) : OwnNodes w base' v l := by
  obtain ⟨xs, h1, h2⟩ := h
  exact ⟨xs, own_more h1 hb, h2.map fun _ _ _ _ k => k.more hb⟩
end Go.Proofs.Ytejllmjkeefloaa

namespace Go.Proofs.Ytejllmjkeefloaa
open Go.ChangeShapes Go.WideShapes Go.ChangeAt Go.RowKit
set_option maxRecDepth 20000
set_option linter.unusedVariables false

theorem wf8 {x : Int} (h : -128 ≤ x ∧ x < 128) : (Lit.int .i8 x).wf = true := by simp [Lit.wf, IntKind.min, IntKind.max, IntKind.bits, IntKind.signed]; omega
def wfN (n : NodeD) : Prop := NodeWf n ∧ (∀ x ∈ n.ins, (Lit.int .i64 x).wf = true) ∧ (∀ x ∈ n.ws, (Lit.int .i8 x).wf = true) ∧ (∀ x ∈ n.bs, (Lit.int .i32 x).wf = true)
theorem nums_of_ownI {k : IntKind} {t : TypeId} {w : World} {base : Nat} {v : Value} {xs : List Int} (ho : OwnI k t w base v xs) (wf : ∀ x ∈ xs, (Lit.int k x).wf = true) : IsNums k w v xs := by
  obtain ⟨hl, h⟩ := ho
  rcases h with ⟨rfl, h0⟩ | ⟨b, cap, cur, rfl, hb, hg, hn, hm, hs, ht⟩
  · have : xs = [] := List.eq_nil_of_length_eq_zero h0
    subst this
    exact ⟨none, 0, rfl, Nat.le_refl _, Nat.zero_le _, fun _ => rfl, by simp, by simp⟩
  · refine ⟨some ⟨b, 0, none⟩, cap, rfl, hn, hm, (fun h => by cases h), wf, fun hp => ⟨b, 0, rfl, (Array.getElem?_eq_some_iff.1 hg).1, fun i hi => ?_⟩⟩
    have key : w.cell? ⟨b, 0 + i, none⟩ = (xs.map (Value.int k))[i]? := by
      rw [← ht, List.getElem?_take_of_lt (by omega)]
      simp [World.cell?, hg]
    rw [key]
    simp [List.getD, hi]
end Go.Proofs.Ytejllmjkeefloaa

namespace Go.Proofs.Ytejllmjkeefloaa
open Go.ChangeShapes Go.WideShapes Go.ChangeAt Go.RowKit
set_option maxRecDepth 20000
set_option linter.unusedVariables false

end Go.Proofs.Ytejllmjkeefloaa
namespace Go.Proofs.Ytejllmjkeefloaa
open Go.ChangeShapes Go.WideShapes Go.ChangeAt Go.RowKit
set_option maxRecDepth 20000
set_option linter.unusedVariables false

theorem graph_save {B : Nat} {w w' : World} {v : Value} {g : GraphD} (h : IsGraph w v g) (hN : NoInt w B) (k : Save B w w') : IsGraph w' v g := by
  obtain ⟨a, b, c, rfl, h1, h2, h3⟩ := h
  exact ⟨a, b, c, rfl, vals_save h1 hN k, nodes_save h2 hN k, nums_save h3 hN k⟩
end Go.Proofs.Ytejllmjkeefloaa

namespace Go.Proofs.Ytejllmjkeefloaa
open Go.ChangeShapes Go.WideShapes Go.ChangeAt Go.RowKit
set_option maxRecDepth 20000
set_option linter.unusedVariables false

end Go.Proofs.Ytejllmjkeefloaa

namespace Go.Proofs.Ytejllmjkeefloaa
open Go.ChangeShapes Go.WideShapes Go.ChangeAt Go.RowKit
set_option maxRecDepth 20000
set_option linter.unusedVariables false

theorem mem_getD {α : Type} [Inhabited α] {xs : List α} {x : α} (h : x ∈ xs) (d : α) : ∃ j, j < xs.length ∧ xs.getD j d = x := by
  obtain ⟨j, hj, rfl⟩ := List.getElem_of_mem h
  exact ⟨j, hj, by simp [List.getD, hj]⟩
theorem wf_of_nums {k : IntKind} {w : World} {v : Value} {xs : List Int} (h : IsNums k w v xs) : ∀ x ∈ xs, (Lit.int k x).wf = true := by
  obtain ⟨_, _, _, _, _, _, h5, _⟩ := h
  exact h5
theorem wf_of_graph {w : World} {v : Value} {g : GraphD} (h : IsGraph w v g) : ∀ n ∈ g.nodes, wfN n := by
  obtain ⟨a, b, c, rfl, _, hn, _⟩ := h
  obtain ⟨A, cap, _, _, _, _, h5, h6⟩ := hn
  intro n hn
  obtain ⟨j, hj, rfl⟩ := mem_getD hn default
  obtain ⟨b', off, _, _, hc⟩ := h6 (by omega)
  obtain ⟨vi, vw, vb, hin, _⟩ := hc j hj
  exact ⟨h5 _ hn, wf_of_nums hin.1, wf_of_nums hin.2.1, wf_of_nums hin.2.2⟩
end Go.Proofs.Ytejllmjkeefloaa
