/- The reader: node. The reader: a list of nodes. What is read may stand in memory; from rows that a call owns to graphs. The reader: graph. Take. Whole. A graph that may be has numbers that have room in their bytes; what was put and what is taken. -/
import Derived.Test.YtejllmjkeefloaaKP2
namespace Go.Proofs.Ytejllmjkeefloaa
open Go.ChangeShapes Go.WideShapes Go.ChangeAt Go.RowKit
set_option maxRecDepth 20000
set_option linter.unusedVariables false

theorem box_at {w : World} {b : Nat} {cs : Array Value} (h : (∀ o : Nat, w.cell? ⟨b, o, none⟩ = (cs : Array Value)[o]?)) (i : Nat) (hi : i < cs.size) (y : Value) : (∀ o : Nat, (w.setCell ⟨b, i, none⟩ y).cell? ⟨b, o, none⟩ = (cs.setIfInBounds i y : Array Value)[o]?) := by
  intro o
  by_cases c : i = o
  · subst c
    rw [World.cell?_setCell_same w _ _ ((h i).trans (Array.getElem?_eq_getElem hi)), Array.getElem?_setIfInBounds_self_of_lt hi]
  · rw [World.cell?_setCell_other _ _ _ _ (by first | (simp; done) | (simp; omega)), Array.getElem?_setIfInBounds_ne c]
    exact h o
theorem own_set {w : World} {base e size n Q o : Nat} {u v : Value} {xs : List Value} (h : w.ownsRow base e size v n xs) (hQ : Q < base) : (w.setCell ⟨Q, o, none⟩ u).ownsRow base e size v n xs := by
  refine ⟨h.1, ?_⟩
  rcases h.2 with hn | ⟨b, cap, cur, rfl, hb, hg, rest⟩
  · exact Or.inl hn
  · exact Or.inr ⟨b, cap, cur, rfl, hb, (Below.heap_setCell w ⟨Q, o, none⟩ u b (by simp only; omega)).trans hg, rest⟩
theorem size_setCell (w : World) (a : Addr) (u : Value) : (w.setCell a u).heap.size = w.heap.size := by simp [World.setCell]
/-- A node's slices, which a call owns. -/
def NodeOwn (w : World) (base : Nat) (n : NodeD) (vi vw vb : Value) : Prop := OwnI .i64 3 w base vi n.ins ∧ OwnI .i8 93 w base vw n.ws ∧ OwnI .i32 21 w base vb n.bs
theorem own_moreI {k : IntKind} {t : TypeId} {w : World} {b b' : Nat} {v : Value} {xs : List Int} (h : OwnI k t w b v xs) (hb : b' ≤ b) : OwnI k t w b' v xs := own_more h hb
end Go.Proofs.Ytejllmjkeefloaa

namespace Go.Proofs.Ytejllmjkeefloaa
open Go.ChangeShapes Go.WideShapes Go.ChangeAt Go.RowKit
set_option maxRecDepth 20000
set_option linter.unusedVariables false

theorem infoNode' : (Try.prog.info? 70).map (fun i => (i.zero, i.size, i.bytes)) = some (some (.agg #[.int .i64 0, .slice none 0 0, .int .i64 0, .int .i64 0, .int .i64 0, .int .i64 0, .int .i64 0, .int .i64 0, .int .i64 0, .int .i64 0, .int .i64 0, .int .i64 0, .slice none 0 0, .slice none 0 0]), 14, 160) := by kernel_rfl
theorem own_ne {w : World} {b b' e e' size size' n n' : Nat} {v v' : Value} {xs xs' : List Value} (h : w.ownsRow b e size v n xs) (k : w.ownsRow b' e' size' v' n' xs') (he : e ≠ e') : v.ownBlock = none ∨ v.ownBlock ≠ v'.ownBlock := by
  rcases h.2 with ⟨rfl, _⟩ | ⟨g, cap, cur, rfl, _, hg, _⟩
  · exact .inl rfl
  · refine .inr fun e1 => ?_
    rcases k.2 with ⟨rfl, _⟩ | ⟨g', cap', cur', rfl, _, hg', _⟩
    · simp [Value.ownBlock] at e1
    · simp only [Value.ownBlock, Option.some.injEq] at e1
      subst e1
      rw [hg] at hg'
      simp only [Option.some.injEq, Obj.cells.injEq] at hg'
      exact he hg'.2.1
/-- The cells of nodes in a row, whose slices a call owns. -/
def RowsN (w : World) (base : Nat) (l : List NodeD) (xs : List Value) : Prop :=
  ∀ j, j < l.length → ∃ vi vw vb, NodeOwn w base (l.getD j default) vi vw vb ∧ (xs.drop (j * 14)).take 14 = nodeCells (l.getD j default) vi vw vb
theorem RowsN.nil (w : World) (base : Nat) : RowsN w base [] [] := fun j hj => by simp at hj
theorem NodeOwn.keep {w w' : World} {base P : Nat} {n : NodeD} {vi vw vb : Value} (h : NodeOwn w base n vi vw vb) (g : Keep P w w') (hP : P < base) : NodeOwn w' base n vi vw vb := ⟨own_keep h.1 g hP, own_keep h.2.1 g hP, own_keep h.2.2 g hP⟩
theorem NodeOwn.alloc {w : World} {base : Nat} {n : NodeD} {vi vw vb : Value} (h : NodeOwn w base n vi vw vb) (x : Obj) : NodeOwn (w.alloc x) base n vi vw vb := ⟨World.ownsRow.alloc h.1 x, World.ownsRow.alloc h.2.1 x, World.ownsRow.alloc h.2.2 x⟩
theorem NodeOwn.set {w : World} {base Q o : Nat} {u : Value} {n : NodeD} {vi vw vb : Value} (h : NodeOwn w base n vi vw vb) (hQ : Q < base) : NodeOwn (w.setCell ⟨Q, o, none⟩ u) base n vi vw vb := ⟨own_set h.1 hQ, own_set h.2.1 hQ, own_set h.2.2 hQ⟩
theorem NodeOwn.more {w : World} {base base' : Nat} {n : NodeD} {vi vw vb : Value} (h : NodeOwn w base n vi vw vb) (hb : base' ≤ base) : NodeOwn w base' n vi vw vb := ⟨own_moreI h.1 hb, own_moreI h.2.1 hb, own_moreI h.2.2 hb⟩
theorem NodeOwn.grow {w w' : World} {base b k : Nat} {n : NodeD} {vi vw vb v : Value} {xs : List Value} (h : NodeOwn w base n vi vw vb) (ho : w.ownsRow b 70 14 v k xs) (g : w.grownBy w' v.ownBlock) : NodeOwn w' base n vi vw vb :=
  ⟨World.ownsRow.kept h.1 g (own_ne h.1 ho (by decide)), World.ownsRow.kept h.2.1 g (own_ne h.2.1 ho (by decide)), World.ownsRow.kept h.2.2 g (own_ne h.2.2 ho (by decide))⟩
theorem RowsN.map {w w' : World} {base base' : Nat} {l : List NodeD} {xs : List Value} (h : RowsN w base l xs) (f : ∀ n vi vw vb, NodeOwn w base n vi vw vb → NodeOwn w' base' n vi vw vb) : RowsN w' base' l xs := by
  intro j hj
  obtain ⟨vi, vw, vb, h1, h2⟩ := h j hj
  exact ⟨vi, vw, vb, f _ _ _ _ h1, h2⟩
theorem RowsN.more {w : World} {base : Nat} {l : List NodeD} {n : NodeD} {xs : List Value} {vi vw vb : Value} (h : RowsN w base l xs) (hl : xs.length = l.length * 14) (hn : NodeOwn w base n vi vw vb) : RowsN w base (l ++ [n]) (xs ++ nodeCells n vi vw vb) := by
  intro j hj
  simp only [List.length_append, List.length_cons, List.length_nil] at hj
  by_cases c : j < l.length
  · obtain ⟨a1, a2, a3, k1, k2⟩ := h j c
    have e : (l ++ [n]).getD j default = l.getD j default := by simp [List.getD, List.getElem?_append_left c]
    rw [e]
    refine ⟨a1, a2, a3, k1, ?_⟩
    rw [List.drop_append_of_le_length (by omega), List.take_append_of_le_length (by rw [List.length_drop]; omega)]
    exact k2
  · obtain rfl : j = l.length := by omega
    have e : (l ++ [n]).getD l.length default = n := by simp [List.getD]
    rw [e]
    refine ⟨vi, vw, vb, hn, ?_⟩
    rw [← hl, List.drop_left]
    rfl
/-- Nodes in a row that a call owns. -/
def OwnNodes (w : World) (base : Nat) (v : Value) (l : List NodeD) : Prop := ∃ xs, w.ownsRow base 70 14 v l.length xs ∧ RowsN w base l xs
theorem OwnNodes.nil (w : World) (base : Nat) : OwnNodes w base (.slice none 0 0) [] := ⟨[], World.ownsRow_nil _ _ _ _, RowsN.nil _ _⟩
theorem OwnNodes.keep {w w' : World} {base P : Nat} {v : Value} {l : List NodeD} (h : OwnNodes w base v l) (g : Keep P w w') (hP : P < base) : OwnNodes w' base v l := by
  obtain ⟨xs, h1, h2⟩ := h
  exact ⟨xs, own_keep h1 g hP, h2.map fun _ _ _ _ k => k.keep g hP⟩
theorem OwnNodes.alloc {w : World} {base : Nat} {v : Value} {l : List NodeD} (h : OwnNodes w base v l) (x : Obj) : OwnNodes (w.alloc x) base v l := by
  obtain ⟨xs, h1, h2⟩ := h
  exact ⟨xs, World.ownsRow.alloc h1 x, h2.map fun _ _ _ _ k => k.alloc x⟩
theorem OwnNodes.set {w : World} {base Q o : Nat} {u v : Value} {l : List NodeD} (h : OwnNodes w base v l) (hQ : Q < base) : OwnNodes (w.setCell ⟨Q, o, none⟩ u) base v l := by
  obtain ⟨xs, h1, h2⟩ := h
  exact ⟨xs, own_set h1 hQ, h2.map fun _ _ _ _ k => k.set hQ⟩
theorem OwnNodes.less {w : World} {base base' : Nat} {v : Value} {l : List NodeD} (h : OwnNodes w base v l) (hb : base' ≤ base) : OwnNodes w base' v l := by
  obtain ⟨xs, h1, h2⟩ := h
  exact ⟨xs, own_more h1 hb, h2.map fun _ _ _ _ k => k.more hb⟩
end Go.Proofs.Ytejllmjkeefloaa

namespace Go.Proofs.Ytejllmjkeefloaa
open Go.ChangeShapes Go.WideShapes Go.ChangeAt Go.RowKit
set_option maxRecDepth 20000
set_option linter.unusedVariables false

theorem wf8 {x : Int} (h : -128 ≤ x ∧ x < 128) : (Lit.int .i8 x).wf = true := by simp [Lit.wf, IntKind.min, IntKind.max, IntKind.bits, IntKind.signed]; omega
def wfN (n : NodeD) : Prop := NodeWf n ∧ (∀ x ∈ n.ins, (Lit.int .i64 x).wf = true) ∧ (∀ x ∈ n.ws, (Lit.int .i8 x).wf = true) ∧ (∀ x ∈ n.bs, (Lit.int .i32 x).wf = true)
theorem nums_of_ownI {k : IntKind} {t : TypeId} {w : World} {base : Nat} {v : Value} {xs : List Int} (ho : OwnI k t w base v xs) (wf : ∀ x ∈ xs, (Lit.int k x).wf = true) : IsNums k w v xs := by
  obtain ⟨hl, h⟩ := ho
  rcases h with ⟨rfl, h0⟩ | ⟨b, cap, cur, rfl, hb, hg, hn, hm, hs, ht⟩
  · have : xs = [] := List.eq_nil_of_length_eq_zero h0
    subst this
    exact ⟨none, 0, rfl, Nat.le_refl _, Nat.zero_le _, fun _ => rfl, by simp, by simp⟩
  · refine ⟨some ⟨b, 0, none⟩, cap, rfl, hn, hm, (fun h => by cases h), wf, fun hp => ⟨b, 0, rfl, (Array.getElem?_eq_some_iff.1 hg).1, fun i hi => ?_⟩⟩
    have key : w.cell? ⟨b, 0 + i, none⟩ = (xs.map (Value.int k))[i]? := by
      rw [← ht, List.getElem?_take_of_lt (by omega)]
      simp [World.cell?, hg]
    rw [key]
    simp [List.getD, hi]
end Go.Proofs.Ytejllmjkeefloaa

namespace Go.Proofs.Ytejllmjkeefloaa
open Go.ChangeShapes Go.WideShapes Go.ChangeAt Go.RowKit
set_option maxRecDepth 20000
set_option linter.unusedVariables false

end Go.Proofs.Ytejllmjkeefloaa
namespace Go.Proofs.Ytejllmjkeefloaa
open Go.ChangeShapes Go.WideShapes Go.ChangeAt Go.RowKit
set_option maxRecDepth 20000
set_option linter.unusedVariables false

/-- P4.2: a graph and what is left; or none. -/
def TookP (bs : List Int) : Prop := (graphR ⟨bs, false⟩).2.short = false ∧ valuesE (graphR ⟨bs, false⟩).1 = 0
theorem graph_save {B : Nat} {w w' : World} {v : Value} {g : GraphD} (h : IsGraph w v g) (hN : NoInt w B) (k : Save B w w') : IsGraph w' v g := by
  obtain ⟨a, b, c, rfl, h1, h2, h3⟩ := h
  exact ⟨a, b, c, rfl, vals_save h1 hN k, nodes_save h2 hN k, nums_save h3 hN k⟩
end Go.Proofs.Ytejllmjkeefloaa

namespace Go.Proofs.Ytejllmjkeefloaa
open Go.ChangeShapes Go.WideShapes Go.ChangeAt Go.RowKit
set_option maxRecDepth 20000
set_option linter.unusedVariables false

end Go.Proofs.Ytejllmjkeefloaa

namespace Go.Proofs.Ytejllmjkeefloaa
open Go.ChangeShapes Go.WideShapes Go.ChangeAt Go.RowKit
set_option maxRecDepth 20000
set_option linter.unusedVariables false

theorem opD_bd (o : Int) (h : hasOp o) : ((0 ≤ (opD o).k1 ∧ (opD o).k2 ≤ 3) ∧ (0 ≤ (opD o).s1 ∧ (opD o).s2 ≤ 2) ∧ (0 ≤ (opD o).p1 ∧ (opD o).p2 ≤ 1) ∧ (0 ≤ (opD o).o1 ∧ (opD o).o2 ≤ 8)) ∧ (opD o).vals ≤ 2 ∧ ((opD o).resh = true → o = 11) := by
  obtain ⟨h1, h2⟩ := h
  rcases (show o = 1 ∨ o = 2 ∨ o = 3 ∨ o = 4 ∨ o = 5 ∨ o = 6 ∨ o = 7 ∨ o = 8 ∨ o = 9 ∨ o = 10 ∨ o = 11 ∨ o = 12 by omega) with rfl | rfl | rfl | rfl | rfl | rfl | rfl | rfl | rfl | rfl | rfl | rfl <;> decide
theorem valueE_ok {n : NodeD} {vs : List ValD} (e : valueE n vs = 0) : (hasOp n.op ∧ takesP (opD n.op) n vs) ∧ mayT (madeS n vs) ∧ (n.bs.length : Int) = (wantS n (vs.getD 0 default) (madeS n vs).2.2).2 := by
  unfold valueE at e
  by_cases c1 : hasOp n.op ∧ takesP (opD n.op) n vs
  · rw [if_neg (fun f => f c1)] at e
    by_cases c2 : ∀ j, j < vs.length → mayV (vs.getD j default)
    · rw [if_neg (fun f => f c2)] at e
      by_cases c3 : mayT (madeS n vs)
      · rw [if_neg (fun f => f c3)] at e
        by_cases c4 : (n.ws.length : Int) = (wantS n (vs.getD 0 default) (madeS n vs).2.2).1 ∧ (n.bs.length : Int) = (wantS n (vs.getD 0 default) (madeS n vs).2.2).2 ∧ ∀ j, j < n.bs.length → nearB (n.bs.getD j 0)
        · exact ⟨c1, c3, c4.2.1⟩
        · rw [if_pos c4] at e; cases e
      · rw [if_pos c3] at e; cases e
    · rw [if_pos c2] at e; cases e
  · rw [if_pos c1] at e; cases e
theorem want_bd (n : NodeD) (x : ValD) (c : Int) (h : 1 ≤ c ∧ c ≤ 8) : (wantS n x c).2 ≤ 8 := by
  unfold wantS
  split
  · exact h.2
  · split
    · exact h.2
    · split
      · exact h.2
      · split <;> simp
theorem lit_i8 {x : Int} (h : (Lit.int .i8 x).wf = true) : -128 ≤ x ∧ x < 128 := by
  have : -128 ≤ x ∧ x ≤ 127 := by simpa [Lit.wf, IntKind.min, IntKind.max, IntKind.bits, IntKind.signed] using h
  omega
theorem lit_i32 {x : Int} (h : (Lit.int .i32 x).wf = true) : -2147483648 ≤ x ∧ x < 2147483648 := by
  have : -2147483648 ≤ x ∧ x ≤ 2147483647 := by simpa [Lit.wf, IntKind.min, IntKind.max, IntKind.bits, IntKind.signed] using h
  omega
theorem node_okN {n : NodeD} {vs : List ValD} (e : valueE n vs = 0) (hl : vs.length = n.ins.length) (hin : ∀ x ∈ n.ins, 0 ≤ x ∧ x < 256) (hw : n.ws.length ≤ 4096) (wf : wfN n) : okN n := by
  obtain ⟨⟨ho, ht⟩, hm, hb⟩ := valueE_ok e
  obtain ⟨⟨b1, b2, b3, b4⟩, b5, b6⟩ := opD_bd n.op ho
  obtain ⟨t1, _, t3, t4⟩ := ht
  obtain ⟨⟨m1, m2⟩, ⟨m3, m4⟩, m5, m6⟩ := t3
  obtain ⟨⟨⟨k1, k2⟩, ⟨k3, k4⟩, ⟨k5, k6⟩, k7, k8⟩, _, k9⟩ := t4
  obtain ⟨o1, o2⟩ := ho
  have hc : 1 ≤ (madeS n vs).2.2 ∧ (madeS n vs).2.2 ≤ 8 := ⟨hm.2.2.2.2.1, hm.2.2.2.2.2⟩
  have hbl := want_bd n (vs.getD 0 default) _ hc
  rw [← hb] at hbl
  have hT : (0 ≤ n.th ∧ n.th < 256) ∧ (0 ≤ n.tw ∧ n.tw < 256) ∧ (0 ≤ n.tc ∧ n.tc < 256) := by
    rcases k9 with k | ⟨k, k', k''⟩
    · have h11 := b6 k
      unfold madeS at hm
      simp only [h11] at hm
      simp only [show ¬ ((11 : Int) = 1) by decide, show ¬ ((11 : Int) = 2 ∨ (11 : Int) = 4 ∨ (11 : Int) = 5) by decide, show ¬ ((11 : Int) = 3) by decide, show ¬ ((11 : Int) = 9) by decide, show ¬ ((11 : Int) = 10) by decide, if_false, if_true] at hm
      split at hm
      · obtain ⟨q1, q2, q3, q4, q5, q6⟩ := hm
        simp only at q1 q2 q3 q4 q5 q6
        omega
      · obtain ⟨q1, _⟩ := hm
        simp only at q1
        omega
    · rw [k, k', k'']; omega
  refine ⟨?_, ⟨?_, ?_⟩, ?_, ?_, ?_, ?_, ?_, ?_, ?_, ?_, ?_, ?_, ⟨?_, ?_⟩, ?_, ?_⟩
  · simp only [okB, Int.reducePow]; omega
  · simp only [Int.reducePow]; omega
  · intro x hx; simpa only [okB, Int.reducePow] using hin x hx
  · simp only [okB, Int.reducePow]; omega
  · simp only [okB, Int.reducePow]; omega
  · simp only [okB, Int.reducePow]; omega
  · simp only [okB, Int.reducePow]; omega
  · simp only [okB, Int.reducePow]; omega
  · simp only [okB, Int.reducePow]; omega
  · unfold okS; omega
  · simpa only [okB, Int.reducePow] using hT.1
  · simpa only [okB, Int.reducePow] using hT.2.1
  · simpa only [okB, Int.reducePow] using hT.2.2
  · simp only [Int.reducePow]; omega
  · intro x hx; exact lit_i8 (wf.2.2.1 x hx)
  · simp only [Int.reducePow]; omega
  · intro x hx; exact lit_i32 (wf.2.2.2 x hx)
theorem mem_getD {α : Type} [Inhabited α] {xs : List α} {x : α} (h : x ∈ xs) (d : α) : ∃ j, j < xs.length ∧ xs.getD j d = x := by
  obtain ⟨j, hj, rfl⟩ := List.getElem_of_mem h
  exact ⟨j, hj, by simp [List.getD, hj]⟩
theorem goS_okN (ns : List NodeD) : ∀ (l r : List ValD), goS ns l = (0, r) → l.length + ns.length ≤ 200 → sumW ns ≤ 4096 → (∀ n ∈ ns, wfN n) → ∀ n ∈ ns, okN n := by
  induction ns with
  | nil => intro l r _ _ _ _ n hn; simp at hn
  | cons n ns ih =>
    intro l r h hl hs wf
    simp only [List.length_cons] at hl
    simp only [sumW] at hs
    by_cases hp : namedP l n.ins
    · by_cases he : valueE n (namedL l n.ins) = 0
      · rw [goS_ok hp he] at h
        intro m hm
        rcases List.mem_cons.1 hm with rfl | hm
        · refine node_okN he (by simp [namedL]) (fun x hx => ?_) (by omega) (wf _ (List.mem_cons_self ..))
          obtain ⟨j, hj, rfl⟩ := mem_getD hx 0
          have := hp j hj
          omega
        · exact ih _ r h (by simp only [List.length_append, List.length_cons, List.length_nil]; omega) (by omega) (fun n hn => wf n (List.mem_cons_of_mem _ hn)) m hm
      · rw [goS_err hp he] at h
        simp only [Prod.mk.injEq] at h
        exact absurd h.1 he
    · rw [goS_no hp] at h
      simp at h
theorem okG_of {g : GraphD} (h : valuesE g = 0) (wf : ∀ n ∈ g.nodes, wfN n) : okG g := by
  obtain ⟨hb, hg, hs, ho⟩ := values_ok h
  obtain ⟨⟨_, l1, l2, _, l3⟩, hv, hz⟩ := begins_ok hb
  have hL := (makes_facts h).1
  refine ⟨⟨by omega, fun v hv' => ?_⟩, ⟨by omega, goS_okN g.nodes g.ins _ hg (by omega) hs wf⟩, ⟨by simp only [Int.reducePow]; omega, fun x hx => ?_⟩⟩
  · obtain ⟨j, hj, rfl⟩ := mem_getD hv' default
    obtain ⟨a1, a2, a3, a4, a5, a6⟩ := hv j hj
    have := hz j hj
    refine ⟨?_, ?_, ?_, ?_⟩
    · simp only [okB, Int.reducePow]; omega
    · simp only [okB, Int.reducePow]; omega
    · simp only [okB, Int.reducePow]; omega
    · unfold okS; omega
  · obtain ⟨j, hj, rfl⟩ := mem_getD hx 0
    have := ho j hj
    rw [hL] at this
    simp only [okB, Int.reducePow]
    omega
theorem wf_of_nums {k : IntKind} {w : World} {v : Value} {xs : List Int} (h : IsNums k w v xs) : ∀ x ∈ xs, (Lit.int k x).wf = true := by
  obtain ⟨_, _, _, _, _, _, h5, _⟩ := h
  exact h5
theorem wf_of_graph {w : World} {v : Value} {g : GraphD} (h : IsGraph w v g) : ∀ n ∈ g.nodes, wfN n := by
  obtain ⟨a, b, c, rfl, _, hn, _⟩ := h
  obtain ⟨A, cap, _, _, _, _, h5, h6⟩ := hn
  intro n hn
  obtain ⟨j, hj, rfl⟩ := mem_getD hn default
  obtain ⟨b', off, _, _, hc⟩ := h6 (by omega)
  obtain ⟨vi, vw, vb, hin, _⟩ := hc j hj
  exact ⟨h5 _ hn, wf_of_nums hin.1, wf_of_nums hin.2.1, wf_of_nums hin.2.2⟩
/-- What was put is read as it was. -/
theorem read_put {g : GraphD} (ok : okG g) (rest : List Int) : graphR ⟨graphB g ++ rest, false⟩ = (g, ⟨rest, false⟩) := graphR_inv.forth g rest ok
theorem took_put {g : GraphD} (h : valuesE g = 0) (ok : okG g) (rest : List Int) : TookP (graphB g ++ rest) := by
  unfold TookP
  rw [read_put ok rest]
  exact ⟨rfl, h⟩
/-- What is taken was put so. -/
theorem put_took {bs : List Int} (hb : bytesP bs) (T : TookP bs) : bs = graphB (graphR ⟨bs, false⟩).1 ++ (graphR ⟨bs, false⟩).2.rest ∧ okG (graphR ⟨bs, false⟩).1 := by
  obtain ⟨_, h2, h3⟩ := graphR_inv.at ⟨bs, false⟩ hb T.1
  exact ⟨h3, h2⟩
end Go.Proofs.Ytejllmjkeefloaa
