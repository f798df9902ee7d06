/- What a graph's nodes make: numbers of GraphMakes. -/
import Derived.Test.YtgbedoffgahhaaaV4
namespace Go.Proofs.Ytgbedoffgahhaaa
open Go.ChangeShapes Go.WideShapes Go.ChangeAt Go.RowKit
set_option linter.unusedVariables false

theorem valueE_facts {n : NodeD} {vs : List ValD} (e : valueE n vs = 0) : mayV (valueV n vs) ∧ (valueV n vs).z = n.zero := by
  have m : mayT (madeS n vs) := by
    apply Classical.byContradiction
    intro m
    by_cases h : hasOp n.op ∧ takesP (opD n.op) n vs
    · rw [valueE_mk10' h m] at e; cases e
    · rw [valueE_mk11 h] at e; cases e
  rw [valueV_mk e]
  exact ⟨m, rfl⟩

theorem getD_app_left {l r : List ValD} {j : Nat} (h : j < l.length) : (l ++ r).getD j default = l.getD j default := by simp [List.getD, List.getElem?_append_left h]
theorem getD_app_at {l r : List ValD} {x : ValD} : (l ++ [x] ++ r).getD l.length default = x := by simp [List.getD]

theorem goS_spec (ns : List NodeD) : ∀ (l r : List ValD), goS ns l = (0, r) → ∃ m, r = l ++ m ∧ m.length = ns.length ∧ ∀ j, j < ns.length → mayV (m.getD j default) ∧ (m.getD j default).z = (ns.getD j default).zero := by
  induction ns with
  | nil =>
    intro l r h
    simp only [goS, Prod.mk.injEq, true_and] at h
    exact ⟨[], by simp [h], rfl, fun j hj => by simp at hj⟩
  | cons n ns ih =>
    intro l r h
    by_cases hp : namedP l n.ins
    · by_cases he : valueE n (namedL l n.ins) = 0
      · rw [goS_ok hp he] at h
        obtain ⟨m, rfl, hl, hm⟩ := ih _ _ h
        refine ⟨valueV n (namedL l n.ins) :: m, by simp, by simp [hl], fun j hj => ?_⟩
        cases j with
        | zero => simpa using valueE_facts he
        | succ j => simpa using hm j (by simpa using hj)
      · rw [goS_err hp he] at h
        simp only [Prod.mk.injEq] at h
        exact absurd h.1 he
    · rw [goS_no hp] at h
      simp at h

theorem goS_short (ns : List NodeD) : ∀ (n : NodeD) (l r : List ValD), goS (ns ++ [n]) l = (0, r) → ∃ r' x, goS ns l = (0, r') ∧ r = r' ++ [x] := by
  induction ns with
  | nil =>
    intro n l r h
    refine ⟨l, valueV n (namedL l n.ins), rfl, ?_⟩
    rw [List.nil_append] at h
    by_cases hp : namedP l n.ins
    · by_cases he : valueE n (namedL l n.ins) = 0
      · rw [goS_ok hp he] at h
        simp only [goS, Prod.mk.injEq, true_and] at h
        exact h.symm
      · rw [goS_err hp he] at h
        simp only [Prod.mk.injEq] at h
        exact absurd h.1 he
    · rw [goS_no hp] at h
      simp at h
  | cons m ns ih =>
    intro n l r h
    rw [List.cons_append] at h
    by_cases hp : namedP l m.ins
    · by_cases he : valueE m (namedL l m.ins) = 0
      · rw [goS_ok hp he] at h
        obtain ⟨r', x, h1, h2⟩ := ih n _ _ h
        exact ⟨r', x, by rw [goS_ok hp he]; exact h1, h2⟩
      · rw [goS_err hp he] at h
        simp only [Prod.mk.injEq] at h
        exact absurd h.1 he
    · rw [goS_no hp] at h
      simp at h

/-- What holds of a graph that may be. -/
theorem values_ok {g : GraphD} (h : valuesE g = 0) : beginsE g = 0 ∧ goS g.nodes g.ins = (0, valuesL g) ∧ sumW g.nodes ≤ 4096 ∧ namedP (valuesL g) g.outs := by
  have h' := h
  unfold valuesE at h
  by_cases a : beginsE g ≠ 0
  · rw [if_pos a] at h; exact absurd h a
  rw [if_neg a] at h
  by_cases b : (goS g.nodes g.ins).1 ≠ 0
  · rw [if_pos b] at h; exact absurd h b
  rw [if_neg b] at h
  by_cases c : 4096 < sumW g.nodes
  · rw [if_pos c] at h; cases h
  rw [if_neg c] at h
  have e : valuesL g = (goS g.nodes g.ins).2 := by unfold valuesL; rw [if_pos h']
  by_cases d : namedP (goS g.nodes g.ins).2 g.outs
  · refine ⟨by simpa using a, ?_, by omega, by rw [e]; exact d⟩
    rw [e]
    have : (goS g.nodes g.ins).1 = 0 := by simpa using b
    exact Prod.ext this rfl
  · rw [if_pos d] at h; cases h

theorem begins_ok {g : GraphD} (h : beginsE g = 0) : (1 ≤ g.ins.length ∧ g.ins.length ≤ 4 ∧ g.nodes.length ≤ 12 ∧ 1 ≤ g.outs.length ∧ g.outs.length ≤ 4) ∧ (∀ j, j < g.ins.length → mayV (g.ins.getD j default)) ∧ (∀ j, j < g.ins.length → -128 ≤ (g.ins.getD j default).z ∧ (g.ins.getD j default).z ≤ 127) := by
  unfold beginsE at h
  by_cases a : 4 < g.ins.length ∨ 12 < g.nodes.length ∨ 4 < g.outs.length
  · rw [if_pos a] at h; cases h
  rw [if_neg a] at h
  by_cases b : g.ins.length = 0 ∨ g.outs.length = 0
  · rw [if_pos b] at h; cases h
  rw [if_neg b] at h
  by_cases c : ∀ j, j < g.ins.length → mayV (g.ins.getD j default)
  · rw [if_neg (fun f => f c)] at h
    by_cases d : ∀ j, j < g.ins.length → -128 ≤ (g.ins.getD j default).z ∧ (g.ins.getD j default).z ≤ 127
    · exact ⟨by omega, c, d⟩
    · rw [if_pos d] at h; cases h
  · rw [if_pos c] at h; cases h

theorem begins_mk {g : GraphD} (h : 1 ≤ g.ins.length ∧ g.ins.length ≤ 4 ∧ g.nodes.length ≤ 12 ∧ 1 ≤ g.outs.length ∧ g.outs.length ≤ 4) (c : ∀ j, j < g.ins.length → mayV (g.ins.getD j default)) (d : ∀ j, j < g.ins.length → -128 ≤ (g.ins.getD j default).z ∧ (g.ins.getD j default).z ≤ 127) : beginsE g = 0 := by
  unfold beginsE
  rw [if_neg (by omega), if_neg (by omega), if_neg (fun f => f c), if_neg (fun f => f d)]

/-- P3.3, and how many. -/
theorem makes_facts {g : GraphD} (h : valuesE g = 0) : (valuesL g).length = g.ins.length + g.nodes.length ∧ (∀ j, j < (valuesL g).length → mayV ((valuesL g).getD j default)) ∧ ∀ j, g.ins.length ≤ j → j < (valuesL g).length → ((valuesL g).getD j default).z = (g.nodes.getD (j - g.ins.length) default).zero := by
  obtain ⟨h1, h2, h3, h4⟩ := values_ok h
  obtain ⟨_, b2, _⟩ := begins_ok h1
  obtain ⟨m, e, hl, hm⟩ := goS_spec _ _ _ h2
  rw [e]
  have key : ∀ j, g.ins.length ≤ j → (g.ins ++ m).getD j default = m.getD (j - g.ins.length) default := fun j hj => by simp [List.getD, List.getElem?_append_right hj]
  refine ⟨by simp [hl], fun j hj => ?_, fun j h1 h2 => ?_⟩
  · by_cases c : j < g.ins.length
    · rw [getD_app_left c]; exact b2 j c
    · rw [key j (by omega)]
      simp only [List.length_append] at hj
      exact (hm _ (by omega)).1
  · rw [key j h1]
    simp only [List.length_append] at h2
    exact (hm _ (by omega)).2

theorem sumW_app (a b : List NodeD) : sumW (a ++ b) = sumW a + sumW b := by
  induction a with
  | nil => simp [sumW]
  | cons x a ih => simp only [List.cons_append, sumW, ih]; omega

/-- A graph with one node less. -/
def shortD (g : GraphD) : GraphD := { g with nodes := g.nodes.take (g.nodes.length - 1) }

theorem short_E {g : GraphD} (h : valuesE g = 0) : valuesE (shortD g) = if (∃ j, j < g.outs.length ∧ ((g.ins.length + (shortD g).nodes.length : Nat) : Int) ≤ g.outs.getD j 0) then 13 else 0 := by
  obtain ⟨h1, h2, h3, h4⟩ := values_ok h
  obtain ⟨b1, b2, b3⟩ := begins_ok h1
  have hb : beginsE (shortD g) = 0 := begins_mk ⟨b1.1, b1.2.1, by simp [shortD]; omega, b1.2.2.2.1, b1.2.2.2.2⟩ b2 b3
  obtain ⟨m, e, hl, hm⟩ := goS_spec _ _ _ h2
  have hs : ∃ r', goS (shortD g).nodes g.ins = (0, r') ∧ r'.length = g.ins.length + (shortD g).nodes.length ∧ sumW (shortD g).nodes ≤ 4096 := by
    rcases Nat.eq_zero_or_pos g.nodes.length with z | z
    · have e0 : g.nodes = [] := List.eq_nil_of_length_eq_zero z
      refine ⟨g.ins, by simp [shortD, e0, goS], by simp [shortD, e0], by simp [shortD, e0, sumW]⟩
    · have e1 : g.nodes = g.nodes.take (g.nodes.length - 1) ++ [g.nodes.getD (g.nodes.length - 1) default] := by
        conv => lhs; rw [← List.take_append_drop (g.nodes.length - 1) g.nodes]
        congr 1
        rw [drop_cons _ _ (by omega)]
        have : g.nodes.length - 1 + 1 = g.nodes.length := by omega
        rw [this, List.drop_length]
      have h2' := h2
      rw [e1] at h2'
      obtain ⟨r', x, k1, k2⟩ := goS_short _ _ _ _ h2'
      refine ⟨r', k1, ?_, ?_⟩
      · have := congrArg List.length k2
        rw [e] at this
        simp only [List.length_append, List.length_cons, List.length_nil, hl] at this
        simp [shortD]
        omega
      · rw [e1, sumW_app] at h3
        show sumW (g.nodes.take (g.nodes.length - 1)) ≤ 4096
        omega
  obtain ⟨r', k1, k2, k3⟩ := hs
  have k1' : goS (shortD g).nodes (shortD g).ins = (0, r') := k1
  unfold valuesE
  rw [if_neg (by rw [hb]; simp), k1']
  rw [if_neg (by simp), if_neg (by omega)]
  by_cases c : ∃ j, j < g.outs.length ∧ ((g.ins.length + (shortD g).nodes.length : Nat) : Int) ≤ g.outs.getD j 0
  · rw [if_pos c, if_pos]
    intro f
    obtain ⟨j, j1, j2⟩ := c
    have := (f j j1).2
    rw [k2] at this
    have : (shortD g).outs.getD j 0 = g.outs.getD j 0 := rfl
    omega
  · rw [if_neg c, if_neg]
    intro f
    apply f
    intro j hj
    refine ⟨(h4 j hj).1, ?_⟩
    apply Classical.byContradiction
    intro d
    apply c
    refine ⟨j, hj, ?_⟩
    rw [k2] at d
    have : (shortD g).outs.getD j 0 = g.outs.getD j 0 := rfl
    omega
end Go.Proofs.Ytgbedoffgahhaaa
