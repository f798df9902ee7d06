/- graph.Last. -/
import Derived.Test.YtpfenpfnflkfiaaU1
import Derived.Test.YtpfenpfnflkfiaaU2
import Derived.Test.YtpfenpfnflkfiaaM1
namespace Go.Proofs.Ytpfenpfnflkfiaa
open Go.ChangeShapes Go.WideShapes Go.ChangeAt Go.RowKit
set_option maxRecDepth 20000
set_option linter.unusedVariables false

theorem markL_at (nums : List Int) : ∀ (L : List Int) (w : Int) (v : Nat), v < L.length → (∀ x ∈ nums, 0 ≤ x) → (markL L nums w).getD v 0 = if (v : Int) ∈ nums then w else L.getD v 0 := by
  induction nums with
  | nil => intro L w v _ _; simp [markL]
  | cons i nums ih =>
    intro L w v hv h0
    have hi := h0 i (List.mem_cons_self ..)
    have e : markL L (i :: nums) w = markL (L.set i.toNat w) nums w := rfl
    rw [e, ih _ w v (by simpa using hv) (fun x hx => h0 x (List.mem_cons_of_mem _ hx))]
    by_cases c : (v : Int) ∈ nums
    · rw [if_pos c, if_pos (List.mem_cons_of_mem _ c)]
    · rw [if_neg c]
      by_cases c2 : (v : Int) = i
      · have : i.toNat = v := by omega
        rw [if_pos (by rw [c2]; exact List.mem_cons_self ..), this]
        simp [List.getD, hv]
      · have hne : i.toNat ≠ v := by omega
        rw [if_neg (fun f => by rcases List.mem_cons.1 f with f | f; exact c2 f; exact c f)]
        simp [List.getD, List.getElem?_set_ne hne]

/-- Behind the first k nodes. -/
def MidP (ns : List NodeD) (N k : Nat) (L : List Int) : Prop :=
  L.length = N ∧ (∀ i, i < k → ∀ v : Nat, (v : Int) ∈ (ns.getD i default).ins → v < N → (i : Int) ≤ L.getD v 0) ∧ (∀ v : Nat, v < N → L.getD v 0 < (k : Int)) ∧ (∀ v : Nat, v < N → 0 ≤ L.getD v 0 → ∃ i, i < k ∧ (v : Int) ∈ (ns.getD i default).ins ∧ L.getD v 0 = (i : Int))
/-- Who looks at a value last. -/
def LastP (g : GraphD) (N : Nat) (L : List Int) : Prop :=
  L.length = N ∧ (∀ i, i < g.nodes.length → ∀ v : Nat, (v : Int) ∈ (g.nodes.getD i default).ins → v < N → (i : Int) ≤ L.getD v 0) ∧ (∀ v : Nat, (v : Int) ∈ g.outs → v < N → L.getD v 0 = (g.nodes.length : Int)) ∧
    (∀ v : Nat, v < N → 0 ≤ L.getD v 0 → (v : Int) ∈ g.outs ∨ ∃ i, i < g.nodes.length ∧ (v : Int) ∈ (g.nodes.getD i default).ins ∧ L.getD v 0 = (i : Int))

theorem MidP.zero (ns : List NodeD) (N : Nat) : MidP ns N 0 (List.replicate N (-1)) := by
  refine ⟨by simp, fun i hi => by omega, fun v hv => ?_, fun v hv h => ?_⟩
  · simp [List.getD, hv]
  · simp [List.getD, hv] at h
theorem MidP.more {ns : List NodeD} {N k : Nat} {L : List Int} (h : MidP ns N k L) (hr : ∀ x ∈ (ns.getD k default).ins, 0 ≤ x ∧ x < (N : Int)) : MidP ns N (k + 1) (markL L (ns.getD k default).ins (k : Int)) := by
  obtain ⟨h1, h2, h3, h4⟩ := h
  have at' := fun (v : Nat) (hv : v < N) => markL_at (ns.getD k default).ins L (k : Int) v (by omega) (fun x hx => (hr x hx).1)
  refine ⟨by rw [markL_len]; exact h1, fun i hi v hv hN => ?_, fun v hv => ?_, fun v hv h0 => ?_⟩
  · rw [at' v hN]
    split
    · omega
    · rename_i c
      by_cases e : i = k
      · subst e; exact absurd hv c
      · exact h2 i (by omega) v hv hN
  · rw [at' v hv]
    split
    · omega
    · have := h3 v hv; omega
  · rw [at' v hv] at h0 ⊢
    split at h0
    · rename_i c
      rw [if_pos c]
      exact ⟨k, by omega, c, rfl⟩
    · rename_i c
      rw [if_neg c]
      obtain ⟨i, i1, i2, i3⟩ := h4 v hv h0
      exact ⟨i, by omega, i2, i3⟩
theorem MidP.last {g : GraphD} {N : Nat} {L : List Int} (h : MidP g.nodes N g.nodes.length L) (hr : ∀ x ∈ g.outs, 0 ≤ x ∧ x < (N : Int)) : LastP g N (markL L g.outs (g.nodes.length : Int)) := by
  obtain ⟨h1, h2, h3, h4⟩ := h
  have at' := fun (v : Nat) (hv : v < N) => markL_at g.outs L (g.nodes.length : Int) v (by omega) (fun x hx => (hr x hx).1)
  refine ⟨by rw [markL_len]; exact h1, fun i hi v hv hN => ?_, fun v hv hN => ?_, fun v hv h0 => ?_⟩
  · rw [at' v hN]
    split
    · omega
    · exact h2 i hi v hv hN
  · rw [at' v hN, if_pos hv]
  · by_cases c : (v : Int) ∈ g.outs
    · exact .inl c
    · rw [at' v hv, if_neg c] at h0 ⊢
      exact .inr (h4 v hv h0)

theorem goS_ins (ns : List NodeD) : ∀ (l r : List ValD), goS ns l = (0, r) → ∀ n ∈ ns, ∀ x ∈ n.ins, 0 ≤ x ∧ x < ((l.length + ns.length : Nat) : Int) := by
  induction ns with
  | nil => intro l r _ n hn; simp at hn
  | cons n ns ih =>
    intro l r h m hm x hx
    by_cases hp : namedP l n.ins
    · by_cases he : valueE n (namedL l n.ins) = 0
      · rw [goS_ok hp he] at h
        rcases List.mem_cons.1 hm with rfl | hm
        · obtain ⟨j, hj, rfl⟩ := List.getElem_of_mem hx
          have := hp j hj
          simp only [List.getD, hj, List.getElem?_eq_getElem, Option.getD_some] at this
          simp only [List.length_cons]
          omega
        · have := ih _ r h m hm x hx
          simp only [List.length_append, List.length_cons, List.length_nil] at this ⊢
          omega
      · rw [goS_err hp he] at h
        simp only [Prod.mk.injEq] at h
        exact absurd h.1 he
    · rw [goS_no hp] at h
      simp at h
theorem ok_ranges {g : GraphD} (h : valuesE g = 0) : (∀ n ∈ g.nodes, ∀ x ∈ n.ins, 0 ≤ x ∧ x < ((g.ins.length + g.nodes.length : Nat) : Int)) ∧ (∀ x ∈ g.outs, 0 ≤ x ∧ x < ((g.ins.length + g.nodes.length : Nat) : Int)) ∧ 1 ≤ g.ins.length + g.nodes.length ∧ g.ins.length + g.nodes.length ≤ 16 ∧ g.nodes.length ≤ 12 ∧ g.outs.length ≤ 4 := by
  obtain ⟨hb, hg, hs, ho⟩ := values_ok h
  obtain ⟨⟨l0, l1, l2, _, l3⟩, _, _⟩ := begins_ok hb
  have hL := (makes_facts h).1
  refine ⟨goS_ins g.nodes g.ins _ hg, fun x hx => ?_, by omega, by omega, l2, l3⟩
  obtain ⟨j, hj, rfl⟩ := List.getElem_of_mem hx
  have := ho j hj
  simp only [List.getD, hj, List.getElem?_eq_getElem, Option.getD_some] at this
  rw [hL] at this
  exact this
theorem rowM_L {w : World} {P n : Nat} {cur : List Value} (h : RowM w P n n cur) : RowL w P (List.replicate n (-1)) := by
  have e : cur = (List.replicate n (-1 : Int)).map (Value.int .i64) := by
    apply List.ext_getElem?
    intro j
    by_cases c : j < n
    · rw [h.2.2 j c]; simp [c]
    · rw [List.getElem?_eq_none (by rw [h.2.1]; omega), List.getElem?_eq_none (by simp; omega)]
  unfold RowL
  rw [← e]
  exact h.1
end Go.Proofs.Ytpfenpfnflkfiaa
