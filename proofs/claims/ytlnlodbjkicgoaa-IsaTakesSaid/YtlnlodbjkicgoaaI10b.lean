/- The walk's steps over commands: one loaded out of a row, a box of its own for one, one loaded out of its box; a row of commands that a call owns. -/
import Derived.Test.YtlnlodbjkicgoaaI10
namespace Go.Proofs.Ytlnlodbjkicgoaa
open Go.ChangeShapes Go.WideShapes Go.ChangeAt Go.RowKit
set_option maxRecDepth 20000
set_option linter.unusedVariables false
set_option linter.unusedSimpArgs false

theorem len_wf (n : Nat) (h : n ≤ 1000000000) : (Lit.int .i64 (n : Int)).wf = true := by simp [Lit.wf, IntKind.min, IntKind.max, IntKind.bits, IntKind.signed]; omega
theorem zeroV : (Try.prog.info? 32).map (·.zero) = some (some (.agg ⟨cellC zeros⟩)) := by kernel_rfl
section
variable {ops : Array Oper} {Q : Exit → Act → World → Prop}
theorem wpList_load_row {rest : List Oper} {op : Oper} {a : Act} {w : World} (hgd : op.guard = none) (x : Operand) (ho : op.op = .load 32 x) (b o : Nat) (hx : a.eval x = .pointer (some ⟨b, o, none⟩)) (c : List Int) (hl : c.length = 14) (hc : w.rangeAt b o (cellC c))
    (h : wpList Try.prog ops Q rest (a.put op.dst (.agg ⟨cellC c⟩)) w) : wpList Try.prog ops Q (op :: rest) a w :=
  wpList_load_mid hgd 32 x ho b o hx (cellC c) _ hc Try.underlying32 rfl (by rw [C14, cellC_len, hl]) h
theorem wpList_load_cmd {rest : List Oper} {op : Oper} {a : Act} {w : World} (hgd : op.guard = none) (x : Operand) (ho : op.op = .load 32 x) (b : Nat) (hx : a.eval x = .pointer (some ⟨b, 0, none⟩)) (c : List Int) (hl : c.length = 14) (hb : (∀ o : Nat, w.cell? ⟨b, o, none⟩ = (⟨cellC c⟩ : Array Value)[o]?))
    (h : wpList Try.prog ops Q rest (a.put op.dst (.agg ⟨cellC c⟩)) w) : wpList Try.prog ops Q (op :: rest) a w :=
  wpList_load_box hgd 32 x ho b ⟨cellC c⟩ hx hb Try.underlying32 rfl (cmdSize hl) h
theorem wpList_new_cmd {rest : List Oper} {o1 o2 : Oper} {a : Act} {w : World} (t : Tmp) (h1 : o1.guard = none) (h2 : o2.guard = none) (e1 : o1.op = .alloc 32) (d1 : o1.dst = some t) (y : Operand) (e2 : o2.op = .store 32 (.tmp t) y) (d2 : o2.dst = none)
    (c : List Int) (hl : c.length = 14) (hx : (a.put (some t) (.pointer (some ⟨w.heap.size, 0, none⟩))).eval (.tmp t) = .pointer (some ⟨w.heap.size, 0, none⟩)) (hy : (a.put (some t) (.pointer (some ⟨w.heap.size, 0, none⟩))).eval y = .agg ⟨cellC c⟩)
    (h : ∀ w', Past w w' → (∀ o : Nat, w'.cell? ⟨w.heap.size, o, none⟩ = (⟨cellC c⟩ : Array Value)[o]?) → (∀ o : Nat, w'.frozen? ⟨w.heap.size, o, none⟩ = false) → w.heap.size < w'.heap.size → wpList Try.prog ops Q rest (a.put (some t) (.pointer (some ⟨w.heap.size, 0, none⟩))) w') : wpList Try.prog ops Q (o1 :: o2 :: rest) a w := by
  refine wpList_alloc_box h1 32 e1 (.agg ⟨cellC zeros⟩) zeroV (fun w' => Past w w' ∧ (∀ o : Nat, w'.cell? ⟨w.heap.size, o, none⟩ = (⟨cellC zeros⟩ : Array Value)[o]?) ∧ (∀ o : Nat, w'.frozen? ⟨w.heap.size, o, none⟩ = false) ∧ w.heap.size < w'.heap.size) ⟨(Past.refl w).alloc _, box_new rfl, free_alloc (free_new (Nat.le_refl _)), by simp⟩ ?_
  rintro w' ⟨p, b, f, z⟩
  rw [d1]
  have hs : (⟨cellC zeros⟩ : Array Value).size = (⟨cellC c⟩ : Array Value).size := by rw [size_cellC hl]; rfl
  refine wpList_store_box h2 32 (.tmp t) y e2 w.heap.size ⟨cellC c⟩ _ hx hy b f hs (cmdSize hl) (one_cellC c) (fun w' => Past w w' ∧ (∀ o : Nat, w'.cell? ⟨w.heap.size, o, none⟩ = (⟨cellC c⟩ : Array Value)[o]?) ∧ (∀ o : Nat, w'.frozen? ⟨w.heap.size, o, none⟩ = false) ∧ w.heap.size < w'.heap.size) ⟨past_setAll (Nat.le_refl _) _ _ _ p, box_setAll b hs, free_setAll _ f, size_setAll _ _ _ z⟩ ?_
  rintro w2 ⟨p2, b2, f2, z2⟩
  rw [d2]
  exact h w2 p2 b2 f2 z2
end

/-- A row of commands that a call owns. -/
def OwnC (w : World) (base : Nat) (v : Value) (l : List (List Int)) : Prop := w.ownsRow base 32 14 v l.length (l.flatMap cellC) ∧ ∀ c ∈ l, wfC c
theorem flatC_at {l : List (List Int)} (h : ∀ c ∈ l, wfC c) {i : Nat} (hi : i < l.length) (j : Nat) (v : Value) (hv : (cellC (l.getD i []))[j]? = some v) : (l.flatMap cellC)[i * 14 + j]? = some v := by
  induction l generalizing i with
  | nil => simp at hi
  | cons c l ih =>
    have hc := (h c (List.mem_cons_self ..)).1
    cases i with
    | zero =>
      have hj : j < (cellC c).length := by
        by_cases q : j < (cellC c).length
        · exact q
        · rw [List.getD_cons_zero, List.getElem?_eq_none (by simpa using q)] at hv; cases hv
      rw [List.flatMap_cons, Nat.zero_mul, Nat.zero_add, List.getElem?_append_left hj]
      simpa using hv
    | succ i =>
      rw [List.flatMap_cons, List.getElem?_append_right (by rw [cellC_len, hc]; omega), cellC_len, hc]
      have := ih (fun d hd => h d (List.mem_cons_of_mem _ hd)) (by simpa using hi) (by simpa using hv)
      rw [← this]
      congr 1
      omega
theorem flatC_len {l : List (List Int)} (h : ∀ c ∈ l, wfC c) : (l.flatMap cellC).length = l.length * 14 := by
  induction l with
  | nil => rfl
  | cons c l ih =>
    rw [List.flatMap_cons, List.length_append, cellC_len, (h c (List.mem_cons_self ..)).1, ih (fun d hd => h d (List.mem_cons_of_mem _ hd)), List.length_cons]
    omega
theorem OwnC.cmds {w : World} {base : Nat} {v : Value} {l : List (List Int)} (h : OwnC w base v l) : IsCmds w v l := by
  obtain ⟨⟨hl, h⟩, hw⟩ := h
  rcases h with ⟨rfl, h0⟩ | ⟨b, cap, cur, rfl, hbb, hg, hn, hm, hs, ht⟩
  · have : l = [] := List.eq_nil_of_length_eq_zero h0
    subst this
    exact ⟨none, 0, rfl, Nat.le_refl _, Nat.zero_le _, fun _ => rfl, by simp, by simp⟩
  · refine ⟨some ⟨b, 0, none⟩, cap, rfl, hn, hm, (fun h => by cases h), hw, fun hp => ⟨b, 0, rfl, (Array.getElem?_eq_some_iff.1 hg).1, fun i hi j v hv => ?_⟩⟩
    have := flatC_at hw hi j v hv
    rw [← ht] at this
    rw [Nat.zero_add]
    have hlt : i * 14 + j < l.length * 14 := by
      have hj : j < 14 := by
        have hc := (wfC_at hw hi).1
        by_cases q : j < 14
        · exact q
        · rw [List.getElem?_eq_none (by rw [cellC_len, hc]; omega)] at hv; cases hv
      omega
    rw [List.getElem?_take_of_lt (by omega)] at this
    simpa [World.cell?, hg] using this
theorem OwnC.past {w w' : World} {base : Nat} {v : Value} {l : List (List Int)} (h : OwnC w base v l) (g : Past w w') : OwnC w' base v l := by
  obtain ⟨⟨hl, h⟩, hw⟩ := h
  refine ⟨⟨hl, ?_⟩, hw⟩
  rcases h with ⟨rfl, h0⟩ | ⟨b, cap, cur, rfl, hb, hg, hn, hm, hs, ht⟩
  · exact .inl ⟨rfl, h0⟩
  · exact .inr ⟨b, cap, cur, rfl, hb, (g.2.2.2 b (Array.getElem?_eq_some_iff.1 hg).1).trans hg, hn, hm, hs, ht⟩
theorem OwnC.nil (w : World) (base : Nat) : OwnC w base (.slice none 0 0) [] := ⟨World.ownsRow_nil _ _ _ _, by simp⟩
theorem infoC : (Try.prog.info? 32).map (fun i => (i.zero, i.size, i.bytes)) = some (some (.agg ⟨cellC zeros⟩), 14, 112) := by kernel_rfl
theorem oneC (c : List Int) : ∀ u ∈ cellC c, u.oneCell' = true := by
  intro u hu
  simp only [cellC, List.mem_map] at hu
  obtain ⟨x, _, rfl⟩ := hu
  rfl
end Go.Proofs.Ytlnlodbjkicgoaa
