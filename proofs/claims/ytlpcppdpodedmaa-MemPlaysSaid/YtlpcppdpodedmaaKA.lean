/- A row of int8 that a call owns; append. -/
import Derived.Test.YtlpcppdpodedmaaK4
namespace Go.Proofs.Ytlpcppdpodedmaa
open Go.ChangeShapes Go.WideShapes Go.ChangeAt Go.RowKit
set_option maxRecDepth 20000
set_option linter.unusedVariables false
set_option linter.unusedSimpArgs false
/-- A row of int8 that a call owns. -/
def Own8 (w : World) (base : Nat) (v : Value) (xs : List Int) : Prop := w.ownsRow base 38 1 v xs.length (xs.map (Value.int .i8))
theorem Own8.past {w w' : World} {base : Nat} {v : Value} {l : List Int} (h : Own8 w base v l) (g : Past w w') : Own8 w' base v l := by
  obtain ⟨hl, h⟩ := h
  refine ⟨hl, ?_⟩
  rcases h with ⟨rfl, h0⟩ | ⟨b, cap, cur, rfl, hb, hg, hn, hm, hs, ht⟩
  · exact .inl ⟨rfl, h0⟩
  · exact .inr ⟨b, cap, cur, rfl, hb, (g.2.2.2 b (Array.getElem?_eq_some_iff.1 hg).1).trans hg, hn, hm, hs, ht⟩
theorem nums_of_own {w : World} {base : Nat} {v : Value} {xs : List Int} (ho : Own8 w base v xs) (wf : ∀ x ∈ xs, (Lit.int .i8 x).wf = true) : IsNums .i8 w v xs := by
  obtain ⟨hl, h⟩ := ho
  rcases h with ⟨rfl, h0⟩ | ⟨b, cap, cur, rfl, hb, hg, hn, hm, hs, ht⟩
  · have : xs = [] := List.eq_nil_of_length_eq_zero h0
    subst this
    exact ⟨none, 0, rfl, Nat.le_refl _, Nat.zero_le _, fun _ => rfl, by simp, by simp⟩
  · refine ⟨some ⟨b, 0, none⟩, cap, rfl, hn, hm, (fun h => by cases h), wf, fun hp => ⟨b, 0, rfl, (Array.getElem?_eq_some_iff.1 hg).1, fun i hi => ?_⟩⟩
    have key : w.cell? ⟨b, 0 + i, none⟩ = (xs.map (Value.int .i8))[i]? := by
      rw [← ht, List.getElem?_take_of_lt (by omega)]
      simp [World.cell?, hg]
    rw [key]
    simp [List.getD, hi]
theorem Own8.lt {w : World} {base : Nat} {v : Value} {l : List Int} (h : Own8 w base v l) {k : Nat} (hk : v.ownBlock = some k) : base ≤ k := (World.ownsRow.lt h k hk).1
theorem own8_lit (w : World) : Own8 (w.alloc (.cells #[] 38)) w.heap.size (.slice (some ⟨w.heap.size, 0, none⟩) 0 0) [] := World.ownsRow_lit w #[] 0 (Nat.le_refl _) (by decide) rfl
theorem Own8.alloc {w : World} {base : Nat} {v : Value} {l : List Int} (h : Own8 w base v l) (x : Obj) : Own8 (w.alloc x) base v l := World.ownsRow.alloc h x
/-- append of a row of int8 to one that the call owns. -/
theorem wpList_append_8 {ops : Array Oper} {Q : Exit → Act → World → Prop} {rest : List Oper} {o : Oper} {a : Act} {w : World} (hgd : o.guard = none) (s x : Operand) (ho : o.op = .call { callee := .builtin .append, args := #[s, x], argTypes := #[32, 32] })
    (base : Nat) (v : Value) (xs : List Int) (hs : a.eval s = v) (hown : Own8 w base v xs) (ys : List Int) (A : Option Addr) (n cap : Nat) (hx : a.eval x = .slice A n cap) (hy : IsNums .i8 w (.slice A n cap) ys) (hm : xs.length + ys.length ≤ 1000000) (hbase : base ≤ w.heap.size)
    (h : ∀ v' w', Own8 w' base v' (xs ++ ys) → w.grownBy w' v.ownBlock → wpList Try.prog ops Q rest (a.put o.dst v') w') : wpList Try.prog ops Q (o :: rest) a w := by
  obtain ⟨i, hi, hz, hsz, hb⟩ := info_parts info8
  obtain ⟨A', cap', e, h2, h3, h4, h5, h6⟩ := hy
  simp only [Value.slice.injEq] at e
  obtain ⟨rfl, rfl, rfl⟩ := e
  by_cases hp : 0 < ys.length
  · obtain ⟨b, off, rfl, hbl, hc⟩ := h6 hp
    refine wpList_append_own _ hgd s x 32 ho base 38 i _ 1 1 Try.underlying32 hi hz hsz hb rfl (by decide) v xs.length (xs.map (Value.int .i8)) hs hown ⟨b, off, none⟩ ys.length cap (ys.map (Value.int .i8)) hx (by simp) (fun j u hu => ?_) (by intro u hu; simp only [List.mem_map] at hu; obtain ⟨z, _, rfl⟩ := hu; rfl) (by unfold maxLen; omega) (by omega) hbase ?_
    · rw [add_plain]
      have hj : j < ys.length := by
        by_cases q : j < ys.length
        · exact q
        · rw [List.getElem?_eq_none (by simpa using q)] at hu; cases hu
      rw [hc j hj]
      rw [← hu]
      simp [List.getD, hj]
    · intro v' w' ow g _
      exact h v' w' (by unfold Own8; simpa using ow) g
  · have e0 : ys = [] := List.eq_nil_of_length_eq_zero (by omega)
    subst e0
    simp only [List.length_nil] at hx h4
    cases A with
    | none =>
      obtain rfl := h4 rfl
      have hr := run_append_owned_none (P := Try.prog) w base 32 o.type 38 i 1 Try.underlying32 hi v xs.length (xs.map (Value.int .i8)) hown
      refine wpList_plain hgd fun K hK => ?_
      unfold Oper.wp execOp
      simp only [ho, resolve, invoke, builtin, Sem.run_bind, Sem.run_pure, Result.andThen_ok, List.map_toArray, List.map_cons, List.map_nil, hs, hx, hr]
      exact hK _ _ (h v w (by simpa using hown) (World.grownBy.refl _ _))
    | some ad =>
      refine wpList_append_own _ hgd s x 32 ho base 38 i _ 1 1 Try.underlying32 hi hz hsz hb rfl (by decide) v xs.length (xs.map (Value.int .i8)) hs hown ad 0 cap [] hx rfl (fun j u hu => by simp at hu) (by simp) (by unfold maxLen; omega) (by omega) hbase ?_
      intro v' w' ow g _
      exact h v' w' (by unfold Own8; simpa using ow) g
theorem Own8.nums {w : World} {base : Nat} {v : Value} {l : List Int} (h : Own8 w base v l) (hb : Wf8 l) : IsNums .i8 w v l := nums_of_own h hb
end Go.Proofs.Ytlpcppdpodedmaa
