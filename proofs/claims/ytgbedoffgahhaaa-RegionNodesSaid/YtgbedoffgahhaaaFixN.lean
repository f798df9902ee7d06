/- A region whose last operation waits for all others: the others as a region of their own, and then that one. -/
import Derived.Test.YtgbedoffgahhaaaFixP
namespace Go.Proofs.Ytgbedoffgahhaaa
open Go

section
variable {P : Program} {Q : Exit → Act → World → Prop} {md : Region.Mode}

/-- What is owed behind the others: the last one, and then the rest. -/
def thenLast (P : Program) (Q : Exit → Act → World → Prop) (o : Oper) : Exit → Act → World → Prop
  | .normal, a, w => o.wp P a w (Q .normal) Q
  | e, a, w => Q e a w

theorem upon_then {last o : Oper} {a : Act} {K K' : Act → World → Prop} {r : Result Next} (hK : ∀ a w, K a w → K' a w) (h : o.upon P a K (thenLast P Q last) r) : o.upon P a K' Q r := by
  cases r with
  | ok n w' =>
    cases n with
    | value v => exact hK _ _ h
    | skip => exact hK _ _ h
    | defer d => exact hK _ _ h
    | enter f args =>
      refine Calls.mono h fun e w'' he => ?_
      cases e with
      | returned v => exact hK _ _ he
      | panicked c => exact he
      | outgrown => exact he
    | row row args => exact Rows.mono h fun v w'' he => hK _ _ he
    | _ => exact h.elim
  | halt x w' =>
    cases x with
    | panic v => exact h
    | _ => exact h.elim

/-- What is asked: the last one has no guard and waits for each other; the others wait for none but each other, and their guards look at each other. -/
def lastOK (md : Region.Mode) (ops : Array Oper) (last : Oper) : Bool :=
  last.guard.isNone &&
  ((List.range ops.size).all fun j => last.after.any fun e => Region.binds md e && e.on == j) &&
  (last.after.all fun e => !Region.binds md e || decide (e.on < ops.size)) &&
  ((List.range ops.size).all fun i => match ops[i]? with
    | none => true
    | some o => (o.after.all fun e => !Region.binds md e || decide (e.on < i)) && (match o.guard with | none => true | some g => decide (g.1 < ops.size)))

theorem yielded_push {ops : Array Oper} {last : Oper} {tmps : Array Value} {g : Nat} (h : g < ops.size) : yielded (ops.push last) tmps g = yielded ops tmps g := by
  unfold yielded
  rw [Array.getElem?_push, if_neg (by omega)]
theorem all_of_ready {ops : Array Oper} (hafter : ∀ i o, ops[i]? = some o → ∀ e ∈ o.after, Region.binds md e = true → e.on < i) (listed : Array Bool) (hsz : listed.size = ops.size) (hr : Region.ready md ops listed = []) : ∀ j o, ops[j]? = some o → listed.getD j true = true := by
  have lt : ∀ {j p}, ops[j]? = some p → j < ops.size := fun h => (Array.getElem?_eq_some_iff.1 h).1
  intro j
  induction j using Nat.strongRecOn with
  | ind j ih =>
    intro o hj
    apply Classical.byContradiction
    intro c
    have c' : listed.getD j true = false := by simpa using c
    have : j ∈ Region.ready md ops listed := mem_ready.2 ⟨c', o, hj, fun e he hb => by
      have hlt := hafter j o hj e he hb
      have he2 : ops[e.on]? = some (ops[e.on]'(Nat.lt_trans hlt (lt hj))) := Array.getElem?_eq_getElem (Nat.lt_trans hlt (lt hj))
      have := ih e.on hlt _ he2
      rw [Array.getD_eq_getD_getElem?] at this ⊢
      rw [Array.getElem?_eq_getElem (by rw [hsz]; exact Nat.lt_trans hlt (lt hj))] at this ⊢
      exact this⟩
    rw [hr] at this
    cases this

theorem wpAny_last {ops : Array Oper} {last : Oper} (hok : lastOK md ops last = true) : ∀ (fuel : Nat) (listed : Array Bool) (a : Act) (w : World), listed.size = ops.size → wpAny P md ops (thenLast P Q last) fuel listed a w → wpAny P md (ops.push last) Q (fuel + 1) (listed.push false) a w := by
  unfold lastOK at hok
  simp only [Bool.and_eq_true] at hok
  obtain ⟨⟨⟨g0, g1⟩, g2⟩, g3⟩ := hok
  have hguard : last.guard = none := Option.isNone_iff_eq_none.1 g0
  have at3 : ∀ i o, ops[i]? = some o → (∀ e ∈ o.after, Region.binds md e = true → e.on < i) ∧ ∀ g, o.guard = some g → g.1 < ops.size := by
    intro i o ho
    have hi : i < ops.size := (Array.getElem?_eq_some_iff.1 ho).1
    have := List.all_eq_true.1 g3 i (List.mem_range.2 hi)
    simp only [ho, Bool.and_eq_true] at this
    refine ⟨fun e he hb => ?_, fun g hg => ?_⟩
    · have h4 := this.1
      rw [Array.all_eq_true] at h4
      obtain ⟨k, hk, rfl⟩ := Array.getElem_of_mem he
      have := h4 k hk
      simp only [Bool.or_eq_true, Bool.not_eq_true', decide_eq_true_eq] at this
      rcases this with h | h
      · rw [hb] at h; cases h
      · exact h
    · have h5 := this.2
      rw [hg] at h5
      simpa using h5
  have waits : ∀ j, j < ops.size → ∃ e ∈ last.after, Region.binds md e = true ∧ e.on = j := by
    intro j hj
    have := List.all_eq_true.1 g1 j (List.mem_range.2 hj)
    rw [Array.any_eq_true] at this
    obtain ⟨k, hk, h⟩ := this
    simp only [Bool.and_eq_true, beq_iff_eq] at h
    exact ⟨_, Array.getElem_mem hk, h.1, h.2⟩
  have only : ∀ e ∈ last.after, Region.binds md e = true → e.on < ops.size := by
    intro e he hb
    rw [Array.all_eq_true] at g2
    obtain ⟨k, hk, rfl⟩ := Array.getElem_of_mem he
    have := g2 k hk
    simp only [Bool.or_eq_true, Bool.not_eq_true', decide_eq_true_eq] at this
    rcases this with h | h
    · rw [hb] at h; cases h
    · exact h
  have getp : ∀ {α : Type} (A : Array α) (x : α) (i : Nat) (d : α), i < A.size → (A.push x).getD i d = A.getD i d := by
    intro α A x i d h
    rw [Array.getD_eq_getD_getElem?, Array.getD_eq_getD_getElem?, Array.getElem?_push, if_neg (by omega)]
  -- all others are behind us: only the last is ready, and behind it nothing
  have done : ∀ (listed : Array Bool) (fuel : Nat) (a : Act) (w : World), listed.size = ops.size → Region.ready md ops listed = [] → last.wp P a w (Q .normal) Q → wpAny P md (ops.push last) Q (fuel + 1) (listed.push false) a w := by
    intro listed fuel a w hsz hr hl
    have hall := all_of_ready (fun i o ho => (at3 i o ho).1) listed hsz hr
    have hgetn : (ops.push last)[ops.size]? = some last := by rw [Array.getElem?_push, if_pos rfl]
    have hready : ∀ i, i ∈ Region.ready md (ops.push last) (listed.push false) → i = ops.size := by
      intro i hi
      obtain ⟨hu, o, ho, _⟩ := mem_ready.1 hi
      apply Classical.byContradiction
      intro c
      have hlt : i < (ops.push last).size := (Array.getElem?_eq_some_iff.1 ho).1
      have hlt' : i < ops.size := by simp at hlt; omega
      rw [getp listed false i true (by omega)] at hu
      rw [Array.getElem?_push, if_neg c] at ho
      rw [hall i o ho] at hu
      cases hu
    have hlast : ops.size ∈ Region.ready md (ops.push last) (listed.push false) := by
      refine mem_ready.2 ⟨?_, last, hgetn, fun e he hb => ?_⟩
      · rw [Array.getD_eq_getD_getElem?, ← hsz, Array.getElem?_push, if_pos rfl]; rfl
      · have hlt := only e he hb
        rw [getp listed false e.on false (by omega)]
        have h1 := hall e.on _ (Array.getElem?_eq_getElem hlt)
        rw [Array.getD_eq_getD_getElem?, Array.getElem?_eq_getElem (by omega)] at h1 ⊢
        exact h1
    refine ⟨fun h => (by rw [h] at hlast; cases hlast), fun i hi => ?_⟩
    rw [hready i hi]
    unfold wpOp
    simp only [hgetn]
    have hw : Region.wanted last (yielded (ops.push last) a.tmps) = true := by unfold Region.wanted; rw [hguard]
    rw [if_pos hw]
    refine .inl (Oper.wp_mono (fun a' w' hQ => ?_) hl)
    have hnone : Region.ready md (ops.push last) ((listed.push false).setIfInBounds ops.size true) = [] := by
      cases hq : Region.ready md (ops.push last) ((listed.push false).setIfInBounds ops.size true) with
      | nil => rfl
      | cons x xs =>
        have hx : x ∈ Region.ready md (ops.push last) ((listed.push false).setIfInBounds ops.size true) := by rw [hq]; exact List.mem_cons_self
        obtain ⟨hu, o, ho, _⟩ := mem_ready.1 hx
        have hlt : x < (ops.push last).size := (Array.getElem?_eq_some_iff.1 ho).1
        have hlt' : x < ops.size + 1 := by simpa using hlt
        by_cases c : x = ops.size
        · subst c
          rw [Array.getD_eq_getD_getElem?, Array.getElem?_setIfInBounds_self_of_lt (by simp; omega)] at hu
          cases hu
        · rw [getD_set_ne true (fun e => c e.symm), getp listed false x true (by omega)] at hu
          rw [Array.getElem?_push, if_neg c] at ho
          rw [hall x o ho] at hu
          cases hu
    cases fuel with
    | zero => exact ⟨hnone, hQ⟩
    | succ f => exact ⟨fun _ => hQ, fun i hi => (by rw [hnone] at hi; cases hi)⟩
  intro fuel
  induction fuel with
  | zero =>
    intro listed a w hsz h
    exact done listed 0 a w hsz h.1 h.2
  | succ fuel ih =>
    intro listed a w hsz h
    by_cases hr : Region.ready md ops listed = []
    · exact done listed (fuel + 1) a w hsz hr (h.1 hr)
    · obtain ⟨j0, hj0⟩ := List.exists_mem_of_ne_nil _ hr
      obtain ⟨hu0, o0, ho0, hall0⟩ := mem_ready.1 hj0
      have lt0 : j0 < ops.size := (Array.getElem?_eq_some_iff.1 ho0).1
      refine ⟨fun hn => ?_, fun i hi => ?_⟩
      · exfalso
        have : j0 ∈ Region.ready md (ops.push last) (listed.push false) := by
          refine mem_ready.2 ⟨?_, o0, ?_, fun e he hb => ?_⟩
          · rw [getp listed false j0 true (by omega)]; exact hu0
          · rw [Array.getElem?_push, if_neg (by omega)]; exact ho0
          · have := (at3 j0 o0 ho0).1 e he hb
            rw [getp listed false e.on false (by omega)]
            exact hall0 e he hb
        rw [hn] at this
        cases this
      · obtain ⟨hu, o, ho, hall⟩ := mem_ready.1 hi
        have hlt : i < (ops.push last).size := (Array.getElem?_eq_some_iff.1 ho).1
        have hlt' : i < ops.size + 1 := by simpa using hlt
        have hin : i ≠ ops.size := by
          intro c
          subst c
          rw [Array.getElem?_push, if_pos rfl] at ho
          injection ho with ho
          subst ho
          obtain ⟨e, he, hb, hon⟩ := waits j0 lt0
          have := hall e he hb
          rw [hon, getp listed false j0 false (by omega), Array.getD_eq_getD_getElem?, Array.getElem?_eq_getElem (by omega)] at this
          rw [Array.getD_eq_getD_getElem?, Array.getElem?_eq_getElem (by omega)] at hu0
          simp only [Option.getD_some] at this hu0
          rw [this] at hu0
          cases hu0
        have hii : i < ops.size := by omega
        rw [Array.getElem?_push, if_neg hin] at ho
        have hir : i ∈ Region.ready md ops listed := by
          refine mem_ready.2 ⟨?_, o, ho, fun e he hb => ?_⟩
          · rw [getp listed false i true (by omega)] at hu; exact hu
          · have h1 := hall e he hb
            have := (at3 i o ho).1 e he hb
            rw [getp listed false e.on false (by omega)] at h1
            exact h1
        have hop := h.2 i hir
        have ho' : (ops.push last)[i]? = some o := by rw [Array.getElem?_push, if_neg hin]; exact ho
        have hset : (listed.push false).setIfInBounds i true = (listed.setIfInBounds i true).push false := by
          apply Array.ext_getElem?
          intro k
          rw [Array.getElem?_push, Array.size_setIfInBounds]
          by_cases c : i = k
          · subst c
            rw [Array.getElem?_setIfInBounds_self_of_lt (by simp; omega), if_neg (by omega), Array.getElem?_setIfInBounds_self_of_lt (by omega)]
          · rw [Array.getElem?_setIfInBounds_ne c, Array.getElem?_push, Array.getElem?_setIfInBounds_ne c]
        have hnext : ∀ a' w', wpAny P md ops (thenLast P Q last) fuel (listed.setIfInBounds i true) a' w' → wpAny P md (ops.push last) Q (fuel + 1) ((listed.push false).setIfInBounds i true) a' w' := by
          intro a' w' hh
          rw [hset]
          exact ih _ _ _ (by simpa using hsz) hh
        unfold wpOp at hop ⊢
        simp only [ho, ho'] at hop ⊢
        have hwant : Region.wanted o (yielded (ops.push last) a.tmps) = Region.wanted o (yielded ops a.tmps) := by
          unfold Region.wanted
          cases hg : o.guard with
          | none => rfl
          | some gw =>
            obtain ⟨g, want⟩ := gw
            simp only [yielded_push ((at3 i o ho).2 _ hg)]
        rw [hwant]
        split at hop
        · rename_i hw
          rw [if_pos hw]
          rcases hop with hop | ⟨ha, b, w1, hb⟩
          · exact .inl (upon_then hnext hop)
          · exact .inr ⟨ha, b, w1, hb⟩
        · rename_i hw
          rw [if_neg hw]
          exact hnext _ _ hop

theorem wp_region_last {ops : List Oper} {last : Oper} {id : Nat} {a : Act} {w : World} (hm : P.follows .mixedOrders = true) (hok : lastOK .any ops.toArray last = true)
    (h : wpAny P .any ops.toArray (thenLast P Q last) ops.toArray.size (Array.replicate ops.toArray.size false) a w.drew) : (Code.region id (ops ++ [last]).toArray true).wp P Q a w := by
  refine wp_region_any hm ?_
  have e1 : (ops ++ [last]).toArray = ops.toArray.push last := by simp
  have e2 : Array.replicate (ops.toArray.push last).size false = (Array.replicate ops.toArray.size false).push false := by
    rw [Array.size_push, Array.replicate_succ]
  rw [e1, e2, Array.size_push]
  exact wpAny_last hok _ _ a w.drew (by simp) h
end
end Go.Proofs.Ytgbedoffgahhaaa
