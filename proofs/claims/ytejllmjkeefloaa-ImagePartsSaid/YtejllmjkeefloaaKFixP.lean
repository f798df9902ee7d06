/- A region whose order is open, with one call that makes memory: what it gives is a letter, and those that hang on it come behind it. A struct or an array of many cells that is loaded, whole, from the beginning of a box: told at once (the walk's own simp takes twice as long for each cell more). A box of many cells that is made: the world behind it is a letter. -/
import Derived.Test.YtejllmjkeefloaaKFix
import Derived.Deep.MidRow
import Derived.Test.YtejllmjkeefloaaKFixM
import Derived.WalkKit
namespace Go.Proofs.Ytejllmjkeefloaa
open Go

section
variable {P : Program} {ops : Array Oper} {Q : Exit → Act → World → Prop} {md : Region.Mode}

theorem ready_all (hok : fixOK md ops = true) (listed : Array Bool) (hsz : listed.size = ops.size) (hr : Region.ready md ops listed = []) : ∀ j o, ops[j]? = some o → listed.getD j true = true := by
  have lt : ∀ {j p}, ops[j]? = some p → j < ops.size := fun h => (Array.getElem?_eq_some_iff.1 h).1
  intro j
  induction j using Nat.strongRecOn with
  | ind j ih =>
    intro o hj
    apply Classical.byContradiction
    intro c
    have c' : listed.getD j true = false := by simpa using c
    have : j ∈ Region.ready md ops listed := mem_ready.2 ⟨c', o, hj, fun e he hb => by
      have hlt := (fixOK_at hok hj).2.2.2 e he hb
      have he2 : ops[e.on]? = some (ops[e.on]'(Nat.lt_trans hlt (lt hj))) := Array.getElem?_eq_getElem (Nat.lt_trans hlt (lt hj))
      have := ih e.on hlt _ he2
      rw [Array.getD_eq_getD_getElem?] at this ⊢
      rw [Array.getElem?_eq_getElem (by rw [hsz]; exact Nat.lt_trans hlt (lt hj))] at this ⊢
      exact this⟩
    rw [hr] at this
    cases this
theorem meets_next {listed : Array Bool} {aF a : Act} {i : Nat} {o : Oper} {v : Value} (ho : ops[i]? = some o) (hm : Meets ops listed aF a) (hp : aF.put o.dst v = aF) : Meets ops (listed.setIfInBounds i true) aF (a.put o.dst v) := by
  obtain ⟨m1, m2, m3⟩ := hm
  refine ⟨?_, ?_, fun t ht => ?_⟩
  · cases hd : o.dst <;> simpa [Act.put] using m1
  · cases hd : o.dst <;> simpa [Act.put] using m2
  · cases hd : o.dst with
    | none =>
      refine m3 t fun j p hj hp => ?_
      by_cases c : i = j
      · subst c
        rw [ho] at hj
        injection hj with hj
        rw [← hj, hd] at hp
        cases hp
      · rw [← getD_set_ne true c]
        exact ht j p hj hp
    | some d =>
      by_cases c : d = t
      · subst c
        by_cases l : d < aF.tmps.size
        · rw [put_fix hp hd l]
          simp [Act.put, m2, l]
        · have l' : aF.tmps.size ≤ d := Nat.le_of_not_lt l
          have l2 : (a.put (some d) v).tmps.size ≤ d := by
            simp only [Act.put, Array.size_setIfInBounds, m2]
            exact l'
          rw [Array.getElem?_eq_none l2, Array.getElem?_eq_none l']
      · have : (a.put (some d) v).tmps[t]? = a.tmps[t]? := by simp [Act.put, Array.getElem?_setIfInBounds_ne c]
        rw [this]
        refine m3 t fun j p hj hp => ?_
        by_cases c2 : i = j
        · subst c2
          rw [ho] at hj
          injection hj with hj
          rw [← hj, hd] at hp
          injection hp with hp
          exact absurd hp c
        · rw [← getD_set_ne true c2]
          exact ht j p hj hp
theorem looks_meet (hok : fixOK md ops = true) {listed : Array Bool} {aF a : Act} {i : Nat} {o : Oper} (hsz : listed.size = ops.size) (hm : Meets ops listed aF a) (ho : ops[i]? = some o)
    (hall : ∀ e ∈ o.after, Region.binds md e = true → listed.getD e.on false = true) : ∀ t ∈ o.looksAt ops, a.tmps[t]? = aF.tmps[t]? := fun t ht => hm.2.2 t fun j p hj hd => by
  obtain ⟨e, he, hb, rfl⟩ := (fixOK_at hok ho).2.1 t ht j p hj hd
  have := hall e he hb
  rw [Array.getD_eq_getD_getElem?] at this ⊢
  rw [Array.getElem?_eq_getElem (by rw [hsz]; exact (Array.getElem?_eq_some_iff.1 hj).1)] at this ⊢
  exact this
theorem wpOp_owes {S : World → Prop} {aF a : Act} {i : Nat} {o : Oper} {w : World} {K : Act → World → Prop} (hok : fixOK md ops = true) (ho : ops[i]? = some o) (look : ∀ t ∈ o.looksAt ops, a.tmps[t]? = aF.tmps[t]?) (hS : S w)
    (h : Owes P ops S aF o) (next : ∀ v w', aF.put o.dst v = aF → S w' → K (a.put o.dst v) w') : wpOp P ops Q i K a w := by
  obtain ⟨ee, ew⟩ := eval_eq (ops := ops) (fixOK_at hok ho).1 look
  have h := h w hS
  unfold wpOp
  simp only [ho]
  rw [ew]
  by_cases hw : Region.wanted o (yielded ops aF.tmps) = true
  · rw [if_pos hw] at h ⊢
    refine .inl ?_
    unfold Oper.wp at h ⊢
    rw [ee]
    exact upon_fix next h
  · rw [if_neg hw] at h ⊢
    exact next undef w h hS
theorem done_meets {listed : Array Bool} {aF a : Act} (hall : ∀ j o, ops[j]? = some o → listed.getD j true = true) (hm : Meets ops listed aF a) : a = aF := by
  obtain ⟨h1, h2, h3⟩ := hm
  obtain ⟨t1, d1⟩ := a
  obtain ⟨t2, d2⟩ := aF
  simp only at h1 h2 h3
  subst h1
  have : t1 = t2 := Array.ext_getElem? fun t => h3 t fun j o hj _ => hall j o hj
  subst this
  rfl
end

/-- What all operations owe but those of the list. -/
def OwesX (P : Program) (ops : Array Oper) (S : World → Prop) (aF : Act) (bs : List Nat) : Nat → List Oper → Prop
  | _, [] => True
  | k, o :: l => (bs.contains k = true ∨ Owes P ops S aF o) ∧ OwesX P ops S aF bs (k + 1) l
theorem OwesX.at_ {P : Program} {ops : Array Oper} {S : World → Prop} {aF : Act} {bs : List Nat} {l : List Oper} : ∀ {k : Nat}, OwesX P ops S aF bs k l → ∀ {j : Nat} {o : Oper}, l[j]? = some o → bs.contains (k + j) = false → Owes P ops S aF o := by
  induction l with
  | nil => intro k _ j o hj; simp at hj
  | cons x l ih =>
    intro k h j o hj hn
    cases j with
    | zero =>
      simp at hj
      subst hj
      rcases h.1 with h | h
      · rw [Nat.add_zero, h] at hn; cases hn
      · exact h
    | succ j => exact ih h.2 (by simpa using hj) (by rw [← hn]; congr 1; omega)
end Go.Proofs.Ytejllmjkeefloaa
namespace Go.Proofs.Ytejllmjkeefloaa
open Go

section
variable {P : Program} {ops : Array Oper} {Q : Exit → Act → World → Prop}

theorem range_box {w : World} {b o : Nat} {cells : Array Value} (h : ∀ k : Nat, w.cell? ⟨b, k, none⟩ = cells[k]?) (l : List Value) (hl : ∀ j v, l[j]? = some v → cells[o + j]? = some v) : w.rangeAt b o l := fun j v hv => by rw [h (o + j)]; exact hl j v hv
theorem wpList_load_box {rest : List Oper} {op : Oper} {a : Act} {w : World} (hgd : op.guard = none) (ty : TypeId) (x : Operand) (ho : op.op = .load ty x) (b : Nat) (cells : Array Value) {d : TypeDesc} (hx : a.eval x = .pointer (some ⟨b, 0, none⟩)) (hb : ∀ k : Nat, w.cell? ⟨b, k, none⟩ = cells[k]?)
    (hu : P.underlying ty = some d) (hd : d.isRow = true) (hi : (P.info? ty).map (·.size) = some cells.size) (h : wpList P ops Q rest (a.put op.dst (.agg cells)) w) : wpList P ops Q (op :: rest) a w :=
  wpList_load_mid hgd ty x ho b 0 hx cells.toList d (range_box hb _ (fun j v hv => by rw [Nat.zero_add]; simpa using hv)) hu hd (by simpa using hi) h
end
end Go.Proofs.Ytejllmjkeefloaa
namespace Go.Proofs.Ytejllmjkeefloaa
open Go

section
variable {P : Program} {ops : Array Oper} {Q : Exit → Act → World → Prop}

/-- A box of its own is made; the world behind it is a letter. -/
theorem wpList_alloc_box {rest : List Oper} {op : Oper} {a : Act} {w : World} (hgd : op.guard = none) (ty : TypeId) (ho : op.op = .alloc ty) (z : Value) (hz : (P.info? ty).map (·.zero) = some (some z)) (S : World → Prop) (hS : S (w.alloc (.cells z.cells ty)))
    (h : ∀ w', S w' → wpList P ops Q rest (a.put op.dst (.pointer (some ⟨w.heap.size, 0, none⟩))) w') : wpList P ops Q (op :: rest) a w := by
  refine wpList_plain hgd fun K hK => ?_
  obtain ⟨i, hi, hiz⟩ : ∃ i, P.info? ty = some i ∧ i.zero = some z := by
    cases hq : P.info? ty with
    | none => simp [hq] at hz
    | some i => exact ⟨i, rfl, by simpa [hq] using hz⟩
  have hrun : (Instr.alloc ty true (.tuple #[])).run P w = .ok (.pointer (some ⟨w.heap.size, 0, none⟩)) (w.alloc (.cells z.cells ty)) := by
    simp [Instr.alloc, zeroValue, typeInfo, newVar, newRow, Sem.run_bind, hi, hiz, go_sem]
  unfold Oper.wp execOp
  simp only [ho]
  simp only [hrun, Sem.run_bind, Sem.run_pure, Result.andThen_ok]
  exact hK _ _ (h _ hS)
end
end Go.Proofs.Ytejllmjkeefloaa
