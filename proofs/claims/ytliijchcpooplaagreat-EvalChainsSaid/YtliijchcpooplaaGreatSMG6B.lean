/- graph: opOf, 5, 6, 7, 8. A region whose order is open, with one call that makes memory: what it gives is a letter, and those that hang on it come behind it. A region whose order is open, with any operations that make or turn memory, in any order that the region leaves open: what each gives is a letter, and what is known of it is a fact of its own. -/
import Derived.Test.YtliijchcpooplaaGreatSMG4
import Derived.Test.YtliijchcpooplaaGreatSMFix
namespace Go.Proofs.YtliijchcpooplaaGreat
open Go.ChangeShapes Go.WideShapes Go.ChangeAt Go.RowKit
set_option maxRecDepth 20000
set_option linter.unusedVariables false

set_option maxHeartbeats 2000000 in
theorem opOf_5 (w : World) : Calls Tryz.prog 52 #[.int .i64 5] w (Made1 ⟨1, 1, 3, 1, 2, 0, 0, 0, 0, false, true⟩ 92 96 (.func (.func 72) #[] #[]) (.int .i64 0) w) := by
  go_enter Tryz.func52, Tryz.ntmps52
  go_wp2_with (first | (go_at_call 76; with_reducible refine (always_any _ _).mono ?_; rintro e w1 ⟨rfl, rfl⟩) | (go_at_call 68; with_reducible refine (slid_any _ _).mono ?_; rintro e w1 ⟨rfl, rfl⟩) | (go_at_call 70; with_reducible refine (ofChannels_any _ _).mono ?_; rintro e w1 ⟨rfl, rfl⟩))
  exact bodyPost_ret (by simp [results, Tryz.results52, go_sem]; rfl) rfl ⟨_, _, rfl, by go_cell, by simp, by go_cell, by simp, by go_grown⟩
set_option maxHeartbeats 2000000 in
theorem opOf_6 (w : World) : Calls Tryz.prog 52 #[.int .i64 6] w (Made0 ⟨2, 0, 0, 0, 0, 0, 0, 0, 0, false, false⟩ 77 96 (.int .i64 0) w) := by
  go_enter Tryz.func52, Tryz.ntmps52
  go_wp2_with (first | (go_at_call 76; with_reducible refine (always_any _ _).mono ?_; rintro e w1 ⟨rfl, rfl⟩) | (go_at_call 68; with_reducible refine (slid_any _ _).mono ?_; rintro e w1 ⟨rfl, rfl⟩) | (go_at_call 70; with_reducible refine (ofChannels_any _ _).mono ?_; rintro e w1 ⟨rfl, rfl⟩))
  exact bodyPost_ret (by simp [results, Tryz.results52, go_sem]; rfl) rfl ⟨_, rfl, by go_cell, by simp, by go_grown⟩
set_option maxHeartbeats 2000000 in
theorem opOf_7 (w : World) : Calls Tryz.prog 52 #[.int .i64 7] w (Made0 ⟨2, 0, 0, 0, 0, 0, 0, 0, 0, false, false⟩ 77 96 (.int .i64 0) w) := by
  go_enter Tryz.func52, Tryz.ntmps52
  go_wp2_with (first | (go_at_call 76; with_reducible refine (always_any _ _).mono ?_; rintro e w1 ⟨rfl, rfl⟩) | (go_at_call 68; with_reducible refine (slid_any _ _).mono ?_; rintro e w1 ⟨rfl, rfl⟩) | (go_at_call 70; with_reducible refine (ofChannels_any _ _).mono ?_; rintro e w1 ⟨rfl, rfl⟩))
  exact bodyPost_ret (by simp [results, Tryz.results52, go_sem]; rfl) rfl ⟨_, rfl, by go_cell, by simp, by go_grown⟩
set_option maxHeartbeats 2000000 in
theorem opOf_8 (w : World) : Calls Tryz.prog 52 #[.int .i64 8] w (Made0 ⟨1, 0, 0, 0, 0, 0, 0, 0, 0, false, true⟩ 77 96 (.int .i64 0) w) := by
  go_enter Tryz.func52, Tryz.ntmps52
  go_wp2_with (first | (go_at_call 76; with_reducible refine (always_any _ _).mono ?_; rintro e w1 ⟨rfl, rfl⟩) | (go_at_call 68; with_reducible refine (slid_any _ _).mono ?_; rintro e w1 ⟨rfl, rfl⟩) | (go_at_call 70; with_reducible refine (ofChannels_any _ _).mono ?_; rintro e w1 ⟨rfl, rfl⟩))
  exact bodyPost_ret (by simp [results, Tryz.results52, go_sem]; rfl) rfl ⟨_, rfl, by go_cell, by simp, by go_grown⟩
end Go.Proofs.YtliijchcpooplaaGreat
namespace Go.Proofs.YtliijchcpooplaaGreat
open Go

section
variable {P : Program} {ops : Array Oper} {Q : Exit → Act → World → Prop} {md : Region.Mode}

theorem ready_all (hok : fixOK md ops = true) (listed : Array Bool) (hsz : listed.size = ops.size) (hr : Region.ready md ops listed = []) : ∀ j o, ops[j]? = some o → listed.getD j true = true := by
  have lt : ∀ {j p}, ops[j]? = some p → j < ops.size := fun h => (Array.getElem?_eq_some_iff.1 h).1
  intro j
  induction j using Nat.strongRecOn with
  | ind j ih =>
    intro o hj
    apply Classical.byContradiction
    intro c
    have c' : listed.getD j true = false := by simpa using c
    have : j ∈ Region.ready md ops listed := mem_ready.2 ⟨c', o, hj, fun e he hb => by
      have hlt := (fixOK_at hok hj).2.2.2 e he hb
      have he2 : ops[e.on]? = some (ops[e.on]'(Nat.lt_trans hlt (lt hj))) := Array.getElem?_eq_getElem (Nat.lt_trans hlt (lt hj))
      have := ih e.on hlt _ he2
      rw [Array.getD_eq_getD_getElem?] at this ⊢
      rw [Array.getElem?_eq_getElem (by rw [hsz]; exact Nat.lt_trans hlt (lt hj))] at this ⊢
      exact this⟩
    rw [hr] at this
    cases this
theorem meets_next {listed : Array Bool} {aF a : Act} {i : Nat} {o : Oper} {v : Value} (ho : ops[i]? = some o) (hm : Meets ops listed aF a) (hp : aF.put o.dst v = aF) : Meets ops (listed.setIfInBounds i true) aF (a.put o.dst v) := by
  obtain ⟨m1, m2, m3⟩ := hm
  refine ⟨?_, ?_, fun t ht => ?_⟩
  · cases hd : o.dst <;> simpa [Act.put] using m1
  · cases hd : o.dst <;> simpa [Act.put] using m2
  · cases hd : o.dst with
    | none =>
      refine m3 t fun j p hj hp => ?_
      by_cases c : i = j
      · subst c
        rw [ho] at hj
        injection hj with hj
        rw [← hj, hd] at hp
        cases hp
      · rw [← getD_set_ne true c]
        exact ht j p hj hp
    | some d =>
      by_cases c : d = t
      · subst c
        by_cases l : d < aF.tmps.size
        · rw [put_fix hp hd l]
          simp [Act.put, m2, l]
        · have l' : aF.tmps.size ≤ d := Nat.le_of_not_lt l
          have l2 : (a.put (some d) v).tmps.size ≤ d := by
            simp only [Act.put, Array.size_setIfInBounds, m2]
            exact l'
          rw [Array.getElem?_eq_none l2, Array.getElem?_eq_none l']
      · have : (a.put (some d) v).tmps[t]? = a.tmps[t]? := by simp [Act.put, Array.getElem?_setIfInBounds_ne c]
        rw [this]
        refine m3 t fun j p hj hp => ?_
        by_cases c2 : i = j
        · subst c2
          rw [ho] at hj
          injection hj with hj
          rw [← hj, hd] at hp
          injection hp with hp
          exact absurd hp c
        · rw [← getD_set_ne true c2]
          exact ht j p hj hp
theorem looks_meet (hok : fixOK md ops = true) {listed : Array Bool} {aF a : Act} {i : Nat} {o : Oper} (hsz : listed.size = ops.size) (hm : Meets ops listed aF a) (ho : ops[i]? = some o)
    (hall : ∀ e ∈ o.after, Region.binds md e = true → listed.getD e.on false = true) : ∀ t ∈ o.looksAt ops, a.tmps[t]? = aF.tmps[t]? := fun t ht => hm.2.2 t fun j p hj hd => by
  obtain ⟨e, he, hb, rfl⟩ := (fixOK_at hok ho).2.1 t ht j p hj hd
  have := hall e he hb
  rw [Array.getD_eq_getD_getElem?] at this ⊢
  rw [Array.getElem?_eq_getElem (by rw [hsz]; exact (Array.getElem?_eq_some_iff.1 hj).1)] at this ⊢
  exact this
theorem wpOp_owes {S : World → Prop} {aF a : Act} {i : Nat} {o : Oper} {w : World} {K : Act → World → Prop} (hok : fixOK md ops = true) (ho : ops[i]? = some o) (look : ∀ t ∈ o.looksAt ops, a.tmps[t]? = aF.tmps[t]?) (hS : S w)
    (h : Owes P ops S aF o) (next : ∀ v w', aF.put o.dst v = aF → S w' → K (a.put o.dst v) w') : wpOp P ops Q i K a w := by
  obtain ⟨ee, ew⟩ := eval_eq (ops := ops) (fixOK_at hok ho).1 look
  have h := h w hS
  unfold wpOp
  simp only [ho]
  rw [ew]
  by_cases hw : Region.wanted o (yielded ops aF.tmps) = true
  · rw [if_pos hw] at h ⊢
    refine .inl ?_
    unfold Oper.wp at h ⊢
    rw [ee]
    exact upon_fix next h
  · rw [if_neg hw] at h ⊢
    exact next undef w h hS
theorem done_meets {listed : Array Bool} {aF a : Act} (hall : ∀ j o, ops[j]? = some o → listed.getD j true = true) (hm : Meets ops listed aF a) : a = aF := by
  obtain ⟨h1, h2, h3⟩ := hm
  obtain ⟨t1, d1⟩ := a
  obtain ⟨t2, d2⟩ := aF
  simp only at h1 h2 h3
  subst h1
  have : t1 = t2 := Array.ext_getElem? fun t => h3 t fun j o hj _ => hall j o hj
  subst this
  rfl
theorem upon_late {α : Type} {S1 : α → World → Prop} {V : α → Value} {F0 a : Act} {d : Tmp} {o : Oper} {K : Act → World → Prop} {r : Result Next} (hd : o.dst = some d) (hl : d < F0.tmps.size)
    (hK : ∀ p w', S1 p w' → K (a.put (some d) (V p)) w') (h : o.upon P F0 (fun a' w' => ∃ p, a' = F0.put (some d) (V p) ∧ S1 p w') noPost r) : o.upon P a K Q r := by
  have key : ∀ v p, F0.put (some d) v = F0.put (some d) (V p) → v = V p := by
    intro v p e
    have := congrArg (fun x : Act => x.tmps[d]?) e
    simpa [Act.put, hl] using this
  cases r with
  | ok n w' =>
    cases n with
    | value v => obtain ⟨p, e, h⟩ := h; rw [hd] at e; have := key v p e; subst this; show K (a.put o.dst (V p)) w'; rw [hd]; exact hK p w' h
    | skip => obtain ⟨p, e, h⟩ := h; rw [hd] at e; have := key _ p e; show K (a.put o.dst undef) w'; rw [hd, this]; exact hK p w' h
    | defer d' =>
      exfalso
      obtain ⟨p, e, h⟩ := h
      have e : ({ F0 with defers := d' :: F0.defers } : Act).put o.dst undef = F0.put (some d) (V p) := e
      have := congrArg Act.defers e
      rw [hd] at this
      simp [Act.put] at this
    | enter f args =>
      refine Calls.mono h fun e w'' he => ?_
      cases e with
      | returned v => obtain ⟨p, e, h⟩ := he; rw [hd] at e; have := key v p e; subst this; show K (a.put o.dst (V p)) w''; rw [hd]; exact hK p w'' h
      | panicked c => exact he.elim
      | outgrown => obtain ⟨_, _, hf⟩ := he; exact hf.elim
    | row row args => exact Rows.mono h fun v w'' he => by obtain ⟨p, e, h⟩ := he; rw [hd] at e; have := key v p e; subst this; show K (a.put o.dst (V p)) w''; rw [hd]; exact hK p w'' h
    | _ => exact h.elim
  | halt x w' =>
    cases x with
    | panic v => exact h.elim
    | _ => exact h.elim
end

/-- What all operations owe but those of the list. -/
def OwesX (P : Program) (ops : Array Oper) (S : World → Prop) (aF : Act) (bs : List Nat) : Nat → List Oper → Prop
  | _, [] => True
  | k, o :: l => (bs.contains k = true ∨ Owes P ops S aF o) ∧ OwesX P ops S aF bs (k + 1) l
theorem OwesX.at_ {P : Program} {ops : Array Oper} {S : World → Prop} {aF : Act} {bs : List Nat} {l : List Oper} : ∀ {k : Nat}, OwesX P ops S aF bs k l → ∀ {j : Nat} {o : Oper}, l[j]? = some o → bs.contains (k + j) = false → Owes P ops S aF o := by
  induction l with
  | nil => intro k _ j o hj; simp at hj
  | cons x l ih =>
    intro k h j o hj hn
    cases j with
    | zero =>
      simp at hj
      subst hj
      rcases h.1 with h | h
      · rw [Nat.add_zero, h] at hn; cases hn
      · exact h
    | succ j => exact ih h.2 (by simpa using hj) (by rw [← hn]; congr 1; omega)
theorem owesb_skip {P : Program} {ops : Array Oper} {S : World → Prop} {aF : Act} {bs : List Nat} {k : Nat} {o : Oper} {l : List Oper} (h : bs.contains k = true) (g : OwesX P ops S aF bs (k + 1) l) : OwesX P ops S aF bs k (o :: l) := ⟨.inl h, g⟩
theorem owesb_cons {P : Program} {ops : Array Oper} {S : World → Prop} {aF : Act} {bs : List Nat} {k : Nat} {o : Oper} {l : List Oper}
    (h : ∀ w, S w → ∀ K : Act → World → Prop, (∀ w', S w' → K aF w') → if Region.wanted o (yielded ops aF.tmps) = true then o.wp P aF w K noPost else K (aF.put o.dst undef) w) (g : OwesX P ops S aF bs (k + 1) l) : OwesX P ops S aF bs k (o :: l) := ⟨.inr (owes_of h), g⟩
/-- What is asked of the region's shape. -/
def lateOK (md : Region.Mode) (ops : Array Oper) (c : Nat) (d : Tmp) (late : List Nat) (slots slotr : List Tmp) : Bool :=
  fixOK md ops && late.contains c && (match ops[c]? with | none => false | some o => o.guard.isNone && o.dst == some d) &&
  (late.all fun i => match ops[i]? with | none => false | some o => i == c || o.after.any fun e => Region.binds md e && late.contains e.on) &&
  (slots.all fun t => ops.any fun o => o.dst == some t) &&
  ((d :: slotr).all fun t => late.any fun j => match ops[j]? with | none => false | some o => o.dst == some t) && !slotr.contains d
end Go.Proofs.YtliijchcpooplaaGreat
namespace Go.Proofs.YtliijchcpooplaaGreat
open Go

def updV (v : Nat → Value) (i : Nat) (x : Value) : Nat → Value := fun k => if k = i then x else v k
def EarlyX (P : Program) (ops : Array Oper) (S : World → Prop) (F : (Nat → Value) → Act) (late : List Nat) : Nat → List Oper → Prop
  | _, [] => True
  | k, o :: l => (late.contains k = true ∨ ∀ v w, S w → ∀ K : Act → World → Prop, K (F v) w → if Region.wanted o (yielded ops (F v).tmps) = true then o.wp P (F v) w K noPost else K ((F v).put o.dst undef) w) ∧ EarlyX P ops S F late (k + 1) l
theorem EarlyX.at_ {P : Program} {ops : Array Oper} {S : World → Prop} {F : (Nat → Value) → Act} {late : List Nat} {l : List Oper} : ∀ {k : Nat}, EarlyX P ops S F late k l → ∀ {j : Nat} {o : Oper}, l[j]? = some o → late.contains (k + j) = false →
    ∀ v w, S w → ∀ K : Act → World → Prop, K (F v) w → if Region.wanted o (yielded ops (F v).tmps) = true then o.wp P (F v) w K noPost else K ((F v).put o.dst undef) w := by
  induction l with
  | nil => intro k _ j o hj; simp at hj
  | cons x l ih =>
    intro k h j o hj hn
    cases j with
    | zero =>
      simp at hj
      subst hj
      rcases h.1 with h | h
      · rw [Nat.add_zero, h] at hn; cases hn
      · exact h
    | succ j => exact ih h.2 (by simpa using hj) (by rw [← hn]; congr 1; omega)
/-- What a late one owes: from what it leans on its own fact, and that the others' facts stay, but those that it kills. -/
def LateOne (P : Program) (S : World → Prop) (F : (Nat → Value) → Act) (I : Nat → (Nat → Value) → World → Prop) (deps kills later : List (Nat × List Nat)) (j : Nat) (o : Oper) : Prop :=
  ∀ v w, S w → (∀ i, (deps.lookup j |>.getD []).contains i = true → I i v w) → ∀ K : Act → World → Prop,
    (∀ x w', S w' → I j (updV v j x) w' → (∀ i, i ≠ j → (kills.lookup j |>.getD []).contains i = false → (later.lookup j |>.getD []).contains i = false → I i v w → I i (updV v j x) w') → K ((F v).put o.dst x) w') → o.wp P (F v) w K noPost
def LateX (P : Program) (S : World → Prop) (F : (Nat → Value) → Act) (I : Nat → (Nat → Value) → World → Prop) (deps kills later : List (Nat × List Nat)) (late : List Nat) : Nat → List Oper → Prop
  | _, [] => True
  | k, o :: l => (late.contains k = false ∨ LateOne P S F I deps kills later k o) ∧ LateX P S F I deps kills later late (k + 1) l
theorem LateX.at_ {P : Program} {S : World → Prop} {F : (Nat → Value) → Act} {I : Nat → (Nat → Value) → World → Prop} {deps kills later : List (Nat × List Nat)} {late : List Nat} {l : List Oper} : ∀ {k : Nat}, LateX P S F I deps kills later late k l → ∀ {j : Nat} {o : Oper}, l[j]? = some o → late.contains (k + j) = true → LateOne P S F I deps kills later (k + j) o := by
  induction l with
  | nil => intro k _ j o hj; simp at hj
  | cons x l ih =>
    intro k h j o hj hn
    cases j with
    | zero =>
      simp at hj
      subst hj
      rcases h.1 with h | h
      · rw [Nat.add_zero, h] at hn; cases hn
      · exact h
    | succ j =>
      have e : k + 1 + j = k + (j + 1) := by omega
      have := ih h.2 (j := j) (o := o) (by simpa using hj) (by rw [e]; exact hn)
      rw [e] at this
      exact this
section
variable {P : Program} {Q : Exit → Act → World → Prop}

end
end Go.Proofs.YtliijchcpooplaaGreat
