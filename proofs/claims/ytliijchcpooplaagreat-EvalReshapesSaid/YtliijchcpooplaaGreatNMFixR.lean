/- A region whose order is open, with any operations that make or turn memory, in any order that the region leaves open: what each gives is a letter, and what is known of it is a fact of its own. Nodes in memory, cell by cell; a graph with one node more. Two OpReshapes there and back, and an OpRelu behind them, in numbers. Rows of one int; nodes appended, be there any or none; three nodes behind others. -/
import Derived.Test.YtliijchcpooplaaGreatNMFixP
import Derived.Test.YtliijchcpooplaaGreatNEf
namespace Go.Proofs.YtliijchcpooplaaGreat
open Go

def updV (v : Nat → Value) (i : Nat) (x : Value) : Nat → Value := fun k => if k = i then x else v k
theorem updV_same (v : Nat → Value) (i : Nat) (x : Value) : updV v i x i = x := by simp [updV]
theorem updV_ne (v : Nat → Value) {i k : Nat} (x : Value) (h : k ≠ i) : updV v i x k = v k := by simp [updV, h]
/-- What the late slots hold. -/
def latesV (lates : List (Nat × Tmp)) (v : Nat → Value) : List (Tmp × Value) := lates.map fun q => (q.2, v q.1)

theorem fill_put (l : List (Tmp × Value)) (d : Tmp) (x : Value) (h : ∀ q ∈ l, q.1 ≠ d) : ∀ a : Act, fillA (a.put (some d) x) l = (fillA a l).put (some d) x := by
  induction l with
  | nil => intro a; rfl
  | cons p l ih =>
    intro a
    have hp : p.1 ≠ d := h p List.mem_cons_self
    show fillA ((a.put (some d) x).put (some p.1) p.2) l = _
    have e : (a.put (some d) x).put (some p.1) p.2 = (a.put (some p.1) p.2).put (some d) x := by
      simp only [Act.put, Act.mk.injEq, and_true]
      exact Array.setIfInBounds_comm _ _ (fun e => hp e.symm)
    rw [e]
    exact ih (fun q hq => h q (List.mem_cons_of_mem _ hq)) _
theorem put_put (a : Act) (d : Tmp) (x y : Value) : (a.put (some d) x).put (some d) y = a.put (some d) y := by simp [Act.put]
theorem fill_upd (lates : List (Nat × Tmp)) (v : Nat → Value) (i : Nat) (d : Tmp) (x : Value) : ∀ a : Act, (lates.map (·.1)).Nodup → (lates.map (·.2)).Nodup → (i, d) ∈ lates → fillA a (latesV lates (updV v i x)) = (fillA a (latesV lates v)).put (some d) x := by
  induction lates with
  | nil => intro a _ _ h; cases h
  | cons q l ih =>
    intro a n1 n2 h
    simp only [List.map_cons, List.nodup_cons] at n1 n2
    show fillA (a.put (some q.2) (updV v i x q.1)) (latesV l (updV v i x)) = (fillA (a.put (some q.2) (v q.1)) (latesV l v)).put (some d) x
    rcases List.mem_cons.1 h with h | h
    · subst h
      have e1 : latesV l (updV v i x) = latesV l v := by
        unfold latesV
        refine List.map_congr_left fun p hp => ?_
        rw [updV_ne v x (fun e => n1.1 (by rw [← e]; exact List.mem_map.2 ⟨p, hp, rfl⟩))]
      have e2 : ∀ p ∈ latesV l v, p.1 ≠ d := fun p hp e => by
        unfold latesV at hp
        obtain ⟨r, hr, rfl⟩ := List.mem_map.1 hp
        exact n2.1 (by rw [← e]; exact List.mem_map.2 ⟨r, hr, rfl⟩)
      rw [e1, updV_same, fill_put _ d x e2, fill_put _ d (v i) e2, put_put]
    · have hq : q.1 ≠ i := fun e => n1.1 (by rw [e]; exact List.mem_map.2 ⟨(i, d), h, rfl⟩)
      rw [updV_ne v x hq]
      exact ih _ n1.2 n2.2 h
theorem fill_same (lates : List (Nat × Tmp)) (v : Nat → Value) (i : Nat) (x : Value) (h : i ∉ lates.map (·.1)) : latesV lates (updV v i x) = latesV lates v := by
  unfold latesV
  refine List.map_congr_left fun p hp => ?_
  rw [updV_ne v x (fun e => h (by rw [← e]; exact List.mem_map.2 ⟨p, hp, rfl⟩))]

/-- What is asked of the region's shape: late ones have no guard and the slots that are named; what one leans on is bound ahead of it; what one kills nobody else leans on, and it is not asked for at the end. -/
def freeOK (md : Region.Mode) (ops : Array Oper) (lates : List (Nat × Tmp)) (nost : List Nat) (deps kills later : List (Nat × List Nat)) (fin : List Nat) : Bool :=
  fixOK md ops &&
  (lates.all fun q => match ops[q.1]? with | none => false | some o => o.guard.isNone && o.dst == some q.2) &&
  (nost.all fun j => (match ops[j]? with | none => false | some o => o.guard.isNone && o.dst == none) && !(lates.map (·.1)).contains j) &&
  (deps.all fun q => match ops[q.1]? with | none => false | some o => q.2.all fun i => (o.after.any fun e => Region.binds md e && e.on == i) && (lates.map (·.1) ++ nost).contains i && (kills.all fun r => r.1 == q.1 || !r.2.contains i || (later.lookup q.1 |>.getD []).contains r.1)) &&
  (fin.all fun i => (lates.map (·.1) ++ nost).contains i && (kills.all fun r => !r.2.contains i)) &&
  (later.all fun q => q.2.all fun i => match ops[i]? with | none => false | some o => o.after.any fun e => Region.binds md e && (e.on == q.1 || q.2.contains e.on)) &&
  (decide (lates.map (·.1)).Nodup && decide (lates.map (·.2)).Nodup)

def EarlyX (P : Program) (ops : Array Oper) (S : World → Prop) (F : (Nat → Value) → Act) (late : List Nat) : Nat → List Oper → Prop
  | _, [] => True
  | k, o :: l => (late.contains k = true ∨ ∀ v w, S w → ∀ K : Act → World → Prop, K (F v) w → if Region.wanted o (yielded ops (F v).tmps) = true then o.wp P (F v) w K noPost else K ((F v).put o.dst undef) w) ∧ EarlyX P ops S F late (k + 1) l
theorem EarlyX.at_ {P : Program} {ops : Array Oper} {S : World → Prop} {F : (Nat → Value) → Act} {late : List Nat} {l : List Oper} : ∀ {k : Nat}, EarlyX P ops S F late k l → ∀ {j : Nat} {o : Oper}, l[j]? = some o → late.contains (k + j) = false →
    ∀ v w, S w → ∀ K : Act → World → Prop, K (F v) w → if Region.wanted o (yielded ops (F v).tmps) = true then o.wp P (F v) w K noPost else K ((F v).put o.dst undef) w := by
  induction l with
  | nil => intro k _ j o hj; simp at hj
  | cons x l ih =>
    intro k h j o hj hn
    cases j with
    | zero =>
      simp at hj
      subst hj
      rcases h.1 with h | h
      · rw [Nat.add_zero, h] at hn; cases hn
      · exact h
    | succ j => exact ih h.2 (by simpa using hj) (by rw [← hn]; congr 1; omega)
theorem early_skip {P : Program} {ops : Array Oper} {S : World → Prop} {F : (Nat → Value) → Act} {late : List Nat} {k : Nat} {o : Oper} {l : List Oper} (h : late.contains k = true) (g : EarlyX P ops S F late (k + 1) l) : EarlyX P ops S F late k (o :: l) := ⟨.inl h, g⟩
theorem early_cons {P : Program} {ops : Array Oper} {S : World → Prop} {F : (Nat → Value) → Act} {late : List Nat} {k : Nat} {o : Oper} {l : List Oper}
    (h : ∀ v w, S w → ∀ K : Act → World → Prop, K (F v) w → if Region.wanted o (yielded ops (F v).tmps) = true then o.wp P (F v) w K noPost else K ((F v).put o.dst undef) w) (g : EarlyX P ops S F late (k + 1) l) : EarlyX P ops S F late k (o :: l) := ⟨.inr h, g⟩

/-- What a late one owes: from what it leans on its own fact, and that the others' facts stay, but those that it kills. -/
def LateOne (P : Program) (S : World → Prop) (F : (Nat → Value) → Act) (I : Nat → (Nat → Value) → World → Prop) (deps kills later : List (Nat × List Nat)) (j : Nat) (o : Oper) : Prop :=
  ∀ v w, S w → (∀ i, (deps.lookup j |>.getD []).contains i = true → I i v w) → ∀ K : Act → World → Prop,
    (∀ x w', S w' → I j (updV v j x) w' → (∀ i, i ≠ j → (kills.lookup j |>.getD []).contains i = false → (later.lookup j |>.getD []).contains i = false → I i v w → I i (updV v j x) w') → K ((F v).put o.dst x) w') → o.wp P (F v) w K noPost
def LateX (P : Program) (S : World → Prop) (F : (Nat → Value) → Act) (I : Nat → (Nat → Value) → World → Prop) (deps kills later : List (Nat × List Nat)) (late : List Nat) : Nat → List Oper → Prop
  | _, [] => True
  | k, o :: l => (late.contains k = false ∨ LateOne P S F I deps kills later k o) ∧ LateX P S F I deps kills later late (k + 1) l
theorem LateX.at_ {P : Program} {S : World → Prop} {F : (Nat → Value) → Act} {I : Nat → (Nat → Value) → World → Prop} {deps kills later : List (Nat × List Nat)} {late : List Nat} {l : List Oper} : ∀ {k : Nat}, LateX P S F I deps kills later late k l → ∀ {j : Nat} {o : Oper}, l[j]? = some o → late.contains (k + j) = true → LateOne P S F I deps kills later (k + j) o := by
  induction l with
  | nil => intro k _ j o hj; simp at hj
  | cons x l ih =>
    intro k h j o hj hn
    cases j with
    | zero =>
      simp at hj
      subst hj
      rcases h.1 with h | h
      · rw [Nat.add_zero, h] at hn; cases hn
      · exact h
    | succ j =>
      have e : k + 1 + j = k + (j + 1) := by omega
      have := ih h.2 (j := j) (o := o) (by simpa using hj) (by rw [e]; exact hn)
      rw [e] at this
      exact this
theorem late_skip {P : Program} {S : World → Prop} {F : (Nat → Value) → Act} {I : Nat → (Nat → Value) → World → Prop} {deps kills later : List (Nat × List Nat)} {late : List Nat} {k : Nat} {o : Oper} {l : List Oper} (h : late.contains k = false) (g : LateX P S F I deps kills later late (k + 1) l) : LateX P S F I deps kills later late k (o :: l) := ⟨.inl h, g⟩
theorem late_cons {P : Program} {S : World → Prop} {F : (Nat → Value) → Act} {I : Nat → (Nat → Value) → World → Prop} {deps kills later : List (Nat × List Nat)} {late : List Nat} {k : Nat} {o : Oper} {l : List Oper} (h : LateOne P S F I deps kills later k o) (g : LateX P S F I deps kills later late (k + 1) l) : LateX P S F I deps kills later late k (o :: l) := ⟨.inr h, g⟩

theorem upon_free {P : Program} {Q : Exit → Act → World → Prop} {T : Value → World → Prop} {F0 a : Act} {o : Oper} {K : Act → World → Prop} {r : Result Next} (hl : ∀ d, o.dst = some d → d < F0.tmps.size)
    (hK : ∀ x w', T x w' → K (a.put o.dst x) w') (h : o.upon P F0 (fun a' w' => ∃ x, a' = F0.put o.dst x ∧ T x w') noPost r) : o.upon P a K Q r := by
  have key : ∀ v x, F0.put o.dst v = F0.put o.dst x → a.put o.dst v = a.put o.dst x := by
    intro v x e
    cases hd : o.dst with
    | none => rfl
    | some d =>
      rw [hd] at e
      have := congrArg (fun y : Act => y.tmps[d]?) e
      have e2 : v = x := by simpa [Act.put, hl d hd] using this
      rw [e2]
  cases r with
  | ok n w' =>
    cases n with
    | value v => obtain ⟨x, e, h⟩ := h; show K (a.put o.dst v) w'; rw [key v x e]; exact hK x w' h
    | skip => obtain ⟨x, e, h⟩ := h; show K (a.put o.dst undef) w'; rw [key _ x e]; exact hK x w' h
    | defer d' =>
      exfalso
      obtain ⟨x, e, h⟩ := h
      have e : ({ F0 with defers := d' :: F0.defers } : Act).put o.dst undef = F0.put o.dst x := e
      have := congrArg Act.defers e
      cases hd : o.dst <;> rw [hd] at this <;> simp [Act.put] at this
    | enter f args =>
      refine Calls.mono h fun e w'' he => ?_
      cases e with
      | returned v => obtain ⟨x, e, h⟩ := he; show K (a.put o.dst v) w''; rw [key v x e]; exact hK x w'' h
      | panicked c => exact he.elim
      | outgrown => obtain ⟨_, _, hf⟩ := he; exact hf.elim
    | row row args => exact Rows.mono h fun v w'' he => by obtain ⟨x, e, h⟩ := he; show K (a.put o.dst v) w''; rw [key v x e]; exact hK x w'' h
    | _ => exact h.elim
  | halt x w' =>
    cases x with
    | panic v => exact h.elim
    | _ => exact h.elim

theorem lookup_mem {l : List (Nat × List Nat)} {i : Nat} {x : List Nat} (h : l.lookup i = some x) : (i, x) ∈ l := by
  induction l with
  | nil => simp at h
  | cons q ds ih =>
    rw [List.lookup_cons] at h
    by_cases c : (i == q.1) = true
    · rw [c] at h
      simp only [Option.some.injEq] at h
      have : i = q.1 := by simpa using c
      rw [this, ← h]
      exact List.mem_cons_self
    · have c' : (i == q.1) = false := by simpa using c
      rw [c'] at h
      exact List.mem_cons_of_mem _ (ih (by simpa using h))
/-- What is behind us has behind us what it is bound to. -/
def Closed (md : Region.Mode) (ops : Array Oper) (listed : Array Bool) : Prop := ∀ i o, ops[i]? = some o → listed.getD i true = true → ∀ e ∈ o.after, Region.binds md e = true → listed.getD e.on false = true
theorem closed_set {md : Region.Mode} {ops : Array Oper} {listed : Array Bool} {i : Nat} {o : Oper} (h : Closed md ops listed) (hi : i < listed.size) (ho : ops[i]? = some o) (hall : ∀ e ∈ o.after, Region.binds md e = true → listed.getD e.on false = true) : Closed md ops (listed.setIfInBounds i true) := by
  have mono : ∀ k, listed.getD k false = true → (listed.setIfInBounds i true).getD k false = true := by
    intro k hk
    by_cases e : i = k
    · subst e
      rw [Array.getD_eq_getD_getElem?, Array.getElem?_setIfInBounds_self_of_lt hi]; rfl
    · rw [getD_set_ne false e]
      exact hk
  intro j p hj hl e he hb
  by_cases c : i = j
  · subst c
    rw [ho] at hj
    injection hj with hj
    subst hj
    exact mono _ (hall e he hb)
  · rw [getD_set_ne true c] at hl
    exact mono _ (h j p hj hl e he hb)
theorem not_yet {md : Region.Mode} {ops : Array Oper} {listed : Array Bool} {i : Nat} {l : List Nat} (hok : fixOK md ops = true) (hsz : listed.size = ops.size) (hcl : Closed md ops listed) (hu : listed.getD i true = false)
    (h : ∀ k, l.contains k = true → (match ops[k]? with | none => false | some o => o.after.any fun e => Region.binds md e && (e.on == i || l.contains e.on)) = true) : ∀ k, l.contains k = true → listed.getD k true = false := by
  intro k
  induction k using Nat.strongRecOn with
  | ind k ih =>
    intro hk
    apply Classical.byContradiction
    intro c
    have c : listed.getD k true = true := by simpa using c
    have hk2 := h k hk
    cases ho : ops[k]? with
    | none => rw [ho] at hk2; cases hk2
    | some o =>
      rw [ho] at hk2
      simp only [Array.any_eq_true, Bool.and_eq_true, Bool.or_eq_true, beq_iff_eq] at hk2
      obtain ⟨m, hm, hb, hon⟩ := hk2
      have hlist := hcl k o ho c _ (Array.getElem_mem hm) hb
      have hlt := (fixOK_at hok ho).2.2.2 _ (Array.getElem_mem hm) hb
      have ks : k < listed.size := by rw [hsz]; exact (Array.getElem?_eq_some_iff.1 ho).1
      rcases hon with e | e
      · rw [e] at hlist hlt
        rw [Array.getD_eq_getD_getElem?, Array.getElem?_eq_getElem (by omega)] at hu hlist
        simp only [Option.getD_some] at hu hlist
        rw [hu] at hlist
        cases hlist
      · have := ih _ hlt e
        rw [Array.getD_eq_getD_getElem?, Array.getElem?_eq_getElem (by omega)] at this hlist
        simp only [Option.getD_some] at this hlist
        rw [this] at hlist
        cases hlist
theorem listed_mono {listed : Array Bool} {i j : Nat} (h : listed.getD j true = true) : (listed.setIfInBounds i true).getD j true = true := by
  by_cases e : i = j
  · subst e
    rw [Array.getD_eq_getD_getElem?]
    by_cases l : i < listed.size
    · rw [Array.getElem?_setIfInBounds_self_of_lt l]; rfl
    · rw [Array.getElem?_eq_none (by rw [Array.size_setIfInBounds]; omega)]; rfl
  · rw [getD_set_ne true e]
    exact h

section
variable {P : Program} {Q : Exit → Act → World → Prop}

theorem wpAny_free {md : Region.Mode} {ops : List Oper} {S : World → Prop} {a0 : Act} (lates : List (Nat × Tmp)) (nost : List Nat) (I : Nat → (Nat → Value) → World → Prop) (deps kills later : List (Nat × List Nat)) (fin : List Nat)
    (hok : freeOK md ops.toArray lates nost deps kills later fin = true) (hd : ∀ q ∈ lates, q.2 < a0.tmps.size)
    (hE : EarlyX P ops.toArray S (fun v => fillA a0 (latesV lates v)) (lates.map (·.1) ++ nost) 0 ops) (hL : LateX P S (fun v => fillA a0 (latesV lates v)) I deps kills later (lates.map (·.1) ++ nost) 0 ops)
    (hQ : ∀ v w, S w → (∀ i, fin.contains i = true → I i v w) → Q .normal (fillA a0 (latesV lates v)) w) :
    ∀ (fuel : Nat) (listed : Array Bool) (a : Act) (w : World) (v : Nat → Value), listed.size = ops.toArray.size → (left ops.toArray listed).length ≤ fuel → Meets ops.toArray listed (fillA a0 (latesV lates v)) a → S w → Closed md ops.toArray listed →
      (∀ j, (lates.map (·.1) ++ nost).contains j = true → listed.getD j true = true → (∀ r ∈ kills, listed.getD r.1 true = true → r.2.contains j = false) → I j v w) → wpAny P md ops.toArray Q fuel listed a w := by
  unfold freeOK at hok
  simp only [Bool.and_eq_true, decide_eq_true_eq] at hok
  obtain ⟨⟨⟨⟨⟨⟨h1, h2⟩, h3⟩, h4⟩, h5⟩, h6⟩, n1, n2⟩ := hok
  have lt : ∀ {j p}, ops.toArray[j]? = some p → j < ops.toArray.size := fun h => (Array.getElem?_eq_some_iff.1 h).1
  have dst : ∀ j o, ops.toArray[j]? = some o → (lates.map (·.1) ++ nost).contains j = true → o.guard = none ∧ ((∃ d, o.dst = some d ∧ (j, d) ∈ lates) ∨ (o.dst = none ∧ j ∉ lates.map (·.1))) := by
    intro j o ho hj
    rcases List.mem_append.1 (List.contains_iff_mem.1 hj) with h | h
    · obtain ⟨q, hq, rfl⟩ := List.mem_map.1 h
      rw [List.all_eq_true] at h2
      have := h2 q hq
      rw [ho] at this
      simp only [Bool.and_eq_true, beq_iff_eq] at this
      exact ⟨Option.isNone_iff_eq_none.1 this.1, .inl ⟨q.2, this.2, hq⟩⟩
    · rw [List.all_eq_true] at h3
      have := h3 j h
      rw [ho] at this
      simp only [Bool.and_eq_true, beq_iff_eq, Bool.not_eq_true'] at this
      exact ⟨Option.isNone_iff_eq_none.1 this.1.1, .inr ⟨this.1.2, fun f => by rw [List.contains_iff_mem.2 f] at this; exact absurd this.2 (by simp)⟩⟩
  intro fuel
  induction fuel with
  | zero =>
    intro listed a w v hsz hl hm hS hcl hI
    have hn : left ops.toArray listed = [] := List.eq_nil_of_length_eq_zero (by omega)
    have hall : ∀ j o, ops.toArray[j]? = some o → listed.getD j true = true := by
      intro j o hj
      apply Classical.byContradiction
      intro c
      have : j ∈ left ops.toArray listed := List.mem_filter.2 ⟨List.mem_range.2 (lt hj), by simpa using c⟩
      rw [hn] at this
      cases this
    refine ⟨?_, ?_⟩
    · cases hr : Region.ready md ops.toArray listed with
      | nil => rfl
      | cons x xs =>
        have : x ∈ Region.ready md ops.toArray listed := by rw [hr]; exact List.mem_cons_self
        obtain ⟨h0, o, ho, _⟩ := mem_ready.1 this
        rw [hall x o ho] at h0
        cases h0
    · rw [done_meets hall hm]
      refine hQ v w hS (fun i hi => ?_)
      rw [List.all_eq_true] at h5
      have h5i := h5 i (List.contains_iff_mem.1 hi)
      simp only [Bool.and_eq_true] at h5i
      refine hI i h5i.1 ?_ (fun r hr _ => ?_)
      · rcases Option.eq_none_or_eq_some (ops.toArray[i]?) with h | ⟨o, h⟩
        · rw [Array.getD_eq_getD_getElem?, Array.getElem?_eq_none (by rw [hsz]; exact Array.getElem?_eq_none_iff.1 h)]; rfl
        · exact hall i o h
      · have := List.all_eq_true.1 h5i.2 r hr
        simpa using this
  | succ fuel ih =>
    intro listed a w v hsz hlen hm hS hcl hI
    refine ⟨fun hr => ?_, fun i hi => ?_⟩
    · have hall := ready_all h1 listed hsz hr
      rw [done_meets hall hm]
      refine hQ v w hS (fun i hi => ?_)
      rw [List.all_eq_true] at h5
      have h5i := h5 i (List.contains_iff_mem.1 hi)
      simp only [Bool.and_eq_true] at h5i
      refine hI i h5i.1 ?_ (fun r hr _ => ?_)
      · rcases Option.eq_none_or_eq_some (ops.toArray[i]?) with h | ⟨o, h⟩
        · rw [Array.getD_eq_getD_getElem?, Array.getElem?_eq_none (by rw [hsz]; exact Array.getElem?_eq_none_iff.1 h)]; rfl
        · exact hall i o h
      · have := List.all_eq_true.1 h5i.2 r hr
        simpa using this
    obtain ⟨hu, o, ho, hall⟩ := mem_ready.1 hi
    have look := looks_meet h1 hsz hm ho hall
    have hsz' : (listed.setIfInBounds i true).size = ops.toArray.size := by simpa using hsz
    have hlen' : (left ops.toArray (listed.setIfInBounds i true)).length ≤ fuel := by have := left_set (ops := ops.toArray) (lt ho) hu; omega
    have set_i : (listed.setIfInBounds i true).getD i true = true := by
      rw [Array.getD_eq_getD_getElem?, Array.getElem?_setIfInBounds_self_of_lt (by rw [hsz]; exact lt ho)]; rfl
    have hcl' : Closed md ops.toArray (listed.setIfInBounds i true) := closed_set hcl (by rw [hsz]; exact lt ho) ho hall
    by_cases hli : (lates.map (·.1) ++ nost).contains i = true
    · obtain ⟨hg, hdst⟩ := dst i o ho hli
      obtain ⟨ee, ew⟩ := eval_eq (ops := ops.toArray) (fixOK_at h1 ho).1 look
      unfold wpOp
      simp only [ho]
      have hw : Region.wanted o (yielded ops.toArray a.tmps) = true := by unfold Region.wanted; rw [hg]
      rw [if_pos hw]
      refine .inl ?_
      have hLi := hL.at_ (j := i) (by simpa using ho) (by rw [Nat.zero_add]; exact hli)
      rw [Nat.zero_add] at hLi
      have hfacts : ∀ k, (deps.lookup i |>.getD []).contains k = true → I k v w := by
        intro k hk
        cases hlk : deps.lookup i with
        | none => rw [hlk] at hk; simp at hk
        | some l =>
          rw [hlk] at hk
          have hmem : (i, l) ∈ deps := lookup_mem hlk
          have h4i := List.all_eq_true.1 h4 _ hmem
          simp only [ho] at h4i
          have h4k := List.all_eq_true.1 h4i k (List.contains_iff_mem.1 (by simpa using hk))
          simp only [Bool.and_eq_true, Array.any_eq_true, beq_iff_eq] at h4k
          obtain ⟨⟨⟨m, hm', hb, hon⟩, hlk2⟩, hkl⟩ := h4k
          have hex := hall _ (Array.getElem_mem hm') hb
          rw [hon] at hex
          refine hI k hlk2 ?_ (fun r hr hrl => ?_)
          · rw [Array.getD_eq_getD_getElem?] at hex ⊢
            cases hq : listed[k]? with
            | none => rfl
            | some b => rw [hq] at hex; exact hex
          · have := List.all_eq_true.1 hkl r hr
            simp only [Bool.or_eq_true, beq_iff_eq, Bool.not_eq_true'] at this
            rcases this with (h | h) | h
            · rw [h, hu] at hrl; cases hrl
            · exact h
            · exfalso
              cases hlk : later.lookup i with
              | none => rw [hlk] at h; simp at h
              | some l =>
                rw [hlk] at h
                have h6i := List.all_eq_true.1 h6 _ (lookup_mem hlk)
                have := not_yet h1 hsz hcl hu (fun k hk => List.all_eq_true.1 h6i k (List.contains_iff_mem.1 hk)) r.1 (by simpa using h)
                rw [hrl] at this
                cases this
      have h := hLi v w hS hfacts (fun a' w' => ∃ x, a' = (fillA a0 (latesV lates v)).put o.dst x ∧ (S w' ∧ I i (updV v i x) w' ∧ ∀ k, k ≠ i → (kills.lookup i |>.getD []).contains k = false → (later.lookup i |>.getD []).contains k = false → I k v w → I k (updV v i x) w')) (fun x w' s1 s2 s3 => ⟨x, rfl, s1, s2, s3⟩)
      unfold Oper.wp at h ⊢
      rw [ee]
      refine upon_free (T := fun x w' => S w' ∧ I i (updV v i x) w' ∧ ∀ k, k ≠ i → (kills.lookup i |>.getD []).contains k = false → (later.lookup i |>.getD []).contains k = false → I k v w → I k (updV v i x) w') (fun d hdd => ?_) (fun x w' ⟨s1, s2, s3⟩ => ?_) h
      · rw [fill_size]
        rcases hdst with ⟨d', e1, e2⟩ | ⟨e1, _⟩
        · rw [e1] at hdd
          injection hdd with hdd
          subst hdd
          exact hd _ e2
        · rw [e1] at hdd; cases hdd
      · have hF : fillA a0 (latesV lates (updV v i x)) = (fillA a0 (latesV lates v)).put o.dst x := by
          rcases hdst with ⟨d', e1, e2⟩ | ⟨e1, e2⟩
          · rw [e1]; exact fill_upd lates v i d' x a0 n1 n2 e2
          · rw [e1, fill_same lates v i x e2]; rfl
        refine ih _ _ _ (updV v i x) hsz' hlen' ?_ s1 hcl' (fun j hj hlj hk => ?_)
        · rw [hF]
          obtain ⟨m1, m2, m3⟩ := hm
          refine ⟨?_, ?_, fun t ht => ?_⟩
          · cases hdd : o.dst <;> simpa [Act.put] using m1
          · cases hdd : o.dst <;> simpa [Act.put] using m2
          · cases hdd : o.dst with
            | none =>
              refine m3 t fun j p hj hp => ?_
              by_cases c : i = j
              · subst c
                rw [ho] at hj
                injection hj with hj
                rw [← hj, hdd] at hp
                cases hp
              · rw [← getD_set_ne true c]
                exact ht j p hj hp
            | some d =>
              by_cases c : d = t
              · subst c
                simp only [Act.put]
                by_cases l : d < a.tmps.size
                · rw [Array.getElem?_setIfInBounds_self_of_lt l, Array.getElem?_setIfInBounds_self_of_lt (by rw [← m2]; exact l)]
                · have l1 : (a.tmps.setIfInBounds d x).size ≤ d := by rw [Array.size_setIfInBounds]; exact Nat.le_of_not_lt l
                  have l2 : ((fillA a0 (latesV lates v)).tmps.setIfInBounds d x).size ≤ d := by rw [Array.size_setIfInBounds, ← m2]; exact Nat.le_of_not_lt l
                  rw [Array.getElem?_eq_none l1, Array.getElem?_eq_none l2]
              · simp only [Act.put]
                rw [Array.getElem?_setIfInBounds_ne c, Array.getElem?_setIfInBounds_ne c]
                refine m3 t fun j p hj hp => ?_
                by_cases c2 : i = j
                · subst c2
                  rw [ho] at hj
                  injection hj with hj
                  rw [← hj, hdd] at hp
                  injection hp with hp
                  exact absurd hp c
                · rw [← getD_set_ne true c2]
                  exact ht j p hj hp
        · by_cases hji : j = i
          · rw [hji]; exact s2
          · have hlj' : listed.getD j true = true := by rw [← getD_set_ne true (fun e => hji e.symm)]; exact hlj
            refine s3 j hji ?_ ?_ (hI j hj (by rw [← getD_set_ne true (fun e => hji e.symm)]; exact hlj) (fun r hr hrl => hk r hr (listed_mono hrl)))
            cases hlk : kills.lookup i with
            | none => rfl
            | some l =>
              have := hk (i, l) (lookup_mem hlk) set_i
              simpa using this
            cases hlk : later.lookup i with
            | none => rfl
            | some l =>
              apply Classical.byContradiction
              intro c
              have c : l.contains j = true := by simpa using c
              have h6i := List.all_eq_true.1 h6 _ (lookup_mem hlk)
              have := not_yet h1 hsz hcl hu (fun k hk => List.all_eq_true.1 h6i k (List.contains_iff_mem.1 hk)) j c
              rw [hlj'] at this
              cases this
    · have hli'  : (lates.map (·.1) ++ nost).contains i = false := by simpa using hli
      have hEi := hE.at_ (j := i) (by simpa using ho) (by rw [Nat.zero_add]; exact hli')
      have hO : Owes P ops.toArray (fun w' => w' = w) (fillA a0 (latesV lates v)) o := owes_of (fun w1 hw1 K hK => by
        subst hw1
        exact hEi v _ hS K (hK _ rfl))
      refine wpOp_owes (S := fun w' => w' = w) h1 ho look rfl hO (fun x w' hp hw' => ?_)
      subst hw'
      refine ih _ _ _ v hsz' hlen' (meets_next ho hm hp) hS hcl' (fun j hj hlj hk => ?_)
      have hji : j ≠ i := fun e => by rw [e, hli'] at hj; cases hj
      rw [getD_set_ne true (fun e => hji e.symm)] at hlj
      refine hI j hj hlj (fun r hr hrl => hk r hr ?_)
      exact listed_mono hrl

/-- THE LAW. ups: what the early ones hold; lates: the late ones and their slots; nost: late ones without a slot. -/
theorem wp_region_free {ops : List Oper} {id : Nat} {a : Act} {w : World} (S : World → Prop) (ups : List (Tmp × Value)) (lates : List (Nat × Tmp)) (nost : List Nat) (I : Nat → (Nat → Value) → World → Prop) (deps kills later : List (Nat × List Nat)) (fin : List Nat)
    (hm : P.follows .mixedOrders = true) (hok : freeOK .any ops.toArray lates nost deps kills later fin = true) (hu : ((ups.map (·.1) ++ lates.map (·.2)).all fun t => ops.any fun o => o.dst == some t) = true) (hd : ∀ q ∈ lates, q.2 < a.tmps.size) (hS : S w) (hdr : ∀ w, S w → S w.drew)
    (hE : EarlyX P ops.toArray S (fun v => fillA (fillA a ups) (latesV lates v)) (lates.map (·.1) ++ nost) 0 ops) (hL : LateX P S (fun v => fillA (fillA a ups) (latesV lates v)) I deps kills later (lates.map (·.1) ++ nost) 0 ops)
    (hQ : ∀ v w, S w → (∀ i, fin.contains i = true → I i v w) → Q .normal (fillA (fillA a ups) (latesV lates v)) w) : (Code.region id ops.toArray true).wp P Q a w := by
  have no : ∀ (t : Tmp) (j : Nat) (o : Oper), ops.toArray[j]? = some o → (Array.replicate ops.toArray.size false).getD j true = true → False := by
    intro t j o hj hr
    have := (Array.getElem?_eq_some_iff.1 hj).1
    rw [Array.getD_eq_getD_getElem?, Array.getElem?_replicate, if_pos this] at hr
    cases hr
  refine wp_region_any hm (wpAny_free (a0 := fillA a ups) lates nost I deps kills later fin hok (fun q hq => by rw [fill_size]; exact hd q hq) hE hL hQ _ (Array.replicate ops.toArray.size false) a w.drew (fun _ => undef) (by simp) ?_ ⟨?_, ?_, fun t ht => ?_⟩ (hdr w hS) (fun i o ho hl => (no 0 i o ho hl).elim) (fun j hj hl _ => ?_))
  · unfold left
    exact Nat.le_trans (List.length_filter_le _ _) (by simp)
  · rw [fill_defers, fill_defers]
  · rw [fill_size, fill_size]
  · have key : ∀ s, s ∈ ups.map (·.1) ++ lates.map (·.2) → s ≠ t := by
      intro s hs e
      subst e
      have := List.all_eq_true.1 hu s hs
      rw [List.any_eq_true] at this
      obtain ⟨o, ho, hb⟩ := this
      obtain ⟨i, hi, hoi⟩ := List.getElem_of_mem ho
      have hoi' : ops.toArray[i]? = some o := by rw [List.getElem?_toArray]; exact List.getElem?_eq_some_iff.2 ⟨hi, hoi⟩
      exact no s i o hoi' (ht i o hoi' (by simpa using hb))
    rw [fill_off _ t (fun p hp => ?_), fill_off _ t (fun p hp => key p.1 (List.mem_append_left _ (List.mem_map.2 ⟨p, hp, rfl⟩)))]
    unfold latesV at hp
    obtain ⟨q, hq, rfl⟩ := List.mem_map.1 hp
    exact key q.2 (List.mem_append_right _ (List.mem_map.2 ⟨q, hq, rfl⟩))
  · exfalso
    have hjl : j < ops.toArray.size := by
      apply Classical.byContradiction
      intro c
      have h1 := hok
      unfold freeOK at h1
      simp only [Bool.and_eq_true] at h1
      obtain ⟨⟨⟨⟨⟨⟨_, h2⟩, h3⟩, _⟩, _⟩, _⟩, _⟩ := h1
      rcases List.mem_append.1 (List.contains_iff_mem.1 hj) with h | h
      · obtain ⟨q, hq, rfl⟩ := List.mem_map.1 h
        have := List.all_eq_true.1 h2 q hq
        rw [Array.getElem?_eq_none (by omega)] at this
        cases this
      · have := List.all_eq_true.1 h3 j h
        rw [Array.getElem?_eq_none (by omega)] at this
        simp at this
    rw [Array.getD_eq_getD_getElem?, Array.getElem?_replicate, if_pos hjl] at hl
    cases hl
end
end Go.Proofs.YtliijchcpooplaaGreat
namespace Go.Proofs.YtliijchcpooplaaGreat
open Go.ChangeShapes Go.WideShapes Go.ChangeAt Go.RowKit
set_option maxRecDepth 20000
set_option linter.unusedVariables false

theorem nodeCells_one {w : World} {n : NodeD} {vi vw vb : Value} (h : NodeIn w n vi vw vb) : ∀ u ∈ nodeCells n vi vw vb, u.oneCell' = true := by
  intro u hu
  obtain ⟨_, _, e1, _⟩ := h.1
  obtain ⟨_, _, e2, _⟩ := h.2.1
  obtain ⟨_, _, e3, _⟩ := h.2.2
  simp only [nodeCells, List.mem_cons, List.not_mem_nil, or_false] at hu
  rcases hu with rfl | rfl | rfl | rfl | rfl | rfl | rfl | rfl | rfl | rfl | rfl | rfl | rfl | rfl
  all_goals first | rfl | (rw [e1]; rfl) | (rw [e2]; rfl) | (rw [e3]; rfl)
theorem nodeCells_len (n : NodeD) (vi vw vb : Value) : (nodeCells n vi vw vb).length = 14 := rfl
theorem RowsO.nil (w : World) : RowsO w [] [] := fun j hj => by simp at hj
theorem RowsO.grow {w w' : World} {l : List NodeD} {xs : List Value} (h : RowsO w l xs) (g : Past w w') : RowsO w' l xs := by
  intro j hj
  obtain ⟨vi, vw, vb, h1, h2⟩ := h j hj
  exact ⟨vi, vw, vb, h1.grow g, h2⟩
/-- The cells of nodes that lie in a row. -/
theorem nodes_cells {w : World} {A : Option Addr} {len cap : Nat} {ns : List NodeD} (h : IsNodes w (.slice A len cap) ns) (h0 : 0 < ns.length) : ∃ b off, A = some ⟨b, off, none⟩ ∧ b < w.heap.size ∧ ∃ xs : List Value, xs.length = ns.length * 14 ∧ RowsO w ns xs ∧ (∀ j u, xs[j]? = some u → w.cell? ((⟨b, off, none⟩ : Addr).add j) = some u) ∧ ∀ u ∈ xs, u.oneCell' = true := by
  obtain ⟨A', cap', e, _, _, _, _, h6⟩ := h
  simp only [Value.slice.injEq] at e
  obtain ⟨rfl, rfl, rfl⟩ := e
  obtain ⟨b, off, rfl, hb, hc⟩ := h6 h0
  refine ⟨b, off, rfl, hb, ?_⟩
  have key : ∀ k, k ≤ ns.length → ∃ xs : List Value, xs.length = k * 14 ∧ RowsO w (ns.take k) xs ∧ (∀ j u, xs[j]? = some u → w.cell? ((⟨b, off, none⟩ : Addr).add j) = some u) ∧ ∀ u ∈ xs, u.oneCell' = true := by
    intro k
    induction k with
    | zero => intro _; exact ⟨[], rfl, RowsO.nil w, fun j u hu => by simp at hu, fun u hu => by simp at hu⟩
    | succ k ih =>
      intro hk
      obtain ⟨xs, l, r, c, o⟩ := ih (by omega)
      obtain ⟨vi, vw, vb, hin, hcell⟩ := hc k (by omega)
      have ek : ns.take (k + 1) = ns.take k ++ [ns.getD k default] := by
        rw [List.take_succ_eq_append_getElem (by omega)]
        simp [List.getD, show k < ns.length by omega]
      refine ⟨xs ++ nodeCells (ns.getD k default) vi vw vb, by rw [List.length_append, l, nodeCells_len]; omega, ?_, fun j u hu => ?_, fun u hu => ?_⟩
      · rw [ek]
        exact RowsO.more r (by rw [l, List.length_take]; congr 1; omega) hin
      · by_cases cj : j < k * 14
        · rw [List.getElem?_append_left (by omega)] at hu
          exact c j u hu
        · rw [List.getElem?_append_right (by omega), l] at hu
          have hj : j - k * 14 < 14 := (List.getElem?_eq_some_iff.1 hu).1
          have := hcell (j - k * 14) hj
          rw [add_plain, ← hu, ← this]
          congr 2
          omega
      · rcases List.mem_append.1 hu with hu | hu
        · exact o u hu
        · exact nodeCells_one hin u hu
  obtain ⟨xs, l, r, c, o⟩ := key ns.length (Nat.le_refl _)
  rw [List.take_length] at r
  exact ⟨xs, l, r, c, o⟩
theorem ownNodes_new {w : World} {base : Nat} (hb : base ≤ w.heap.size) : (w.alloc (.cells #[] 44)).ownsRow base 44 14 (.slice (some ⟨w.heap.size, 0, none⟩) 0 0) 0 [] := World.ownsRow_lit w #[] 0 hb (by decide) (by simp)
/-- An empty row's block holds nothing. -/
theorem own_empty {w : World} {base e n b : Nat} {v u : Value} (h : w.ownsRow base e 14 v 0 []) (hv : v = .slice (some ⟨b, 0, none⟩) 0 0) (hb : w.cell? ⟨n, 0, none⟩ = some u) : v.ownBlock ≠ some n := by
  intro f
  rcases h.2 with ⟨rfl, _⟩ | ⟨g, cap, cur, rfl, _, hg, _, _, hs, _⟩
  · cases hv
  · simp only [Value.slice.injEq, Option.some.injEq, Addr.mk.injEq] at hv
    simp only [Value.ownBlock, Option.some.injEq] at f
    subst f
    have : cur.size = 0 := by rw [hs, hv.2.2]
    unfold World.cell? at hb
    rw [hg] at hb
    simp [Array.getElem?_eq_none (show cur.size ≤ 0 by omega)] at hb

/-! ### Facts of a row of nodes that grows, and of boxes beside it. -/
def RowF (w : World) (B N : Nat) (v : Value) (xs : List Value) : Prop := w.ownsRow B 44 14 v N xs
def BoxF (w : World) (B : Nat) (v : Value) (N : Nat) (cs : Array Value) : Prop := ∃ b, v = .slice (some ⟨b, 0, none⟩) N N ∧ B ≤ b ∧ b < w.heap.size ∧ (∀ o : Nat, w.cell? ⟨b, o, none⟩ = (cs : Array Value)[o]?)
theorem RowF.alloc {w : World} {B N : Nat} {v : Value} {xs : List Value} (h : RowF w B N v xs) (o : Obj) : RowF (w.alloc o) B N v xs := World.ownsRow.alloc h o
theorem RowF.set {w : World} {B N Q o : Nat} {u v : Value} {xs : List Value} (h : RowF w B N v xs) (hQ : Q < B) : RowF (w.setCell ⟨Q, o, none⟩ u) B N v xs := own_set h hQ
theorem RowF.grow {w w' : World} {B N : Nat} {v : Value} {xs : List Value} {row : Option Nat} (h : RowF w B N v xs) (g : w.grownBy w' row) (hne : v.ownBlock ≠ row) : RowF w' B N v xs := World.ownsRow.kept h g (.inr hne)
theorem BoxF.alloc {w : World} {B N : Nat} {v : Value} {cs : Array Value} (h : BoxF w B v N cs) (o : Obj) : BoxF (w.alloc o) B v N cs := by
  obtain ⟨b, e, hb, hl, hc⟩ := h
  exact ⟨b, e, hb, by simp; omega, box_old hc hl⟩
theorem BoxF.set {w : World} {B N Q o : Nat} {u v : Value} {cs : Array Value} (h : BoxF w B v N cs) (hQ : Q < B) : BoxF (w.setCell ⟨Q, o, none⟩ u) B v N cs := by
  obtain ⟨b, e, hb, hl, hc⟩ := h
  exact ⟨b, e, hb, by simpa [World.setCell] using hl, box_set hc (by simp only; omega)⟩
theorem BoxF.grow {w w' : World} {B N : Nat} {v : Value} {cs : Array Value} {row : Option Nat} (h : BoxF w B v N cs) (g : w.grownBy w' row) (hne : ∀ b, v = .slice (some ⟨b, 0, none⟩) N N → some b ≠ row) : BoxF w' B v N cs := by
  obtain ⟨b, e, hb, hl, hc⟩ := h
  exact ⟨b, e, hb, Nat.lt_of_lt_of_le hl g.size, box_grownBy g hc hl (hne b e)⟩
theorem BoxF.cells {w : World} {B N : Nat} {v : Value} {cs : Array Value} {b : Nat} (h : BoxF w B v N cs) (e : v = .slice (some ⟨b, 0, none⟩) N N) : (∀ o : Nat, w.cell? ⟨b, o, none⟩ = (cs : Array Value)[o]?) := by
  obtain ⟨b', e', _, _, hc⟩ := h
  rw [e] at e'
  simp only [Value.slice.injEq, Option.some.injEq, Addr.mk.injEq, and_true] at e'
  obtain ⟨rfl, _⟩ := e'
  exact hc

/-- The last node two times; which of both, and again, come out. -/
def twiceD (g : GraphD) : GraphD := ⟨g.ins, g.nodes ++ [g.nodes.getD (g.nodes.length - 1) default], [((g.ins.length + g.nodes.length : Nat) : Int), ((g.ins.length + g.nodes.length - 1 : Nat) : Int), ((g.ins.length + g.nodes.length : Nat) : Int)]⟩
theorem twice_rows {g : GraphD} (h : valuesE (twiceD g) = 0) (hn : 0 < g.nodes.length) {ins : List (List Int)} (hl : ins.length = g.ins.length) : ∃ r, namedR (evalL (twiceD g) ins) (twiceD g).outs = [r, r, r] := by
  have ln : (twiceD g).nodes.length = g.nodes.length + 1 := by simp [twiceD]
  have a1 := eval_at h (k := g.nodes.length) (by omega) (ins := ins) hl
  have a2 := eval_at h (k := g.nodes.length - 1) (by omega) (ins := ins) hl
  have n1 : (twiceD g).nodes.getD g.nodes.length default = g.nodes.getD (g.nodes.length - 1) default := by simp [twiceD, List.getD]
  have n2 : (twiceD g).nodes.getD (g.nodes.length - 1) default = g.nodes.getD (g.nodes.length - 1) default := by
    unfold twiceD
    simp [List.getD, List.getElem?_append_left (show g.nodes.length - 1 < g.nodes.length by omega)]
  rw [n1] at a1
  rw [n2] at a2
  have e : (twiceD g).ins.length = g.ins.length := rfl
  rw [e] at a1 a2
  have s1 : ((g.ins.length + g.nodes.length : Nat) : Int).toNat = g.ins.length + g.nodes.length := by omega
  have s2 : ((g.ins.length + g.nodes.length - 1 : Nat) : Int).toNat = g.ins.length + (g.nodes.length - 1) := by omega
  refine ⟨(evalL (twiceD g) ins).getD (g.ins.length + g.nodes.length) [], ?_⟩
  show [(evalL (twiceD g) ins).getD ((g.ins.length + g.nodes.length : Nat) : Int).toNat [], (evalL (twiceD g) ins).getD ((g.ins.length + g.nodes.length - 1 : Nat) : Int).toNat [], (evalL (twiceD g) ins).getD ((g.ins.length + g.nodes.length : Nat) : Int).toNat []] = _
  rw [s1, s2, a1, a2]
end Go.Proofs.YtliijchcpooplaaGreat
namespace Go.Proofs.YtliijchcpooplaaGreat
open Go.ChangeShapes Go.WideShapes Go.ChangeAt Go.RowKit
set_option maxRecDepth 20000
set_option linter.unusedVariables false

def pairK (op mul shift z : Int) : NodeD := ⟨op, [], 0, 0, 0, 0, mul, shift, z, 0, 0, 0, [], []⟩
theorem one_get (v : ValD) : ∀ j, j < [v].length → [v].getD j default = v := by
  intro j hj
  simp only [List.length_cons, List.length_nil] at hj
  obtain rfl : j = 0 := by omega
  rfl
theorem alike_of {vs : List ValD} {v : ValD} (h0 : 0 < vs.length) (h : ∀ j, j < vs.length → vs.getD j default = v) : alikeS vs = (v.h, v.w, v.c) := by
  unfold alikeS
  rw [if_pos (fun j hj => by rw [h j hj, h 0 h0]), h 0 h0]
  rfl
theorem reluZ_made {z : Int} (v : ValD) : madeS (pairK 8 1 0 z) [v] = (v.h, v.w, v.c) := by
  have : madeS (pairK 8 1 0 z) [v] = alikeS [v] := by simp [madeS, pairK]
  rw [this]
  exact alike_of (by simp) (one_get v)
theorem reluZ_make {v : ValD} {xs : List Int} (hm : mayV v) (hz : -128 ≤ v.z ∧ v.z ≤ 127) (hx : FullV (viewOf v xs)) (b : ViewD) : MakeOk (pairK 8 1 0 v.z) [v] (viewOf v xs) b (v.h, v.w, v.c) := by
  have z0 := Int.le_refl 0
  refine ⟨valueE_0 ⟨(show hasOp 8 by unfold hasOp; decide), rfl, fun j hj => ?_, ⟨(show (1 : Int) ≤ 1 ∧ (1 : Int) ≤ 32767 by decide), (show (0 : Int) ≤ 0 ∧ (0 : Int) ≤ 31 by decide), hz⟩, ⟨⟨⟨z0, z0⟩, ⟨z0, z0⟩, ⟨z0, z0⟩, ⟨z0, z0⟩⟩, (by decide : ¬ ((0 : Int) < 0 ∧ (0 : Int) ≤ 0)), Or.inr ⟨rfl, rfl, rfl⟩⟩⟩ (fun j hj => ?_) ?_ ?_, (reluZ_made v).symm, hx, rfl, fun h => ?_⟩
  · rw [one_get v j hj]
    rintro ⟨_, h⟩
    exact h rfl
  · rw [one_get v j hj]; exact hm
  · rw [reluZ_made]; exact hm
  · unfold lensP
    rw [reluZ_made]
    exact ⟨rfl, rfl, fun j hj => by simp [pairK] at hj⟩
  · have h : (8 : Int) = 6 ∨ (8 : Int) = 7 ∨ (8 : Int) = 10 := h
    omega
theorem reluZ_at {v : ValD} (xs : List Int) (b : ViewD) (hm : mayV v) {H W C i : Nat} (eh : v.h = H) (ew : v.w = W) (ec : v.c = C) (hi : i < H * (W * C)) :
    (allL (pairK 8 1 0 v.z) (viewOf v xs) b (v.h, v.w, v.c) (W * C) (H * (W * C))).getD i 0 = max (xs.getD i 0) v.z := by
  obtain ⟨y, x, c, hy, hx, hc, rfl⟩ := place_of hi
  rw [allL_at _ _ _ _ (by show v.c.toNat = C; omega) hy hx hc, num8 rfl, atD_in hm eh ew ec hy hx hc]
  rfl
theorem reluZ_twice {v : ValD} (xs : List Int) (b : ViewD) (hm : mayV v) {H W C : Nat} (eh : v.h = H) (ew : v.w = W) (ec : v.c = C) {R : List Int} (hR : allL (pairK 8 1 0 v.z) (viewOf v xs) b (v.h, v.w, v.c) (W * C) (H * (W * C)) = R) :
    allL (pairK 8 1 0 v.z) (viewOf v R) b (v.h, v.w, v.c) (W * C) (H * (W * C)) = R := by
  have lR : R.length = H * (W * C) := by rw [← hR, allL_len]
  refine list_ext (by rw [allL_len, lR]) (fun i hi => ?_)
  rw [allL_len] at hi
  rw [reluZ_at R b hm eh ew ec hi]
  have := reluZ_at xs b hm eh ew ec hi
  rw [hR] at this
  rw [this]
  omega

def reshK (z h w c : Int) : NodeD := ⟨11, [], 0, 0, 0, 0, 1, 0, z, h, w, c, [], []⟩
theorem resh_made {z : Int} {v : ValD} (hm : mayV v) : madeS (reshK z v.w v.h v.c) [v] = (v.w, v.h, v.c) := by
  obtain ⟨a, b, c, d, e, f⟩ := id hm
  have h2 : mayS v.w v.h v.c := ⟨c, d, a, b, e, f⟩
  have es : sizeI v.w v.h v.c = sizeI v.h v.w v.c := by
    unfold sizeI
    rw [if_pos h2, if_pos (show mayS v.h v.w v.c from hm), Int.mul_comm v.w v.h]
  have : madeS (reshK z v.w v.h v.c) [v] = if sizeI v.w v.h v.c = sizeI v.h v.w v.c then (v.w, v.h, v.c) else (0, 0, 0) := by simp [madeS, reshK]
  rw [this, if_pos es]
theorem resh_make {v : ValD} {xs : List Int} (hm : mayV v) (hz : -128 ≤ v.z ∧ v.z ≤ 127) (hx : FullV (viewOf v xs)) (b : ViewD) : MakeOk (reshK v.z v.w v.h v.c) [v] (viewOf v xs) b (v.w, v.h, v.c) := by
  have z0 := Int.le_refl 0
  obtain ⟨a1, b1, c1, d1, e1, f1⟩ := id hm
  refine ⟨valueE_0 ⟨(show hasOp 11 by unfold hasOp; decide), rfl, fun j hj => ?_, ⟨(show (1 : Int) ≤ 1 ∧ (1 : Int) ≤ 32767 by decide), (show (0 : Int) ≤ 0 ∧ (0 : Int) ≤ 31 by decide), hz⟩, ⟨⟨⟨z0, z0⟩, ⟨z0, z0⟩, ⟨z0, z0⟩, ⟨z0, z0⟩⟩, (by decide : ¬ ((0 : Int) < 0 ∧ (0 : Int) ≤ 0)), Or.inl rfl⟩⟩ (fun j hj => ?_) ?_ ?_, (resh_made hm).symm, hx, rfl, fun h => ?_⟩
  · rw [one_get v j hj]
    rintro ⟨_, h⟩
    exact h rfl
  · rw [one_get v j hj]; exact hm
  · rw [resh_made hm]; exact ⟨c1, d1, a1, b1, e1, f1⟩
  · unfold lensP
    rw [resh_made hm]
    exact ⟨rfl, rfl, fun j hj => by simp [reshK] at hj⟩
  · have h : (11 : Int) = 6 ∨ (11 : Int) = 7 ∨ (11 : Int) = 10 := h
    omega
theorem resh_is {v : ValD} {xs : List Int} (b : ViewD) (hm : mayV v) {H W C : Nat} (eh : v.h = H) (ew : v.w = W) (ec : v.c = C) (hl : xs.length = H * (W * C)) :
    allL (reshK v.z v.w v.h v.c) (viewOf v xs) b (v.w, v.h, v.c) (H * C) (W * (H * C)) = xs := by
  obtain ⟨a1, b1, c1, d1, e1, f1⟩ := id hm
  have h2 : mayS v.w v.h v.c := ⟨c1, d1, a1, b1, e1, f1⟩
  refine allL_is _ _ _ (v.w, v.h, v.c) (by show v.c.toNat = C; omega) (by rw [hl, Nat.mul_left_comm]) (fun y x c hy hx hc => ?_)
  rw [num11 rfl]
  show xs.getD (indexI v.w v.h v.c y x c).toNat 0 = _
  rw [indexI_yes ⟨h2, by omega, by omega, by omega, by omega, by omega, by omega⟩, eh, ec]
  have e : ((y : Int) * (H : Int) + x) * (C : Int) + c = (((y * H + x) * C + c : Nat) : Int) := by simp
  rw [e, Int.toNat_natCast]

theorem goS_app (ns ms : List NodeD) : ∀ (l r : List ValD), goS ns l = (0, r) → goS (ns ++ ms) l = goS ms r := by
  induction ns with
  | nil =>
    intro l r h
    simp only [goS, Prod.mk.injEq, true_and] at h
    rw [h]; rfl
  | cons n ns ih =>
    intro l r h
    by_cases hp : namedP l n.ins
    · by_cases he : valueE n (namedL l n.ins) = 0
      · rw [goS_ok hp he] at h
        rw [List.cons_append, goS_ok hp he]
        exact ih _ _ h
      · rw [goS_err hp he] at h
        simp only [Prod.mk.injEq] at h
        exact absurd h.1 he
    · rw [goS_no hp] at h
      simp at h
/-- The three nodes. -/
def shJ (i : Int) (z h w c : Int) : NodeD := ⟨11, [i], 0, 0, 0, 0, 1, 0, z, h, w, c, [], []⟩
def reJ (i : Int) (z : Int) : NodeD := ⟨8, [i], 0, 0, 0, 0, 1, 0, z, 0, 0, 0, [], []⟩
theorem shJ_kern (i : Int) {v : ValD} {xs : List Int} (hm : mayV v) (hz : -128 ≤ v.z ∧ v.z ≤ 127) (hf : Fits v xs) : valueE (shJ i v.z v.w v.h v.c) [v] = 0 ∧ valueV (shJ i v.z v.w v.h v.c) [v] = ⟨v.w, v.h, v.c, v.z⟩ ∧ kernL (shJ i v.z v.w v.h v.c) [v] [xs] = xs := by
  have mk := resh_make (xs := xs) hm hz (viewOf_full hm hz hf.1 hf.2) ZV
  have e0 : valueE (shJ i v.z v.w v.h v.c) [v] = 0 := mk.1
  have em : madeS (shJ i v.z v.w v.h v.c) [v] = (v.w, v.h, v.c) := resh_made (z := v.z) hm
  obtain ⟨H, W, C, eh, ew, ec, es, _⟩ := size_nat hm
  refine ⟨e0, ?_, ?_⟩
  · rw [valueV_mk e0, em]; rfl
  · have := resh_is (v := v) (xs := xs) ZV hm eh ew ec (by have := hf.1; rw [es] at this; omega)
    have hb : vwB [v] [xs] = ZV := by unfold vwB; rw [if_neg (by simp)]
    unfold kernL
    rw [em, hb]
    show allL (shJ i v.z v.w v.h v.c) (viewOf v xs) ZV (v.w, v.h, v.c) (v.h.toNat * v.c.toNat) (v.w.toNat * (v.h.toNat * v.c.toNat)) = xs
    rw [show v.h.toNat = H by omega, show v.w.toNat = W by omega, show v.c.toNat = C by omega]
    exact this
theorem reJ_kern (i : Int) {v : ValD} {xs : List Int} (hm : mayV v) (hz : -128 ≤ v.z ∧ v.z ≤ 127) (hf : Fits v xs) : valueE (reJ i v.z) [v] = 0 ∧ valueV (reJ i v.z) [v] = v ∧ (kernL (reJ i v.z) [v] [xs]).length = xs.length ∧ ∀ j, j < xs.length → (kernL (reJ i v.z) [v] [xs]).getD j 0 = max (xs.getD j 0) v.z := by
  have mk := reluZ_make (xs := xs) hm hz (viewOf_full hm hz hf.1 hf.2) ZV
  have e0 : valueE (reJ i v.z) [v] = 0 := mk.1
  have em : madeS (reJ i v.z) [v] = (v.h, v.w, v.c) := reluZ_made (z := v.z) v
  obtain ⟨H, W, C, eh, ew, ec, es, _⟩ := size_nat hm
  have hl : xs.length = H * (W * C) := by have := hf.1; rw [es] at this; omega
  have hb : vwB [v] [xs] = ZV := by unfold vwB; rw [if_neg (by simp)]
  have hk : kernL (reJ i v.z) [v] [xs] = allL (pairK 8 1 0 v.z) (viewOf v xs) ZV (v.h, v.w, v.c) (W * C) (H * (W * C)) := by
    unfold kernL
    rw [em, hb]
    show allL (reJ i v.z) (viewOf v xs) ZV (v.h, v.w, v.c) (v.w.toNat * v.c.toNat) (v.h.toNat * (v.w.toNat * v.c.toNat)) = _
    rw [show v.h.toNat = H by omega, show v.w.toNat = W by omega, show v.c.toNat = C by omega]
    rfl
  refine ⟨e0, ?_, by rw [hk, allL_len, hl], fun j hj => ?_⟩
  · rw [valueV_mk e0, em]; rfl
  · rw [hk]
    exact reluZ_at xs ZV hm eh ew ec (by omega)

def turnV (v : ValD) : ValD := ⟨v.w, v.h, v.c, v.z⟩
theorem turn_may {v : ValD} (h : mayV v) : mayV (turnV v) := by
  obtain ⟨a1, b1, c1, d1, e1, f1⟩ := id h
  exact ⟨c1, d1, a1, b1, e1, f1⟩
theorem turn_fits {v : ValD} {xs : List Int} (hm : mayV v) (h : Fits v xs) : Fits (turnV v) xs := by
  refine ⟨?_, h.2⟩
  rw [h.1, sizeN hm]
  show _ = sizeI (turnV v).h (turnV v).w (turnV v).c
  rw [sizeN (turn_may hm)]
  show ((v.h.toNat * (v.w.toNat * v.c.toNat) : Nat) : Int) = ((v.w.toNat * (v.h.toNat * v.c.toNat) : Nat) : Int)
  rw [Nat.mul_left_comm]
theorem fits_some {v : ValD} (hm : mayV v) : ∃ xs, Fits v xs := by
  refine ⟨List.replicate (v.h.toNat * (v.w.toNat * v.c.toNat)) 0, by rw [List.length_replicate]; exact (sizeN hm).symm, fun x hx => ?_⟩
  rw [List.eq_of_mem_replicate hx]; decide
/-- Three nodes more: there, back, and what is at least nought's. -/
def reshD (g : GraphD) (v : ValD) (k T : Nat) : GraphD := ⟨g.ins, g.nodes ++ [shJ k v.z v.w v.h v.c, shJ T v.z v.h v.w v.c, reJ ((T + 1 : Nat) : Int) v.z], [(k : Int), ((T + 1 : Nat) : Int), ((T + 2 : Nat) : Int), (T : Int)]⟩
theorem named_one (V : List ValD) (i : Nat) : namedL V [(i : Int)] = [V.getD i default] := by simp [namedL]
theorem namedR_one (D : List (List Int)) (i : Nat) : namedR D [(i : Int)] = [D.getD i []] := by simp [namedR]
theorem resh_values {g : GraphD} (h : valuesE g = 0) {v : ValD} {k T : Nat} (hT : T = (valuesL g).length) (hk : k < T) (hv : (valuesL g).getD k default = v) (h9 : g.nodes.length + 3 ≤ 12) : valuesE (reshD g v k T) = 0 ∧ valuesL (reshD g v k T) = valuesL g ++ [turnV v, v, v] := by
  obtain ⟨h1, h2, h3, h4⟩ := values_ok h
  have hb := begins_ok h1
  obtain ⟨ml, mm, _⟩ := makes_facts h
  have hm : mayV v := by rw [← hv]; exact mm k (by omega)
  have hz : -128 ≤ v.z ∧ v.z ≤ 127 := by rw [← hv]; exact zeros_ok h (by omega)
  obtain ⟨xs, hf⟩ := fits_some hm
  obtain ⟨a1, a2, _⟩ := shJ_kern (k : Int) hm hz hf
  obtain ⟨b1, b2, _⟩ := shJ_kern (v := turnV v) (T : Int) (turn_may hm) hz (turn_fits hm hf)
  obtain ⟨c1, c2, _⟩ := reJ_kern ((T + 1 : Nat) : Int) hm hz hf
  have g1 : (valuesL g ++ [turnV v]).getD T default = turnV v := by rw [hT]; simp [List.getD]
  have g2 : (valuesL g ++ [turnV v] ++ [v]).getD (T + 1) default = v := by rw [hT]; simp [List.getD]
  have n1 : namedL (valuesL g) (shJ k v.z v.w v.h v.c).ins = [v] := by show namedL _ [(k : Int)] = _; rw [named_one, hv]
  have n2 : namedL (valuesL g ++ [turnV v]) (shJ T v.z v.h v.w v.c).ins = [turnV v] := by show namedL _ [(T : Int)] = _; rw [named_one, g1]
  have n3 : namedL (valuesL g ++ [turnV v] ++ [v]) (reJ ((T + 1 : Nat) : Int) v.z).ins = [v] := by show namedL _ [((T + 1 : Nat) : Int)] = _; rw [named_one, g2]
  have one : ∀ (V : List ValD) (i : Nat), i < V.length → namedP V [(i : Int)] := fun V i hi j hj => by
    obtain rfl : j = 0 := by have : j < 1 := hj; omega
    exact ⟨by show (0 : Int) ≤ (i : Int); omega, by show (i : Int) < _; omega⟩
  have go : goS (reshD g v k T).nodes (reshD g v k T).ins = (0, valuesL g ++ [turnV v, v, v]) := by
    show goS (g.nodes ++ _) g.ins = _
    rw [goS_app _ _ _ _ h2, goS_ok (one _ k (by omega)) (by rw [n1]; exact a1), n1, a2, goS_ok (one _ T (by simp [hT])) (by rw [show (⟨v.w, v.h, v.c, v.z⟩ : ValD) = turnV v from rfl, n2]; exact b1)]
    rw [show (⟨v.w, v.h, v.c, v.z⟩ : ValD) = turnV v from rfl, n2, show valueV (shJ T v.z v.h v.w v.c) [turnV v] = v from b2]
    rw [goS_ok (one _ (T + 1) (by simp [hT])) (by rw [n3]; exact c1), n3, c2]
    simp [goS]
  refine values_mk (begins_mk ⟨hb.1.1, hb.1.2.1, by simp [reshD]; omega, by simp [reshD], by simp [reshD]⟩ hb.2.1 hb.2.2) go ?_ (fun j hj => ?_)
  · show sumW (g.nodes ++ _) ≤ 4096
    rw [sumW_app]
    show sumW g.nodes + 0 ≤ 4096
    omega
  · have : j < 4 := hj
    have hl : (valuesL g ++ [turnV v, v, v]).length = T + 3 := by simp [hT]
    rw [hl]
    rcases (show j = 0 ∨ j = 1 ∨ j = 2 ∨ j = 3 by omega) with rfl | rfl | rfl | rfl
    · exact ⟨by show (0 : Int) ≤ (k : Int); omega, by show (k : Int) < _; omega⟩
    · exact ⟨by show (0 : Int) ≤ ((T + 1 : Nat) : Int); omega, by show ((T + 1 : Nat) : Int) < _; omega⟩
    · exact ⟨by show (0 : Int) ≤ ((T + 2 : Nat) : Int); omega, by show ((T + 2 : Nat) : Int) < _; omega⟩
    · exact ⟨by show (0 : Int) ≤ (T : Int); omega, by show (T : Int) < _; omega⟩
theorem resh_rows {g : GraphD} (h : valuesE g = 0) {v : ValD} {k T : Nat} (hT : T = (valuesL g).length) (hk : k < T) (hv : (valuesL g).getD k default = v) (h9 : g.nodes.length + 3 ≤ 12) {ins : List (List Int)} (hw : ∀ n ∈ g.nodes, Bytes n.ws) (hf : fitsP g.ins ins) (hb : AllBytes ins) :
    ∃ r r2, namedR (evalL (reshD g v k T) ins) (reshD g v k T).outs = [r, r, r2, r] ∧ Bytes r ∧ Bytes r2 ∧ r2.length = r.length ∧ ∀ j, j < r.length → r2.getD j 0 = max (r.getD j 0) v.z := by
  obtain ⟨e0, eL⟩ := resh_values h hT hk hv h9
  obtain ⟨ml, mm, _⟩ := makes_facts h
  have hm : mayV v := by rw [← hv]; exact mm k (by omega)
  have hz : -128 ≤ v.z ∧ v.z ≤ 127 := by rw [← hv]; exact zeros_ok h (by omega)
  have ln : (reshD g v k T).nodes.length = g.nodes.length + 3 := by simp [reshD]
  have li : (reshD g v k T).ins.length = g.ins.length := rfl
  have hw' : ∀ n ∈ (reshD g v k T).nodes, Bytes n.ws := fun n hn => by
    rcases List.mem_append.1 hn with hn | hn
    · exact hw n hn
    · simp only [List.mem_cons, List.not_mem_nil, or_false] at hn
      rcases hn with rfl | rfl | rfl <;> · intro x hx; cases hx
  have FT := eval_fits e0 hw' (ins := ins) hf hb
  have a0 := eval_at e0 (k := g.nodes.length) (by omega) (ins := ins) hf.1
  have a1 := eval_at e0 (k := g.nodes.length + 1) (by omega) (ins := ins) hf.1
  have a2 := eval_at e0 (k := g.nodes.length + 2) (by omega) (ins := ins) hf.1
  have m0 : (reshD g v k T).nodes.getD g.nodes.length default = shJ k v.z v.w v.h v.c := by simp [reshD, List.getD]
  have m1 : (reshD g v k T).nodes.getD (g.nodes.length + 1) default = shJ T v.z v.h v.w v.c := by simp [reshD, List.getD]
  have m2 : (reshD g v k T).nodes.getD (g.nodes.length + 2) default = reJ ((T + 1 : Nat) : Int) v.z := by simp [reshD, List.getD]
  rw [m0, li, eL] at a0
  rw [m1, li, eL] at a1
  rw [m2, li, eL] at a2
  obtain ⟨D, hD⟩ : ∃ D, evalL (reshD g v k T) ins = D := ⟨_, rfl⟩
  rw [hD] at a0 a1 a2 FT
  rw [eL] at FT
  have v0 : (valuesL g ++ [turnV v, v, v]).getD k default = v := by rw [← hv]; exact getD_app_left (by omega)
  have v1 : (valuesL g ++ [turnV v, v, v]).getD T default = turnV v := by rw [hT]; simp [List.getD]
  have v2 : (valuesL g ++ [turnV v, v, v]).getD (T + 1) default = v := by rw [hT]; simp [List.getD]
  obtain ⟨r, hr⟩ : ∃ r, D.getD k [] = r := ⟨_, rfl⟩
  have fr : Fits v r := by
    have := FT.2 k (by omega)
    rw [v0, hr] at this
    exact this
  have x0 : D.getD T [] = r := by
    rw [show T = g.ins.length + g.nodes.length by omega, a0]
    show kernL _ (namedL _ [(k : Int)]) (namedR _ [(k : Int)]) = _
    rw [named_one, namedR_one, v0, hr]
    exact (shJ_kern (k : Int) hm hz fr).2.2
  have x1 : D.getD (T + 1) [] = r := by
    rw [show T + 1 = g.ins.length + (g.nodes.length + 1) by omega, a1]
    show kernL _ (namedL _ [(T : Int)]) (namedR _ [(T : Int)]) = _
    rw [named_one, namedR_one, v1, x0]
    exact (shJ_kern (v := turnV v) (T : Int) (turn_may hm) hz (turn_fits hm fr)).2.2
  have x2 : D.getD (T + 2) [] = kernL (reJ ((T + 1 : Nat) : Int) v.z) [v] [r] := by
    rw [show T + 2 = g.ins.length + (g.nodes.length + 2) by omega, a2]
    show kernL _ (namedL _ [((T + 1 : Nat) : Int)]) (namedR _ [((T + 1 : Nat) : Int)]) = _
    rw [named_one, namedR_one, v2, x1]
  obtain ⟨_, _, l2, c2⟩ := reJ_kern ((T + 1 : Nat) : Int) hm hz fr
  rw [← x2] at l2 c2
  refine ⟨r, D.getD (T + 2) [], ?_, fr.2, (FT.2 (T + 2) (by omega)).2, l2, c2⟩
  rw [hD]
  show [D.getD (k : Int).toNat [], D.getD ((T + 1 : Nat) : Int).toNat [], D.getD ((T + 2 : Nat) : Int).toNat [], D.getD (T : Int).toNat []] = _
  simp only [Int.toNat_natCast]
  rw [hr, x0, x1]
end Go.Proofs.YtliijchcpooplaaGreat
namespace Go.Proofs.YtliijchcpooplaaGreat
open Go.ChangeShapes Go.WideShapes Go.ChangeAt Go.RowKit
set_option maxRecDepth 20000
set_option linter.unusedVariables false

theorem free_grownBy {w w' : World} {row : Option Nat} {b : Nat} (g : w.grownBy w' row) (h : (∀ o : Nat, w.frozen? ⟨b, o, none⟩ = false)) (hb : b < w.heap.size) (hr : some b ≠ row) : (∀ o : Nat, w'.frozen? ⟨b, o, none⟩ = false) := fun o => (World.frozen?_of_block (a := ⟨b, o, none⟩) (g.block b hb hr)).trans (h o)
theorem box_setOther' {w : World} {b Q q : Nat} {u : Value} {cs : Array Value} (h : (∀ o : Nat, w.cell? ⟨b, o, none⟩ = (cs : Array Value)[o]?)) (hne : Q ≠ b) : (∀ o : Nat, (w.setCell ⟨Q, q, none⟩ u).cell? ⟨b, o, none⟩ = (cs : Array Value)[o]?) := box_set h hne
/-- A row of one int. -/
def RowI (w : World) (B : Nat) (v : Value) (x : Int) : Prop := w.ownsRow B 3 1 v 1 [.int .i64 x]
theorem RowI.alloc {w : World} {B : Nat} {v : Value} {x : Int} (h : RowI w B v x) (o : Obj) : RowI (w.alloc o) B v x := World.ownsRow.alloc h o
theorem RowI.set {w : World} {B Q o : Nat} {u v : Value} {x : Int} (h : RowI w B v x) (hQ : Q < B) : RowI (w.setCell ⟨Q, o, none⟩ u) B v x := own_set h hQ
theorem RowI.grow {w w' : World} {B B' N : Nat} {v v0 : Value} {x : Int} {xs : List Value} (h : RowI w B v x) (k : RowF w B' N v0 xs) (g : w.grownBy w' v0.ownBlock) : RowI w' B v x := World.ownsRow.kept h g (own_ne h k (by decide))
theorem RowI.new {w : World} {B : Nat} (hb : B ≤ w.heap.size) (x : Int) : RowI (w.alloc (.cells #[.int .i64 x] 3)) B (.slice (some ⟨w.heap.size, 0, none⟩) 1 1) x := World.ownsRow_lit w #[.int .i64 x] 1 hb (by decide) rfl
theorem RowI.nums {w : World} {B : Nat} {v : Value} {x : Int} (h : RowI w B v x) (wf : (Lit.int .i64 x).wf = true) : IsNums .i64 w v [x] := by
  obtain ⟨hl, h⟩ := h
  rcases h with ⟨rfl, h0⟩ | ⟨b, cap, cur, rfl, hb, hg, hn, hm, hs, ht⟩
  · cases h0
  · refine ⟨some ⟨b, 0, none⟩, cap, rfl, hn, hm, (fun h => by cases h), fun y hy => by simp at hy; subst hy; exact wf, fun hp => ⟨b, 0, rfl, (Array.getElem?_eq_some_iff.1 hg).1, fun i hi => ?_⟩⟩
    obtain rfl : i = 0 := by have : i < 1 := hi; omega
    have key : w.cell? ⟨b, 0 + 0, none⟩ = ([Value.int .i64 x] : List Value)[0]? := by
      rw [← ht, List.getElem?_take_of_lt (by omega)]
      simp [World.cell?, hg]
    rw [key]
    rfl
theorem RowI.one {w : World} {B : Nat} {v : Value} {x : Int} (h : RowI w B v x) : v.oneCell' = true := by
  obtain ⟨A, c, rfl, _⟩ := own_slice' h
  rfl
theorem cel_one {n : NodeD} {vi vw vb : Value} (h1 : vi.oneCell' = true) (h2 : vw.oneCell' = true) (h3 : vb.oneCell' = true) : ∀ u ∈ nodeCells n vi vw vb, u.oneCell' = true := by
  intro u hu
  simp only [nodeCells, List.mem_cons, List.not_mem_nil, or_false] at hu
  rcases hu with rfl | rfl | rfl | rfl | rfl | rfl | rfl | rfl | rfl | rfl | rfl | rfl | rfl | rfl
  all_goals first | rfl | assumption
/-- What lies where a slice of nodes begins: nothing, or its cells. -/
def SrcN (w : World) (A : Option Addr) (cap : Nat) (xs : List Value) : Prop := (A = none ∧ cap = 0 ∧ xs = []) ∨ ∃ ad, A = some ad ∧ ∀ j u, xs[j]? = some u → ad.block < w.heap.size ∧ w.cell? (ad.add j) = some u
theorem SrcN.grow {w w' : World} {A : Option Addr} {cap : Nat} {xs : List Value} (h : SrcN w A cap xs) (g : Past w w') (hp : ∀ ad, A = some ad → ad.spot = none) : SrcN w' A cap xs := by
  rcases h with h | ⟨ad, e, h⟩
  · exact .inl h
  · refine .inr ⟨ad, e, fun j u hu => ?_⟩
    obtain ⟨hb, hc⟩ := h j u hu
    refine ⟨Nat.lt_of_lt_of_le hb g.2.2.1, ?_⟩
    obtain ⟨b, o, p⟩ := ad
    obtain rfl : p = none := hp _ e
    rw [add_plain] at hc ⊢
    exact (g.cell (p := ⟨b, o + j, none⟩) hb).trans hc
theorem nodes_src {w : World} {A : Option Addr} {len cap : Nat} {ns : List NodeD} (h : IsNodes w (.slice A len cap) ns) : ∃ xs : List Value, xs.length = ns.length * 14 ∧ RowsO w ns xs ∧ (∀ u ∈ xs, u.oneCell' = true) ∧ ∀ w', Past w w' → SrcN w' A cap xs := by
  by_cases h0 : 0 < ns.length
  · obtain ⟨b, off, e, hb, xs, l, r, c, o⟩ := nodes_cells h h0
    refine ⟨xs, l, r, o, fun w' g => ?_⟩
    have k : SrcN w A cap xs := .inr ⟨⟨b, off, none⟩, e, fun j u hu => ⟨hb, c j u hu⟩⟩
    exact k.grow g (fun ad ha => by rw [e] at ha; simp only [Option.some.injEq] at ha; rw [← ha])
  · have hn : ns = [] := List.eq_nil_of_length_eq_zero (by omega)
    subst hn
    obtain ⟨A', cap', e, _, _, hz, _⟩ := h
    simp only [Value.slice.injEq] at e
    obtain ⟨rfl, _, rfl⟩ := e
    refine ⟨[], rfl, RowsO.nil w, by simp, fun w' _ => ?_⟩
    cases hA : A with
    | none => exact .inl ⟨rfl, hz hA, rfl⟩
    | some ad => exact .inr ⟨ad, rfl, fun j u hu => by simp at hu⟩
theorem wp_append_src {P : Program} (w : World) {o : Oper} {a : Act} {K : Act → World → Prop} {Q : Exit → Act → World → Prop} (s x : Operand) (t : TypeId)
    (ho : o.op = .call { callee := .builtin .append, args := #[s, x], argTypes := #[t, t] })
    (base : Nat) (e : TypeId) (i : TypeInfo) (z : Value) (size bytes : Nat) (ht : P.underlying t = some (.slice e)) (hi : P.info? e = some i) (hz : i.zero = some z)
    (hsize : i.size = size) (hby : i.bytes = bytes) (hzs : z.cells.size = size) (hsz : 0 < size)
    (v : Value) (n : Nat) (xs : List Value) (hs : a.eval s = v) (hown : w.ownsRow base e size v n xs)
    (A : Option Addr) (m c : Nat) (news : List Value) (hx : a.eval x = .slice A m c) (hl : news.length = m * size) (hnews : SrcN w A c news) (h1 : ∀ u ∈ news, u.oneCell' = true)
    (h63 : n + m ≤ maxLen) (hbytes : (n + m) * bytes ≤ 140737488355328) (hbase : base ≤ w.heap.size)
    (h : ∀ v' w', w'.ownsRow base e size v' (n + m) (xs ++ news) → w.grownBy w' v.ownBlock → K (a.put o.dst v') w') : o.wp P a w K Q := by
  rcases hnews with ⟨rfl, rfl, rfl⟩ | ⟨ad, rfl, hc⟩
  · obtain rfl : m = 0 := by
      have : 0 = m * size := hl
      rcases Nat.mul_eq_zero.1 this.symm with h | h <;> omega
    have hr := run_append_owned_none (P := P) w base t o.type e i size ht hi v n xs hown
    unfold Oper.wp execOp
    simp only [ho, resolve, invoke, builtin, Sem.run_bind, Sem.run_pure, Result.andThen_ok, List.map_toArray, List.map_cons, List.map_nil, hs, hx, hr]
    exact h v w (by simpa using hown) (World.grownBy.refl _ _)
  · exact wp_append_own w s x t ho base e i z size bytes ht hi hz hsize hby hzs hsz v n xs hs hown ad m c news hx hl (fun j u hu => (hc j u hu).2) h1 h63 hbytes hbase (fun v' w' a1 a2 _ => h v' w' a1 a2)
theorem wf64 {x : Int} (h : -9223372036854775808 ≤ x ∧ x ≤ 9223372036854775807) : (Lit.int .i64 x).wf = true := WalkArith.wf_i64 h
/-- Three nodes behind others. -/
theorem nodes_three {w0 w : World} {base N : Nat} {v a b c : Value} {ns : List NodeD} {xs : List Value} {n1 n2 n3 : NodeD} (hN : ns.length = N) (ho : RowF w base (N + 3) v (xs ++ (nodeCells n1 a (.slice none 0 0) (.slice none 0 0) ++ (nodeCells n2 b (.slice none 0 0) (.slice none 0 0) ++ nodeCells n3 c (.slice none 0 0) (.slice none 0 0)))))
    (hr : RowsO w0 ns xs) (hx : xs.length = ns.length * 14) (p : Past w0 w) (i1 : NodeIn w n1 a (.slice none 0 0) (.slice none 0 0)) (i2 : NodeIn w n2 b (.slice none 0 0) (.slice none 0 0)) (i3 : NodeIn w n3 c (.slice none 0 0) (.slice none 0 0)) (wf : ∀ n ∈ ns, NodeWf n) (f1 : NodeWf n1) (f2 : NodeWf n2) (f3 : NodeWf n3) :
    IsNodes w v (ns ++ [n1, n2, n3]) := by
  have r1 := RowsO.more (hr.grow p) hx i1
  have x1 : (xs ++ nodeCells n1 a (.slice none 0 0) (.slice none 0 0)).length = (ns ++ [n1]).length * 14 := by simp [nodeCells, hx, Nat.add_mul]
  have r2 := RowsO.more r1 x1 i2
  have x2 : (xs ++ nodeCells n1 a (.slice none 0 0) (.slice none 0 0) ++ nodeCells n2 b (.slice none 0 0) (.slice none 0 0)).length = (ns ++ [n1] ++ [n2]).length * 14 := by simp [nodeCells, hx, Nat.add_mul]
  have r3 := RowsO.more r2 x2 i3
  have e1 : ns ++ [n1] ++ [n2] ++ [n3] = ns ++ [n1, n2, n3] := by simp
  rw [e1, List.append_assoc, List.append_assoc] at r3
  have l1 : (ns ++ [n1, n2, n3]).length = N + 3 := by simp [hN]
  exact nodes_of_rowsO (W := w) (base := base) (by rw [l1]; exact ho) r3 (Past.refl _) (fun m hm => by
    rcases List.mem_append.1 hm with hm | hm
    · exact wf m hm
    · simp only [List.mem_cons, List.not_mem_nil, or_false] at hm
      rcases hm with rfl | rfl | rfl <;> assumption)
end Go.Proofs.YtliijchcpooplaaGreat
