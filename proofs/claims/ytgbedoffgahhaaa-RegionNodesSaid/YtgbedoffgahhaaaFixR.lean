/- As the law of free regions; but late ones may have guards, and early ones may lean on what is known of late ones. -/
import Derived.Test.YtgbedoffgahhaaaFixP
namespace Go.Proofs.Ytgbedoffgahhaaa
open Go

def updV (v : Nat → Value) (i : Nat) (x : Value) : Nat → Value := fun k => if k = i then x else v k
theorem updV_same (v : Nat → Value) (i : Nat) (x : Value) : updV v i x i = x := by simp [updV]
theorem updV_ne (v : Nat → Value) {i k : Nat} (x : Value) (h : k ≠ i) : updV v i x k = v k := by simp [updV, h]
/-- What the late slots hold. -/
def latesV (lates : List (Nat × Tmp)) (v : Nat → Value) : List (Tmp × Value) := lates.map fun q => (q.2, v q.1)

theorem fill_put (l : List (Tmp × Value)) (d : Tmp) (x : Value) (h : ∀ q ∈ l, q.1 ≠ d) : ∀ a : Act, fillA (a.put (some d) x) l = (fillA a l).put (some d) x := by
  induction l with
  | nil => intro a; rfl
  | cons p l ih =>
    intro a
    have hp : p.1 ≠ d := h p List.mem_cons_self
    show fillA ((a.put (some d) x).put (some p.1) p.2) l = _
    have e : (a.put (some d) x).put (some p.1) p.2 = (a.put (some p.1) p.2).put (some d) x := by
      simp only [Act.put, Act.mk.injEq, and_true]
      exact Array.setIfInBounds_comm _ _ (fun e => hp e.symm)
    rw [e]
    exact ih (fun q hq => h q (List.mem_cons_of_mem _ hq)) _
theorem put_put (a : Act) (d : Tmp) (x y : Value) : (a.put (some d) x).put (some d) y = a.put (some d) y := by simp [Act.put]
theorem fill_upd (lates : List (Nat × Tmp)) (v : Nat → Value) (i : Nat) (d : Tmp) (x : Value) : ∀ a : Act, (lates.map (·.1)).Nodup → (lates.map (·.2)).Nodup → (i, d) ∈ lates → fillA a (latesV lates (updV v i x)) = (fillA a (latesV lates v)).put (some d) x := by
  induction lates with
  | nil => intro a _ _ h; cases h
  | cons q l ih =>
    intro a n1 n2 h
    simp only [List.map_cons, List.nodup_cons] at n1 n2
    show fillA (a.put (some q.2) (updV v i x q.1)) (latesV l (updV v i x)) = (fillA (a.put (some q.2) (v q.1)) (latesV l v)).put (some d) x
    rcases List.mem_cons.1 h with h | h
    · subst h
      have e1 : latesV l (updV v i x) = latesV l v := by
        unfold latesV
        refine List.map_congr_left fun p hp => ?_
        rw [updV_ne v x (fun e => n1.1 (by rw [← e]; exact List.mem_map.2 ⟨p, hp, rfl⟩))]
      have e2 : ∀ p ∈ latesV l v, p.1 ≠ d := fun p hp e => by
        unfold latesV at hp
        obtain ⟨r, hr, rfl⟩ := List.mem_map.1 hp
        exact n2.1 (by rw [← e]; exact List.mem_map.2 ⟨r, hr, rfl⟩)
      rw [e1, updV_same, fill_put _ d x e2, fill_put _ d (v i) e2, put_put]
    · have hq : q.1 ≠ i := fun e => n1.1 (by rw [e]; exact List.mem_map.2 ⟨(i, d), h, rfl⟩)
      rw [updV_ne v x hq]
      exact ih _ n1.2 n2.2 h
theorem fill_same (lates : List (Nat × Tmp)) (v : Nat → Value) (i : Nat) (x : Value) (h : i ∉ lates.map (·.1)) : latesV lates (updV v i x) = latesV lates v := by
  unfold latesV
  refine List.map_congr_left fun p hp => ?_
  rw [updV_ne v x (fun e => h (by rw [← e]; exact List.mem_map.2 ⟨p, hp, rfl⟩))]

/-- What is asked of the region's shape: late ones have no guard and the slots that are named; what one leans on is bound ahead of it; what one kills nobody else leans on, and it is not asked for at the end. -/
def leanOK (md : Region.Mode) (ops : Array Oper) (lates : List (Nat × Tmp)) (nost : List Nat) (deps kills later : List (Nat × List Nat)) (fin : List Nat) : Bool :=
  fixOK md ops &&
  (lates.all fun q => match ops[q.1]? with | none => false | some o => o.dst == some q.2) &&
  (nost.all fun j => (match ops[j]? with | none => false | some o => o.dst == none) && !(lates.map (·.1)).contains j) &&
  (deps.all fun q => match ops[q.1]? with | none => false | some o => q.2.all fun i => (o.after.any fun e => Region.binds md e && e.on == i) && (lates.map (·.1) ++ nost).contains i && (kills.all fun r => r.1 == q.1 || !r.2.contains i || (later.lookup q.1 |>.getD []).contains r.1)) &&
  (fin.all fun i => (lates.map (·.1) ++ nost).contains i && (kills.all fun r => !r.2.contains i)) &&
  (later.all fun q => q.2.all fun i => match ops[i]? with | none => false | some o => o.after.any fun e => Region.binds md e && (e.on == q.1 || q.2.contains e.on)) &&
  (decide (lates.map (·.1)).Nodup && decide (lates.map (·.2)).Nodup)

def EarlyX (P : Program) (ops : Array Oper) (S : World → Prop) (F : (Nat → Value) → Act) (I : Nat → (Nat → Value) → World → Prop) (deps : List (Nat × List Nat)) (late : List Nat) : Nat → List Oper → Prop
  | _, [] => True
  | k, o :: l => (late.contains k = true ∨ ∀ v w, S w → (∀ i, (deps.lookup k |>.getD []).contains i = true → I i v w) → ∀ K : Act → World → Prop, K (F v) w → if Region.wanted o (yielded ops (F v).tmps) = true then o.wp P (F v) w K noPost else K ((F v).put o.dst undef) w) ∧ EarlyX P ops S F I deps late (k + 1) l
theorem EarlyX.at_ {P : Program} {ops : Array Oper} {S : World → Prop} {F : (Nat → Value) → Act} {I : Nat → (Nat → Value) → World → Prop} {deps : List (Nat × List Nat)} {late : List Nat} {l : List Oper} : ∀ {k : Nat}, EarlyX P ops S F I deps late k l → ∀ {j : Nat} {o : Oper}, l[j]? = some o → late.contains (k + j) = false →
    ∀ v w, S w → (∀ i, (deps.lookup (k + j) |>.getD []).contains i = true → I i v w) → ∀ K : Act → World → Prop, K (F v) w → if Region.wanted o (yielded ops (F v).tmps) = true then o.wp P (F v) w K noPost else K ((F v).put o.dst undef) w := by
  induction l with
  | nil => intro k _ j o hj; simp at hj
  | cons x l ih =>
    intro k h j o hj hn
    cases j with
    | zero =>
      simp at hj
      subst hj
      rcases h.1 with h | h
      · rw [Nat.add_zero, h] at hn; cases hn
      · exact h
    | succ j =>
      have e : k + 1 + j = k + (j + 1) := by omega
      have := ih h.2 (j := j) (o := o) (by simpa using hj) (by rw [e]; exact hn)
      rw [e] at this
      exact this
theorem early_skip {P : Program} {ops : Array Oper} {S : World → Prop} {F : (Nat → Value) → Act} {I : Nat → (Nat → Value) → World → Prop} {deps : List (Nat × List Nat)} {late : List Nat} {k : Nat} {o : Oper} {l : List Oper} (h : late.contains k = true) (g : EarlyX P ops S F I deps late (k + 1) l) : EarlyX P ops S F I deps late k (o :: l) := ⟨.inl h, g⟩
theorem early_cons {P : Program} {ops : Array Oper} {S : World → Prop} {F : (Nat → Value) → Act} {I : Nat → (Nat → Value) → World → Prop} {deps : List (Nat × List Nat)} {late : List Nat} {k : Nat} {o : Oper} {l : List Oper}
    (h : ∀ v w, S w → (∀ i, (deps.lookup k |>.getD []).contains i = true → I i v w) → ∀ K : Act → World → Prop, K (F v) w → if Region.wanted o (yielded ops (F v).tmps) = true then o.wp P (F v) w K noPost else K ((F v).put o.dst undef) w) (g : EarlyX P ops S F I deps late (k + 1) l) : EarlyX P ops S F I deps late k (o :: l) := ⟨.inr h, g⟩

/-- What a late one owes: from what it leans on its own fact, and that the others' facts stay, but those that it kills. -/
def LateOne (P : Program) (ops : Array Oper) (S : World → Prop) (F : (Nat → Value) → Act) (I : Nat → (Nat → Value) → World → Prop) (deps kills later : List (Nat × List Nat)) (j : Nat) (o : Oper) : Prop :=
  ∀ v w, S w → (∀ i, (deps.lookup j |>.getD []).contains i = true → I i v w) → Region.wanted o (yielded ops (F v).tmps) = true ∧ ∀ K : Act → World → Prop,
    (∀ x w', S w' → I j (updV v j x) w' → (∀ i, i ≠ j → (kills.lookup j |>.getD []).contains i = false → (later.lookup j |>.getD []).contains i = false → I i v w → I i (updV v j x) w') → K ((F v).put o.dst x) w') → o.wp P (F v) w K noPost
def LateX (P : Program) (ops : Array Oper) (S : World → Prop) (F : (Nat → Value) → Act) (I : Nat → (Nat → Value) → World → Prop) (deps kills later : List (Nat × List Nat)) (late : List Nat) : Nat → List Oper → Prop
  | _, [] => True
  | k, o :: l => (late.contains k = false ∨ LateOne P ops S F I deps kills later k o) ∧ LateX P ops S F I deps kills later late (k + 1) l
theorem LateX.at_ {P : Program} {ops : Array Oper} {S : World → Prop} {F : (Nat → Value) → Act} {I : Nat → (Nat → Value) → World → Prop} {deps kills later : List (Nat × List Nat)} {late : List Nat} {l : List Oper} : ∀ {k : Nat}, LateX P ops S F I deps kills later late k l → ∀ {j : Nat} {o : Oper}, l[j]? = some o → late.contains (k + j) = true → LateOne P ops S F I deps kills later (k + j) o := by
  induction l with
  | nil => intro k _ j o hj; simp at hj
  | cons x l ih =>
    intro k h j o hj hn
    cases j with
    | zero =>
      simp at hj
      subst hj
      rcases h.1 with h | h
      · rw [Nat.add_zero, h] at hn; cases hn
      · exact h
    | succ j =>
      have e : k + 1 + j = k + (j + 1) := by omega
      have := ih h.2 (j := j) (o := o) (by simpa using hj) (by rw [e]; exact hn)
      rw [e] at this
      exact this
theorem late_skip {P : Program} {ops : Array Oper} {S : World → Prop} {F : (Nat → Value) → Act} {I : Nat → (Nat → Value) → World → Prop} {deps kills later : List (Nat × List Nat)} {late : List Nat} {k : Nat} {o : Oper} {l : List Oper} (h : late.contains k = false) (g : LateX P ops S F I deps kills later late (k + 1) l) : LateX P ops S F I deps kills later late k (o :: l) := ⟨.inl h, g⟩
theorem late_cons {P : Program} {ops : Array Oper} {S : World → Prop} {F : (Nat → Value) → Act} {I : Nat → (Nat → Value) → World → Prop} {deps kills later : List (Nat × List Nat)} {late : List Nat} {k : Nat} {o : Oper} {l : List Oper} (h : LateOne P ops S F I deps kills later k o) (g : LateX P ops S F I deps kills later late (k + 1) l) : LateX P ops S F I deps kills later late k (o :: l) := ⟨.inr h, g⟩

theorem upon_free {P : Program} {Q : Exit → Act → World → Prop} {T : Value → World → Prop} {F0 a : Act} {o : Oper} {K : Act → World → Prop} {r : Result Next} (hl : ∀ d, o.dst = some d → d < F0.tmps.size)
    (hK : ∀ x w', T x w' → K (a.put o.dst x) w') (h : o.upon P F0 (fun a' w' => ∃ x, a' = F0.put o.dst x ∧ T x w') noPost r) : o.upon P a K Q r := by
  have key : ∀ v x, F0.put o.dst v = F0.put o.dst x → a.put o.dst v = a.put o.dst x := by
    intro v x e
    cases hd : o.dst with
    | none => rfl
    | some d =>
      rw [hd] at e
      have := congrArg (fun y : Act => y.tmps[d]?) e
      have e2 : v = x := by simpa [Act.put, hl d hd] using this
      rw [e2]
  cases r with
  | ok n w' =>
    cases n with
    | value v => obtain ⟨x, e, h⟩ := h; show K (a.put o.dst v) w'; rw [key v x e]; exact hK x w' h
    | skip => obtain ⟨x, e, h⟩ := h; show K (a.put o.dst undef) w'; rw [key _ x e]; exact hK x w' h
    | defer d' =>
      exfalso
      obtain ⟨x, e, h⟩ := h
      have e : ({ F0 with defers := d' :: F0.defers } : Act).put o.dst undef = F0.put o.dst x := e
      have := congrArg Act.defers e
      cases hd : o.dst <;> rw [hd] at this <;> simp [Act.put] at this
    | enter f args =>
      refine Calls.mono h fun e w'' he => ?_
      cases e with
      | returned v => obtain ⟨x, e, h⟩ := he; show K (a.put o.dst v) w''; rw [key v x e]; exact hK x w'' h
      | panicked c => exact he.elim
      | outgrown => obtain ⟨_, _, hf⟩ := he; exact hf.elim
    | row row args => exact Rows.mono h fun v w'' he => by obtain ⟨x, e, h⟩ := he; show K (a.put o.dst v) w''; rw [key v x e]; exact hK x w'' h
    | _ => exact h.elim
  | halt x w' =>
    cases x with
    | panic v => exact h.elim
    | _ => exact h.elim

theorem lookup_mem {l : List (Nat × List Nat)} {i : Nat} {x : List Nat} (h : l.lookup i = some x) : (i, x) ∈ l := by
  induction l with
  | nil => simp at h
  | cons q ds ih =>
    rw [List.lookup_cons] at h
    by_cases c : (i == q.1) = true
    · rw [c] at h
      simp only [Option.some.injEq] at h
      have : i = q.1 := by simpa using c
      rw [this, ← h]
      exact List.mem_cons_self
    · have c' : (i == q.1) = false := by simpa using c
      rw [c'] at h
      exact List.mem_cons_of_mem _ (ih (by simpa using h))
/-- What is behind us has behind us what it is bound to. -/
def Closed (md : Region.Mode) (ops : Array Oper) (listed : Array Bool) : Prop := ∀ i o, ops[i]? = some o → listed.getD i true = true → ∀ e ∈ o.after, Region.binds md e = true → listed.getD e.on false = true
theorem closed_set {md : Region.Mode} {ops : Array Oper} {listed : Array Bool} {i : Nat} {o : Oper} (h : Closed md ops listed) (hi : i < listed.size) (ho : ops[i]? = some o) (hall : ∀ e ∈ o.after, Region.binds md e = true → listed.getD e.on false = true) : Closed md ops (listed.setIfInBounds i true) := by
  have mono : ∀ k, listed.getD k false = true → (listed.setIfInBounds i true).getD k false = true := by
    intro k hk
    by_cases e : i = k
    · subst e
      rw [Array.getD_eq_getD_getElem?, Array.getElem?_setIfInBounds_self_of_lt hi]; rfl
    · rw [getD_set_ne false e]
      exact hk
  intro j p hj hl e he hb
  by_cases c : i = j
  · subst c
    rw [ho] at hj
    injection hj with hj
    subst hj
    exact mono _ (hall e he hb)
  · rw [getD_set_ne true c] at hl
    exact mono _ (h j p hj hl e he hb)
theorem not_yet {md : Region.Mode} {ops : Array Oper} {listed : Array Bool} {i : Nat} {l : List Nat} (hok : fixOK md ops = true) (hsz : listed.size = ops.size) (hcl : Closed md ops listed) (hu : listed.getD i true = false)
    (h : ∀ k, l.contains k = true → (match ops[k]? with | none => false | some o => o.after.any fun e => Region.binds md e && (e.on == i || l.contains e.on)) = true) : ∀ k, l.contains k = true → listed.getD k true = false := by
  intro k
  induction k using Nat.strongRecOn with
  | ind k ih =>
    intro hk
    apply Classical.byContradiction
    intro c
    have c : listed.getD k true = true := by simpa using c
    have hk2 := h k hk
    cases ho : ops[k]? with
    | none => rw [ho] at hk2; cases hk2
    | some o =>
      rw [ho] at hk2
      simp only [Array.any_eq_true, Bool.and_eq_true, Bool.or_eq_true, beq_iff_eq] at hk2
      obtain ⟨m, hm, hb, hon⟩ := hk2
      have hlist := hcl k o ho c _ (Array.getElem_mem hm) hb
      have hlt := (fixOK_at hok ho).2.2.2 _ (Array.getElem_mem hm) hb
      have ks : k < listed.size := by rw [hsz]; exact (Array.getElem?_eq_some_iff.1 ho).1
      rcases hon with e | e
      · rw [e] at hlist hlt
        rw [Array.getD_eq_getD_getElem?, Array.getElem?_eq_getElem (by omega)] at hu hlist
        simp only [Option.getD_some] at hu hlist
        rw [hu] at hlist
        cases hlist
      · have := ih _ hlt e
        rw [Array.getD_eq_getD_getElem?, Array.getElem?_eq_getElem (by omega)] at this hlist
        simp only [Option.getD_some] at this hlist
        rw [this] at hlist
        cases hlist
theorem listed_mono {listed : Array Bool} {i j : Nat} (h : listed.getD j true = true) : (listed.setIfInBounds i true).getD j true = true := by
  by_cases e : i = j
  · subst e
    rw [Array.getD_eq_getD_getElem?]
    by_cases l : i < listed.size
    · rw [Array.getElem?_setIfInBounds_self_of_lt l]; rfl
    · rw [Array.getElem?_eq_none (by rw [Array.size_setIfInBounds]; omega)]; rfl
  · rw [getD_set_ne true e]
    exact h

section
variable {P : Program} {Q : Exit → Act → World → Prop}

theorem wpAny_lean {md : Region.Mode} {ops : List Oper} {S : World → Prop} {a0 : Act} (lates : List (Nat × Tmp)) (nost : List Nat) (I : Nat → (Nat → Value) → World → Prop) (deps kills later : List (Nat × List Nat)) (fin : List Nat)
    (hok : leanOK md ops.toArray lates nost deps kills later fin = true) (hd : ∀ q ∈ lates, q.2 < a0.tmps.size)
    (hE : EarlyX P ops.toArray S (fun v => fillA a0 (latesV lates v)) I deps (lates.map (·.1) ++ nost) 0 ops) (hL : LateX P ops.toArray S (fun v => fillA a0 (latesV lates v)) I deps kills later (lates.map (·.1) ++ nost) 0 ops)
    (hQ : ∀ v w, S w → (∀ i, fin.contains i = true → I i v w) → Q .normal (fillA a0 (latesV lates v)) w) :
    ∀ (fuel : Nat) (listed : Array Bool) (a : Act) (w : World) (v : Nat → Value), listed.size = ops.toArray.size → (left ops.toArray listed).length ≤ fuel → Meets ops.toArray listed (fillA a0 (latesV lates v)) a → S w → Closed md ops.toArray listed →
      (∀ j, (lates.map (·.1) ++ nost).contains j = true → listed.getD j true = true → (∀ r ∈ kills, listed.getD r.1 true = true → r.2.contains j = false) → I j v w) → wpAny P md ops.toArray Q fuel listed a w := by
  unfold leanOK at hok
  simp only [Bool.and_eq_true, decide_eq_true_eq] at hok
  obtain ⟨⟨⟨⟨⟨⟨h1, h2⟩, h3⟩, h4⟩, h5⟩, h6⟩, n1, n2⟩ := hok
  have lt : ∀ {j p}, ops.toArray[j]? = some p → j < ops.toArray.size := fun h => (Array.getElem?_eq_some_iff.1 h).1
  have dst : ∀ j o, ops.toArray[j]? = some o → (lates.map (·.1) ++ nost).contains j = true → ((∃ d, o.dst = some d ∧ (j, d) ∈ lates) ∨ (o.dst = none ∧ j ∉ lates.map (·.1))) := by
    intro j o ho hj
    rcases List.mem_append.1 (List.contains_iff_mem.1 hj) with h | h
    · obtain ⟨q, hq, rfl⟩ := List.mem_map.1 h
      rw [List.all_eq_true] at h2
      have := h2 q hq
      rw [ho] at this
      simp only [beq_iff_eq] at this
      exact .inl ⟨q.2, this, hq⟩
    · rw [List.all_eq_true] at h3
      have := h3 j h
      rw [ho] at this
      simp only [Bool.and_eq_true, beq_iff_eq, Bool.not_eq_true'] at this
      exact .inr ⟨this.1, fun f => by rw [List.contains_iff_mem.2 f] at this; exact absurd this.2 (by simp)⟩
  intro fuel
  induction fuel with
  | zero =>
    intro listed a w v hsz hl hm hS hcl hI
    have hn : left ops.toArray listed = [] := List.eq_nil_of_length_eq_zero (by omega)
    have hall : ∀ j o, ops.toArray[j]? = some o → listed.getD j true = true := by
      intro j o hj
      apply Classical.byContradiction
      intro c
      have : j ∈ left ops.toArray listed := List.mem_filter.2 ⟨List.mem_range.2 (lt hj), by simpa using c⟩
      rw [hn] at this
      cases this
    refine ⟨?_, ?_⟩
    · cases hr : Region.ready md ops.toArray listed with
      | nil => rfl
      | cons x xs =>
        have : x ∈ Region.ready md ops.toArray listed := by rw [hr]; exact List.mem_cons_self
        obtain ⟨h0, o, ho, _⟩ := mem_ready.1 this
        rw [hall x o ho] at h0
        cases h0
    · rw [done_meets hall hm]
      refine hQ v w hS (fun i hi => ?_)
      rw [List.all_eq_true] at h5
      have h5i := h5 i (List.contains_iff_mem.1 hi)
      simp only [Bool.and_eq_true] at h5i
      refine hI i h5i.1 ?_ (fun r hr _ => ?_)
      · rcases Option.eq_none_or_eq_some (ops.toArray[i]?) with h | ⟨o, h⟩
        · rw [Array.getD_eq_getD_getElem?, Array.getElem?_eq_none (by rw [hsz]; exact Array.getElem?_eq_none_iff.1 h)]; rfl
        · exact hall i o h
      · have := List.all_eq_true.1 h5i.2 r hr
        simpa using this
  | succ fuel ih =>
    intro listed a w v hsz hlen hm hS hcl hI
    refine ⟨fun hr => ?_, fun i hi => ?_⟩
    · have hall := ready_all h1 listed hsz hr
      rw [done_meets hall hm]
      refine hQ v w hS (fun i hi => ?_)
      rw [List.all_eq_true] at h5
      have h5i := h5 i (List.contains_iff_mem.1 hi)
      simp only [Bool.and_eq_true] at h5i
      refine hI i h5i.1 ?_ (fun r hr _ => ?_)
      · rcases Option.eq_none_or_eq_some (ops.toArray[i]?) with h | ⟨o, h⟩
        · rw [Array.getD_eq_getD_getElem?, Array.getElem?_eq_none (by rw [hsz]; exact Array.getElem?_eq_none_iff.1 h)]; rfl
        · exact hall i o h
      · have := List.all_eq_true.1 h5i.2 r hr
        simpa using this
    obtain ⟨hu, o, ho, hall⟩ := mem_ready.1 hi
    have look := looks_meet h1 hsz hm ho hall
    have hsz' : (listed.setIfInBounds i true).size = ops.toArray.size := by simpa using hsz
    have hlen' : (left ops.toArray (listed.setIfInBounds i true)).length ≤ fuel := by have := left_set (ops := ops.toArray) (lt ho) hu; omega
    have set_i : (listed.setIfInBounds i true).getD i true = true := by
      rw [Array.getD_eq_getD_getElem?, Array.getElem?_setIfInBounds_self_of_lt (by rw [hsz]; exact lt ho)]; rfl
    have hcl' : Closed md ops.toArray (listed.setIfInBounds i true) := closed_set hcl (by rw [hsz]; exact lt ho) ho hall
    have hfacts : ∀ k, (deps.lookup i |>.getD []).contains k = true → I k v w := by
      intro k hk
      cases hlk : deps.lookup i with
      | none => rw [hlk] at hk; simp at hk
      | some l =>
        rw [hlk] at hk
        have hmem : (i, l) ∈ deps := lookup_mem hlk
        have h4i := List.all_eq_true.1 h4 _ hmem
        simp only [ho] at h4i
        have h4k := List.all_eq_true.1 h4i k (List.contains_iff_mem.1 (by simpa using hk))
        simp only [Bool.and_eq_true, Array.any_eq_true, beq_iff_eq] at h4k
        obtain ⟨⟨⟨m, hm', hb, hon⟩, hlk2⟩, hkl⟩ := h4k
        have hex := hall _ (Array.getElem_mem hm') hb
        rw [hon] at hex
        refine hI k hlk2 ?_ (fun r hr hrl => ?_)
        · rw [Array.getD_eq_getD_getElem?] at hex ⊢
          cases hq : listed[k]? with
          | none => rfl
          | some b => rw [hq] at hex; exact hex
        · have := List.all_eq_true.1 hkl r hr
          simp only [Bool.or_eq_true, beq_iff_eq, Bool.not_eq_true'] at this
          rcases this with (h | h) | h
          · rw [h, hu] at hrl; cases hrl
          · exact h
          · exfalso
            cases hlk : later.lookup i with
            | none => rw [hlk] at h; simp at h
            | some l =>
              rw [hlk] at h
              have h6i := List.all_eq_true.1 h6 _ (lookup_mem hlk)
              have := not_yet h1 hsz hcl hu (fun k hk => List.all_eq_true.1 h6i k (List.contains_iff_mem.1 hk)) r.1 (by simpa using h)
              rw [hrl] at this
              cases this
    by_cases hli : (lates.map (·.1) ++ nost).contains i = true
    · have hdst := dst i o ho hli
      obtain ⟨ee, ew⟩ := eval_eq (ops := ops.toArray) (fixOK_at h1 ho).1 look
      unfold wpOp
      simp only [ho]
      have hLi := hL.at_ (j := i) (by simpa using ho) (by rw [Nat.zero_add]; exact hli)
      rw [Nat.zero_add] at hLi
      have hw : Region.wanted o (yielded ops.toArray a.tmps) = true := ew.trans (hLi v w hS hfacts).1
      rw [if_pos hw]
      refine .inl ?_
      have h := (hLi v w hS hfacts).2 (fun a' w' => ∃ x, a' = (fillA a0 (latesV lates v)).put o.dst x ∧ (S w' ∧ I i (updV v i x) w' ∧ ∀ k, k ≠ i → (kills.lookup i |>.getD []).contains k = false → (later.lookup i |>.getD []).contains k = false → I k v w → I k (updV v i x) w')) (fun x w' s1 s2 s3 => ⟨x, rfl, s1, s2, s3⟩)
      unfold Oper.wp at h ⊢
      rw [ee]
      refine upon_free (T := fun x w' => S w' ∧ I i (updV v i x) w' ∧ ∀ k, k ≠ i → (kills.lookup i |>.getD []).contains k = false → (later.lookup i |>.getD []).contains k = false → I k v w → I k (updV v i x) w') (fun d hdd => ?_) (fun x w' ⟨s1, s2, s3⟩ => ?_) h
      · rw [fill_size]
        rcases hdst with ⟨d', e1, e2⟩ | ⟨e1, _⟩
        · rw [e1] at hdd
          injection hdd with hdd
          subst hdd
          exact hd _ e2
        · rw [e1] at hdd; cases hdd
      · have hF : fillA a0 (latesV lates (updV v i x)) = (fillA a0 (latesV lates v)).put o.dst x := by
          rcases hdst with ⟨d', e1, e2⟩ | ⟨e1, e2⟩
          · rw [e1]; exact fill_upd lates v i d' x a0 n1 n2 e2
          · rw [e1, fill_same lates v i x e2]; rfl
        refine ih _ _ _ (updV v i x) hsz' hlen' ?_ s1 hcl' (fun j hj hlj hk => ?_)
        · rw [hF]
          obtain ⟨m1, m2, m3⟩ := hm
          refine ⟨?_, ?_, fun t ht => ?_⟩
          · cases hdd : o.dst <;> simpa [Act.put] using m1
          · cases hdd : o.dst <;> simpa [Act.put] using m2
          · cases hdd : o.dst with
            | none =>
              refine m3 t fun j p hj hp => ?_
              by_cases c : i = j
              · subst c
                rw [ho] at hj
                injection hj with hj
                rw [← hj, hdd] at hp
                cases hp
              · rw [← getD_set_ne true c]
                exact ht j p hj hp
            | some d =>
              by_cases c : d = t
              · subst c
                simp only [Act.put]
                by_cases l : d < a.tmps.size
                · rw [Array.getElem?_setIfInBounds_self_of_lt l, Array.getElem?_setIfInBounds_self_of_lt (by rw [← m2]; exact l)]
                · have l1 : (a.tmps.setIfInBounds d x).size ≤ d := by rw [Array.size_setIfInBounds]; exact Nat.le_of_not_lt l
                  have l2 : ((fillA a0 (latesV lates v)).tmps.setIfInBounds d x).size ≤ d := by rw [Array.size_setIfInBounds, ← m2]; exact Nat.le_of_not_lt l
                  rw [Array.getElem?_eq_none l1, Array.getElem?_eq_none l2]
              · simp only [Act.put]
                rw [Array.getElem?_setIfInBounds_ne c, Array.getElem?_setIfInBounds_ne c]
                refine m3 t fun j p hj hp => ?_
                by_cases c2 : i = j
                · subst c2
                  rw [ho] at hj
                  injection hj with hj
                  rw [← hj, hdd] at hp
                  injection hp with hp
                  exact absurd hp c
                · rw [← getD_set_ne true c2]
                  exact ht j p hj hp
        · by_cases hji : j = i
          · rw [hji]; exact s2
          · have hlj' : listed.getD j true = true := by rw [← getD_set_ne true (fun e => hji e.symm)]; exact hlj
            refine s3 j hji ?_ ?_ (hI j hj (by rw [← getD_set_ne true (fun e => hji e.symm)]; exact hlj) (fun r hr hrl => hk r hr (listed_mono hrl)))
            cases hlk : kills.lookup i with
            | none => rfl
            | some l =>
              have := hk (i, l) (lookup_mem hlk) set_i
              simpa using this
            cases hlk : later.lookup i with
            | none => rfl
            | some l =>
              apply Classical.byContradiction
              intro c
              have c : l.contains j = true := by simpa using c
              have h6i := List.all_eq_true.1 h6 _ (lookup_mem hlk)
              have := not_yet h1 hsz hcl hu (fun k hk => List.all_eq_true.1 h6i k (List.contains_iff_mem.1 hk)) j c
              rw [hlj'] at this
              cases this
    · have hli'  : (lates.map (·.1) ++ nost).contains i = false := by simpa using hli
      have hEi := hE.at_ (j := i) (by simpa using ho) (by rw [Nat.zero_add]; exact hli')
      rw [Nat.zero_add] at hEi
      have hO : Owes P ops.toArray (fun w' => w' = w) (fillA a0 (latesV lates v)) o := owes_of (fun w1 hw1 K hK => by
        subst hw1
        exact hEi v _ hS hfacts K (hK _ rfl))
      refine wpOp_owes (S := fun w' => w' = w) h1 ho look rfl hO (fun x w' hp hw' => ?_)
      subst hw'
      refine ih _ _ _ v hsz' hlen' (meets_next ho hm hp) hS hcl' (fun j hj hlj hk => ?_)
      have hji : j ≠ i := fun e => by rw [e, hli'] at hj; cases hj
      rw [getD_set_ne true (fun e => hji e.symm)] at hlj
      refine hI j hj hlj (fun r hr hrl => hk r hr ?_)
      exact listed_mono hrl

/-- THE LAW. ups: what the early ones hold; lates: the late ones and their slots; nost: late ones without a slot. -/
theorem wp_region_lean {ops : List Oper} {id : Nat} {a : Act} {w : World} (S : World → Prop) (ups : List (Tmp × Value)) (lates : List (Nat × Tmp)) (nost : List Nat) (I : Nat → (Nat → Value) → World → Prop) (deps kills later : List (Nat × List Nat)) (fin : List Nat)
    (hm : P.follows .mixedOrders = true) (hok : leanOK .any ops.toArray lates nost deps kills later fin = true) (hu : ((ups.map (·.1) ++ lates.map (·.2)).all fun t => ops.any fun o => o.dst == some t) = true) (hd : ∀ q ∈ lates, q.2 < a.tmps.size) (hS : S w) (hdr : ∀ w, S w → S w.drew)
    (hE : EarlyX P ops.toArray S (fun v => fillA (fillA a ups) (latesV lates v)) I deps (lates.map (·.1) ++ nost) 0 ops) (hL : LateX P ops.toArray S (fun v => fillA (fillA a ups) (latesV lates v)) I deps kills later (lates.map (·.1) ++ nost) 0 ops)
    (hQ : ∀ v w, S w → (∀ i, fin.contains i = true → I i v w) → Q .normal (fillA (fillA a ups) (latesV lates v)) w) : (Code.region id ops.toArray true).wp P Q a w := by
  have no : ∀ (t : Tmp) (j : Nat) (o : Oper), ops.toArray[j]? = some o → (Array.replicate ops.toArray.size false).getD j true = true → False := by
    intro t j o hj hr
    have := (Array.getElem?_eq_some_iff.1 hj).1
    rw [Array.getD_eq_getD_getElem?, Array.getElem?_replicate, if_pos this] at hr
    cases hr
  refine wp_region_any hm (wpAny_lean (a0 := fillA a ups) lates nost I deps kills later fin hok (fun q hq => by rw [fill_size]; exact hd q hq) hE hL hQ _ (Array.replicate ops.toArray.size false) a w.drew (fun _ => undef) (by simp) ?_ ⟨?_, ?_, fun t ht => ?_⟩ (hdr w hS) (fun i o ho hl => (no 0 i o ho hl).elim) (fun j hj hl _ => ?_))
  · unfold left
    exact Nat.le_trans (List.length_filter_le _ _) (by simp)
  · rw [fill_defers, fill_defers]
  · rw [fill_size, fill_size]
  · have key : ∀ s, s ∈ ups.map (·.1) ++ lates.map (·.2) → s ≠ t := by
      intro s hs e
      subst e
      have := List.all_eq_true.1 hu s hs
      rw [List.any_eq_true] at this
      obtain ⟨o, ho, hb⟩ := this
      obtain ⟨i, hi, hoi⟩ := List.getElem_of_mem ho
      have hoi' : ops.toArray[i]? = some o := by rw [List.getElem?_toArray]; exact List.getElem?_eq_some_iff.2 ⟨hi, hoi⟩
      exact no s i o hoi' (ht i o hoi' (by simpa using hb))
    rw [fill_off _ t (fun p hp => ?_), fill_off _ t (fun p hp => key p.1 (List.mem_append_left _ (List.mem_map.2 ⟨p, hp, rfl⟩)))]
    unfold latesV at hp
    obtain ⟨q, hq, rfl⟩ := List.mem_map.1 hp
    exact key q.2 (List.mem_append_right _ (List.mem_map.2 ⟨q, hq, rfl⟩))
  · exfalso
    have hjl : j < ops.toArray.size := by
      apply Classical.byContradiction
      intro c
      have h1 := hok
      unfold leanOK at h1
      simp only [Bool.and_eq_true] at h1
      obtain ⟨⟨⟨⟨⟨⟨_, h2⟩, h3⟩, _⟩, _⟩, _⟩, _⟩ := h1
      rcases List.mem_append.1 (List.contains_iff_mem.1 hj) with h | h
      · obtain ⟨q, hq, rfl⟩ := List.mem_map.1 h
        have := List.all_eq_true.1 h2 q hq
        rw [Array.getElem?_eq_none (by omega)] at this
        cases this
      · have := List.all_eq_true.1 h3 j h
        rw [Array.getElem?_eq_none (by omega)] at this
        simp at this
    rw [Array.getD_eq_getD_getElem?, Array.getElem?_replicate, if_pos hjl] at hl
    cases hl
end
end Go.Proofs.Ytgbedoffgahhaaa
