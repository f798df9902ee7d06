/- A region whose order is open, with one call that makes memory: what it gives is a letter, and those that hang on it come behind it. A region whose order is open, with several operations that make memory, one behind the other: what each gives is a letter. eval: All. eval: All of a graph that may not be; Outs. -/
import Derived.Test.YtliijchcpooplaaGreatMFix
import Derived.Test.YtliijchcpooplaaGreatNMLfe
namespace Go.Proofs.YtliijchcpooplaaGreat
open Go

section
variable {P : Program} {ops : Array Oper} {Q : Exit → Act → World → Prop} {md : Region.Mode}

theorem ready_all (hok : fixOK md ops = true) (listed : Array Bool) (hsz : listed.size = ops.size) (hr : Region.ready md ops listed = []) : ∀ j o, ops[j]? = some o → listed.getD j true = true := by
  have lt : ∀ {j p}, ops[j]? = some p → j < ops.size := fun h => (Array.getElem?_eq_some_iff.1 h).1
  intro j
  induction j using Nat.strongRecOn with
  | ind j ih =>
    intro o hj
    apply Classical.byContradiction
    intro c
    have c' : listed.getD j true = false := by simpa using c
    have : j ∈ Region.ready md ops listed := mem_ready.2 ⟨c', o, hj, fun e he hb => by
      have hlt := (fixOK_at hok hj).2.2.2 e he hb
      have he2 : ops[e.on]? = some (ops[e.on]'(Nat.lt_trans hlt (lt hj))) := Array.getElem?_eq_getElem (Nat.lt_trans hlt (lt hj))
      have := ih e.on hlt _ he2
      rw [Array.getD_eq_getD_getElem?] at this ⊢
      rw [Array.getElem?_eq_getElem (by rw [hsz]; exact Nat.lt_trans hlt (lt hj))] at this ⊢
      exact this⟩
    rw [hr] at this
    cases this

theorem meets_next {listed : Array Bool} {aF a : Act} {i : Nat} {o : Oper} {v : Value} (ho : ops[i]? = some o) (hm : Meets ops listed aF a) (hp : aF.put o.dst v = aF) : Meets ops (listed.setIfInBounds i true) aF (a.put o.dst v) := by
  obtain ⟨m1, m2, m3⟩ := hm
  refine ⟨?_, ?_, fun t ht => ?_⟩
  · cases hd : o.dst <;> simpa [Act.put] using m1
  · cases hd : o.dst <;> simpa [Act.put] using m2
  · cases hd : o.dst with
    | none =>
      refine m3 t fun j p hj hp => ?_
      by_cases c : i = j
      · subst c
        rw [ho] at hj
        injection hj with hj
        rw [← hj, hd] at hp
        cases hp
      · rw [← getD_set_ne true c]
        exact ht j p hj hp
    | some d =>
      by_cases c : d = t
      · subst c
        by_cases l : d < aF.tmps.size
        · rw [put_fix hp hd l]
          simp [Act.put, m2, l]
        · have l' : aF.tmps.size ≤ d := Nat.le_of_not_lt l
          have l2 : (a.put (some d) v).tmps.size ≤ d := by
            simp only [Act.put, Array.size_setIfInBounds, m2]
            exact l'
          rw [Array.getElem?_eq_none l2, Array.getElem?_eq_none l']
      · have : (a.put (some d) v).tmps[t]? = a.tmps[t]? := by simp [Act.put, Array.getElem?_setIfInBounds_ne c]
        rw [this]
        refine m3 t fun j p hj hp => ?_
        by_cases c2 : i = j
        · subst c2
          rw [ho] at hj
          injection hj with hj
          rw [← hj, hd] at hp
          injection hp with hp
          exact absurd hp c
        · rw [← getD_set_ne true c2]
          exact ht j p hj hp

theorem looks_meet (hok : fixOK md ops = true) {listed : Array Bool} {aF a : Act} {i : Nat} {o : Oper} (hsz : listed.size = ops.size) (hm : Meets ops listed aF a) (ho : ops[i]? = some o)
    (hall : ∀ e ∈ o.after, Region.binds md e = true → listed.getD e.on false = true) : ∀ t ∈ o.looksAt ops, a.tmps[t]? = aF.tmps[t]? := fun t ht => hm.2.2 t fun j p hj hd => by
  obtain ⟨e, he, hb, rfl⟩ := (fixOK_at hok ho).2.1 t ht j p hj hd
  have := hall e he hb
  rw [Array.getD_eq_getD_getElem?] at this ⊢
  rw [Array.getElem?_eq_getElem (by rw [hsz]; exact (Array.getElem?_eq_some_iff.1 hj).1)] at this ⊢
  exact this

theorem wpOp_owes {S : World → Prop} {aF a : Act} {i : Nat} {o : Oper} {w : World} {K : Act → World → Prop} (hok : fixOK md ops = true) (ho : ops[i]? = some o) (look : ∀ t ∈ o.looksAt ops, a.tmps[t]? = aF.tmps[t]?) (hS : S w)
    (h : Owes P ops S aF o) (next : ∀ v w', aF.put o.dst v = aF → S w' → K (a.put o.dst v) w') : wpOp P ops Q i K a w := by
  obtain ⟨ee, ew⟩ := eval_eq (ops := ops) (fixOK_at hok ho).1 look
  have h := h w hS
  unfold wpOp
  simp only [ho]
  rw [ew]
  by_cases hw : Region.wanted o (yielded ops aF.tmps) = true
  · rw [if_pos hw] at h ⊢
    refine .inl ?_
    unfold Oper.wp at h ⊢
    rw [ee]
    exact upon_fix next h
  · rw [if_neg hw] at h ⊢
    exact next undef w h hS

theorem done_meets {listed : Array Bool} {aF a : Act} (hall : ∀ j o, ops[j]? = some o → listed.getD j true = true) (hm : Meets ops listed aF a) : a = aF := by
  obtain ⟨h1, h2, h3⟩ := hm
  obtain ⟨t1, d1⟩ := a
  obtain ⟨t2, d2⟩ := aF
  simp only at h1 h2 h3
  subst h1
  have : t1 = t2 := Array.ext_getElem? fun t => h3 t fun j o hj _ => hall j o hj
  subst this
  rfl

/-- As wpAny_fix, with the operation c behind us. -/
theorem wpAny_fixB {S : World → Prop} {aF : Act} (c : Nat) (hok : fixOK md ops = true) (hv : ∀ (i : Nat) (o : Oper), ops[i]? = some o → i ≠ c → Owes P ops S aF o) (hQ : ∀ w, S w → Q .normal aF w) :
    ∀ (fuel : Nat) (listed : Array Bool) (a : Act) (w : World), listed.size = ops.size → (left ops listed).length ≤ fuel → listed.getD c true = true → Meets ops listed aF a → S w → wpAny P md ops Q fuel listed a w := by
  have lt : ∀ {j p}, ops[j]? = some p → j < ops.size := fun h => (Array.getElem?_eq_some_iff.1 h).1
  intro fuel
  induction fuel with
  | zero =>
    intro listed a w hsz hl hc hm hS
    have hn : left ops listed = [] := List.eq_nil_of_length_eq_zero (by omega)
    have hall : ∀ j o, ops[j]? = some o → listed.getD j true = true := by
      intro j o hj
      apply Classical.byContradiction
      intro c
      have : j ∈ left ops listed := List.mem_filter.2 ⟨List.mem_range.2 (lt hj), by simpa using c⟩
      rw [hn] at this
      cases this
    refine ⟨?_, by rw [done_meets hall hm]; exact hQ w hS⟩
    cases hr : Region.ready md ops listed with
    | nil => rfl
    | cons x xs =>
      have : x ∈ Region.ready md ops listed := by rw [hr]; exact List.mem_cons_self
      obtain ⟨h0, o, ho, _⟩ := mem_ready.1 this
      rw [hall x o ho] at h0
      cases h0
  | succ fuel ih =>
    intro listed a w hsz hl hc hm hS
    refine ⟨fun hr => by rw [done_meets (ready_all hok listed hsz hr) hm]; exact hQ w hS, fun i hi => ?_⟩
    obtain ⟨hu, o, ho, hall⟩ := mem_ready.1 hi
    have hic : i ≠ c := fun e => by rw [e, hc] at hu; cases hu
    refine wpOp_owes hok ho (looks_meet hok hsz hm ho hall) hS (hv i o ho hic) fun v w' hp hS' => ?_
    refine ih _ _ _ (by simpa using hsz) (by have := left_set (ops := ops) (lt ho) hu; omega) ?_ (meets_next ho hm hp) hS'
    rw [getD_set_ne true hic]
    exact hc

theorem upon_late {α : Type} {S1 : α → World → Prop} {V : α → Value} {F0 a : Act} {d : Tmp} {o : Oper} {K : Act → World → Prop} {r : Result Next} (hd : o.dst = some d) (hl : d < F0.tmps.size)
    (hK : ∀ p w', S1 p w' → K (a.put (some d) (V p)) w') (h : o.upon P F0 (fun a' w' => ∃ p, a' = F0.put (some d) (V p) ∧ S1 p w') noPost r) : o.upon P a K Q r := by
  have key : ∀ v p, F0.put (some d) v = F0.put (some d) (V p) → v = V p := by
    intro v p e
    have := congrArg (fun x : Act => x.tmps[d]?) e
    simpa [Act.put, hl] using this
  cases r with
  | ok n w' =>
    cases n with
    | value v => obtain ⟨p, e, h⟩ := h; rw [hd] at e; have := key v p e; subst this; show K (a.put o.dst (V p)) w'; rw [hd]; exact hK p w' h
    | skip => obtain ⟨p, e, h⟩ := h; rw [hd] at e; have := key _ p e; show K (a.put o.dst undef) w'; rw [hd, this]; exact hK p w' h
    | defer d' =>
      exfalso
      obtain ⟨p, e, h⟩ := h
      have e : ({ F0 with defers := d' :: F0.defers } : Act).put o.dst undef = F0.put (some d) (V p) := e
      have := congrArg Act.defers e
      rw [hd] at this
      simp [Act.put] at this
    | enter f args =>
      refine Calls.mono h fun e w'' he => ?_
      cases e with
      | returned v => obtain ⟨p, e, h⟩ := he; rw [hd] at e; have := key v p e; subst this; show K (a.put o.dst (V p)) w''; rw [hd]; exact hK p w'' h
      | panicked c => exact he.elim
      | outgrown => obtain ⟨_, _, hf⟩ := he; exact hf.elim
    | row row args => exact Rows.mono h fun v w'' he => by obtain ⟨p, e, h⟩ := he; rw [hd] at e; have := key v p e; subst this; show K (a.put o.dst (V p)) w''; rw [hd]; exact hK p w'' h
    | _ => exact h.elim
  | halt x w' =>
    cases x with
    | panic v => exact h.elim
    | _ => exact h.elim

theorem wpAny_late {α : Type} {S0 : World → Prop} {S1 : α → World → Prop} {V : α → Value} {F0 : Act} {F : α → Act} (c : Nat) (oc : Oper) (d : Tmp) (late : Nat → Bool) (hok : fixOK md ops = true)
    (hc : ops[c]? = some oc) (hg : oc.guard = none) (hd : oc.dst = some d) (hl : d < F0.tmps.size) (hlc : late c = true)
    (hlate : ∀ i o, ops[i]? = some o → late i = true → i ≠ c → ∃ e ∈ o.after, Region.binds md e = true ∧ late e.on = true)
    (hF : ∀ p, (F p).defers = F0.defers ∧ (F p).tmps.size = F0.tmps.size ∧ (F p).tmps[d]? = some (V p) ∧ ∀ t, (∀ j o, ops[j]? = some o → o.dst = some t → late j = false) → (F p).tmps[t]? = F0.tmps[t]?)
    (hE : ∀ i o, ops[i]? = some o → late i = false → Owes P ops S0 F0 o) (hE1 : ∀ p i o, ops[i]? = some o → i ≠ c → Owes P ops (S1 p) (F p) o)
    (hC : ∀ w, S0 w → ∀ K : Act → World → Prop, (∀ p w', S1 p w' → K (F0.put (some d) (V p)) w') → oc.wp P F0 w K noPost) (hQ : ∀ p w, S1 p w → Q .normal (F p) w) :
    ∀ (fuel : Nat) (listed : Array Bool) (a : Act) (w : World), listed.size = ops.size → (left ops listed).length ≤ fuel → (∀ j o, ops[j]? = some o → late j = true → listed.getD j true = false) → Meets ops listed F0 a → S0 w → wpAny P md ops Q fuel listed a w := by
  have lt : ∀ {j p}, ops[j]? = some p → j < ops.size := fun h => (Array.getElem?_eq_some_iff.1 h).1
  intro fuel
  induction fuel with
  | zero =>
    intro listed a w hsz hl hun hm hS
    exfalso
    have : c ∈ left ops listed := List.mem_filter.2 ⟨List.mem_range.2 (lt hc), by rw [hun c oc hc hlc]; rfl⟩
    have hn : left ops listed = [] := List.eq_nil_of_length_eq_zero (by omega)
    rw [hn] at this
    cases this
  | succ fuel ih =>
    intro listed a w hsz hlen hun hm hS
    refine ⟨fun hr => ?_, fun i hi => ?_⟩
    · have := ready_all hok listed hsz hr c oc hc
      rw [hun c oc hc hlc] at this
      cases this
    obtain ⟨hu, o, ho, hall⟩ := mem_ready.1 hi
    have look := looks_meet hok hsz hm ho hall
    by_cases hli : late i = true
    · by_cases hic : i = c
      · subst hic
        rw [hc] at ho
        injection ho with ho
        subst ho
        obtain ⟨ee, ew⟩ := eval_eq (ops := ops) (fixOK_at hok hc).1 look
        unfold wpOp
        simp only [hc]
        have hw : Region.wanted oc (yielded ops a.tmps) = true := by unfold Region.wanted; rw [hg]
        rw [if_pos hw]
        refine .inl ?_
        have h := hC w hS (fun a' w' => ∃ p, a' = F0.put (some d) (V p) ∧ S1 p w') (fun p w' h => ⟨p, rfl, h⟩)
        unfold Oper.wp at h ⊢
        rw [ee]
        refine upon_late hd hl (fun p w' h1 => ?_) h
        obtain ⟨f1, f2, f3, f4⟩ := hF p
        refine wpAny_fixB i hok (hE1 p) (hQ p) fuel _ _ _ (by simpa using hsz) (by have := left_set (ops := ops) (lt hc) hu; omega) ?_ ?_ h1
        · rw [Array.getD_eq_getD_getElem?, Array.getElem?_setIfInBounds_self_of_lt (by rw [hsz]; exact lt hc)]
          rfl
        · obtain ⟨m1, m2, m3⟩ := hm
          refine ⟨?_, ?_, fun t ht => ?_⟩
          · show a.defers = _; rw [f1]; exact m1
          · show (a.tmps.setIfInBounds d (V p)).size = _; rw [Array.size_setIfInBounds, f2]; exact m2
          · by_cases ct : d = t
            · subst ct
              rw [f3]
              show (a.tmps.setIfInBounds d (V p))[d]? = _
              rw [Array.getElem?_setIfInBounds_self_of_lt (by rw [m2]; exact hl)]
            · have e1 : (a.put (some d) (V p)).tmps[t]? = a.tmps[t]? := by simp [Act.put, Array.getElem?_setIfInBounds_ne ct]
              rw [e1]
              have nl : ∀ j o, ops[j]? = some o → o.dst = some t → late j = false := by
                intro j o hj hdj
                apply Classical.byContradiction
                intro hlj
                have hlj : late j = true := by simpa using hlj
                by_cases cj : i = j
                · subst cj
                  rw [hc] at hj
                  injection hj with hj
                  rw [← hj, hd] at hdj
                  injection hdj with hdj
                  exact ct hdj
                · have h2 := ht j o hj hdj
                  rw [getD_set_ne true cj, hun j o hj hlj] at h2
                  cases h2
              rw [f4 t nl]
              refine m3 t fun j o hj hdj => ?_
              by_cases cj : i = j
              · subst cj
                have := nl i o hj hdj
                rw [hlc] at this
                cases this
              · rw [← getD_set_ne true cj]
                exact ht j o hj hdj
      · exfalso
        obtain ⟨e, he, hb, hle⟩ := hlate i o ho hli hic
        have h1 := hall e he hb
        have hlt := (fixOK_at hok ho).2.2.2 e he hb
        have he2 : ops[e.on]? = some (ops[e.on]'(Nat.lt_trans hlt (lt ho))) := Array.getElem?_eq_getElem (Nat.lt_trans hlt (lt ho))
        have h2 := hun e.on _ he2 hle
        rw [Array.getD_eq_getD_getElem?, Array.getElem?_eq_getElem (by rw [hsz]; exact Nat.lt_trans hlt (lt ho))] at h1 h2
        simp only [Option.getD_some] at h1 h2
        rw [h1] at h2
        cases h2
    · have hli : late i = false := by simpa using hli
      refine wpOp_owes hok ho look hS (hE i o ho hli) fun v w' hp hS' => ?_
      refine ih _ _ _ (by simpa using hsz) (by have := left_set (ops := ops) (lt ho) hu; omega) (fun j o' hj hlj => ?_) (meets_next ho hm hp) hS'
      have hij : i ≠ j := fun e => by rw [e, hlj] at hli; cases hli
      rw [getD_set_ne true hij]
      exact hun j o' hj hlj
end

/-- What all operations owe but those of the list. -/
def OwesX (P : Program) (ops : Array Oper) (S : World → Prop) (aF : Act) (bs : List Nat) : Nat → List Oper → Prop
  | _, [] => True
  | k, o :: l => (bs.contains k = true ∨ Owes P ops S aF o) ∧ OwesX P ops S aF bs (k + 1) l
theorem OwesX.at_ {P : Program} {ops : Array Oper} {S : World → Prop} {aF : Act} {bs : List Nat} {l : List Oper} : ∀ {k : Nat}, OwesX P ops S aF bs k l → ∀ {j : Nat} {o : Oper}, l[j]? = some o → bs.contains (k + j) = false → Owes P ops S aF o := by
  induction l with
  | nil => intro k _ j o hj; simp at hj
  | cons x l ih =>
    intro k h j o hj hn
    cases j with
    | zero =>
      simp at hj
      subst hj
      rcases h.1 with h | h
      · rw [Nat.add_zero, h] at hn; cases hn
      · exact h
    | succ j => exact ih h.2 (by simpa using hj) (by rw [← hn]; congr 1; omega)
theorem owesb_skip {P : Program} {ops : Array Oper} {S : World → Prop} {aF : Act} {bs : List Nat} {k : Nat} {o : Oper} {l : List Oper} (h : bs.contains k = true) (g : OwesX P ops S aF bs (k + 1) l) : OwesX P ops S aF bs k (o :: l) := ⟨.inl h, g⟩
theorem owesb_cons {P : Program} {ops : Array Oper} {S : World → Prop} {aF : Act} {bs : List Nat} {k : Nat} {o : Oper} {l : List Oper}
    (h : ∀ w, S w → ∀ K : Act → World → Prop, (∀ w', S w' → K aF w') → if Region.wanted o (yielded ops aF.tmps) = true then o.wp P aF w K noPost else K (aF.put o.dst undef) w) (g : OwesX P ops S aF bs (k + 1) l) : OwesX P ops S aF bs k (o :: l) := ⟨.inr (owes_of h), g⟩

/-- What is asked of the region's shape. -/
def lateOK (md : Region.Mode) (ops : Array Oper) (c : Nat) (d : Tmp) (late : List Nat) (slots slotr : List Tmp) : Bool :=
  fixOK md ops && late.contains c && (match ops[c]? with | none => false | some o => o.guard.isNone && o.dst == some d) &&
  (late.all fun i => match ops[i]? with | none => false | some o => i == c || o.after.any fun e => Region.binds md e && late.contains e.on) &&
  (slots.all fun t => ops.any fun o => o.dst == some t) &&
  ((d :: slotr).all fun t => late.any fun j => match ops[j]? with | none => false | some o => o.dst == some t) && !slotr.contains d

/-- THE LAW. c: the call's number, d: its slot, V p: what it gives; late: the numbers of those that hang on it (and its own); ups: what the early ones hold, rest p: what the late ones hold. -/
theorem wp_region_late {P : Program} {ops : List Oper} {Q : Exit → Act → World → Prop} {id : Nat} {a : Act} {w : World} {α : Type} (c : Nat) (d : Tmp) (late : List Nat) (V : α → Value) (S0 : World → Prop) (S1 : α → World → Prop) (ups : List (Tmp × Value)) (slots : List Tmp) (rest : α → List (Tmp × Value)) (slotr : List Tmp)
    (hm : P.follows .mixedOrders = true) (hok : lateOK .any ops.toArray c d late slots slotr = true) (hu : ups.map (·.1) = slots) (hr : ∀ p, (rest p).map (·.1) = slotr) (hd : d < a.tmps.size) (hS : S0 w) (hdr : ∀ w, S0 w → S0 w.drew)
    (hE : OwesX P ops.toArray S0 (fillA a ups) late 0 ops) (hC : ∃ o, ops[c]? = some o ∧ ∀ w, S0 w → ∀ K : Act → World → Prop, (∀ p w', S1 p w' → K ((fillA a ups).put (some d) (V p)) w') → o.wp P (fillA a ups) w K noPost)
    (hE1 : ∀ p, OwesX P ops.toArray (S1 p) (fillA (fillA a ups) ((d, V p) :: rest p)) [c] 0 ops) (hQ : ∀ p w, S1 p w → Q .normal (fillA (fillA a ups) ((d, V p) :: rest p)) w) : (Code.region id ops.toArray true).wp P Q a w := by
  unfold lateOK at hok
  simp only [Bool.and_eq_true] at hok
  obtain ⟨⟨⟨⟨⟨⟨h1, h2⟩, h3⟩, h4⟩, h5⟩, h6⟩, h7⟩ := hok
  obtain ⟨oc, hoc, hC⟩ := hC
  have hoc' : ops.toArray[c]? = some oc := by simpa using hoc
  rw [hoc'] at h3
  simp only [Bool.and_eq_true, beq_iff_eq] at h3
  have writers : ∀ p t, (∀ j o, ops.toArray[j]? = some o → o.dst = some t → late.contains j = false) → ∀ q ∈ (d, V p) :: rest p, q.1 ≠ t := by
    intro p t ht q hq e
    rw [List.all_eq_true] at h6
    have hmem : t ∈ d :: slotr := by
      rw [← e, ← hr p]
      rcases List.mem_cons.1 hq with rfl | hq
      · exact List.mem_cons_self
      · exact List.mem_cons_of_mem _ (List.mem_map.2 ⟨q, hq, rfl⟩)
    have := h6 t hmem
    rw [List.any_eq_true] at this
    obtain ⟨j, hj, hb⟩ := this
    cases ho : ops.toArray[j]? with
    | none => rw [ho] at hb; cases hb
    | some o =>
      rw [ho] at hb
      have := ht j o ho (by simpa using hb)
      rw [List.contains_iff_mem.2 hj] at this
      cases this
  refine wp_region_any hm (wpAny_late (S0 := S0) (S1 := S1) (V := V) (F0 := fillA a ups) (F := fun p => fillA (fillA a ups) ((d, V p) :: rest p)) c oc d (fun i => late.contains i) h1 hoc' (Option.isNone_iff_eq_none.1 h3.1) h3.2 (by rw [fill_size]; exact hd) h2 (fun i o ho hl hic => ?_) (fun p => ⟨?_, ?_, ?_, fun t ht => fill_off _ _ (writers p t ht) _⟩) (fun i o ho hl => hE.at_ (j := i) (by simpa using ho) (by simpa using hl)) (fun p i o ho hic => (hE1 p).at_ (j := i) (by simpa using ho) (by simpa using hic)) hC hQ _ (Array.replicate ops.toArray.size false) a w.drew (by simp) ?_ (fun j o ho hl => ?_) ⟨(fill_defers ups a).symm, (fill_size ups a).symm, fun t ht => (fill_off ups t (fun p hp e => ?_) a).symm⟩ (hdr w hS))
  · rw [List.all_eq_true] at h4
    have := h4 i (List.contains_iff_mem.1 hl)
    rw [ho] at this
    simp only [Bool.or_eq_true, beq_iff_eq] at this
    rcases this with h | h
    · exact absurd h hic
    · obtain ⟨k, hk, h5⟩ := Array.any_eq_true.1 h
      simp only [Bool.and_eq_true] at h5
      exact ⟨o.after[k], Array.getElem_mem hk, h5.1, h5.2⟩
  · exact fill_defers _ _
  · exact fill_size _ _
  · show (fillA ((fillA a ups).put (some d) (V p)) (rest p)).tmps[d]? = _
    rw [fill_off (rest p) d (fun q hq e => ?_)]
    · have : d < (fillA a ups).tmps.size := by rw [fill_size]; exact hd
      simp [Act.put, this]
    · have hmem : d ∈ slotr := by rw [← hr p, ← e]; exact List.mem_map.2 ⟨q, hq, rfl⟩
      rw [List.contains_iff_mem.2 hmem] at h7
      cases h7
  · unfold left
    exact Nat.le_trans (List.length_filter_le _ _) (by simp)
  · have := (Array.getElem?_eq_some_iff.1 ho).1
    rw [Array.getD_eq_getD_getElem?, Array.getElem?_replicate, if_pos this]
    rfl
  · have hmem : t ∈ slots := by rw [← hu, ← e]; exact List.mem_map.2 ⟨p, hp, rfl⟩
    rw [List.all_eq_true] at h5
    have := h5 t hmem
    rw [Array.any_eq_true] at this
    obtain ⟨i, hi, hb⟩ := this
    have := ht i ops.toArray[i] (Array.getElem?_eq_getElem hi) (by simpa using hb)
    have hi' : i < ops.length := by simpa using hi
    rw [Array.getD_eq_getD_getElem?, Array.getElem?_replicate] at this
    simp [hi'] at this
end Go.Proofs.YtliijchcpooplaaGreat
namespace Go.Proofs.YtliijchcpooplaaGreat
open Go

section
variable {P : Program} {Q : Exit → Act → World → Prop} {md : Region.Mode}

/-- From any state that meets the frame F, with those of ex behind us and those of un ahead, the region goes to its end. -/
def Goes (P : Program) (md : Region.Mode) (ops : Array Oper) (Q : Exit → Act → World → Prop) (ex un : List Nat) (F : Act) (S : World → Prop) : Prop :=
  ∀ (fuel : Nat) (listed : Array Bool) (a : Act) (w : World), listed.size = ops.size → (left ops listed).length ≤ fuel → (∀ i, ex.contains i = true → listed.getD i true = true) → (∀ j o, ops[j]? = some o → un.contains j = true → listed.getD j true = false) → Meets ops listed F a → S w → wpAny P md ops Q fuel listed a w

theorem listed_set {listed : Array Bool} {i j : Nat} (h : listed.getD j true = true) : (listed.setIfInBounds i true).getD j true = true := by
  by_cases e : i = j
  · subst e
    rw [Array.getD_eq_getD_getElem?]
    by_cases l : i < listed.size
    · rw [Array.getElem?_setIfInBounds_self_of_lt l]; rfl
    · rw [Array.getElem?_eq_none (by rw [Array.size_setIfInBounds]; omega)]; rfl
  · rw [getD_set_ne true e]
    exact h

theorem goes_fix {ops : Array Oper} {S : World → Prop} {aF : Act} (ex : List Nat) (hok : fixOK md ops = true) (hv : ∀ (i : Nat) (o : Oper), ops[i]? = some o → ex.contains i = false → Owes P ops S aF o) (hQ : ∀ w, S w → Q .normal aF w) : Goes P md ops Q ex [] aF S := by
  have lt : ∀ {j p}, ops[j]? = some p → j < ops.size := fun h => (Array.getElem?_eq_some_iff.1 h).1
  intro fuel
  induction fuel with
  | zero =>
    intro listed a w hsz hl hex _ hm hS
    have hn : left ops listed = [] := List.eq_nil_of_length_eq_zero (by omega)
    have hall : ∀ j o, ops[j]? = some o → listed.getD j true = true := by
      intro j o hj
      apply Classical.byContradiction
      intro c
      have : j ∈ left ops listed := List.mem_filter.2 ⟨List.mem_range.2 (lt hj), by simpa using c⟩
      rw [hn] at this
      cases this
    refine ⟨?_, by rw [done_meets hall hm]; exact hQ w hS⟩
    cases hr : Region.ready md ops listed with
    | nil => rfl
    | cons x xs =>
      have : x ∈ Region.ready md ops listed := by rw [hr]; exact List.mem_cons_self
      obtain ⟨h0, o, ho, _⟩ := mem_ready.1 this
      rw [hall x o ho] at h0
      cases h0
  | succ fuel ih =>
    intro listed a w hsz hl hex hun hm hS
    refine ⟨fun hr => by rw [done_meets (ready_all hok listed hsz hr) hm]; exact hQ w hS, fun i hi => ?_⟩
    obtain ⟨hu, o, ho, hall⟩ := mem_ready.1 hi
    have hic : ex.contains i = false := by
      rcases Bool.eq_false_or_eq_true (ex.contains i) with e | e
      · rw [hex i e] at hu; cases hu
      · exact e
    refine wpOp_owes hok ho (looks_meet hok hsz hm ho hall) hS (hv i o ho hic) fun v w' hp hS' => ?_
    refine ih _ _ _ (by simpa using hsz) (by have := left_set (ops := ops) (lt ho) hu; omega) (fun j hj => listed_set (hex j hj)) (fun j o' _ h => by simp at h) (meets_next ho hm hp) hS'

theorem goes_late {ops : Array Oper} {α : Type} {S0 : World → Prop} {S1 : α → World → Prop} {V : α → Value} {F0 : Act} {F : α → Act} (ex un' : List Nat) (c : Nat) (oc : Oper) (d : Tmp) (late : List Nat) (hok : fixOK md ops = true)
    (hc : ops[c]? = some oc) (hg : oc.guard = none) (hd : oc.dst = some d) (hl : d < F0.tmps.size) (hlc : late.contains c = true)
    (hlate : ∀ i o, ops[i]? = some o → late.contains i = true → i ≠ c → ∃ e ∈ o.after, Region.binds md e = true ∧ late.contains e.on = true)
    (hF : ∀ p, (F p).defers = F0.defers ∧ (F p).tmps.size = F0.tmps.size ∧ (F p).tmps[d]? = some (V p) ∧ ∀ t, (∀ j o, ops[j]? = some o → o.dst = some t → late.contains j = false) → (F p).tmps[t]? = F0.tmps[t]?)
    (hE : ∀ i o, ops[i]? = some o → late.contains i = false → ex.contains i = false → Owes P ops S0 F0 o)
    (hun' : ∀ j, un'.contains j = true → late.contains j = true ∧ j ≠ c)
    (hC : ∀ w, S0 w → ∀ K : Act → World → Prop, (∀ p w', S1 p w' → K (F0.put (some d) (V p)) w') → oc.wp P F0 w K noPost) (hN : ∀ p, Goes P md ops Q (c :: ex) un' (F p) (S1 p)) : Goes P md ops Q ex late F0 S0 := by
  have lt : ∀ {j p}, ops[j]? = some p → j < ops.size := fun h => (Array.getElem?_eq_some_iff.1 h).1
  intro fuel
  induction fuel with
  | zero =>
    intro listed a w hsz hl hex hun hm hS
    exfalso
    have : c ∈ left ops listed := List.mem_filter.2 ⟨List.mem_range.2 (lt hc), by rw [hun c oc hc hlc]; rfl⟩
    have hn : left ops listed = [] := List.eq_nil_of_length_eq_zero (by omega)
    rw [hn] at this
    cases this
  | succ fuel ih =>
    intro listed a w hsz hlen hex hun hm hS
    refine ⟨fun hr => ?_, fun i hi => ?_⟩
    · have := ready_all hok listed hsz hr c oc hc
      rw [hun c oc hc hlc] at this
      cases this
    obtain ⟨hu, o, ho, hall⟩ := mem_ready.1 hi
    have look := looks_meet hok hsz hm ho hall
    by_cases hli : late.contains i = true
    · by_cases hic : i = c
      · subst hic
        rw [hc] at ho
        injection ho with ho
        subst ho
        obtain ⟨ee, ew⟩ := eval_eq (ops := ops) (fixOK_at hok hc).1 look
        unfold wpOp
        simp only [hc]
        have hw : Region.wanted oc (yielded ops a.tmps) = true := by unfold Region.wanted; rw [hg]
        rw [if_pos hw]
        refine .inl ?_
        have h := hC w hS (fun a' w' => ∃ p, a' = F0.put (some d) (V p) ∧ S1 p w') (fun p w' h => ⟨p, rfl, h⟩)
        unfold Oper.wp at h ⊢
        rw [ee]
        refine upon_late hd hl (fun p w' h1 => ?_) h
        obtain ⟨f1, f2, f3, f4⟩ := hF p
        refine hN p fuel _ _ _ (by simpa using hsz) (by have := left_set (ops := ops) (lt hc) hu; omega) (fun j hj => ?_) (fun j o hj hjl => ?_) ?_ h1
        · rcases Bool.eq_false_or_eq_true (ex.contains j) with e | e
          · exact listed_set (hex j e)
          · have hj2 : j = i := by
              have := List.contains_iff_mem.1 hj
              rcases List.mem_cons.1 this with h | h
              · exact h
              · rw [List.contains_iff_mem.2 h] at e; cases e
            subst hj2
            rw [Array.getD_eq_getD_getElem?, Array.getElem?_setIfInBounds_self_of_lt (by rw [hsz]; exact lt hc)]
            rfl
        · obtain ⟨l1, l2⟩ := hun' j hjl
          rw [getD_set_ne true (fun e => l2 e.symm)]
          exact hun j o hj l1
        · obtain ⟨m1, m2, m3⟩ := hm
          refine ⟨?_, ?_, fun t ht => ?_⟩
          · show a.defers = _; rw [f1]; exact m1
          · show (a.tmps.setIfInBounds d (V p)).size = _; rw [Array.size_setIfInBounds, f2]; exact m2
          · by_cases ct : d = t
            · subst ct
              rw [f3]
              show (a.tmps.setIfInBounds d (V p))[d]? = _
              rw [Array.getElem?_setIfInBounds_self_of_lt (by rw [m2]; exact hl)]
            · have e1 : (a.put (some d) (V p)).tmps[t]? = a.tmps[t]? := by simp [Act.put, Array.getElem?_setIfInBounds_ne ct]
              rw [e1]
              have nl : ∀ j o, ops[j]? = some o → o.dst = some t → late.contains j = false := by
                intro j o hj hdj
                rcases Bool.eq_false_or_eq_true (late.contains j) with hlj | hlj
                · exfalso
                  by_cases cj : i = j
                  · subst cj
                    rw [hc] at hj
                    injection hj with hj
                    rw [← hj, hd] at hdj
                    injection hdj with hdj
                    exact ct hdj
                  · have h2 := ht j o hj hdj
                    rw [getD_set_ne true cj, hun j o hj hlj] at h2
                    cases h2
                · exact hlj
              rw [f4 t nl]
              refine m3 t fun j o hj hdj => ?_
              by_cases cj : i = j
              · subst cj
                have := nl i o hj hdj
                rw [hlc] at this
                cases this
              · rw [← getD_set_ne true cj]
                exact ht j o hj hdj
      · exfalso
        obtain ⟨e, he, hb, hle⟩ := hlate i o ho hli hic
        have h1 := hall e he hb
        have hlt := (fixOK_at hok ho).2.2.2 e he hb
        have he2 : ops[e.on]? = some (ops[e.on]'(Nat.lt_trans hlt (lt ho))) := Array.getElem?_eq_getElem (Nat.lt_trans hlt (lt ho))
        have h2 := hun e.on _ he2 hle
        rw [Array.getD_eq_getD_getElem?, Array.getElem?_eq_getElem (by rw [hsz]; exact Nat.lt_trans hlt (lt ho))] at h1 h2
        simp only [Option.getD_some] at h1 h2
        rw [h1] at h2
        cases h2
    · have hli : late.contains i = false := by simpa using hli
      have hix : ex.contains i = false := by
        rcases Bool.eq_false_or_eq_true (ex.contains i) with e | e
        · rw [hex i e] at hu; cases hu
        · exact e
      refine wpOp_owes hok ho look hS (hE i o ho hli hix) fun v w' hp hS' => ?_
      refine ih _ _ _ (by simpa using hsz) (by have := left_set (ops := ops) (lt ho) hu; omega) (fun j hj => listed_set (hex j hj)) (fun j o' hj hlj => ?_) (meets_next ho hm hp) hS'
      have hij : i ≠ j := fun e => by rw [e, hlj] at hli; cases hli
      rw [getD_set_ne true hij]
      exact hun j o' hj hlj
end

/-- One operation that makes memory (number c, slot d, what it gives V p), with those that hang on it (late): ahead of it the early ones, in S0 and F0. -/
theorem goes_step {P : Program} {ops : List Oper} {Q : Exit → Act → World → Prop} {α : Type} {F0 : Act} (ex un' : List Nat) (c : Nat) (d : Tmp) (late : List Nat) (V : α → Value) (S0 : World → Prop) (S1 : α → World → Prop) (rest : α → List (Tmp × Value)) (slotr : List Tmp)
    (hok : lateOK .any ops.toArray c d late [] slotr = true) (hun : (un'.all fun j => late.contains j && j != c) = true) (hr : ∀ p, (rest p).map (·.1) = slotr) (hd : d < F0.tmps.size)
    (hE : OwesX P ops.toArray S0 F0 (late ++ ex) 0 ops) (hC : ∃ o, ops[c]? = some o ∧ ∀ w, S0 w → ∀ K : Act → World → Prop, (∀ p w', S1 p w' → K (F0.put (some d) (V p)) w') → o.wp P F0 w K noPost)
    (hN : ∀ p, Goes P .any ops.toArray Q (c :: ex) un' (fillA F0 ((d, V p) :: rest p)) (S1 p)) : Goes P .any ops.toArray Q ex late F0 S0 := by
  unfold lateOK at hok
  simp only [Bool.and_eq_true] at hok
  obtain ⟨⟨⟨⟨⟨⟨h1, h2⟩, h3⟩, h4⟩, _⟩, h6⟩, h7⟩ := hok
  obtain ⟨oc, hoc, hC⟩ := hC
  have hoc' : ops.toArray[c]? = some oc := by simpa using hoc
  rw [hoc'] at h3
  simp only [Bool.and_eq_true, beq_iff_eq] at h3
  have writers : ∀ p t, (∀ j o, ops.toArray[j]? = some o → o.dst = some t → late.contains j = false) → ∀ q ∈ (d, V p) :: rest p, q.1 ≠ t := by
    intro p t ht q hq e
    rw [List.all_eq_true] at h6
    have hmem : t ∈ d :: slotr := by
      rw [← e, ← hr p]
      rcases List.mem_cons.1 hq with rfl | hq
      · exact List.mem_cons_self
      · exact List.mem_cons_of_mem _ (List.mem_map.2 ⟨q, hq, rfl⟩)
    have := h6 t hmem
    rw [List.any_eq_true] at this
    obtain ⟨j, hj, hb⟩ := this
    cases ho : ops.toArray[j]? with
    | none => rw [ho] at hb; cases hb
    | some o =>
      rw [ho] at hb
      have := ht j o ho (by simpa using hb)
      rw [List.contains_iff_mem.2 hj] at this
      cases this
  refine goes_late (V := V) (F := fun p => fillA F0 ((d, V p) :: rest p)) ex un' c oc d late h1 hoc' (Option.isNone_iff_eq_none.1 h3.1) h3.2 hd h2 (fun i o ho hl hic => ?_) (fun p => ⟨?_, ?_, ?_, fun t ht => fill_off _ _ (writers p t ht) _⟩) (fun i o ho hl hx => hE.at_ (j := i) (by simpa using ho) ?_) (fun j hj => ?_) hC hN
  · rw [List.all_eq_true] at h4
    have := h4 i (List.contains_iff_mem.1 hl)
    rw [ho] at this
    simp only [Bool.or_eq_true, beq_iff_eq] at this
    rcases this with h | h
    · exact absurd h hic
    · obtain ⟨k, hk, h5⟩ := Array.any_eq_true.1 h
      simp only [Bool.and_eq_true] at h5
      exact ⟨o.after[k], Array.getElem_mem hk, h5.1, h5.2⟩
  · exact fill_defers _ _
  · exact fill_size _ _
  · show (fillA (F0.put (some d) (V p)) (rest p)).tmps[d]? = _
    rw [fill_off (rest p) d (fun q hq e => ?_)]
    · simp [Act.put, hd]
    · have hmem : d ∈ slotr := by rw [← hr p, ← e]; exact List.mem_map.2 ⟨q, hq, rfl⟩
      rw [List.contains_iff_mem.2 hmem] at h7
      cases h7
  · rw [Nat.zero_add]
    rcases Bool.eq_false_or_eq_true ((late ++ ex).contains i) with e | e
    · have := List.contains_iff_mem.1 e
      rcases List.mem_append.1 this with h | h
      · rw [List.contains_iff_mem.2 h] at hl; cases hl
      · rw [List.contains_iff_mem.2 h] at hx; cases hx
    · exact e
  · rw [List.all_eq_true] at hun
    have := hun j (List.contains_iff_mem.1 hj)
    simpa using this
/-- Behind the last of them. -/
theorem goes_end {P : Program} {ops : List Oper} {Q : Exit → Act → World → Prop} {aF : Act} {S : World → Prop} (ex : List Nat) (hok : fixOK .any ops.toArray = true) (hv : OwesX P ops.toArray S aF ex 0 ops) (hQ : ∀ w, S w → Q .normal aF w) : Goes P .any ops.toArray Q ex [] aF S :=
  goes_fix ex hok (fun i o ho hx => hv.at_ (j := i) (by simpa using ho) (by rw [Nat.zero_add]; exact hx)) hQ
/-- The region: ups is what the early ones hold. -/
theorem wp_region_goes {P : Program} {ops : List Oper} {Q : Exit → Act → World → Prop} {id : Nat} {a : Act} {w : World} (un : List Nat) (S0 : World → Prop) (ups : List (Tmp × Value)) (slots : List Tmp)
    (hm : P.follows .mixedOrders = true) (hu : ups.map (·.1) = slots) (hs : (slots.all fun t => ops.any fun o => o.dst == some t) = true) (hS : S0 w) (hdr : ∀ w, S0 w → S0 w.drew) (h : Goes P .any ops.toArray Q [] un (fillA a ups) S0) : (Code.region id ops.toArray true).wp P Q a w := by
  refine wp_region_any hm (h _ (Array.replicate ops.toArray.size false) a w.drew (by simp) ?_ (fun i hi => by simp at hi) (fun j o ho _ => ?_) ⟨(fill_defers ups a).symm, (fill_size ups a).symm, fun t ht => (fill_off ups t (fun p hp e => ?_) a).symm⟩ (hdr w hS))
  · unfold left
    exact Nat.le_trans (List.length_filter_le _ _) (by simp)
  · have := (Array.getElem?_eq_some_iff.1 ho).1
    rw [Array.getD_eq_getD_getElem?, Array.getElem?_replicate, if_pos this]
    rfl
  · have hmem : t ∈ slots := by rw [← hu, ← e]; exact List.mem_map.2 ⟨p, hp, rfl⟩
    rw [List.all_eq_true] at hs
    have := hs t hmem
    rw [List.any_eq_true] at this
    obtain ⟨o, ho, hb⟩ := this
    obtain ⟨i, hi, hoi⟩ := List.getElem_of_mem ho
    have := ht i o (by rw [List.getElem?_toArray]; exact List.getElem?_eq_some_iff.2 ⟨hi, hoi⟩) (by simpa using hb)
    rw [Array.getD_eq_getD_getElem?, Array.getElem?_replicate] at this
    simp [hi] at this
end Go.Proofs.YtliijchcpooplaaGreat
namespace Go.Proofs.YtliijchcpooplaaGreat
open Go.ChangeShapes Go.WideShapes Go.ChangeAt Go.RowKit
set_option maxRecDepth 20000
set_option linter.unusedVariables false
set_option linter.unusedSimpArgs false

theorem slc_two {l : List Value} (h : l.length = 2) : ∃ x y, l = [x, y] := by
  match l, h with
  | [x, y], _ => exact ⟨x, y, rfl⟩
/-- copy into [2][]int8: one or two slices. -/
theorem copy_data (w : World) (P : Nat) (p : Option Addr) (cap : Nat) (cs : List Value) (sa sb : Value) (ty : TypeId) (hcs : (cs = [sa] ∧ sb = nilS) ∨ cs = [sa, sb]) (hb : (∀ o : Nat, w.cell? ⟨P, o, none⟩ = (#[.slice none 0 0, .slice none 0 0] : Array Value)[o]?)) (hf : (∀ o : Nat, w.frozen? ⟨P, o, none⟩ = false)) (hs : HasCells w (.slice p cs.length cap) cs) (h1 : ∀ u ∈ cs, u.oneCell' = true) :
    (Builtin.copy_ #[30, 30] ty #[.slice (some ⟨P, 0, none⟩) 2 2, .slice p cs.length cap]).run Tryz.prog w = .ok (goInt cs.length) (w.setCells P 0 cs) ∧ (∀ o : Nat, (w.setCells P 0 cs).cell? ⟨P, o, none⟩ = (#[sa, sb] : Array Value)[o]?) ∧
      ((w.setCells P 0 cs).heap.size = w.heap.size ∧ (∀ b o : Nat, b ≠ P → (w.setCells P 0 cs).cell? ⟨b, o, none⟩ = w.cell? ⟨b, o, none⟩) ∧ ∀ a : World, a.heap.size ≤ P → Past a w → Past a (w.setCells P 0 cs)) := by
  have l0 : 0 < cs.length := by rcases hcs with ⟨e, _⟩ | e <;> rw [e] <;> simp
  have l2 : cs.length ≤ 2 := by rcases hcs with ⟨e, _⟩ | e <;> rw [e] <;> simp
  obtain ⟨A, c, e, _, _, _, hc⟩ := hs
  obtain ⟨b, o, e2, hb2, hcell⟩ := hc l0
  simp only [Value.slice.injEq] at e
  obtain ⟨rfl, _, rfl⟩ := e
  subst e2
  refine ⟨run_copy_cells (P := Tryz.prog) w _ _ _ 27 P 0 2 2 ⟨b, o, none⟩ cs.length cap cs Tryz.underlying30 (by kernel_rfl) (show cs.length = min cs.length 2 by omega) (fun j v hv => ?_) (fun j hj => ?_) (fun j hj => ?_) h1, ?_, ?_⟩
  · have hj : j < cs.length := (List.getElem?_eq_some_iff.1 hv).1
    rw [add_plain, hcell j hj]
    simp [List.getD, hv]
  · rw [Nat.zero_add, hb j]
    rcases (show j = 0 ∨ j = 1 by omega) with rfl | rfl <;> rfl
  · exact hf _
  · rcases hcs with ⟨rfl, rfl⟩ | rfl
    · intro o
      match o with
      | 0 => exact World.cell?_setCell_same w _ _ (hb 0)
      | j + 1 =>
        show (w.setCell ⟨P, 0, none⟩ sa).cell? ⟨P, j + 1, none⟩ = _
        rw [World.cell?_setCell_other _ _ _ _ (by simp), hb (j + 1)]
        cases j <;> rfl
    · have c1 : (w.setCell ⟨P, 0, none⟩ sa).cell? ⟨P, 1, none⟩ = some (.slice none 0 0) := by
        rw [World.cell?_setCell_other _ _ _ _ (by simp)]; exact hb 1
      intro o
      match o with
      | 0 =>
        show ((w.setCell ⟨P, 0, none⟩ sa).setCell ⟨P, 1, none⟩ sb).cell? ⟨P, 0, none⟩ = _
        rw [World.cell?_setCell_other _ _ _ _ (by simp)]
        exact World.cell?_setCell_same w _ _ (hb 0)
      | 1 => exact World.cell?_setCell_same _ _ _ c1
      | j + 2 =>
        show ((w.setCell ⟨P, 0, none⟩ sa).setCell ⟨P, 1, none⟩ sb).cell? ⟨P, j + 2, none⟩ = _
        rw [World.cell?_setCell_other _ _ _ _ (by simp), World.cell?_setCell_other _ _ _ _ (by simp), hb (j + 2)]
        rfl
  · rcases hcs with ⟨rfl, rfl⟩ | rfl
    · refine ⟨by simp [World.setCells], fun b o hb => World.cell?_setCell_other _ _ _ _ (fun e => hb (congrArg Addr.block e).symm), fun a ha g => g.setCell ha _⟩
    · refine ⟨by simp [World.setCells], fun b o hb => ?_, fun a ha g => (g.setCell ha _).setCell ha _⟩
      show ((w.setCell ⟨P, 0, none⟩ sa).setCell ⟨P, 1, none⟩ sb).cell? ⟨b, o, none⟩ = _
      rw [World.cell?_setCell_other _ _ _ _ (fun e => hb (congrArg Addr.block e).symm), World.cell?_setCell_other _ _ _ _ (fun e => hb (congrArg Addr.block e).symm)]

theorem kall_any (n : NodeD) (vi vw vb lv : Value) (vs : List ValD) (ds : List (List Int)) (sa sb : Value) (W : World) (h : valueE n vs = 0) (hf : ∀ j, j < vs.length → Fits (vs.getD j default) (ds.getD j [])) (hz : ∀ j, j < vs.length → -128 ≤ (vs.getD j default).z ∧ (vs.getD j default).z ≤ 127)
    (hin : NodeIn W n vi vw vb) (hl : IsVals W lv vs) (na : IsNums .i8 W sa (ds.getD 0 [])) (nb : vs.length = 2 → IsNums .i8 W sb (ds.getD 1 [])) :
    Calls Tryz.prog 26 #[.agg #[.int .i64 n.op, vi, .int .i64 n.k, .int .i64 n.stride, .int .i64 n.pad, .int .i64 n.out, .int .i64 n.mul, .int .i64 n.shift, .int .i64 n.zero, .int .i64 n.th, .int .i64 n.tw, .int .i64 n.tc, vw, vb], lv, .agg #[sa, sb]] W fun e w' => ∃ v, e = .returned (.tuple #[v, .int .i64 0]) ∧ Own8 w' W.heap.size v (kernL n vs ds) ∧ Past W w' := by
  have mk := make_ok h hf hz
  rcases vals_len h with ⟨ho, l⟩ | ⟨ho, l⟩
  · have hb : vwB vs ds = vwOf (vs.getD 1 default) (ds.getD 1 []) := by unfold vwB; rw [if_pos l]
    unfold kernL
    rw [hb] at mk ⊢
    exact All_2 n vi vw vb lv _ _ _ sa sb vs W mk l hin hl na (nb l)
  · have hb : vwB vs ds = ⟨⟨0, 0, 0, 0⟩, 0, 0, []⟩ := by unfold vwB; rw [if_neg (by omega)]; rfl
    unfold kernL
    rw [hb] at mk ⊢
    exact All_1 n vi vw vb lv _ _ sa sb vs W mk l hin hl na

set_option maxHeartbeats 8000000 in
theorem eall_ok (g : GraphD) (gv iv : Value) (us : List Value) (ins : List (List Int)) (W : World) (hg : IsGraph W gv g) (hc : Cut g) (hi : HasCells W iv us) (hn : AreNums W us ins) (h0 : valuesE g = 0) (hf : fitsP g.ins ins) :
    Calls Tryz.prog 13 #[gv, iv] W fun e w' => ∃ v, e = .returned (.tuple #[v, .int .i64 0]) ∧ OwnRows w' W.heap.size v (evalL g ins) ∧ Past W w' := by
  have VA := Lib.hid (values_any g gv W hg hc)
  have HG := Lib.hid hg
  obtain ⟨nv1, nv2, nv3, rfl, hi1, hn1, ho1⟩ := hg
  obtain ⟨A1, c1, rfl, i1, i2, _, _, _⟩ := hi1
  obtain ⟨A2, c2, rfl, n1, n2, _, nw, n5⟩ := hn1
  obtain ⟨A3, c3, rfl, o1, o2, _, _, _⟩ := ho1
  have hbk := begins_ok (values_ok h0).1
  have H0 := Lib.hid h0
  have HC := Lib.hid hc
  have HF := Lib.hid hf
  have HN := Lib.hid hn
  have HI := Lib.hid hi
  have N5 := Lib.hid n5
  obtain ⟨hb1, hb2, hb3⟩ := hbk
  have k1 : g.ins.length ≤ 4 := hb1.2.1
  have k2 : g.nodes.length ≤ 12 := hb1.2.2.1
  have HL := Lib.hid (makes_facts h0).1
  have HSZ : Hid (∀ j, j < ins.length → 0 < (ins.getD j []).length ∧ (ins.getD j []).length ≤ 100000) := Lib.hid (fun j hj => by
    have e := hf.2 j (by rw [← hf.1]; exact hj)
    have s := idx_lt_size (hb2 j (by rw [← hf.1]; exact hj))
    omega)
  have FT := Lib.hid (ins_fits h0 hf hn.bytes)
  have hil : ins.length ≤ 1000 := by rw [hf.1]; omega
  obtain ⟨i0, hi0, hz0, hz1, hz2⟩ := info_parts infoS8
  have I1 := Lib.hid hi0
  have I2 := Lib.hid hz0
  have I3 := Lib.hid hz1
  have I4 := Lib.hid hz2
  have e1 : ((0 : Int) != 0) = false := by decide
  have VG : Hid (∀ w, Past W w → Calls Tryz.prog 23 #[.agg #[.slice A1 g.ins.length c1, .slice A2 g.nodes.length c2, .slice A3 g.outs.length c3]] w fun e w' => ∃ v, e = .returned (.tuple #[v, .int .i64 0]) ∧ IsVals w' v (valuesL g) ∧ Past w w') := Lib.hid (fun w p => by
    have := values_any g _ w (HG.out.grow p) HC.out
    unfold ValuesPost at this
    rw [H0.out] at this
    exact this)
  have EQ := Lib.hid (fun (w : World) (p : Past W w) => by
    have := HG.out.grow p
    obtain ⟨a1, a2, a3, ea, hia, _, _⟩ := this
    simp only [Value.agg.injEq, Array.mk.injEq, List.cons.injEq, and_true] at ea
    obtain ⟨rfl, _, _⟩ := ea
    exact equalF_any _ iv g.ins us ins true w hia (HI.out.grow p) (HN.out.grow p) ⟨fun _ => HF.out, fun _ => rfl⟩)
  have CP := Lib.hid (fun (w : World) (p : Past W w) => copies_any iv us ins w (HI.out.grow p) (HN.out.grow p) HSZ.out hil)
  have m2 : g.nodes.length ≤ 9223372036854775807 := by omega
  clear hi0 hz0 hz1 hz2 h0 hf hn hi hc n5 nw hb1 hb2 hb3 i1 i2 n1 n2 o1 o2 VA
  go_enter Tryz.func13, Tryz.ntmps13
  go_upto_region 1 with fail
  refine opq (fun w' => (∀ o : Nat, w'.cell? ⟨W.heap.size, o, none⟩ = (#[.slice A1 g.ins.length c1, .slice A2 g.nodes.length c2, .slice A3 g.outs.length c3] : Array Value)[o]?) ∧ Past W w' ∧ W.heap.size + 1 ≤ w'.heap.size) kKeep ?_
  rintro w1 ⟨b1, p1, z1⟩
  go_wp2_with fail
  refine (VG.out _ p1).mono ?_
  rintro e w2 ⟨v, rfl, hv, p2⟩
  have HV := Lib.hid hv
  obtain ⟨Av, cv, rfl, _⟩ := hv
  have b2 := box_past p2 b1 (by omega)
  have q2 := p1.trans p2
  have z2 : W.heap.size + 1 ≤ w2.heap.size := by have := p2.2.2.1; omega
  clear b1 p1 z1 p2
  go_wp2_with fail
  refine (EQ.out _ q2).mono ?_
  rintro e w3 ⟨rfl, p3⟩
  have b3 := box_past p3 b2 (by omega)
  have q3 := q2.trans p3
  have HV3 := Lib.hid (HV.out.grow p3)
  have z3 : W.heap.size + 1 ≤ w3.heap.size := by have := p3.2.2.1; omega
  clear b2 q2 z2 p3 HV
  go_wp2_with fail
  refine (CP.out _ q3).mono ?_
  rintro e w4 ⟨a, rfl, ⟨ws, oc, oa⟩, p4⟩
  have OC := Lib.hid oc
  have OA := Lib.hid oa
  have b4 := box_past p4 b3 (by omega)
  clear oc oa VG EQ CP
  go_wp2_with fail
  go_loopw [8, 32] (fun v i wr => ∃ (k : Nat) (ws : List Value) (ds : List (List Int)), k ≤ g.nodes.length ∧ i = .int .i64 k ∧ Hid (OwnCells wr w3.heap.size v ws) ∧ Hid (AreOwn wr w3.heap.size ws ds) ∧ Hid (FitsTo (valuesL g) (g.ins.length + k) ds) ∧ Hid (goE (valuesL g) (g.nodes.drop k) ds = evalL g ins) ∧ Past w3 wr) (fun _ i _ => g.nodes.length - (intOf i).toNat)
  case atStart => exact ⟨0, ws, ins, by omega, rfl, OC, OA, FT, Lib.hid (by unfold evalL; rw [List.drop_zero]), p4⟩
  case round =>
    clear OC OA b4 p4 FT e1
    obtain ⟨k, ws, ds, hk, rfl, oc, oa, ft, hgo, p5⟩ := hrel
    have b5 := box_past p5 b3 (by omega)
    have hv5 := Lib.hid (HV3.out.grow p5)
    have q5 := q3.trans p5
    have z5 : W.heap.size + 1 ≤ wr.heap.size := by have := p5.2.2.1; omega
    by_cases h : k < g.nodes.length
    · obtain ⟨nb, no, rfl, hnb, hnc⟩ := N5.out (by omega)
      obtain ⟨vi, vw, vb, hin, hcell⟩ := (hnc k h).grow hnb q5
      have NOK := Lib.hid (node_ok H0.out h)
      have NFT := Lib.hid (node_fits H0.out h ft.out)
      have NAT := Lib.hid (fun (j : Nat) hj => node_at NOK.out h HL.out (j := j) hj)
      have STEP := Lib.hid (step_fits H0.out h ft.out)
      obtain ⟨n, hnk⟩ : ∃ n, g.nodes.getD k default = n := ⟨_, rfl⟩
      rw [hnk] at hin hcell NFT NAT STEP
      have NV := NOK.out.value
      rw [hnk] at NV
      have mem : n ∈ g.nodes := by rw [← hnk]; simp [List.getD, h]
      have HCN := HC.out.2 n mem
      have IN := Lib.hid hin
      have HW : Hid (Bytes n.ws) := Lib.hid (fun x hx => by
        obtain ⟨_, _, _, _, _, _, wf, _⟩ := hin.2.1
        have := wf x hx
        simp [Lit.wf, IntKind.min, IntKind.max, IntKind.bits, IntKind.signed] at this
        omega)
      obtain ⟨Ai, ci, rfl, f1, f2, _, _, _⟩ := hin.1
      obtain ⟨Aw, cw, rfl, f3, f4, _, _, _⟩ := hin.2.1
      obtain ⟨Ab, cb, rfl, f5, f6, _, _, _⟩ := hin.2.2
      have x0 := hcell 0 (by omega)
      have x1 := hcell 1 (by omega)
      have x2 := hcell 2 (by omega)
      have x3 := hcell 3 (by omega)
      have x4 := hcell 4 (by omega)
      have x5 := hcell 5 (by omega)
      have x6 := hcell 6 (by omega)
      have x7 := hcell 7 (by omega)
      have x8 := hcell 8 (by omega)
      have x9 := hcell 9 (by omega)
      have x10 := hcell 10 (by omega)
      have x11 := hcell 11 (by omega)
      have x12 := hcell 12 (by omega)
      have x13 := hcell 13 (by omega)
      simp only [nodeCells, List.getElem?_cons_zero, List.getElem?_cons_succ, Nat.add_zero] at x0 x1 x2 x3 x4 x5 x6 x7 x8 x9 x10 x11 x12 x13
      have AN := oa.out.nums ft.out.bytes
      have HWL : ws.length = g.ins.length + k := oa.out.1.trans ft.out.1
      have INP : inP ws.length n.ins := fun j hj => by rw [HWL]; exact NAT.out j hj
      have INV : inP (valuesL g).length n.ins := fun j hj => by
        have := NAT.out j hj
        rw [HL.out]; omega
      have LNI : n.ins.length = 1 ∨ n.ins.length = 2 := by
        rcases vals_len NV with ⟨_, l⟩ | ⟨_, l⟩
        · rw [namedL_len] at l; exact .inr l
        · rw [namedL_len] at l; exact .inl l
      obtain ⟨cs, hcs⟩ : ∃ cs, namedU ws n.ins = cs := ⟨_, rfl⟩
      have LCS : cs.length = n.ins.length := by rw [← hcs]; simp [namedU]
      obtain ⟨sa, sb, SAB⟩ : ∃ sa sb, (cs = [sa] ∧ sb = nilS) ∨ cs = [sa, sb] := by
        rcases LNI with l | l
        · obtain ⟨x, hx⟩ := List.length_eq_one_iff.1 (LCS.trans l)
          exact ⟨x, nilS, .inl ⟨hx, rfl⟩⟩
        · obtain ⟨x, y, hx⟩ := slc_two (LCS.trans l)
          exact ⟨x, y, .inr hx⟩
      have NU := namedU_nums AN INP
      rw [hcs] at NU
      have ONE := NU.one
      have N8 := Lib.hid (fun (w : World) (p : Past wr w) => by
        have := named8_any _ _ ws n.ins w (oc.out.has.grow p) AN.slices (IN.out.1.grow (p)) INP HCN.1
        rw [hcs] at this
        exact this)
      have N9 := Lib.hid (fun (w : World) (p : Past wr w) => namedV_any _ _ (valuesL g) n.ins w (hv5.out.grow p) (IN.out.1.grow p) INV HCN.1)
      have NA : Hid (IsNums .i8 wr sa ((namedR ds n.ins).getD 0 [])) := Lib.hid (by
        have := NU.2 0 (by rw [← NU.1, LCS]; omega)
        rcases SAB with ⟨e, _⟩ | e <;> rw [e] at this <;> exact this)
      have NB : Hid ((namedL (valuesL g) n.ins).length = 2 → IsNums .i8 wr sb ((namedR ds n.ins).getD 1 [])) := Lib.hid (fun l => by
        rw [namedL_len] at l
        have := NU.2 1 (by rw [← NU.1, LCS]; omega)
        rcases SAB with ⟨e, _⟩ | e
        · rw [e] at LCS; simp at LCS; omega
        · rw [e] at this; exact this)
      have KA := Lib.hid (fun (lv : Value) (w : World) (p : Past wr w) (hl : IsVals w lv (namedL (valuesL g) n.ins)) => kall_any n _ _ _ lv (namedL (valuesL g) n.ins) (namedR ds n.ins) sa sb w NV NFT.out.1 NFT.out.2 (IN.out.grow p) hl (NA.out.grow p) (fun l => (NB.out l).grow p))
      have LSA : sa.oneCell' = true := ONE sa (by rcases SAB with ⟨e, _⟩ | e <;> rw [e] <;> simp)
      have KF : Hid (Fits (valueV n (namedL (valuesL g) n.ins)) (kernL n (namedL (valuesL g) n.ins) (namedR ds n.ins))) := Lib.hid (kern_fits NV NFT.out.1 NFT.out.2 HW.out)
      obtain ⟨LR, hLR⟩ : ∃ LR, kernL n (namedL (valuesL g) n.ins) (namedR ds n.ins) = LR := ⟨_, rfl⟩
      have GO : Hid (goE (valuesL g) (g.nodes.drop (k + 1)) (ds ++ [LR]) = evalL g ins) := Lib.hid (by
        have := hgo.out
        rw [drop_cons _ _ h, hnk] at this
        rw [← this, ← hLR]
        rfl)
      have ST := Lib.hid (STEP.out HW.out)
      rw [hLR] at KA ST KF
      have CSL := Lib.hid LCS
      have HSAB := Lib.hid SAB
      have HONE := Lib.hid ONE
      have OCH := Lib.hid oc.out
      have OAH := Lib.hid oa.out
      have HWL2 := Lib.hid HWL
      have i1 : (0 : Int) ≤ (k : Int) := by omega
      have i2 : (k : Int) < (g.nodes.length : Int) := by omega
      have cd : cs.length ≤ 2 := by omega
      obtain ⟨P8, hP⟩ : ∃ P8, wr.heap.size = P8 := ⟨_, rfl⟩
      have q8 : W.heap.size + 1 ≤ P8 := by omega
      have s8 : w3.heap.size ≤ P8 := by rw [← hP]; exact p5.2.2.1
      obtain ⟨Av', cv', rfl⟩ : ∃ A c, u8 = .slice A ws.length c := by
        obtain ⟨A, c, e, _⟩ := own_slice' oc.out
        exact ⟨A, c, e⟩
      clear hin hnk mem hcell hnc f1 f2 f3 f4 f5 f6 NOK NFT NAT STEP NV HCN AN INP INV LNI hcs NU ONE NA NB hLR SAB LCS oc oa hgo ft HW HWL
      go_upto_region 11 with fail
      refine opq (fun w' => (∀ o : Nat, w'.cell? ⟨P8, o, none⟩ = (#[.int .i64 n.op, (.slice Ai n.ins.length ci), .int .i64 n.k, .int .i64 n.stride, .int .i64 n.pad, .int .i64 n.out, .int .i64 n.mul, .int .i64 n.shift, .int .i64 n.zero, .int .i64 n.th, .int .i64 n.tw, .int .i64 n.tc, (.slice Aw n.ws.length cw), (.slice Ab n.bs.length cb)] : Array Value)[o]?) ∧ (∀ o : Nat, w'.cell? ⟨P8 + 1, o, none⟩ = (#[.slice none 0 0, .slice none 0 0] : Array Value)[o]?) ∧ (∀ o : Nat, w'.frozen? ⟨P8 + 1, o, none⟩ = false) ∧ Past wr w' ∧ P8 + 2 ≤ w'.heap.size) (by subst hP; (exact kKeep)) ?_
      rintro w6 ⟨b6, d6, fr6, p6, z6⟩
      clear x0 x1 x2 x3 x4 x5 x6 x7 x8 x9 x10 x11 x12 x13
      refine wp_region_goes [4, 5] (fun w' => (∀ o : Nat, w'.cell? ⟨P8, o, none⟩ = (#[.int .i64 n.op, (.slice Ai n.ins.length ci), .int .i64 n.k, .int .i64 n.stride, .int .i64 n.pad, .int .i64 n.out, .int .i64 n.mul, .int .i64 n.shift, .int .i64 n.zero, .int .i64 n.th, .int .i64 n.tw, .int .i64 n.tc, (.slice Aw n.ws.length cw), (.slice Ab n.bs.length cb)] : Array Value)[o]?) ∧ (∀ o : Nat, w'.cell? ⟨P8 + 1, o, none⟩ = (#[.slice none 0 0, .slice none 0 0] : Array Value)[o]?) ∧ (∀ o : Nat, w'.frozen? ⟨P8 + 1, o, none⟩ = false) ∧ Past wr w' ∧ P8 + 2 ≤ w'.heap.size) [(36, ?vg36), (37, ?vg37), (38, ?vg38), (39, ?vg39)] [36, 37, 38, 39] (by kernel_rfl) rfl (by kernel_rfl) ⟨b6, d6, fr6, p6, z6⟩ (fun w h => h) ?ngs
      case ngs =>
        refine goes_step (α := Option Addr × Nat) [] [5] 4 40 [4, 5] (fun p => .slice p.1 cs.length p.2) (fun w' => (∀ o : Nat, w'.cell? ⟨P8, o, none⟩ = (#[.int .i64 n.op, (.slice Ai n.ins.length ci), .int .i64 n.k, .int .i64 n.stride, .int .i64 n.pad, .int .i64 n.out, .int .i64 n.mul, .int .i64 n.shift, .int .i64 n.zero, .int .i64 n.th, .int .i64 n.tw, .int .i64 n.tc, (.slice Aw n.ws.length cw), (.slice Ab n.bs.length cb)] : Array Value)[o]?) ∧ (∀ o : Nat, w'.cell? ⟨P8 + 1, o, none⟩ = (#[.slice none 0 0, .slice none 0 0] : Array Value)[o]?) ∧ (∀ o : Nat, w'.frozen? ⟨P8 + 1, o, none⟩ = false) ∧ Past wr w' ∧ P8 + 2 ≤ w'.heap.size) (fun p w' => (∀ o : Nat, w'.cell? ⟨P8, o, none⟩ = (#[.int .i64 n.op, (.slice Ai n.ins.length ci), .int .i64 n.k, .int .i64 n.stride, .int .i64 n.pad, .int .i64 n.out, .int .i64 n.mul, .int .i64 n.shift, .int .i64 n.zero, .int .i64 n.th, .int .i64 n.tw, .int .i64 n.tc, (.slice Aw n.ws.length cw), (.slice Ab n.bs.length cb)] : Array Value)[o]?) ∧ (∀ o : Nat, w'.cell? ⟨P8 + 1, o, none⟩ = (#[.slice none 0 0, .slice none 0 0] : Array Value)[o]?) ∧ (∀ o : Nat, w'.frozen? ⟨P8 + 1, o, none⟩ = false) ∧ Past wr w' ∧ P8 + 2 ≤ w'.heap.size ∧ Hid (HasCells w' (.slice p.1 cs.length p.2) cs)) (fun p => []) [] (by kernel_rfl) (by kernel_rfl) (fun _ => rfl) ?hg0 ?eg0 ?cg0 (fun p => ?_)
        case hg0 =>
          first | (simp; done) | (rw [fill_size]; simp; done) | (rw [fill_size, fill_size]; simp; done) | (simp [fillA, Act.put]; done)
        case eg0 =>
          simp only [fillA, Act.put, List.setIfInBounds_toArray, List.set_cons_zero, List.set_cons_succ]
          (iterate 6 (first | refine owesb_skip rfl ?_ | (refine owesb_cons (fun w hw K hK => ?_) ?_; focus ((have hS := Lib.hid hw); go_split_ands; go_simp; (try simp only [fillA, Act.put, List.setIfInBounds_toArray, List.set_cons_zero, List.set_cons_succ]); exact hK _ hS.out))))
          exact True.intro
        case cg0 =>
          simp only [fillA, Act.put, List.setIfInBounds_toArray, List.set_cons_zero, List.set_cons_succ]
          refine ⟨_, rfl, fun w hw K hK => ?_⟩
          obtain ⟨b6w, d6w, fr6w, p6w, z6w⟩ := hw
          go_simp
          refine (N8.out w p6w).mono ?_
          rintro e wz ⟨vz, rfl, oz, pz⟩
          obtain ⟨Az, cz, rfl, _⟩ := own_slice' oz
          exact hK (Az, cz) _ ⟨box_past pz b6w (by omega), box_past pz d6w (by omega), free_past pz fr6w (by omega), p6w.trans pz, size_past pz z6w, Lib.hid oz.has⟩
        refine goes_step (α := Unit) [4] [] 5 41 [5] (fun q => .int .i64 cs.length) (fun w' => (∀ o : Nat, w'.cell? ⟨P8, o, none⟩ = (#[.int .i64 n.op, (.slice Ai n.ins.length ci), .int .i64 n.k, .int .i64 n.stride, .int .i64 n.pad, .int .i64 n.out, .int .i64 n.mul, .int .i64 n.shift, .int .i64 n.zero, .int .i64 n.th, .int .i64 n.tw, .int .i64 n.tc, (.slice Aw n.ws.length cw), (.slice Ab n.bs.length cb)] : Array Value)[o]?) ∧ (∀ o : Nat, w'.cell? ⟨P8 + 1, o, none⟩ = (#[.slice none 0 0, .slice none 0 0] : Array Value)[o]?) ∧ (∀ o : Nat, w'.frozen? ⟨P8 + 1, o, none⟩ = false) ∧ Past wr w' ∧ P8 + 2 ≤ w'.heap.size ∧ Hid (HasCells w' (.slice p.1 cs.length p.2) cs)) (fun q w' => (∀ o : Nat, w'.cell? ⟨P8, o, none⟩ = (#[.int .i64 n.op, (.slice Ai n.ins.length ci), .int .i64 n.k, .int .i64 n.stride, .int .i64 n.pad, .int .i64 n.out, .int .i64 n.mul, .int .i64 n.shift, .int .i64 n.zero, .int .i64 n.th, .int .i64 n.tw, .int .i64 n.tc, (.slice Aw n.ws.length cw), (.slice Ab n.bs.length cb)] : Array Value)[o]?) ∧ (∀ o : Nat, w'.cell? ⟨P8 + 1, o, none⟩ = (#[sa, sb] : Array Value)[o]?) ∧ Past wr w' ∧ P8 + 2 ≤ w'.heap.size) (fun q => []) [] (by kernel_rfl) (by kernel_rfl) (fun _ => rfl) ?hg1 ?eg1 ?cg1 (fun q => ?_)
        case hg1 =>
          first | (simp; done) | (rw [fill_size]; simp; done) | (rw [fill_size, fill_size]; simp; done) | (simp [fillA, Act.put]; done)
        case eg1 =>
          simp only [fillA, Act.put, List.setIfInBounds_toArray, List.set_cons_zero, List.set_cons_succ]
          (iterate 6 (first | refine owesb_skip rfl ?_ | (refine owesb_cons (fun w hw K hK => ?_) ?_; focus ((have hS := Lib.hid hw); go_split_ands; go_simp; (try simp only [fillA, Act.put, List.setIfInBounds_toArray, List.set_cons_zero, List.set_cons_succ]); exact hK _ hS.out))))
          exact True.intro
        case cg1 =>
          simp only [fillA, Act.put, List.setIfInBounds_toArray, List.set_cons_zero, List.set_cons_succ]
          refine ⟨_, rfl, fun w hw K hK => ?_⟩
          obtain ⟨b6w, d6w, fr6w, p6w, z6w, hcw⟩ := hw
          obtain ⟨hrun, dz, kz⟩ := copy_data w (P8 + 1) p.1 p.2 cs sa sb 3 HSAB.out d6w fr6w hcw.out HONE.out
          obtain ⟨wz, hwz⟩ : ∃ wz, w.setCells (P8 + 1) 0 cs = wz := ⟨_, rfl⟩
          rw [hwz] at hrun dz kz
          have bz : (∀ o : Nat, wz.cell? ⟨P8, o, none⟩ = (#[.int .i64 n.op, (.slice Ai n.ins.length ci), .int .i64 n.k, .int .i64 n.stride, .int .i64 n.pad, .int .i64 n.out, .int .i64 n.mul, .int .i64 n.shift, .int .i64 n.zero, .int .i64 n.th, .int .i64 n.tw, .int .i64 n.tc, (.slice Aw n.ws.length cw), (.slice Ab n.bs.length cb)] : Array Value)[o]?) := fun o => (kz.2.1 P8 o (by omega)).trans (b6w o)
          have pz : Past wr wz := kz.2.2 wr (by omega) p6w
          have zz : P8 + 2 ≤ wz.heap.size := by have := kz.1; omega
          clear b6w d6w fr6w p6w z6w hcw kz hwz
          go_simp
          try simp only [hrun]
          exact hK () _ ⟨bz, dz, pz, zz⟩
        refine goes_end [5, 4] (by kernel_rfl) ?egz ?_
        case egz =>
          simp only [fillA, Act.put, List.setIfInBounds_toArray, List.set_cons_zero, List.set_cons_succ]
          (iterate 6 (first | refine owesb_skip rfl ?_ | (refine owesb_cons (fun w hw K hK => ?_) ?_; focus ((have hS := Lib.hid hw); go_split_ands; go_simp; (try simp only [fillA, Act.put, List.setIfInBounds_toArray, List.set_cons_zero, List.set_cons_succ]); exact hK _ hS.out))))
          exact True.intro
        rintro w7 ⟨b7, d7, p7, z7⟩
        simp only [fillA, Act.put, List.setIfInBounds_toArray, List.set_cons_zero, List.set_cons_succ]
        clear b6 d6 fr6 p6 z6 N8
        go_upto_region 12 with fail
        refine wp_region_goes [4, 6, 7, 8, 9, 10, 11] (fun w' => (∀ o : Nat, w'.cell? ⟨P8, o, none⟩ = (#[.int .i64 n.op, (.slice Ai n.ins.length ci), .int .i64 n.k, .int .i64 n.stride, .int .i64 n.pad, .int .i64 n.out, .int .i64 n.mul, .int .i64 n.shift, .int .i64 n.zero, .int .i64 n.th, .int .i64 n.tw, .int .i64 n.tc, (.slice Aw n.ws.length cw), (.slice Ab n.bs.length cb)] : Array Value)[o]?) ∧ (∀ o : Nat, w'.cell? ⟨P8 + 1, o, none⟩ = (#[sa, sb] : Array Value)[o]?) ∧ Past wr w' ∧ P8 + 2 ≤ w'.heap.size) [(43, ?vh43), (44, ?vh44), (45, ?vh45), (46, ?vh46), (48, ?vh48)] [43, 44, 45, 46, 48] (by kernel_rfl) rfl (by kernel_rfl) ⟨b7, d7, p7, z7⟩ (fun w h => h) ?nhs
        case nhs =>
          refine goes_step (α := Option Addr × Nat) [] [6, 7, 8, 9, 10, 11] 4 47 [4, 6, 7, 8, 9, 10, 11] (fun r => .slice r.1 n.ins.length r.2) (fun w' => (∀ o : Nat, w'.cell? ⟨P8, o, none⟩ = (#[.int .i64 n.op, (.slice Ai n.ins.length ci), .int .i64 n.k, .int .i64 n.stride, .int .i64 n.pad, .int .i64 n.out, .int .i64 n.mul, .int .i64 n.shift, .int .i64 n.zero, .int .i64 n.th, .int .i64 n.tw, .int .i64 n.tc, (.slice Aw n.ws.length cw), (.slice Ab n.bs.length cb)] : Array Value)[o]?) ∧ (∀ o : Nat, w'.cell? ⟨P8 + 1, o, none⟩ = (#[sa, sb] : Array Value)[o]?) ∧ Past wr w' ∧ P8 + 2 ≤ w'.heap.size) (fun r w' => (∀ o : Nat, w'.cell? ⟨P8, o, none⟩ = (#[.int .i64 n.op, (.slice Ai n.ins.length ci), .int .i64 n.k, .int .i64 n.stride, .int .i64 n.pad, .int .i64 n.out, .int .i64 n.mul, .int .i64 n.shift, .int .i64 n.zero, .int .i64 n.th, .int .i64 n.tw, .int .i64 n.tc, (.slice Aw n.ws.length cw), (.slice Ab n.bs.length cb)] : Array Value)[o]?) ∧ (∀ o : Nat, w'.cell? ⟨P8 + 1, o, none⟩ = (#[sa, sb] : Array Value)[o]?) ∧ Past wr w' ∧ P8 + 2 ≤ w'.heap.size ∧ Hid (IsVals w' (.slice r.1 n.ins.length r.2) (namedL (valuesL g) n.ins))) (fun r => []) [] (by kernel_rfl) (by kernel_rfl) (fun _ => rfl) ?hh0 ?eh0 ?ch0 (fun r => ?_)
          case hh0 =>
            first | (simp; done) | (rw [fill_size]; simp; done) | (rw [fill_size, fill_size]; simp; done) | (simp [fillA, Act.put]; done)
          case eh0 =>
            simp only [fillA, Act.put, List.setIfInBounds_toArray, List.set_cons_zero, List.set_cons_succ]
            (iterate 12 (first | refine owesb_skip rfl ?_ | (refine owesb_cons (fun w hw K hK => ?_) ?_; focus ((have hS := Lib.hid hw); go_split_ands; go_simp; (try simp only [fillA, Act.put, List.setIfInBounds_toArray, List.set_cons_zero, List.set_cons_succ]); exact hK _ hS.out))))
            exact True.intro
          case ch0 =>
            simp only [fillA, Act.put, List.setIfInBounds_toArray, List.set_cons_zero, List.set_cons_succ]
            refine ⟨_, rfl, fun w hw K hK => ?_⟩
            obtain ⟨b6w, d6w, p6w, z6w⟩ := hw
            go_simp
            refine (N9.out w p6w).mono ?_
            rintro e wz ⟨vz, rfl, oz, pz⟩
            have OZ := Lib.hid oz
            obtain ⟨Az, cz, rfl, _⟩ := oz
            rw [namedL_len] at OZ ⊢
            exact hK (Az, cz) _ ⟨box_past pz b6w (by omega), box_past pz d6w (by omega), p6w.trans pz, size_past pz z6w, OZ⟩
          refine goes_step (α := Option Addr × Nat) [4] [] 6 49 [6, 7, 8, 9, 10, 11] (fun s => .tuple #[.slice s.1 LR.length s.2, .int .i64 0]) (fun w' => (∀ o : Nat, w'.cell? ⟨P8, o, none⟩ = (#[.int .i64 n.op, (.slice Ai n.ins.length ci), .int .i64 n.k, .int .i64 n.stride, .int .i64 n.pad, .int .i64 n.out, .int .i64 n.mul, .int .i64 n.shift, .int .i64 n.zero, .int .i64 n.th, .int .i64 n.tw, .int .i64 n.tc, (.slice Aw n.ws.length cw), (.slice Ab n.bs.length cb)] : Array Value)[o]?) ∧ (∀ o : Nat, w'.cell? ⟨P8 + 1, o, none⟩ = (#[sa, sb] : Array Value)[o]?) ∧ Past wr w' ∧ P8 + 2 ≤ w'.heap.size ∧ Hid (IsVals w' (.slice r.1 n.ins.length r.2) (namedL (valuesL g) n.ins))) (fun s w' => (∀ o : Nat, w'.cell? ⟨P8, o, none⟩ = (#[.int .i64 n.op, (.slice Ai n.ins.length ci), .int .i64 n.k, .int .i64 n.stride, .int .i64 n.pad, .int .i64 n.out, .int .i64 n.mul, .int .i64 n.shift, .int .i64 n.zero, .int .i64 n.th, .int .i64 n.tw, .int .i64 n.tc, (.slice Aw n.ws.length cw), (.slice Ab n.bs.length cb)] : Array Value)[o]?) ∧ (∀ o : Nat, w'.cell? ⟨P8 + 1, o, none⟩ = (#[sa, sb] : Array Value)[o]?) ∧ Past wr w' ∧ P8 + 2 ≤ w'.heap.size ∧ Hid (Own8 w' P8 (.slice s.1 LR.length s.2) LR)) (fun s => [(42, .tuple #[.slice s.1 LR.length s.2, .int .i64 0]), (50, .slice s.1 LR.length s.2), (51, .int .i64 0), (12, .slice s.1 LR.length s.2), (13, .int .i64 0)]) [42, 50, 51, 12, 13] (by kernel_rfl) (by kernel_rfl) (fun _ => rfl) ?hh1 ?eh1 ?ch1 (fun s => ?_)
          case hh1 =>
            first | (simp; done) | (rw [fill_size]; simp; done) | (rw [fill_size, fill_size]; simp; done) | (simp [fillA, Act.put]; done)
          case eh1 =>
            simp only [fillA, Act.put, List.setIfInBounds_toArray, List.set_cons_zero, List.set_cons_succ]
            (iterate 12 (first | refine owesb_skip rfl ?_ | (refine owesb_cons (fun w hw K hK => ?_) ?_; focus ((have hS := Lib.hid hw); go_split_ands; go_simp; (try simp only [fillA, Act.put, List.setIfInBounds_toArray, List.set_cons_zero, List.set_cons_succ]); exact hK _ hS.out))))
            exact True.intro
          case ch1 =>
            simp only [fillA, Act.put, List.setIfInBounds_toArray, List.set_cons_zero, List.set_cons_succ]
            refine ⟨_, rfl, fun w hw K hK => ?_⟩
            obtain ⟨b6w, d6w, p6w, z6w, ozw⟩ := hw
            go_simp
            refine (KA.out _ w p6w ozw.out).mono ?_
            rintro e wz ⟨vz, rfl, oz, pz⟩
            obtain ⟨Az, cz, rfl, _⟩ := own_slice' oz
            exact hK (Az, cz) _ ⟨box_past pz b6w (by omega), box_past pz d6w (by omega), p6w.trans pz, size_past pz z6w, Lib.hid (own8_base oz (by omega))⟩
          refine goes_end [6, 4] (by kernel_rfl) ?ehz ?_
          case ehz =>
            simp only [fillA, Act.put, List.setIfInBounds_toArray, List.set_cons_zero, List.set_cons_succ]
            (iterate 12 (first | refine owesb_skip rfl ?_ | (refine owesb_cons (fun w hw K hK => ?_) ?_; focus ((have hS := Lib.hid hw); go_split_ands; go_simp; (try simp only [fillA, Act.put, List.setIfInBounds_toArray, List.set_cons_zero, List.set_cons_succ]); exact hK _ hS.out))))
            exact True.intro
          rintro w8 ⟨b6w, d6w, p8, z8, o8⟩
          simp only [fillA, Act.put, List.setIfInBounds_toArray, List.set_cons_zero, List.set_cons_succ]
          clear b7 d7 p7 z7 N9 KA b6w d6w
          have e2 : ((0 : Int) != 0) = false := by decide
          have OC8 := Lib.hid (OCH.out.past p8)
          have OA8 := Lib.hid (OAH.out.past p8)
          have HLT := Lib.hid (World.ownsRow.lt OC8.out)
          have q8' := p5.trans p8
          have b8 := box_past p8 b5 (by omega)
          have s3 : w3.heap.size ≤ w8.heap.size := q8'.2.2.1
          clear hv5 OCH OAH b5 q5 p8
          go_wp2_with (at_builtin; refine wpList_append_own _ rfl (.tmp 55) (.tmp 57) 30 rfl w3.heap.size 27 i0 _ 1 24 Tryz.underlying30 I1.out I2.out I3.out I4.out rfl (by decide) _ _ _ rfl (World.ownsRow.alloc OC8.out _) ⟨w8.heap.size, 0, none⟩ 1 1 [.slice s.1 LR.length s.2] rfl rfl (fun j u hu => cells_new1 w8 _ 27 j u hu) (fun u hu => by simp only [List.mem_singleton] at hu; subst hu; rfl) ?c4 ?c5 ?c6 ?_)
          case c4 => have := HWL2.out; unfold maxLen; omega
          case c5 => have := HWL2.out; omega
          case c6 => simp; omega
          intro v4 w9 hown9 hgrow _
          have q9 : Past w3 w9 := (q8'.alloc _).grownBy hgrow (fun j hj => (HLT.out j hj).1)
          have oc9 : Hid (OwnCells w9 w3.heap.size v4 (ws ++ [.slice s.1 LR.length s.2])) := Lib.hid (by
            unfold OwnCells
            simp only [List.length_append, List.length_cons, List.length_nil]
            exact hown9)
          have OAx : Own8 (w8.alloc (.cells #[.slice s.1 LR.length s.2] 27)) w3.heap.size (.slice s.1 LR.length s.2) LR := own8_base (World.ownsRow.alloc o8.out _) (by omega)
          have oa9 : Hid (AreOwn w9 w3.heap.size (ws ++ [.slice s.1 LR.length s.2]) (ds ++ [LR])) := Lib.hid ((AreOwn.snoc (OA8.out.past ((Past.refl _).alloc _)) OAx).grow (World.ownsRow.alloc OC8.out _) hgrow)
          clear hown9 hgrow OAx o8 OC8 OA8 HLT b8 q8'
          go_wp2_with fail
          go_roundw
          case rel => exact ⟨k + 1, _, _, by omega, by go_num, oc9, oa9, ST, GO, q9⟩
          case measure => simp [intOf]; omega
    · obtain rfl : k = g.nodes.length := by omega
      have hgo' := hgo.out
      rw [List.drop_length] at hgo'
      have GO : Hid (ds = evalL g ins) := Lib.hid hgo'
      have d2 : decide ((g.nodes.length : Int) < (g.nodes.length : Int)) = false := by simp
      clear hgo hgo'
      go_wp2_with fail
      go_ret2
      exact ⟨_, rfl, ⟨ws, own_more oc.out q3.2.2.1, by rw [← GO.out]; exact oa.out.more q3.2.2.1⟩, q5⟩
end Go.Proofs.YtliijchcpooplaaGreat
namespace Go.Proofs.YtliijchcpooplaaGreat
open Go.ChangeShapes Go.WideShapes Go.ChangeAt Go.RowKit
set_option maxRecDepth 20000
set_option linter.unusedVariables false

theorem goE_fits {g : GraphD} (h : valuesE g = 0) (hw : ∀ n ∈ g.nodes, Bytes n.ws) : ∀ (m k : Nat) (ds : List (List Int)), k + m = g.nodes.length → FitsTo (valuesL g) (g.ins.length + k) ds → FitsTo (valuesL g) (g.ins.length + g.nodes.length) (goE (valuesL g) (g.nodes.drop k) ds) := by
  intro m
  induction m with
  | zero =>
    intro k ds hk hd
    obtain rfl : k = g.nodes.length := by omega
    rw [List.drop_length]
    exact hd
  | succ m ih =>
    intro k ds hk hd
    have l : k < g.nodes.length := by omega
    rw [drop_cons _ _ l]
    exact ih (k + 1) _ (by omega) (step_fits h l hd (hw _ (by simp [List.getD, l])))
theorem eval_fits {g : GraphD} (h : valuesE g = 0) (hw : ∀ n ∈ g.nodes, Bytes n.ws) {ins : List (List Int)} (hf : fitsP g.ins ins) (hb : AllBytes ins) : FitsTo (valuesL g) (g.ins.length + g.nodes.length) (evalL g ins) := by
  have := goE_fits h hw g.nodes.length 0 ins (by omega) (ins_fits h hf hb)
  rw [List.drop_zero] at this
  exact this
theorem nums_bytes {w : World} {v : Value} {xs : List Int} (h : IsNums .i8 w v xs) : Bytes xs := by
  intro x hx
  obtain ⟨_, _, _, _, _, _, wf, _⟩ := h
  have := wf x hx
  simp [Lit.wf, IntKind.min, IntKind.max, IntKind.bits, IntKind.signed] at this
  omega
theorem graph_bytes {w : World} {gv : Value} {g : GraphD} (h : IsGraph w gv g) : ∀ n ∈ g.nodes, Bytes n.ws := by
  obtain ⟨_, _, _, _, _, hn, _⟩ := h
  intro n hm
  obtain ⟨A, c, _, _, _, _, _, h5⟩ := hn
  obtain ⟨i, hi, rfl⟩ := List.getElem_of_mem hm
  obtain ⟨b, o, _, _, hc⟩ := h5 (by omega)
  obtain ⟨vi, vw, vb, hin, _⟩ := hc i hi
  have := nums_bytes hin.2.1
  have e : g.nodes.getD i default = g.nodes[i] := by simp [List.getD, hi]
  rwa [e] at this
theorem fits_len {g : GraphD} (h : valuesE g = 0) {k : Nat} {ds : List (List Int)} (hk : k ≤ (valuesL g).length) (hd : FitsTo (valuesL g) k ds) {j : Nat} (hj : j < k) : 0 < (ds.getD j []).length ∧ (ds.getD j []).length ≤ 2048 := by
  have hm := (makes_facts h).2.1 j (by omega)
  have := idx_lt_size hm
  have e := (hd.2 j hj).1
  omega
theorem outs_fits {g : GraphD} (h : valuesE g = 0) {ds : List (List Int)} (hd : FitsTo (valuesL g) (g.ins.length + g.nodes.length) ds) : inP (g.ins.length + g.nodes.length) g.outs ∧ ∀ j, j < g.outs.length → 0 < ((namedR ds g.outs).getD j []).length ∧ ((namedR ds g.outs).getD j []).length ≤ 100000 := by
  have hl := (makes_facts h).1
  have ho := (values_ok h).2.2.2
  have hi : inP (g.ins.length + g.nodes.length) g.outs := fun j hj => by have := ho j hj; rw [hl] at this; exact this
  refine ⟨hi, fun j hj => ?_⟩
  rw [namedR_get hj]
  have := hi j hj
  have := fits_len h (by omega) hd (j := (g.outs.getD j 0).toNat) (by omega)
  omega

set_option maxHeartbeats 4000000 in
theorem eall_no (g : GraphD) (gv iv : Value) (W : World) (q : Int) (hg : IsGraph W gv g) (hc : Cut g) (hq : valuesE g = q) (h0 : q ≠ 0) :
    Calls Tryz.prog 13 #[gv, iv] W fun e w' => e = .returned (.tuple #[.slice none 0 0, .int .i64 q]) ∧ Past W w' := by
  have HG := Lib.hid hg
  obtain ⟨nv1, nv2, nv3, rfl, hi1, hn1, ho1⟩ := hg
  obtain ⟨A1, c1, rfl, _⟩ := hi1
  obtain ⟨A2, c2, rfl, _⟩ := hn1
  obtain ⟨A3, c3, rfl, _⟩ := ho1
  have HC := Lib.hid hc
  have HQ := Lib.hid hq
  have e1 : (q != 0) = true := by simpa using h0
  have VG : Hid (∀ w, Past W w → Calls Tryz.prog 23 #[.agg #[.slice A1 g.ins.length c1, .slice A2 g.nodes.length c2, .slice A3 g.outs.length c3]] w fun e w' => ∃ v, e = .returned (.tuple #[v, .int .i64 q]) ∧ IsVals w' v (valuesL g) ∧ Past w w') := Lib.hid (fun w p => by
    have := values_any g _ w (HG.out.grow p) HC.out
    unfold ValuesPost at this
    rw [HQ.out] at this
    exact this)
  clear hq hc h0
  go_enter Tryz.func13, Tryz.ntmps13
  go_upto_region 1 with fail
  refine opq (fun w' => (∀ o : Nat, w'.cell? ⟨W.heap.size, o, none⟩ = (#[.slice A1 g.ins.length c1, .slice A2 g.nodes.length c2, .slice A3 g.outs.length c3] : Array Value)[o]?) ∧ Past W w' ∧ W.heap.size + 1 ≤ w'.heap.size) kKeep ?_
  rintro w1 ⟨b1, p1, z1⟩
  go_wp2_with fail
  refine (VG.out _ p1).mono ?_
  rintro e w2 ⟨v, rfl, hv, p2⟩
  have q2 := p1.trans p2
  obtain ⟨Av, cv, rfl, _⟩ := hv
  clear b1 p1 z1 p2
  go_wp2_with fail
  go_ret2
  exact ⟨rfl, q2⟩

set_option maxHeartbeats 4000000 in
theorem eouts_no (g : GraphD) (gv iv : Value) (W : World) (q : Int) (hg : IsGraph W gv g) (hc : Cut g) (hq : valuesE g = q) (h0 : q ≠ 0) :
    Calls Tryz.prog 9 #[gv, iv] W fun e w' => e = .returned (.tuple #[.slice none 0 0, .int .i64 q]) ∧ Past W w' := by
  have HG := Lib.hid hg
  obtain ⟨nv1, nv2, nv3, rfl, hi1, hn1, ho1⟩ := hg
  obtain ⟨A1, c1, rfl, _⟩ := hi1
  obtain ⟨A2, c2, rfl, _⟩ := hn1
  obtain ⟨A3, c3, rfl, _⟩ := ho1
  have e1 : (q != 0) = true := by simpa using h0
  have VG := Lib.hid (fun w (p : Past W w) => eall_no g _ iv w q (HG.out.grow p) hc hq h0)
  clear hq hc h0
  go_enter Tryz.func9, Tryz.ntmps9
  go_upto_region 1 with fail
  refine opq (fun w' => (∀ o : Nat, w'.cell? ⟨W.heap.size, o, none⟩ = (#[.slice A1 g.ins.length c1, .slice A2 g.nodes.length c2, .slice A3 g.outs.length c3] : Array Value)[o]?) ∧ Past W w' ∧ W.heap.size + 1 ≤ w'.heap.size) kKeep ?_
  rintro w1 ⟨b1, p1, z1⟩
  go_wp2_with fail
  refine (VG.out _ p1).mono ?_
  rintro e w2 ⟨rfl, p2⟩
  have q2 := p1.trans p2
  clear b1 p1 z1 p2
  go_wp2_with fail
  go_ret2
  exact ⟨rfl, q2⟩

set_option maxHeartbeats 4000000 in
theorem eouts_ok (g : GraphD) (gv iv : Value) (us : List Value) (ins : List (List Int)) (W : World) (hg : IsGraph W gv g) (hc : Cut g) (hi : HasCells W iv us) (hn : AreNums W us ins) (h0 : valuesE g = 0) (hf : fitsP g.ins ins) :
    Calls Tryz.prog 9 #[gv, iv] W fun e w' => ∃ v, e = .returned (.tuple #[v, .int .i64 0]) ∧ OwnRows w' W.heap.size v (namedR (evalL g ins) g.outs) ∧ Past W w' := by
  have HG := Lib.hid hg
  have FT := Lib.hid (eval_fits h0 (graph_bytes hg) hf hn.bytes)
  obtain ⟨nv1, nv2, nv3, rfl, hi1, hn1, ho1⟩ := hg
  obtain ⟨A1, c1, rfl, _⟩ := hi1
  obtain ⟨A2, c2, rfl, _⟩ := hn1
  have HO := Lib.hid ho1
  obtain ⟨A3, c3, rfl, _⟩ := ho1
  have HC := Lib.hid hc
  have OF := Lib.hid (outs_fits h0 FT.out)
  have AL := Lib.hid (fun w (p : Past W w) => eall_ok g _ iv us ins w (HG.out.grow p) hc (hi.grow p) (hn.grow p) h0 hf)
  have e1 : ((0 : Int) != 0) = false := by decide
  clear hi hn h0 hf hc
  go_enter Tryz.func9, Tryz.ntmps9
  go_upto_region 1 with fail
  refine opq (fun w' => (∀ o : Nat, w'.cell? ⟨W.heap.size, o, none⟩ = (#[.slice A1 g.ins.length c1, .slice A2 g.nodes.length c2, .slice A3 g.outs.length c3] : Array Value)[o]?) ∧ Past W w' ∧ W.heap.size + 1 ≤ w'.heap.size) kKeep ?_
  rintro w1 ⟨b1, p1, z1⟩
  go_wp2_with fail
  refine (AL.out _ p1).mono ?_
  rintro e w2 ⟨v, rfl, ⟨ws, oc, oa⟩, p2⟩
  have q2 := p1.trans p2
  have b2 := box_past p2 b1 (by omega)
  have AN := Lib.hid (oa.nums FT.out.bytes)
  have HWL : ws.length = g.ins.length + g.nodes.length := oa.1.trans FT.out.1
  have INP : inP ws.length g.outs := by rw [HWL]; exact OF.out.1
  have N8 := Lib.hid (named8_any v _ ws g.outs w2 oc.has AN.out.slices (HO.out.grow q2) INP HC.out.1)
  have NU := Lib.hid (namedU_nums AN.out INP)
  obtain ⟨Av, cv, rfl, _⟩ := own_slice' oc
  clear b1 p1 z1 p2 oc oa INP HWL
  go_wp2_with fail
  refine N8.out.mono ?_
  rintro e w3 ⟨v3, rfl, oc3, p3⟩
  have q3 := q2.trans p3
  have NU3 := Lib.hid (NU.out.grow p3)
  have CP := Lib.hid (copies_any v3 _ _ w3 oc3.has NU3.out (fun j hj => OF.out.2 j (by rw [namedR_len] at hj; exact hj)) (by rw [namedR_len]; exact HC.out.1))
  obtain ⟨Av3, cv3, rfl, _⟩ := own_slice' oc3
  clear b2 oc3 p3 N8 NU
  go_wp2_with fail
  refine CP.out.mono ?_
  rintro e w4 ⟨v4, rfl, o4, p4⟩
  have O4 := Lib.hid (o4.more q3.2.2.1)
  have q4 := q3.trans p4
  clear o4 p4 NU3 CP
  go_wp2_with fail
  go_ret2
  exact ⟨_, rfl, O4.out, q4⟩
end Go.Proofs.YtliijchcpooplaaGreat
