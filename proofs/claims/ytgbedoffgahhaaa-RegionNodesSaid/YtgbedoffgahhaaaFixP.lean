/- A region whose order is open, with one call that makes memory: what it gives is a letter, and those that hang on it come behind it. -/
import Derived.Test.YtgbedoffgahhaaaFix
namespace Go.Proofs.Ytgbedoffgahhaaa
open Go

section
variable {P : Program} {ops : Array Oper} {Q : Exit → Act → World → Prop} {md : Region.Mode}

theorem ready_all (hok : fixOK md ops = true) (listed : Array Bool) (hsz : listed.size = ops.size) (hr : Region.ready md ops listed = []) : ∀ j o, ops[j]? = some o → listed.getD j true = true := by
  have lt : ∀ {j p}, ops[j]? = some p → j < ops.size := fun h => (Array.getElem?_eq_some_iff.1 h).1
  intro j
  induction j using Nat.strongRecOn with
  | ind j ih =>
    intro o hj
    apply Classical.byContradiction
    intro c
    have c' : listed.getD j true = false := by simpa using c
    have : j ∈ Region.ready md ops listed := mem_ready.2 ⟨c', o, hj, fun e he hb => by
      have hlt := (fixOK_at hok hj).2.2.2 e he hb
      have he2 : ops[e.on]? = some (ops[e.on]'(Nat.lt_trans hlt (lt hj))) := Array.getElem?_eq_getElem (Nat.lt_trans hlt (lt hj))
      have := ih e.on hlt _ he2
      rw [Array.getD_eq_getD_getElem?] at this ⊢
      rw [Array.getElem?_eq_getElem (by rw [hsz]; exact Nat.lt_trans hlt (lt hj))] at this ⊢
      exact this⟩
    rw [hr] at this
    cases this

theorem meets_next {listed : Array Bool} {aF a : Act} {i : Nat} {o : Oper} {v : Value} (ho : ops[i]? = some o) (hm : Meets ops listed aF a) (hp : aF.put o.dst v = aF) : Meets ops (listed.setIfInBounds i true) aF (a.put o.dst v) := by
  obtain ⟨m1, m2, m3⟩ := hm
  refine ⟨?_, ?_, fun t ht => ?_⟩
  · cases hd : o.dst <;> simpa [Act.put] using m1
  · cases hd : o.dst <;> simpa [Act.put] using m2
  · cases hd : o.dst with
    | none =>
      refine m3 t fun j p hj hp => ?_
      by_cases c : i = j
      · subst c
        rw [ho] at hj
        injection hj with hj
        rw [← hj, hd] at hp
        cases hp
      · rw [← getD_set_ne true c]
        exact ht j p hj hp
    | some d =>
      by_cases c : d = t
      · subst c
        by_cases l : d < aF.tmps.size
        · rw [put_fix hp hd l]
          simp [Act.put, m2, l]
        · have l' : aF.tmps.size ≤ d := Nat.le_of_not_lt l
          have l2 : (a.put (some d) v).tmps.size ≤ d := by
            simp only [Act.put, Array.size_setIfInBounds, m2]
            exact l'
          rw [Array.getElem?_eq_none l2, Array.getElem?_eq_none l']
      · have : (a.put (some d) v).tmps[t]? = a.tmps[t]? := by simp [Act.put, Array.getElem?_setIfInBounds_ne c]
        rw [this]
        refine m3 t fun j p hj hp => ?_
        by_cases c2 : i = j
        · subst c2
          rw [ho] at hj
          injection hj with hj
          rw [← hj, hd] at hp
          injection hp with hp
          exact absurd hp c
        · rw [← getD_set_ne true c2]
          exact ht j p hj hp

theorem looks_meet (hok : fixOK md ops = true) {listed : Array Bool} {aF a : Act} {i : Nat} {o : Oper} (hsz : listed.size = ops.size) (hm : Meets ops listed aF a) (ho : ops[i]? = some o)
    (hall : ∀ e ∈ o.after, Region.binds md e = true → listed.getD e.on false = true) : ∀ t ∈ o.looksAt ops, a.tmps[t]? = aF.tmps[t]? := fun t ht => hm.2.2 t fun j p hj hd => by
  obtain ⟨e, he, hb, rfl⟩ := (fixOK_at hok ho).2.1 t ht j p hj hd
  have := hall e he hb
  rw [Array.getD_eq_getD_getElem?] at this ⊢
  rw [Array.getElem?_eq_getElem (by rw [hsz]; exact (Array.getElem?_eq_some_iff.1 hj).1)] at this ⊢
  exact this

theorem wpOp_owes {S : World → Prop} {aF a : Act} {i : Nat} {o : Oper} {w : World} {K : Act → World → Prop} (hok : fixOK md ops = true) (ho : ops[i]? = some o) (look : ∀ t ∈ o.looksAt ops, a.tmps[t]? = aF.tmps[t]?) (hS : S w)
    (h : Owes P ops S aF o) (next : ∀ v w', aF.put o.dst v = aF → S w' → K (a.put o.dst v) w') : wpOp P ops Q i K a w := by
  obtain ⟨ee, ew⟩ := eval_eq (ops := ops) (fixOK_at hok ho).1 look
  have h := h w hS
  unfold wpOp
  simp only [ho]
  rw [ew]
  by_cases hw : Region.wanted o (yielded ops aF.tmps) = true
  · rw [if_pos hw] at h ⊢
    refine .inl ?_
    unfold Oper.wp at h ⊢
    rw [ee]
    exact upon_fix next h
  · rw [if_neg hw] at h ⊢
    exact next undef w h hS

theorem done_meets {listed : Array Bool} {aF a : Act} (hall : ∀ j o, ops[j]? = some o → listed.getD j true = true) (hm : Meets ops listed aF a) : a = aF := by
  obtain ⟨h1, h2, h3⟩ := hm
  obtain ⟨t1, d1⟩ := a
  obtain ⟨t2, d2⟩ := aF
  simp only at h1 h2 h3
  subst h1
  have : t1 = t2 := Array.ext_getElem? fun t => h3 t fun j o hj _ => hall j o hj
  subst this
  rfl

/-- As wpAny_fix, with the operation c behind us. -/
theorem wpAny_fixB {S : World → Prop} {aF : Act} (c : Nat) (hok : fixOK md ops = true) (hv : ∀ (i : Nat) (o : Oper), ops[i]? = some o → i ≠ c → Owes P ops S aF o) (hQ : ∀ w, S w → Q .normal aF w) :
    ∀ (fuel : Nat) (listed : Array Bool) (a : Act) (w : World), listed.size = ops.size → (left ops listed).length ≤ fuel → listed.getD c true = true → Meets ops listed aF a → S w → wpAny P md ops Q fuel listed a w := by
  have lt : ∀ {j p}, ops[j]? = some p → j < ops.size := fun h => (Array.getElem?_eq_some_iff.1 h).1
  intro fuel
  induction fuel with
  | zero =>
    intro listed a w hsz hl hc hm hS
    have hn : left ops listed = [] := List.eq_nil_of_length_eq_zero (by omega)
    have hall : ∀ j o, ops[j]? = some o → listed.getD j true = true := by
      intro j o hj
      apply Classical.byContradiction
      intro c
      have : j ∈ left ops listed := List.mem_filter.2 ⟨List.mem_range.2 (lt hj), by simpa using c⟩
      rw [hn] at this
      cases this
    refine ⟨?_, by rw [done_meets hall hm]; exact hQ w hS⟩
    cases hr : Region.ready md ops listed with
    | nil => rfl
    | cons x xs =>
      have : x ∈ Region.ready md ops listed := by rw [hr]; exact List.mem_cons_self
      obtain ⟨h0, o, ho, _⟩ := mem_ready.1 this
      rw [hall x o ho] at h0
      cases h0
  | succ fuel ih =>
    intro listed a w hsz hl hc hm hS
    refine ⟨fun hr => by rw [done_meets (ready_all hok listed hsz hr) hm]; exact hQ w hS, fun i hi => ?_⟩
    obtain ⟨hu, o, ho, hall⟩ := mem_ready.1 hi
    have hic : i ≠ c := fun e => by rw [e, hc] at hu; cases hu
    refine wpOp_owes hok ho (looks_meet hok hsz hm ho hall) hS (hv i o ho hic) fun v w' hp hS' => ?_
    refine ih _ _ _ (by simpa using hsz) (by have := left_set (ops := ops) (lt ho) hu; omega) ?_ (meets_next ho hm hp) hS'
    rw [getD_set_ne true hic]
    exact hc

theorem upon_late {α : Type} {S1 : α → World → Prop} {V : α → Value} {F0 a : Act} {d : Tmp} {o : Oper} {K : Act → World → Prop} {r : Result Next} (hd : o.dst = some d) (hl : d < F0.tmps.size)
    (hK : ∀ p w', S1 p w' → K (a.put (some d) (V p)) w') (h : o.upon P F0 (fun a' w' => ∃ p, a' = F0.put (some d) (V p) ∧ S1 p w') noPost r) : o.upon P a K Q r := by
  have key : ∀ v p, F0.put (some d) v = F0.put (some d) (V p) → v = V p := by
    intro v p e
    have := congrArg (fun x : Act => x.tmps[d]?) e
    simpa [Act.put, hl] using this
  cases r with
  | ok n w' =>
    cases n with
    | value v => obtain ⟨p, e, h⟩ := h; rw [hd] at e; have := key v p e; subst this; show K (a.put o.dst (V p)) w'; rw [hd]; exact hK p w' h
    | skip => obtain ⟨p, e, h⟩ := h; rw [hd] at e; have := key _ p e; show K (a.put o.dst undef) w'; rw [hd, this]; exact hK p w' h
    | defer d' =>
      exfalso
      obtain ⟨p, e, h⟩ := h
      have e : ({ F0 with defers := d' :: F0.defers } : Act).put o.dst undef = F0.put (some d) (V p) := e
      have := congrArg Act.defers e
      rw [hd] at this
      simp [Act.put] at this
    | enter f args =>
      refine Calls.mono h fun e w'' he => ?_
      cases e with
      | returned v => obtain ⟨p, e, h⟩ := he; rw [hd] at e; have := key v p e; subst this; show K (a.put o.dst (V p)) w''; rw [hd]; exact hK p w'' h
      | panicked c => exact he.elim
      | outgrown => obtain ⟨_, _, hf⟩ := he; exact hf.elim
    | row row args => exact Rows.mono h fun v w'' he => by obtain ⟨p, e, h⟩ := he; rw [hd] at e; have := key v p e; subst this; show K (a.put o.dst (V p)) w''; rw [hd]; exact hK p w'' h
    | _ => exact h.elim
  | halt x w' =>
    cases x with
    | panic v => exact h.elim
    | _ => exact h.elim

theorem wpAny_late {α : Type} {S0 : World → Prop} {S1 : α → World → Prop} {V : α → Value} {F0 : Act} {F : α → Act} (c : Nat) (oc : Oper) (d : Tmp) (late : Nat → Bool) (hok : fixOK md ops = true)
    (hc : ops[c]? = some oc) (hg : oc.guard = none) (hd : oc.dst = some d) (hl : d < F0.tmps.size) (hlc : late c = true)
    (hlate : ∀ i o, ops[i]? = some o → late i = true → i ≠ c → ∃ e ∈ o.after, Region.binds md e = true ∧ late e.on = true)
    (hF : ∀ p, (F p).defers = F0.defers ∧ (F p).tmps.size = F0.tmps.size ∧ (F p).tmps[d]? = some (V p) ∧ ∀ t, (∀ j o, ops[j]? = some o → o.dst = some t → late j = false) → (F p).tmps[t]? = F0.tmps[t]?)
    (hE : ∀ i o, ops[i]? = some o → late i = false → Owes P ops S0 F0 o) (hE1 : ∀ p i o, ops[i]? = some o → i ≠ c → Owes P ops (S1 p) (F p) o)
    (hC : ∀ w, S0 w → ∀ K : Act → World → Prop, (∀ p w', S1 p w' → K (F0.put (some d) (V p)) w') → oc.wp P F0 w K noPost) (hQ : ∀ p w, S1 p w → Q .normal (F p) w) :
    ∀ (fuel : Nat) (listed : Array Bool) (a : Act) (w : World), listed.size = ops.size → (left ops listed).length ≤ fuel → (∀ j o, ops[j]? = some o → late j = true → listed.getD j true = false) → Meets ops listed F0 a → S0 w → wpAny P md ops Q fuel listed a w := by
  have lt : ∀ {j p}, ops[j]? = some p → j < ops.size := fun h => (Array.getElem?_eq_some_iff.1 h).1
  intro fuel
  induction fuel with
  | zero =>
    intro listed a w hsz hl hun hm hS
    exfalso
    have : c ∈ left ops listed := List.mem_filter.2 ⟨List.mem_range.2 (lt hc), by rw [hun c oc hc hlc]; rfl⟩
    have hn : left ops listed = [] := List.eq_nil_of_length_eq_zero (by omega)
    rw [hn] at this
    cases this
  | succ fuel ih =>
    intro listed a w hsz hlen hun hm hS
    refine ⟨fun hr => ?_, fun i hi => ?_⟩
    · have := ready_all hok listed hsz hr c oc hc
      rw [hun c oc hc hlc] at this
      cases this
    obtain ⟨hu, o, ho, hall⟩ := mem_ready.1 hi
    have look := looks_meet hok hsz hm ho hall
    by_cases hli : late i = true
    · by_cases hic : i = c
      · subst hic
        rw [hc] at ho
        injection ho with ho
        subst ho
        obtain ⟨ee, ew⟩ := eval_eq (ops := ops) (fixOK_at hok hc).1 look
        unfold wpOp
        simp only [hc]
        have hw : Region.wanted oc (yielded ops a.tmps) = true := by unfold Region.wanted; rw [hg]
        rw [if_pos hw]
        refine .inl ?_
        have h := hC w hS (fun a' w' => ∃ p, a' = F0.put (some d) (V p) ∧ S1 p w') (fun p w' h => ⟨p, rfl, h⟩)
        unfold Oper.wp at h ⊢
        rw [ee]
        refine upon_late hd hl (fun p w' h1 => ?_) h
        obtain ⟨f1, f2, f3, f4⟩ := hF p
        refine wpAny_fixB i hok (hE1 p) (hQ p) fuel _ _ _ (by simpa using hsz) (by have := left_set (ops := ops) (lt hc) hu; omega) ?_ ?_ h1
        · rw [Array.getD_eq_getD_getElem?, Array.getElem?_setIfInBounds_self_of_lt (by rw [hsz]; exact lt hc)]
          rfl
        · obtain ⟨m1, m2, m3⟩ := hm
          refine ⟨?_, ?_, fun t ht => ?_⟩
          · show a.defers = _; rw [f1]; exact m1
          · show (a.tmps.setIfInBounds d (V p)).size = _; rw [Array.size_setIfInBounds, f2]; exact m2
          · by_cases ct : d = t
            · subst ct
              rw [f3]
              show (a.tmps.setIfInBounds d (V p))[d]? = _
              rw [Array.getElem?_setIfInBounds_self_of_lt (by rw [m2]; exact hl)]
            · have e1 : (a.put (some d) (V p)).tmps[t]? = a.tmps[t]? := by simp [Act.put, Array.getElem?_setIfInBounds_ne ct]
              rw [e1]
              have nl : ∀ j o, ops[j]? = some o → o.dst = some t → late j = false := by
                intro j o hj hdj
                apply Classical.byContradiction
                intro hlj
                have hlj : late j = true := by simpa using hlj
                by_cases cj : i = j
                · subst cj
                  rw [hc] at hj
                  injection hj with hj
                  rw [← hj, hd] at hdj
                  injection hdj with hdj
                  exact ct hdj
                · have h2 := ht j o hj hdj
                  rw [getD_set_ne true cj, hun j o hj hlj] at h2
                  cases h2
              rw [f4 t nl]
              refine m3 t fun j o hj hdj => ?_
              by_cases cj : i = j
              · subst cj
                have := nl i o hj hdj
                rw [hlc] at this
                cases this
              · rw [← getD_set_ne true cj]
                exact ht j o hj hdj
      · exfalso
        obtain ⟨e, he, hb, hle⟩ := hlate i o ho hli hic
        have h1 := hall e he hb
        have hlt := (fixOK_at hok ho).2.2.2 e he hb
        have he2 : ops[e.on]? = some (ops[e.on]'(Nat.lt_trans hlt (lt ho))) := Array.getElem?_eq_getElem (Nat.lt_trans hlt (lt ho))
        have h2 := hun e.on _ he2 hle
        rw [Array.getD_eq_getD_getElem?, Array.getElem?_eq_getElem (by rw [hsz]; exact Nat.lt_trans hlt (lt ho))] at h1 h2
        simp only [Option.getD_some] at h1 h2
        rw [h1] at h2
        cases h2
    · have hli : late i = false := by simpa using hli
      refine wpOp_owes hok ho look hS (hE i o ho hli) fun v w' hp hS' => ?_
      refine ih _ _ _ (by simpa using hsz) (by have := left_set (ops := ops) (lt ho) hu; omega) (fun j o' hj hlj => ?_) (meets_next ho hm hp) hS'
      have hij : i ≠ j := fun e => by rw [e, hlj] at hli; cases hli
      rw [getD_set_ne true hij]
      exact hun j o' hj hlj
end

/-- What all operations owe but those of the list. -/
def OwesX (P : Program) (ops : Array Oper) (S : World → Prop) (aF : Act) (bs : List Nat) : Nat → List Oper → Prop
  | _, [] => True
  | k, o :: l => (bs.contains k = true ∨ Owes P ops S aF o) ∧ OwesX P ops S aF bs (k + 1) l
theorem OwesX.at_ {P : Program} {ops : Array Oper} {S : World → Prop} {aF : Act} {bs : List Nat} {l : List Oper} : ∀ {k : Nat}, OwesX P ops S aF bs k l → ∀ {j : Nat} {o : Oper}, l[j]? = some o → bs.contains (k + j) = false → Owes P ops S aF o := by
  induction l with
  | nil => intro k _ j o hj; simp at hj
  | cons x l ih =>
    intro k h j o hj hn
    cases j with
    | zero =>
      simp at hj
      subst hj
      rcases h.1 with h | h
      · rw [Nat.add_zero, h] at hn; cases hn
      · exact h
    | succ j => exact ih h.2 (by simpa using hj) (by rw [← hn]; congr 1; omega)
theorem owesb_skip {P : Program} {ops : Array Oper} {S : World → Prop} {aF : Act} {bs : List Nat} {k : Nat} {o : Oper} {l : List Oper} (h : bs.contains k = true) (g : OwesX P ops S aF bs (k + 1) l) : OwesX P ops S aF bs k (o :: l) := ⟨.inl h, g⟩
theorem owesb_cons {P : Program} {ops : Array Oper} {S : World → Prop} {aF : Act} {bs : List Nat} {k : Nat} {o : Oper} {l : List Oper}
    (h : ∀ w, S w → ∀ K : Act → World → Prop, (∀ w', S w' → K aF w') → if Region.wanted o (yielded ops aF.tmps) = true then o.wp P aF w K noPost else K (aF.put o.dst undef) w) (g : OwesX P ops S aF bs (k + 1) l) : OwesX P ops S aF bs k (o :: l) := ⟨.inr (owes_of h), g⟩

/-- What is asked of the region's shape. -/
def lateOK (md : Region.Mode) (ops : Array Oper) (c : Nat) (d : Tmp) (late : List Nat) (slots slotr : List Tmp) : Bool :=
  fixOK md ops && late.contains c && (match ops[c]? with | none => false | some o => o.guard.isNone && o.dst == some d) &&
  (late.all fun i => match ops[i]? with | none => false | some o => i == c || o.after.any fun e => Region.binds md e && late.contains e.on) &&
  (slots.all fun t => ops.any fun o => o.dst == some t) &&
  ((d :: slotr).all fun t => late.any fun j => match ops[j]? with | none => false | some o => o.dst == some t) && !slotr.contains d

/-- THE LAW. c: the call's number, d: its slot, V p: what it gives; late: the numbers of those that hang on it (and its own); ups: what the early ones hold, rest p: what the late ones hold. -/
theorem wp_region_late {P : Program} {ops : List Oper} {Q : Exit → Act → World → Prop} {id : Nat} {a : Act} {w : World} {α : Type} (c : Nat) (d : Tmp) (late : List Nat) (V : α → Value) (S0 : World → Prop) (S1 : α → World → Prop) (ups : List (Tmp × Value)) (slots : List Tmp) (rest : α → List (Tmp × Value)) (slotr : List Tmp)
    (hm : P.follows .mixedOrders = true) (hok : lateOK .any ops.toArray c d late slots slotr = true) (hu : ups.map (·.1) = slots) (hr : ∀ p, (rest p).map (·.1) = slotr) (hd : d < a.tmps.size) (hS : S0 w) (hdr : ∀ w, S0 w → S0 w.drew)
    (hE : OwesX P ops.toArray S0 (fillA a ups) late 0 ops) (hC : ∃ o, ops[c]? = some o ∧ ∀ w, S0 w → ∀ K : Act → World → Prop, (∀ p w', S1 p w' → K ((fillA a ups).put (some d) (V p)) w') → o.wp P (fillA a ups) w K noPost)
    (hE1 : ∀ p, OwesX P ops.toArray (S1 p) (fillA (fillA a ups) ((d, V p) :: rest p)) [c] 0 ops) (hQ : ∀ p w, S1 p w → Q .normal (fillA (fillA a ups) ((d, V p) :: rest p)) w) : (Code.region id ops.toArray true).wp P Q a w := by
  unfold lateOK at hok
  simp only [Bool.and_eq_true] at hok
  obtain ⟨⟨⟨⟨⟨⟨h1, h2⟩, h3⟩, h4⟩, h5⟩, h6⟩, h7⟩ := hok
  obtain ⟨oc, hoc, hC⟩ := hC
  have hoc' : ops.toArray[c]? = some oc := by simpa using hoc
  rw [hoc'] at h3
  simp only [Bool.and_eq_true, beq_iff_eq] at h3
  have writers : ∀ p t, (∀ j o, ops.toArray[j]? = some o → o.dst = some t → late.contains j = false) → ∀ q ∈ (d, V p) :: rest p, q.1 ≠ t := by
    intro p t ht q hq e
    rw [List.all_eq_true] at h6
    have hmem : t ∈ d :: slotr := by
      rw [← e, ← hr p]
      rcases List.mem_cons.1 hq with rfl | hq
      · exact List.mem_cons_self
      · exact List.mem_cons_of_mem _ (List.mem_map.2 ⟨q, hq, rfl⟩)
    have := h6 t hmem
    rw [List.any_eq_true] at this
    obtain ⟨j, hj, hb⟩ := this
    cases ho : ops.toArray[j]? with
    | none => rw [ho] at hb; cases hb
    | some o =>
      rw [ho] at hb
      have := ht j o ho (by simpa using hb)
      rw [List.contains_iff_mem.2 hj] at this
      cases this
  refine wp_region_any hm (wpAny_late (S0 := S0) (S1 := S1) (V := V) (F0 := fillA a ups) (F := fun p => fillA (fillA a ups) ((d, V p) :: rest p)) c oc d (fun i => late.contains i) h1 hoc' (Option.isNone_iff_eq_none.1 h3.1) h3.2 (by rw [fill_size]; exact hd) h2 (fun i o ho hl hic => ?_) (fun p => ⟨?_, ?_, ?_, fun t ht => fill_off _ _ (writers p t ht) _⟩) (fun i o ho hl => hE.at_ (j := i) (by simpa using ho) (by simpa using hl)) (fun p i o ho hic => (hE1 p).at_ (j := i) (by simpa using ho) (by simpa using hic)) hC hQ _ (Array.replicate ops.toArray.size false) a w.drew (by simp) ?_ (fun j o ho hl => ?_) ⟨(fill_defers ups a).symm, (fill_size ups a).symm, fun t ht => (fill_off ups t (fun p hp e => ?_) a).symm⟩ (hdr w hS))
  · rw [List.all_eq_true] at h4
    have := h4 i (List.contains_iff_mem.1 hl)
    rw [ho] at this
    simp only [Bool.or_eq_true, beq_iff_eq] at this
    rcases this with h | h
    · exact absurd h hic
    · obtain ⟨k, hk, h5⟩ := Array.any_eq_true.1 h
      simp only [Bool.and_eq_true] at h5
      exact ⟨o.after[k], Array.getElem_mem hk, h5.1, h5.2⟩
  · exact fill_defers _ _
  · exact fill_size _ _
  · show (fillA ((fillA a ups).put (some d) (V p)) (rest p)).tmps[d]? = _
    rw [fill_off (rest p) d (fun q hq e => ?_)]
    · have : d < (fillA a ups).tmps.size := by rw [fill_size]; exact hd
      simp [Act.put, this]
    · have hmem : d ∈ slotr := by rw [← hr p, ← e]; exact List.mem_map.2 ⟨q, hq, rfl⟩
      rw [List.contains_iff_mem.2 hmem] at h7
      cases h7
  · unfold left
    exact Nat.le_trans (List.length_filter_le _ _) (by simp)
  · have := (Array.getElem?_eq_some_iff.1 ho).1
    rw [Array.getD_eq_getD_getElem?, Array.getElem?_replicate, if_pos this]
    rfl
  · have hmem : t ∈ slots := by rw [← hu, ← e]; exact List.mem_map.2 ⟨p, hp, rfl⟩
    rw [List.all_eq_true] at h5
    have := h5 t hmem
    rw [Array.any_eq_true] at this
    obtain ⟨i, hi, hb⟩ := this
    have := ht i ops.toArray[i] (Array.getElem?_eq_getElem hi) (by simpa using hb)
    have hi' : i < ops.length := by simpa using hi
    rw [Array.getD_eq_getD_getElem?, Array.getElem?_replicate] at this
    simp [hi'] at this
end Go.Proofs.Ytgbedoffgahhaaa
