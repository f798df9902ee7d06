/- A region whose order is open, with some operations in one forced order (calls that make memory, stores): these are walked one behind the other; all others only read, and are told by the frame that they leave. -/
import Derived.Test.YtgbedoffgahhaaaFix
import Derived.StillTail
namespace Go.Proofs.Ytgbedoffgahhaaa
open Go

section
variable {P : Program} {ops : Array Oper} {Q : Exit → Act → World → Prop} {md : Region.Mode}

/-- What one operation owes that only reads: in this frame, in any world that meets S, it gives what the frame holds, and the world is as it was. -/
def OwesR (P : Program) (ops : Array Oper) (S : World → Prop) (aF : Act) (o : Oper) : Prop :=
  ∀ w, S w → if Region.wanted o (yielded ops aF.tmps) = true then o.wp P aF w (fun a' w' => a' = aF ∧ w' = w) noPost else aF.put o.dst undef = aF

/-- The forced ones wait each for the one ahead of it. -/
def chainW (md : Region.Mode) (ops : Array Oper) : List Nat → Bool
  | i :: j :: l => Region.waitsFor md ops j i && chainW md ops (j :: l)
  | _ => true

/-- What is asked of the region's shape. -/
def mixOK (md : Region.Mode) (ops : Array Oper) (bs : List Nat) : Bool :=
  fixOK md ops && chainW md ops bs &&
  ((List.range ops.size).all fun i => match ops[i]? with
    | none => true
    | some o => bs.contains i || ((o.looksAt ops).all fun t => bs.all fun j => match ops[j]? with
      | none => true
      | some p => p.dst != some t)) &&
  (bs.all fun i => match ops[i]? with
    | none => false
    | some o => o.guard.isNone) && decide bs.Nodup

/-- The forced ones, one behind the other. -/
def mixList (P : Program) (ops : Array Oper) (S : World → Prop) (Q : Exit → Act → World → Prop) : List Nat → Act → World → Prop
  | [], a, w => Q .normal a w
  | i :: l, a, w => ∃ o, ops[i]? = some o ∧ o.wp P a w (fun a' w' => a'.defers = a.defers ∧ (∃ v, a' = a.put o.dst v) ∧ S w' ∧ mixList P ops S Q l a' w') noPost

theorem mix_cons {S : World → Prop} {i : Nat} {l : List Nat} {a : Act} {w : World} {o : Oper} (ho : ops[i]? = some o)
    (h : ∀ K : Act → World → Prop, (∀ v w', S w' → mixList P ops S Q l (a.put o.dst v) w' → K (a.put o.dst v) w') → o.wp P a w K noPost) : mixList P ops S Q (i :: l) a w :=
  ⟨o, ho, h _ fun v w' hS hm => ⟨by cases hd : o.dst <;> simp [Act.put], ⟨v, rfl⟩, hS, hm⟩⟩

theorem upon_mix {S : World → Prop} {aF a : Act} {o : Oper} {K R : Act → World → Prop} {r : Result Next}
    (hK : ∀ v w', S w' → R (aF.put o.dst v) w' → K (a.put o.dst v) w') (h : o.upon P aF (fun a' w' => a'.defers = aF.defers ∧ (∃ v, a' = aF.put o.dst v) ∧ S w' ∧ R a' w') noPost r) : o.upon P a K Q r := by
  cases r with
  | ok n w' =>
    cases n with
    | value v => exact hK v w' h.2.2.1 h.2.2.2
    | skip => exact hK undef w' h.2.2.1 h.2.2.2
    | defer d =>
      exfalso
      have h1 : (({ aF with defers := d :: aF.defers } : Act).put o.dst undef).defers = aF.defers := h.1
      cases hd : o.dst <;> simp [Act.put, hd] at h1
    | enter f args =>
      refine Calls.mono h fun e w'' he => ?_
      cases e with
      | returned v => exact hK v w'' he.2.2.1 he.2.2.2
      | panicked c => exact he.elim
      | outgrown => obtain ⟨_, _, hf⟩ := he; exact hf.elim
    | row row args => exact Rows.mono h fun v w'' he => hK v w'' he.2.2.1 he.2.2.2
    | _ => exact h.elim
  | halt x w' =>
    cases x with
    | panic v => exact h.elim
    | _ => exact h.elim

theorem upon_read {w : World} {aF a : Act} {o : Oper} {K : Act → World → Prop} {r : Result Next}
    (hK : ∀ v, aF.put o.dst v = aF → K (a.put o.dst v) w) (h : o.upon P aF (fun a' w' => a' = aF ∧ w' = w) noPost r) : o.upon P a K Q r :=
  upon_fix (S := fun w' => w' = w) (fun v w' hp hw => by subst hw; exact hK v hp) h

theorem chain_head {b : Nat} {l : List Nat} (h : chainW md ops (b :: l) = true) {i : Nat} (hi : i ∈ l) : ∃ p, p ∈ b :: l ∧ Region.waitsFor md ops i p = true := by
  induction l generalizing b with
  | nil => cases hi
  | cons c l ih =>
    simp only [chainW, Bool.and_eq_true] at h
    rcases List.mem_cons.1 hi with rfl | hi
    · exact ⟨b, List.mem_cons_self, h.1⟩
    · obtain ⟨p, hp, hw⟩ := ih h.2 hi
      exact ⟨p, List.mem_cons_of_mem _ hp, hw⟩
theorem chain_tail {b : Nat} {l : List Nat} (h : chainW md ops (b :: l) = true) : chainW md ops l = true := by
  cases l with
  | nil => rfl
  | cons c l => simp only [chainW, Bool.and_eq_true] at h; exact h.2

/-- The state meets the frame in all slots that no reading operation still to come writes. -/
def MeetsM (ops : Array Oper) (listed : Array Bool) (rest : List Nat) (aF a : Act) : Prop :=
  a.defers = aF.defers ∧ a.tmps.size = aF.tmps.size ∧ ∀ t, (∀ j o, ops[j]? = some o → o.dst = some t → listed.getD j true = true ∨ j ∈ rest) → a.tmps[t]? = aF.tmps[t]?

theorem wpAny_mix {S : World → Prop} {a0 : Act} {bs : List Nat} (hok : mixOK md ops bs = true) (hv : ∀ (i : Nat) (o : Oper), i ∉ bs → ops[i]? = some o → OwesR P ops S a0 o) :
    ∀ (fuel : Nat) (listed : Array Bool) (rest : List Nat) (aF a : Act) (w : World), listed.size = ops.size → (left ops listed).length ≤ fuel → chainW md ops rest = true → rest.Nodup → (∀ i, i ∈ rest ↔ (i ∈ bs ∧ listed.getD i true = false)) →
      aF.defers = a0.defers → aF.tmps.size = a0.tmps.size → (∀ t, (∀ j ∈ bs, ∀ p, ops[j]? = some p → p.dst ≠ some t) → aF.tmps[t]? = a0.tmps[t]?) → MeetsM ops listed rest aF a → S w → mixList P ops S Q rest aF w → wpAny P md ops Q fuel listed a w := by
  have lt : ∀ {j p}, ops[j]? = some p → j < ops.size := fun h => (Array.getElem?_eq_some_iff.1 h).1
  simp only [mixOK, Bool.and_eq_true] at hok
  obtain ⟨⟨⟨⟨hfix, hch⟩, hlook⟩, hgu⟩, hnd⟩ := hok
  have noB : ∀ {i o}, i ∉ bs → ops[i]? = some o → ∀ t ∈ o.looksAt ops, ∀ j ∈ bs, ∀ p, ops[j]? = some p → p.dst ≠ some t := by
    intro i o hi ho t ht j hj p hp
    rw [List.all_eq_true] at hlook
    have h := hlook i (List.mem_range.2 (lt ho))
    simp only [ho, Bool.or_eq_true, List.contains_iff_mem, hi, false_or] at h
    rw [List.all_eq_true] at h
    have h := h t ht
    rw [List.all_eq_true] at h
    have h := h j hj
    simpa [hp] using h
  have noG : ∀ {i o}, i ∈ bs → ops[i]? = some o → o.guard = none := by
    intro i o hi ho
    rw [List.all_eq_true] at hgu
    have h := hgu i hi
    simp only [ho] at h
    exact Option.isNone_iff_eq_none.1 h
  have ready : ∀ (listed : Array Bool), listed.size = ops.size → Region.ready md ops listed = [] → ∀ j o, ops[j]? = some o → listed.getD j true = true := by
    intro listed hsz hr j
    induction j using Nat.strongRecOn with
    | ind j ih =>
      intro o hj
      apply Classical.byContradiction
      intro c
      have c' : listed.getD j true = false := by simpa using c
      have : j ∈ Region.ready md ops listed := mem_ready.2 ⟨c', o, hj, fun e he hb => by
        have hlt := (fixOK_at hfix hj).2.2.2 e he hb
        have he2 : ops[e.on]? = some (ops[e.on]'(Nat.lt_trans hlt (lt hj))) := Array.getElem?_eq_getElem (Nat.lt_trans hlt (lt hj))
        have := ih e.on hlt _ he2
        rw [Array.getD_eq_getD_getElem?] at this ⊢
        rw [Array.getElem?_eq_getElem (by rw [hsz]; exact Nat.lt_trans hlt (lt hj))] at this ⊢
        exact this⟩
      rw [hr] at this
      cases this
  have done : ∀ (listed : Array Bool) (rest : List Nat) (aF a : Act) (w : World), (∀ j o, ops[j]? = some o → listed.getD j true = true) → (∀ i, i ∈ rest ↔ (i ∈ bs ∧ listed.getD i true = false)) → MeetsM ops listed rest aF a → mixList P ops S Q rest aF w → Q .normal a w := by
    intro listed rest aF a w hall hrest hm hx
    have e : rest = [] := by
      cases rest with
      | nil => rfl
      | cons b l =>
        obtain ⟨o, ho, _⟩ := hx
        have := (hrest b).1 List.mem_cons_self
        rw [hall b o ho] at this
        cases this.2
    subst e
    have : a = aF := by
      obtain ⟨h1, h2, h3⟩ := hm
      obtain ⟨t1, d1⟩ := a
      obtain ⟨t2, d2⟩ := aF
      simp only at h1 h2 h3
      subst h1
      have : t1 = t2 := Array.ext_getElem? fun t => h3 t fun j o hj _ => .inl (hall j o hj)
      subst this
      rfl
    rw [this]
    exact hx
  intro fuel
  induction fuel with
  | zero =>
    intro listed rest aF a w hsz hl _ _ hrest _ _ _ hm _ hx
    have hn : left ops listed = [] := List.eq_nil_of_length_eq_zero (by omega)
    have hall : ∀ j o, ops[j]? = some o → listed.getD j true = true := by
      intro j o hj
      apply Classical.byContradiction
      intro c
      have : j ∈ left ops listed := List.mem_filter.2 ⟨List.mem_range.2 (lt hj), by simpa using c⟩
      rw [hn] at this
      cases this
    refine ⟨?_, done listed rest aF a w hall hrest hm hx⟩
    cases hr : Region.ready md ops listed with
    | nil => rfl
    | cons x xs =>
      have : x ∈ Region.ready md ops listed := by rw [hr]; exact List.mem_cons_self
      obtain ⟨h0, o, ho, _⟩ := mem_ready.1 this
      rw [hall x o ho] at h0
      cases h0
  | succ fuel ih =>
    intro listed rest aF a w hsz hl hcr hndr hrest hdf hsf hag hm hS hx
    refine ⟨fun hr => done listed rest aF a w (ready listed hsz hr) hrest hm hx, fun i hi => ?_⟩
    obtain ⟨hu, o, ho, hall⟩ := mem_ready.1 hi
    obtain ⟨k1, k2, k3, _⟩ := fixOK_at hfix ho
    have waits : ∀ {j : Nat} {e : Edge}, e ∈ o.after → Region.binds md e = true → e.on = j → (∃ p, ops[j]? = some p) → listed.getD j true = true := by
      rintro j e he hb rfl ⟨p, hp⟩
      have := hall e he hb
      rw [Array.getD_eq_getD_getElem?] at this ⊢
      rw [Array.getElem?_eq_getElem (by rw [hsz]; exact lt hp)] at this ⊢
      exact this
    have look : ∀ t ∈ o.looksAt ops, a.tmps[t]? = aF.tmps[t]? := fun t ht => hm.2.2 t fun j p hj hd => by
      obtain ⟨e, he, hb, he2⟩ := k2 t ht j p hj hd
      exact .inl (waits he hb he2 ⟨p, hj⟩)
    have getS : ∀ {j : Nat}, i ≠ j → (listed.setIfInBounds i true).getD j true = listed.getD j true := fun c => getD_set_ne true c
    have getI : (listed.setIfInBounds i true).getD i true = true := by simp [hsz, lt ho]
    by_cases hB : i ∈ bs
    · -- one of the forced ones
      have him : i ∈ rest := (hrest i).2 ⟨hB, hu⟩
      obtain ⟨b, l, rfl⟩ : ∃ b l, rest = b :: l := by
        cases rest with
        | nil => cases him
        | cons b l => exact ⟨b, l, rfl⟩
      have hib : i = b := by
        rcases List.mem_cons.1 him with h | h
        · exact h
        · exfalso
          obtain ⟨p, hp, hw⟩ := chain_head hcr h
          obtain ⟨oi, hoi, e, he, hb, hon⟩ := Region.waitsFor_spec hw
          have : oi = o := Option.some.inj (hoi.symm.trans ho)
          subst this
          have hpl := ((hrest p).1 hp).2
          have hps : p < ops.size := by
            have hpb := ((hrest p).1 hp).1
            rw [List.all_eq_true] at hgu
            have h := hgu p hpb
            cases hq : ops[p]? with
            | none => simp [hq] at h
            | some q => exact lt hq
          rw [waits he hb hon ⟨_, Array.getElem?_eq_getElem hps⟩] at hpl
          cases hpl
      subst hib
      obtain ⟨ee, ew⟩ := eval_eq (ops := ops) k1 look
      obtain ⟨o', ho', hwp⟩ := hx
      have : o' = o := Option.some.inj (ho'.symm.trans ho)
      subst this
      have hwant : Region.wanted o' (yielded ops a.tmps) = true := by unfold Region.wanted; rw [noG hB ho]
      unfold wpOp
      simp only [ho]
      rw [if_pos hwant]
      refine .inl ?_
      unfold Oper.wp at hwp ⊢
      rw [ee]
      refine upon_mix (S := S) (R := fun a' w' => mixList P ops S Q l a' w') (fun v w' hS' hm' => ?_) hwp
      refine ih (listed.setIfInBounds i true) l (aF.put o'.dst v) (a.put o'.dst v) w' (by simpa using hsz) (by have := left_set (ops := ops) (lt ho) hu; omega) (chain_tail hcr) (List.nodup_cons.1 hndr).2 (fun j => ?_) ?_ ?_ ?_ ?_ hS' hm'
      · by_cases c : i = j
        · subst c
          rw [getI]
          simp only [Bool.true_eq_false, and_false, iff_false]
          exact (List.nodup_cons.1 hndr).1
        · rw [getS c, ← hrest j, List.mem_cons]
          constructor
          · exact fun h => .inr h
          · rintro (h | h)
            · exact absurd h.symm c
            · exact h
      · cases hd : o'.dst <;> simpa [Act.put] using hdf
      · cases hd : o'.dst <;> simpa [Act.put] using hsf
      · intro t ht
        have hne : o'.dst ≠ some t := ht i hB o' ho
        rw [← hag t ht]
        cases hd : o'.dst with
        | none => rfl
        | some d => simp [Act.put, Array.getElem?_setIfInBounds_ne (show d ≠ t from fun e => hne (by rw [hd, e]))]
      · obtain ⟨m1, m2, m3⟩ := hm
        refine ⟨?_, ?_, fun t ht => ?_⟩
        · cases hd : o'.dst <;> simpa [Act.put] using m1
        · cases hd : o'.dst <;> simpa [Act.put] using m2
        · cases hd : o'.dst with
          | none =>
            refine m3 t fun j p hj hp => ?_
            by_cases c : i = j
            · subst c; exact .inr List.mem_cons_self
            · rcases ht j p hj hp with h | h
              · rw [getS c] at h; exact .inl h
              · exact .inr (List.mem_cons_of_mem _ h)
          | some d =>
            by_cases c : d = t
            · subst c
              simp [Act.put, Array.getElem?_setIfInBounds, m2]
            · have e1 : (a.put (some d) v).tmps[t]? = a.tmps[t]? := by simp [Act.put, Array.getElem?_setIfInBounds_ne c]
              have e2 : (aF.put (some d) v).tmps[t]? = aF.tmps[t]? := by simp [Act.put, Array.getElem?_setIfInBounds_ne c]
              rw [e1, e2]
              refine m3 t fun j p hj hp => ?_
              by_cases c2 : i = j
              · subst c2; exact .inr List.mem_cons_self
              · rcases ht j p hj hp with h | h
                · rw [getS c2] at h; exact .inl h
                · exact .inr (List.mem_cons_of_mem _ h)
    · -- one that only reads
      have look0 : ∀ t ∈ o.looksAt ops, a.tmps[t]? = a0.tmps[t]? := fun t ht => (look t ht).trans (hag t (noB hB ho t ht))
      obtain ⟨ee, ew⟩ := eval_eq (ops := ops) k1 look0
      have hdst : ∀ t, o.dst = some t → ∀ j ∈ bs, ∀ p, ops[j]? = some p → p.dst ≠ some t := fun t hd j hj p hp hpd => hB (by rw [k3 j p t hp hpd hd]; exact hj)
      have next : ∀ v, a0.put o.dst v = a0 → wpAny P md ops Q fuel (listed.setIfInBounds i true) (a.put o.dst v) w := by
        intro v hp
        refine ih _ rest aF _ _ (by simpa using hsz) (by have := left_set (ops := ops) (lt ho) hu; omega) hcr hndr (fun j => ?_) hdf hsf hag ?_ hS hx
        · by_cases c : i = j
          · subst c
            rw [getI]
            simp only [Bool.true_eq_false, and_false, iff_false]
            exact fun h => hB ((hrest i).1 h).1
          · rw [getS c]; exact hrest j
        · obtain ⟨m1, m2, m3⟩ := hm
          refine ⟨?_, ?_, fun t ht => ?_⟩
          · cases hd : o.dst <;> simpa [Act.put] using m1
          · cases hd : o.dst <;> simpa [Act.put] using m2
          · cases hd : o.dst with
            | none =>
              refine m3 t fun j p hj hpd => ?_
              by_cases c : i = j
              · subst c
                rw [ho] at hj
                injection hj with hj
                rw [← hj, hd] at hpd
                cases hpd
              · rw [← getS c]
                exact ht j p hj hpd
            | some d =>
              by_cases c : d = t
              · subst c
                by_cases l : d < a0.tmps.size
                · have e0 := put_fix hp hd l
                  rw [hag d (hdst d hd), e0]
                  simp [Act.put, m2, hsf, l]
                · have l' : aF.tmps.size ≤ d := by rw [hsf]; exact Nat.le_of_not_lt l
                  have l2 : (a.put (some d) v).tmps.size ≤ d := by
                    simp only [Act.put, Array.size_setIfInBounds, m2]
                    exact l'
                  rw [Array.getElem?_eq_none l2, Array.getElem?_eq_none l']
              · have : (a.put (some d) v).tmps[t]? = a.tmps[t]? := by simp [Act.put, Array.getElem?_setIfInBounds_ne c]
                rw [this]
                refine m3 t fun j p hj hpd => ?_
                by_cases c2 : i = j
                · subst c2
                  rw [ho] at hj
                  injection hj with hj
                  rw [← hj, hd] at hpd
                  injection hpd with hpd
                  exact absurd hpd c
                · rw [← getS c2]
                  exact ht j p hj hpd
      have h := hv i o hB ho w hS
      unfold wpOp
      simp only [ho]
      rw [ew]
      by_cases hw : Region.wanted o (yielded ops a0.tmps) = true
      · rw [if_pos hw] at h ⊢
        refine .inl ?_
        unfold Oper.wp at h ⊢
        rw [ee]
        exact upon_read next h
      · rw [if_neg hw] at h ⊢
        exact next undef h
end

/-- All operations but the forced ones owe what they read. -/
def OwesRI (P : Program) (ops : Array Oper) (S : World → Prop) (aF : Act) (bs : List Nat) : Nat → List Oper → Prop
  | _, [] => True
  | i, o :: l => (bs.contains i = true ∨ OwesR P ops S aF o) ∧ OwesRI P ops S aF bs (i + 1) l

theorem OwesRI.at_ {P : Program} {ops : Array Oper} {S : World → Prop} {aF : Act} {bs : List Nat} {l : List Oper} : ∀ {k : Nat}, OwesRI P ops S aF bs k l → ∀ {j : Nat} {o : Oper}, l[j]? = some o → k + j ∉ bs → OwesR P ops S aF o := by
  induction l with
  | nil => intro k h j o hj; simp at hj
  | cons x l ih =>
    intro k h j o hj hn
    cases j with
    | zero =>
      simp only [List.getElem?_cons_zero, Option.some.injEq] at hj
      subst hj
      rcases h.1 with c | c
      · exact absurd (by simpa using c) hn
      · exact c
    | succ j => exact ih h.2 (by simpa using hj) (by rw [show k + 1 + j = k + (j + 1) by omega]; exact hn)

theorem forced {P : Program} {ops : Array Oper} {S : World → Prop} {aF : Act} {bs : List Nat} {i : Nat} {o : Oper} {l : List Oper} (h : bs.contains i = true) (k : OwesRI P ops S aF bs (i + 1) l) : OwesRI P ops S aF bs i (o :: l) := ⟨.inl h, k⟩
theorem reads {P : Program} {ops : Array Oper} {S : World → Prop} {aF : Act} {bs : List Nat} {i : Nat} {o : Oper} {l : List Oper}
    (h : ∀ w, S w → ∀ K : Act → World → Prop, K aF w → if Region.wanted o (yielded ops aF.tmps) = true then o.wp P aF w K noPost else K (aF.put o.dst undef) w) (k : OwesRI P ops S aF bs (i + 1) l) : OwesRI P ops S aF bs i (o :: l) := by
  refine ⟨.inr fun w hw => ?_, k⟩
  have := h w hw (fun a' w' => a' = aF ∧ w' = w) ⟨rfl, rfl⟩
  by_cases c : Region.wanted o (yielded ops aF.tmps) = true
  · rw [if_pos c] at this ⊢; exact this
  · rw [if_neg c] at this ⊢; exact this.1
theorem mix_at {P : Program} {ops : Array Oper} {S : World → Prop} {Q : Exit → Act → World → Prop} {i : Nat} {l : List Nat} {a : Act} {w : World} {o : Oper} (d : Tmp) (ho : ops[i]? = some o) (hd : o.dst = some d)
    (h : ∀ K : Act → World → Prop, (∀ v w', S w' → mixList P ops S Q l (a.put (some d) v) w' → K (a.put (some d) v) w') → o.wp P a w K noPost) : mixList P ops S Q (i :: l) a w :=
  mix_cons ho (fun K hK => h K (by rw [← hd]; exact hK))
theorem mix_store {P : Program} {ops : Array Oper} {S : World → Prop} {Q : Exit → Act → World → Prop} {i : Nat} {l : List Nat} {a : Act} {w : World} {o : Oper} (ho : ops[i]? = some o) (hd : o.dst = none)
    (h : ∀ K : Act → World → Prop, (∀ w', S w' → mixList P ops S Q l a w' → K a w') → o.wp P a w K noPost) : mixList P ops S Q (i :: l) a w :=
  mix_cons ho (fun K hK => h K (by rw [hd] at hK; exact fun w' => hK undef w'))
theorem mix_nil {P : Program} {ops : Array Oper} {S : World → Prop} {Q : Exit → Act → World → Prop} {a : Act} {w : World} (h : Q .normal a w) : mixList P ops S Q [] a w := h

/-- Which slots the reading operations write. -/
def readSlots (bs : List Nat) : Nat → List Oper → List Tmp
  | _, [] => []
  | i, o :: l => if bs.contains i then readSlots bs (i + 1) l else (match o.dst with | some t => [t] | none => []) ++ readSlots bs (i + 1) l
theorem readSlots_mem {bs : List Nat} {t : Tmp} {l : List Oper} : ∀ {k : Nat}, t ∈ readSlots bs k l → ∃ j o, l[j]? = some o ∧ k + j ∉ bs ∧ o.dst = some t := by
  induction l with
  | nil => intro k h; cases h
  | cons x l ih =>
    intro k h
    unfold readSlots at h
    split at h
    · obtain ⟨j, o, h1, h2, h3⟩ := ih h
      exact ⟨j + 1, o, by simpa using h1, by rw [show k + (j + 1) = k + 1 + j by omega]; exact h2, h3⟩
    · rename_i c
      rcases List.mem_append.1 h with h | h
      · refine ⟨0, x, rfl, by simpa using c, ?_⟩
        cases hd : x.dst with
        | none => simp [hd] at h
        | some d => simp [hd] at h; rw [h]
      · obtain ⟨j, o, h1, h2, h3⟩ := ih h
        exact ⟨j + 1, o, by simpa using h1, by rw [show k + (j + 1) = k + 1 + j by omega]; exact h2, h3⟩

/-- THE LAW. ups: what each slot that a reading operation writes holds; bs: the numbers of the forced ones. -/
theorem wp_region_mix {P : Program} {ops : List Oper} {Q : Exit → Act → World → Prop} {id : Nat} {a : Act} {w : World} (bs : List Nat) (S : World → Prop) (ups : List (Tmp × Value)) (slots : List Tmp) (hm : P.follows .mixedOrders = true) (hok : mixOK .any ops.toArray bs = true)
    (hu : ups.map (·.1) = slots) (hb : (slots.all fun t => (readSlots bs 0 ops).contains t) = true) (hS : S w) (hdr : ∀ w, S w → S w.drew) (hv : OwesRI P ops.toArray S (fillA a ups) bs 0 ops) (hQ : ∀ w, S w → mixList P ops.toArray S Q bs (fillA a ups) w) : (Code.region id ops.toArray true).wp P Q a w := by
  have hok' := hok
  simp only [mixOK, Bool.and_eq_true, decide_eq_true_eq] at hok'
  obtain ⟨⟨⟨⟨_, hch⟩, _⟩, hgu⟩, hnd⟩ := hok'
  have inB : ∀ i, i ∈ bs → i < ops.toArray.size := fun i hi => by
    rw [List.all_eq_true] at hgu
    have h := hgu i hi
    cases hq : ops.toArray[i]? with
    | none => simp [hq] at h
    | some q => exact (Array.getElem?_eq_some_iff.1 hq).1
  refine wp_region_any hm (wpAny_mix (S := S) (a0 := fillA a ups) (bs := bs) hok (fun i o hi ho => hv.at_ (j := i) (by simpa using ho) (by simpa using hi)) _ (Array.replicate ops.toArray.size false) bs (fillA a ups) a w.drew (by simp) ?_ hch hnd (fun i => ?_) rfl rfl (fun _ _ => rfl) ⟨(fill_defers ups a).symm, (fill_size ups a).symm, fun t ht => ?_⟩ (hdr w hS) (hQ _ (hdr w hS)))
  · unfold left
    exact Nat.le_trans (List.length_filter_le _ _) (by simp)
  · refine ⟨fun h => ⟨h, ?_⟩, fun h => h.1⟩
    rw [Array.getD_eq_getD_getElem?, Array.getElem?_replicate, if_pos (inB i h)]
    rfl
  · refine (fill_off ups t (fun p hp e => ?_) a).symm
    have hmem : t ∈ slots := by rw [← hu, ← e]; exact List.mem_map.2 ⟨p, hp, rfl⟩
    rw [List.all_eq_true] at hb
    have h := hb t hmem
    obtain ⟨i, o, h1, h2, hd⟩ := readSlots_mem (by simpa using h)
    rw [Nat.zero_add] at h2
    have hkl : i < ops.length := (List.getElem?_eq_some_iff.1 h1).1
    have := ht i o (by simpa using h1) hd
    rcases this with h | h
    · rw [Array.getD_eq_getD_getElem?, Array.getElem?_replicate, if_pos (by simpa using hkl)] at h
      cases h
    · exact h2 h
end Go.Proofs.Ytgbedoffgahhaaa
