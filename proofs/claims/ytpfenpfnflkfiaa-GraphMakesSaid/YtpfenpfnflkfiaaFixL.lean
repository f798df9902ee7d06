/- As Fix, where the region's last operation waits for all the others, and may write what they read. -/
import Derived.Test.YtpfenpfnflkfiaaFix
namespace Go.Proofs.Ytpfenpfnflkfiaa
open Go
section
variable {P : Program} {ops : Array Oper} {Q : Exit → Act → World → Prop} {md : Region.Mode}

def fixOKL (md : Region.Mode) (ops : Array Oper) : Bool :=
  ((List.range (ops.size - 1)).all fun i => match ops[i]? with
    | none => true
    | some o =>
      (match o.op with | .select _ _ => false | _ => true) &&
      ((o.looksAt ops).all fun t => (List.range (ops.size - 1)).all fun j => match ops[j]? with
        | none => true
        | some p => p.dst != some t || o.after.any fun e => Region.binds md e && e.on == j) &&
      ((List.range (ops.size - 1)).all fun j => match ops[j]? with
        | none => true
        | some p => i == j || p.dst == none || p.dst != o.dst) &&
      (o.after.all fun e => !Region.binds md e || decide (e.on < i))) &&
  (match ops[ops.size - 1]? with
    | none => false
    | some o => ((List.range (ops.size - 1)).all fun j => o.after.any fun e => Region.binds md e && e.on == j) && o.after.all fun e => !Region.binds md e || decide (e.on < ops.size - 1))

theorem fixOKL_at {i : Nat} {o : Oper} (h : fixOKL md ops = true) (hi : ops[i]? = some o) (hm : i < ops.size - 1) :
    (∀ cs b, o.op ≠ .select cs b) ∧ (∀ t ∈ o.looksAt ops, ∀ j p, j < ops.size - 1 → ops[j]? = some p → p.dst = some t → ∃ e ∈ o.after, Region.binds md e = true ∧ e.on = j) ∧
    (∀ j p d, j < ops.size - 1 → ops[j]? = some p → p.dst = some d → o.dst = some d → i = j) ∧ (∀ e ∈ o.after, Region.binds md e = true → e.on < i) := by
  unfold fixOKL at h
  rw [Bool.and_eq_true] at h
  have h := h.1
  rw [List.all_eq_true] at h
  have h1 := h i (List.mem_range.2 hm)
  simp only [hi, Bool.and_eq_true] at h1
  obtain ⟨⟨⟨h1, h2⟩, h3⟩, h4⟩ := h1
  refine ⟨fun cs b e => ?_, fun t ht j p hl hj hd => ?_, fun j p d hl hj hd ho => ?_, fun e he hb => ?_⟩
  · rw [e] at h1; simp at h1
  · rw [List.all_eq_true] at h2
    have := h2 t ht
    rw [List.all_eq_true] at this
    have := this j (List.mem_range.2 hl)
    simp only [hj, hd, bne_self_eq_false, Bool.false_or, Array.any_eq_true] at this
    obtain ⟨k, hk, h5⟩ := this
    simp only [Bool.and_eq_true, beq_iff_eq] at h5
    exact ⟨o.after[k], Array.getElem_mem hk, h5.1, h5.2⟩
  · rw [List.all_eq_true] at h3
    have := h3 j (List.mem_range.2 hl)
    simp only [hj, hd, ho, bne_self_eq_false, Bool.or_false, Bool.or_eq_true, beq_iff_eq] at this
    rcases this with h | h
    · exact h
    · simp at h
  · rw [Array.all_eq_true] at h4
    obtain ⟨k, hk, rfl⟩ := Array.getElem_of_mem he
    have := h4 k hk
    simp only [Bool.or_eq_true, Bool.not_eq_true', decide_eq_true_eq] at this
    rcases this with h | h
    · rw [hb] at h; cases h
    · exact h

theorem fixOKL_last (h : fixOKL md ops = true) : ∃ o, ops[ops.size - 1]? = some o ∧ (∀ j, j < ops.size - 1 → ∃ e ∈ o.after, Region.binds md e = true ∧ e.on = j) ∧ ∀ e ∈ o.after, Region.binds md e = true → e.on < ops.size - 1 := by
  unfold fixOKL at h
  rw [Bool.and_eq_true] at h
  have h := h.2
  cases ho : ops[ops.size - 1]? with
  | none => rw [ho] at h; cases h
  | some o =>
    rw [ho] at h
    simp only [Bool.and_eq_true] at h
    refine ⟨o, rfl, fun j hj => ?_, fun e he hb => ?_⟩
    · have h1 := h.1
      rw [List.all_eq_true] at h1
      have := h1 j (List.mem_range.2 hj)
      simp only [Array.any_eq_true] at this
      obtain ⟨k, hk, h5⟩ := this
      simp only [Bool.and_eq_true, beq_iff_eq] at h5
      exact ⟨o.after[k], Array.getElem_mem hk, h5.1, h5.2⟩
    · have h2 := h.2
      rw [Array.all_eq_true] at h2
      obtain ⟨k, hk, rfl⟩ := Array.getElem_of_mem he
      have := h2 k hk
      simp only [Bool.or_eq_true, Bool.not_eq_true', decide_eq_true_eq] at this
      rcases this with h | h
      · rw [hb] at h; cases h
      · exact h

def MeetsL (ops : Array Oper) (listed : Array Bool) (aF a : Act) : Prop :=
  a.defers = aF.defers ∧ a.tmps.size = aF.tmps.size ∧ ∀ t, (∀ j o, j < ops.size - 1 → ops[j]? = some o → o.dst = some t → listed.getD j true = true) → a.tmps[t]? = aF.tmps[t]?

theorem all_done {listed : Array Bool} (hall : ∀ j o, ops[j]? = some o → listed.getD j true = true) : Region.ready md ops listed = [] := by
  cases hr : Region.ready md ops listed with
  | nil => rfl
  | cons x xs =>
    have : x ∈ Region.ready md ops listed := by rw [hr]; exact List.mem_cons_self
    obtain ⟨h0, o, ho, _⟩ := mem_ready.1 this
    rw [hall x o ho] at h0
    cases h0

theorem wpAny_done {listed : Array Bool} {fuel : Nat} {a : Act} {w : World} (hall : ∀ j o, ops[j]? = some o → listed.getD j true = true) (h : Q .normal a w) : wpAny P md ops Q fuel listed a w := by
  have hr := all_done (md := md) hall
  cases fuel with
  | zero => exact ⟨hr, h⟩
  | succ fuel => exact ⟨fun _ => h, fun i hi => by rw [hr] at hi; cases hi⟩

theorem wpAny_fixL {S : World → Prop} {aF : Act} (hok : fixOKL md ops = true) (hv : ∀ (i : Nat) (o : Oper), i < ops.size - 1 → ops[i]? = some o → Owes P ops S aF o) (hL : ∀ w, S w → wpOp P ops Q (ops.size - 1) (fun a w => Q .normal a w) aF w) :
    ∀ (fuel : Nat) (listed : Array Bool) (a : Act) (w : World), listed.size = ops.size → (left ops listed).length ≤ fuel → listed.getD (ops.size - 1) true = false → MeetsL ops listed aF a → S w → wpAny P md ops Q fuel listed a w := by
  have lt : ∀ {j p}, ops[j]? = some p → j < ops.size := fun h => (Array.getElem?_eq_some_iff.1 h).1
  obtain ⟨oL, hoL, hLa, hLb⟩ := fixOKL_last hok
  have hpos := lt hoL
  have ready : ∀ (listed : Array Bool), listed.size = ops.size → Region.ready md ops listed = [] → ∀ j o, ops[j]? = some o → listed.getD j true = true := by
    intro listed hsz hr j
    induction j using Nat.strongRecOn with
    | ind j ih =>
      intro o hj
      apply Classical.byContradiction
      intro c
      have c' : listed.getD j true = false := by simpa using c
      have : j ∈ Region.ready md ops listed := mem_ready.2 ⟨c', o, hj, fun e he hb => by
        have hlt : e.on < j := by
          by_cases cm : j < ops.size - 1
          · exact (fixOKL_at hok hj cm).2.2.2 e he hb
          · have hjl := lt hj
            have ej : j = ops.size - 1 := by omega
            rw [ej] at hj
            rw [hoL] at hj
            injection hj with hj
            subst hj
            rw [ej]
            exact hLb e he hb
        have he2 : ops[e.on]? = some (ops[e.on]'(Nat.lt_trans hlt (lt hj))) := Array.getElem?_eq_getElem (Nat.lt_trans hlt (lt hj))
        have := ih e.on hlt _ he2
        rw [Array.getD_eq_getD_getElem?] at this ⊢
        rw [Array.getElem?_eq_getElem (by rw [hsz]; exact Nat.lt_trans hlt (lt hj))] at this ⊢
        exact this⟩
      rw [hr] at this
      cases this
  intro fuel
  induction fuel with
  | zero =>
    intro listed a w hsz hl hm0 hm hS
    exfalso
    have : ops.size - 1 ∈ left ops listed := List.mem_filter.2 ⟨List.mem_range.2 hpos, by rw [hm0]; rfl⟩
    rw [List.eq_nil_of_length_eq_zero (Nat.le_zero.1 hl)] at this
    cases this
  | succ fuel ih =>
    intro listed a w hsz hl hm0 hm hS
    refine ⟨fun hr => ?_, fun i hi => ?_⟩
    · have := ready listed hsz hr _ _ hoL
      rw [hm0] at this
      cases this
    obtain ⟨hu, o, ho, hall⟩ := mem_ready.1 hi
    have conv : ∀ e ∈ o.after, Region.binds md e = true → e.on < ops.size → listed.getD e.on true = true := fun e he hb hlt => by
      have := hall e he hb
      rw [Array.getD_eq_getD_getElem?] at this ⊢
      rw [Array.getElem?_eq_getElem (by rw [hsz]; exact hlt)] at this ⊢
      exact this
    by_cases im : i < ops.size - 1
    · obtain ⟨k1, k2, k3, _⟩ := fixOKL_at hok ho im
      have look : ∀ t ∈ o.looksAt ops, a.tmps[t]? = aF.tmps[t]? := fun t ht => hm.2.2 t fun j p hl hj hd => by
        obtain ⟨e, he, hb, rfl⟩ := k2 t ht j p hl hj hd
        exact conv e he hb (lt hj)
      obtain ⟨ee, ew⟩ := eval_eq (ops := ops) k1 look
      have next : ∀ v w', aF.put o.dst v = aF → S w' → wpAny P md ops Q fuel (listed.setIfInBounds i true) (a.put o.dst v) w' := by
        intro v w' hp hS'
        refine ih _ _ _ (by simpa using hsz) (by have := left_set (ops := ops) (lt ho) hu; omega) (by rw [getD_set_ne true (by omega)]; exact hm0) ?_ hS'
        obtain ⟨m1, m2, m3⟩ := hm
        refine ⟨?_, ?_, fun t ht => ?_⟩
        · cases hd : o.dst <;> simpa [Act.put] using m1
        · cases hd : o.dst <;> simpa [Act.put] using m2
        · cases hd : o.dst with
          | none =>
            refine m3 t fun j p hl hj hp => ?_
            by_cases c : i = j
            · subst c
              rw [ho] at hj
              injection hj with hj
              rw [← hj, hd] at hp
              cases hp
            · rw [← getD_set_ne true c]
              exact ht j p hl hj hp
          | some d =>
            by_cases c : d = t
            · subst c
              by_cases l : d < aF.tmps.size
              · rw [put_fix hp hd l]
                simp [Act.put, m2, l]
              · have l' : aF.tmps.size ≤ d := Nat.le_of_not_lt l
                have l2 : (a.put (some d) v).tmps.size ≤ d := by
                  simp only [Act.put, Array.size_setIfInBounds, m2]
                  exact l'
                rw [Array.getElem?_eq_none l2, Array.getElem?_eq_none l']
            · have : (a.put (some d) v).tmps[t]? = a.tmps[t]? := by simp [Act.put, Array.getElem?_setIfInBounds_ne c]
              rw [this]
              refine m3 t fun j p hl hj hp => ?_
              by_cases c2 : i = j
              · subst c2
                rw [ho] at hj
                injection hj with hj
                rw [← hj, hd] at hp
                injection hp with hp
                exact absurd hp c
              · rw [← getD_set_ne true c2]
                exact ht j p hl hj hp
      have h := hv i o im ho w hS
      unfold wpOp
      simp only [ho]
      rw [ew]
      by_cases hw : Region.wanted o (yielded ops aF.tmps) = true
      · rw [if_pos hw] at h ⊢
        refine .inl ?_
        unfold Oper.wp at h ⊢
        rw [ee]
        exact upon_fix next h
      · rw [if_neg hw] at h ⊢
        exact next undef w h hS
    · have hil := lt ho
      obtain rfl : i = ops.size - 1 := by omega
      rw [hoL] at ho
      injection ho with ho
      subst ho
      have hall2 : ∀ j o, j < ops.size - 1 → ops[j]? = some o → listed.getD j true = true := fun j p hl hj => by
        obtain ⟨e, he, hb, rfl⟩ := hLa j hl
        exact conv e he hb (lt hj)
      have ea : a = aF := by
        obtain ⟨h1, h2, h3⟩ := hm
        obtain ⟨t1, d1⟩ := a
        obtain ⟨t2, d2⟩ := aF
        simp only at h1 h2 h3
        subst h1
        have : t1 = t2 := Array.ext_getElem? fun t => h3 t fun j o hl hj _ => hall2 j o hl hj
        subst this
        rfl
      rw [ea]
      refine wpOp_mono (fun a' w' h => wpAny_done (fun j p hj => ?_) h) (hL w hS)
      by_cases cm : j < ops.size - 1
      · rw [getD_set_ne true (by omega)]
        exact hall2 j p cm hj
      · have hjl := lt hj
        obtain rfl : j = ops.size - 1 := by omega
        rw [Array.getD_eq_getD_getElem?]
        simp [hsz, hpos]
end

/-- THE LAW, where the last operation waits for all the others: they are asked in the frame that they leave; it is run there, alone. -/
theorem wp_region_fillL {P : Program} {ops : List Oper} {Q : Exit → Act → World → Prop} {id : Nat} {a : Act} {w : World} (S : World → Prop) (ups : List (Tmp × Value)) (slots : List Tmp) (hm : P.follows .mixedOrders = true) (hok : fixOKL .any ops.toArray = true)
    (hu : ups.map (·.1) = slots) (hb : (slots.all fun t => ops.dropLast.any fun o => o.dst == some t) = true) (hS : S w) (hdr : ∀ w, S w → S w.drew) (hv : OwesAll P ops.toArray S (fillA a ups) ops.dropLast)
    (hL : ∀ w, S w → wpOp P ops.toArray Q (ops.length - 1) (fun a w => Q .normal a w) (fillA a ups) w) : (Code.region id ops.toArray true).wp P Q a w := by
  have hpos : 0 < ops.length := by
    obtain ⟨o, ho, _⟩ := fixOKL_last hok
    have := (Array.getElem?_eq_some_iff.1 ho).1
    simp at this
    omega
  refine wp_region_any hm (wpAny_fixL (aF := fillA a ups) hok (fun i o hi ho => hv.at_ o ?_) hL _ _ _ _ (by simp) ?_ ?_ ⟨(fill_defers ups a).symm, (fill_size ups a).symm, fun t ht => (fill_off ups t (fun p hp e => ?_) a).symm⟩ (hdr w hS))
  · simp only [List.size_toArray, List.getElem?_toArray] at hi ho
    rw [List.dropLast_eq_take]
    refine List.mem_of_getElem? (i := i) ?_
    rw [List.getElem?_take_of_lt hi]
    exact ho
  · unfold left
    exact Nat.le_trans (List.length_filter_le _ _) (by simp)
  · rw [Array.getD_eq_getD_getElem?, Array.getElem?_replicate]
    have : ops.toArray.size - 1 < ops.toArray.size := by simp; omega
    rw [if_pos this]
    rfl
  · have hmem : t ∈ slots := by rw [← hu, ← e]; exact List.mem_map.2 ⟨p, hp, rfl⟩
    rw [List.all_eq_true] at hb
    have := hb t hmem
    rw [List.any_eq_true] at this
    obtain ⟨o, ho, hd⟩ := this
    rw [List.dropLast_eq_take] at ho
    obtain ⟨i, hi, rfl⟩ := List.getElem_of_mem ho
    simp only [List.length_take] at hi
    have := ht i (ops[i]'(by omega)) (by simp; omega) (by simp) (by simpa using hd)
    rw [Array.getD_eq_getD_getElem?, Array.getElem?_replicate] at this
    have hlt : i < ops.toArray.size := by simp; omega
    rw [if_pos hlt] at this
    cases this
end Go.Proofs.Ytpfenpfnflkfiaa
