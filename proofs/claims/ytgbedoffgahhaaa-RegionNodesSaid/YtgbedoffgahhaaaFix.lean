/- A region whose order is open, told by its last frame: each operation, in that frame and in any world that meets S, gives what the frame holds. Whatever the order, the region ends there. -/
import Derived.Test.YtgbedoffgahhaaaWorld
import Derived.Orders
namespace Go.Proofs.Ytgbedoffgahhaaa
open Go

def noPost : Exit → Act → World → Prop := fun _ _ _ => False

section
variable {P : Program} {ops : Array Oper} {Q : Exit → Act → World → Prop} {md : Region.Mode}

/-- What one operation owes: in the last frame, in any world that meets S, it gives what that frame holds. -/
def Owes (P : Program) (ops : Array Oper) (S : World → Prop) (aF : Act) (o : Oper) : Prop :=
  ∀ w, S w → if Region.wanted o (yielded ops aF.tmps) = true then o.wp P aF w (fun a' w' => a' = aF ∧ S w') noPost else aF.put o.dst undef = aF

def OwesAll (P : Program) (ops : Array Oper) (S : World → Prop) (aF : Act) : List Oper → Prop
  | [] => True
  | o :: l => Owes P ops S aF o ∧ OwesAll P ops S aF l

theorem OwesAll.at_ {S : World → Prop} {aF : Act} {l : List Oper} (h : OwesAll P ops S aF l) : ∀ o ∈ l, Owes P ops S aF o := by
  induction l with
  | nil => intro o ho; cases ho
  | cons x l ih =>
    intro o ho
    rcases List.mem_cons.1 ho with rfl | ho
    · exact h.1
    · exact ih h.2 o ho

/-- What is asked of the region's shape: each operation waits for those whose slots it looks at, and for earlier ones alone; no slot is written twice; none selects. -/
def fixOK (md : Region.Mode) (ops : Array Oper) : Bool :=
  (List.range ops.size).all fun i => match ops[i]? with
    | none => true
    | some o =>
      (match o.op with | .select _ _ => false | _ => true) &&
      ((o.looksAt ops).all fun t => (List.range ops.size).all fun j => match ops[j]? with
        | none => true
        | some p => p.dst != some t || o.after.any fun e => Region.binds md e && e.on == j) &&
      ((List.range ops.size).all fun j => match ops[j]? with
        | none => true
        | some p => i == j || p.dst == none || p.dst != o.dst) &&
      (o.after.all fun e => !Region.binds md e || decide (e.on < i))

theorem fixOK_at {i : Nat} {o : Oper} (h : fixOK md ops = true) (hi : ops[i]? = some o) :
    (∀ cs b, o.op ≠ .select cs b) ∧ (∀ t ∈ o.looksAt ops, ∀ j p, ops[j]? = some p → p.dst = some t → ∃ e ∈ o.after, Region.binds md e = true ∧ e.on = j) ∧
    (∀ j p d, ops[j]? = some p → p.dst = some d → o.dst = some d → i = j) ∧ (∀ e ∈ o.after, Region.binds md e = true → e.on < i) := by
  have lt : ∀ {j p}, ops[j]? = some p → j < ops.size := fun h => (Array.getElem?_eq_some_iff.1 h).1
  unfold fixOK at h
  rw [List.all_eq_true] at h
  have h1 := h i (List.mem_range.2 (lt hi))
  simp only [hi, Bool.and_eq_true] at h1
  obtain ⟨⟨⟨h1, h2⟩, h3⟩, h4⟩ := h1
  refine ⟨fun cs b e => ?_, fun t ht j p hj hd => ?_, fun j p d hj hd ho => ?_, fun e he hb => ?_⟩
  · rw [e] at h1; simp at h1
  · rw [List.all_eq_true] at h2
    have := h2 t ht
    rw [List.all_eq_true] at this
    have := this j (List.mem_range.2 (lt hj))
    simp only [hj, hd, bne_self_eq_false, Bool.false_or, Array.any_eq_true] at this
    obtain ⟨k, hk, h5⟩ := this
    simp only [Bool.and_eq_true, beq_iff_eq] at h5
    exact ⟨o.after[k], Array.getElem_mem hk, h5.1, h5.2⟩
  · rw [List.all_eq_true] at h3
    have := h3 j (List.mem_range.2 (lt hj))
    simp only [hj, hd, ho, bne_self_eq_false, Bool.or_false, Bool.or_eq_true, beq_iff_eq] at this
    rcases this with h | h
    · exact h
    · simp at h
  · rw [Array.all_eq_true] at h4
    obtain ⟨k, hk, rfl⟩ := Array.getElem_of_mem he
    have := h4 k hk
    simp only [Bool.or_eq_true, Bool.not_eq_true', decide_eq_true_eq] at this
    rcases this with h | h
    · rw [hb] at h; cases h
    · exact h

/-- The state meets the last frame in all slots that no operation still to come writes. -/
def Meets (ops : Array Oper) (listed : Array Bool) (aF a : Act) : Prop :=
  a.defers = aF.defers ∧ a.tmps.size = aF.tmps.size ∧ ∀ t, (∀ j o, ops[j]? = some o → o.dst = some t → listed.getD j true = true) → a.tmps[t]? = aF.tmps[t]?

def left (ops : Array Oper) (listed : Array Bool) : List Nat := (List.range ops.size).filter fun i => !listed.getD i true

theorem left_set {listed : Array Bool} {i : Nat} (hi : i < ops.size) (hu : listed.getD i true = false) : (left ops (listed.setIfInBounds i true)).length < (left ops listed).length := by
  have hs : i < listed.size := by
    apply Classical.byContradiction
    intro c
    rw [Array.getD_eq_getD_getElem?, Array.getElem?_eq_none (by omega)] at hu
    cases hu
  have e : left ops (listed.setIfInBounds i true) = (left ops listed).filter fun j => j != i := by
    unfold left
    rw [List.filter_filter]
    apply List.filter_congr
    intro j _
    by_cases c : i = j
    · subst c
      simp [hs]
    · rw [getD_set_ne true c]
      have : (j != i) = true := by simpa using (fun h => c h.symm)
      rw [this, Bool.true_and]
  rw [e]
  refine List.length_filter_lt_length_iff_exists.2 ⟨i, ?_, by simp⟩
  unfold left
  exact List.mem_filter.2 ⟨List.mem_range.2 hi, by rw [hu]; rfl⟩

theorem upon_fix {S : World → Prop} {aF a : Act} {o : Oper} {K : Act → World → Prop} {r : Result Next}
    (hK : ∀ v w', aF.put o.dst v = aF → S w' → K (a.put o.dst v) w') (h : o.upon P aF (fun a' w' => a' = aF ∧ S w') noPost r) : o.upon P a K Q r := by
  cases r with
  | ok n w' =>
    cases n with
    | value v => exact hK v w' h.1 h.2
    | skip => exact hK undef w' h.1 h.2
    | defer d =>
      exfalso
      have h1 : ({ aF with defers := d :: aF.defers } : Act).put o.dst undef = aF := h.1
      have := congrArg Act.defers h1
      cases hd : o.dst <;> simp [Act.put, hd] at this
    | enter f args =>
      refine Calls.mono h fun e w'' he => ?_
      cases e with
      | returned v => exact hK v w'' he.1 he.2
      | panicked c => exact he.elim
      | outgrown => obtain ⟨_, _, hf⟩ := he; exact hf.elim
    | row row args => exact Rows.mono h fun v w'' he => hK v w'' he.1 he.2
    | _ => exact h.elim
  | halt x w' =>
    cases x with
    | panic v => exact h.elim
    | _ => exact h.elim

theorem eval_eq {a aF : Act} {o : Oper} (hs : ∀ cs b, o.op ≠ .select cs b) (h : ∀ t ∈ o.looksAt ops, a.tmps[t]? = aF.tmps[t]?) :
    execOp a.eval o = execOp aF.eval o ∧ Region.wanted o (yielded ops a.tmps) = Region.wanted o (yielded ops aF.tmps) := by
  constructor
  · refine execOp_congr o hs fun x hx => ?_
    cases x with
    | tmp t =>
      have := h t (List.mem_append_left _ (List.mem_filterMap.2 ⟨.tmp t, by simpa using hx, rfl⟩))
      simp [Act.eval, Array.getD_eq_getD_getElem?, this]
    | _ => rfl
  · unfold Region.wanted
    cases hg : o.guard with
    | none => rfl
    | some gw =>
      obtain ⟨g, want⟩ := gw
      have hy : yielded ops a.tmps g = yielded ops aF.tmps g := by
        unfold yielded
        cases ht : (ops[g]?).bind (·.dst) with
        | none => rfl
        | some t =>
          have := h t (List.mem_append_right _ (by simp [hg, ht]))
          simp [this]
      simp only [hy]

theorem put_fix {aF : Act} {dst : Option Tmp} {v : Value} {d : Tmp} (h : aF.put dst v = aF) (hd : dst = some d) (hl : d < aF.tmps.size) : aF.tmps[d]? = some v := by
  have := congrArg Act.tmps h
  simp only [Act.put, hd] at this
  rw [← this]
  simp [hl]

theorem wpAny_fix {S : World → Prop} {aF : Act} (hok : fixOK md ops = true) (hv : ∀ (i : Nat) (o : Oper), ops[i]? = some o → Owes P ops S aF o) (hQ : ∀ w, S w → Q .normal aF w) :
    ∀ (fuel : Nat) (listed : Array Bool) (a : Act) (w : World), listed.size = ops.size → (left ops listed).length ≤ fuel → Meets ops listed aF a → S w → wpAny P md ops Q fuel listed a w := by
  have lt : ∀ {j p}, ops[j]? = some p → j < ops.size := fun h => (Array.getElem?_eq_some_iff.1 h).1
  have done : ∀ (listed : Array Bool) (a : Act) (w : World), (∀ j o, ops[j]? = some o → listed.getD j true = true) → Meets ops listed aF a → S w → Q .normal a w := by
    intro listed a w hall hm hS
    have : a = aF := by
      obtain ⟨h1, h2, h3⟩ := hm
      obtain ⟨t1, d1⟩ := a
      obtain ⟨t2, d2⟩ := aF
      simp only at h1 h2 h3
      subst h1
      have : t1 = t2 := Array.ext_getElem? fun t => h3 t fun j o hj _ => hall j o hj
      subst this
      rfl
    rw [this]
    exact hQ w hS
  have ready : ∀ (listed : Array Bool), listed.size = ops.size → Region.ready md ops listed = [] → ∀ j o, ops[j]? = some o → listed.getD j true = true := by
    intro listed hsz hr j
    induction j using Nat.strongRecOn with
    | ind j ih =>
      intro o hj
      apply Classical.byContradiction
      intro c
      have c' : listed.getD j true = false := by simpa using c
      have : j ∈ Region.ready md ops listed := mem_ready.2 ⟨c', o, hj, fun e he hb => by
        have hlt := (fixOK_at hok hj).2.2.2 e he hb
        have he2 : ops[e.on]? = some (ops[e.on]'(Nat.lt_trans hlt (lt hj))) := Array.getElem?_eq_getElem (Nat.lt_trans hlt (lt hj))
        have := ih e.on hlt _ he2
        rw [Array.getD_eq_getD_getElem?] at this ⊢
        rw [Array.getElem?_eq_getElem (by rw [hsz]; exact Nat.lt_trans hlt (lt hj))] at this ⊢
        exact this⟩
      rw [hr] at this
      cases this
  intro fuel
  induction fuel with
  | zero =>
    intro listed a w hsz hl hm hS
    have hn : left ops listed = [] := List.eq_nil_of_length_eq_zero (by omega)
    have hall : ∀ j o, ops[j]? = some o → listed.getD j true = true := by
      intro j o hj
      apply Classical.byContradiction
      intro c
      have : j ∈ left ops listed := List.mem_filter.2 ⟨List.mem_range.2 (lt hj), by simpa using c⟩
      rw [hn] at this
      cases this
    refine ⟨?_, done listed a w hall hm hS⟩
    cases hr : Region.ready md ops listed with
    | nil => rfl
    | cons x xs =>
      have : x ∈ Region.ready md ops listed := by rw [hr]; exact List.mem_cons_self
      obtain ⟨h0, o, ho, _⟩ := mem_ready.1 this
      rw [hall x o ho] at h0
      cases h0
  | succ fuel ih =>
    intro listed a w hsz hl hm hS
    refine ⟨fun hr => done listed a w (ready listed hsz hr) hm hS, fun i hi => ?_⟩
    obtain ⟨hu, o, ho, hall⟩ := mem_ready.1 hi
    obtain ⟨k1, k2, k3, _⟩ := fixOK_at hok ho
    have look : ∀ t ∈ o.looksAt ops, a.tmps[t]? = aF.tmps[t]? := fun t ht => hm.2.2 t fun j p hj hd => by
      obtain ⟨e, he, hb, rfl⟩ := k2 t ht j p hj hd
      have := hall e he hb
      rw [Array.getD_eq_getD_getElem?] at this ⊢
      rw [Array.getElem?_eq_getElem (by rw [hsz]; exact lt hj)] at this ⊢
      exact this
    obtain ⟨ee, ew⟩ := eval_eq (ops := ops) k1 look
    have next : ∀ v w', aF.put o.dst v = aF → S w' → wpAny P md ops Q fuel (listed.setIfInBounds i true) (a.put o.dst v) w' := by
      intro v w' hp hS'
      refine ih _ _ _ (by simpa using hsz) (by have := left_set (ops := ops) (lt ho) hu; omega) ?_ hS'
      obtain ⟨m1, m2, m3⟩ := hm
      refine ⟨?_, ?_, fun t ht => ?_⟩
      · cases hd : o.dst <;> simpa [Act.put] using m1
      · cases hd : o.dst <;> simpa [Act.put] using m2
      · cases hd : o.dst with
        | none =>
          refine m3 t fun j p hj hp => ?_
          by_cases c : i = j
          · subst c
            rw [ho] at hj
            injection hj with hj
            rw [← hj, hd] at hp
            cases hp
          · rw [← getD_set_ne true c]
            exact ht j p hj hp
        | some d =>
          by_cases c : d = t
          · subst c
            by_cases l : d < aF.tmps.size
            · rw [put_fix hp hd l]
              simp [Act.put, m2, l]
            · have l' : aF.tmps.size ≤ d := Nat.le_of_not_lt l
              have l2 : (a.put (some d) v).tmps.size ≤ d := by
                simp only [Act.put, Array.size_setIfInBounds, m2]
                exact l'
              rw [Array.getElem?_eq_none l2, Array.getElem?_eq_none l']
          · have : (a.put (some d) v).tmps[t]? = a.tmps[t]? := by simp [Act.put, Array.getElem?_setIfInBounds_ne c]
            rw [this]
            refine m3 t fun j p hj hp => ?_
            by_cases c2 : i = j
            · subst c2
              rw [ho] at hj
              injection hj with hj
              rw [← hj, hd] at hp
              injection hp with hp
              exact absurd hp c
            · rw [← getD_set_ne true c2]
              exact ht j p hj hp
    have h := hv i o ho w hS
    unfold wpOp
    simp only [ho]
    rw [ew]
    by_cases hw : Region.wanted o (yielded ops aF.tmps) = true
    · rw [if_pos hw] at h ⊢
      refine .inl ?_
      unfold Oper.wp at h ⊢
      rw [ee]
      exact upon_fix next h
    · rw [if_neg hw] at h ⊢
      exact next undef w h hS
end

/-- THE LAW. ups: what each slot that the region writes holds behind it. -/
theorem wp_region_fix {P : Program} {ops : Array Oper} {Q : Exit → Act → World → Prop} {id : Nat} {a : Act} {w : World} (S : World → Prop) (aF : Act) (hm : P.follows .mixedOrders = true) (hok : fixOK .any ops = true)
    (hd : a.defers = aF.defers) (hsz : a.tmps.size = aF.tmps.size) (hoff : ∀ t, (∀ o ∈ ops.toList, o.dst ≠ some t) → a.tmps[t]? = aF.tmps[t]?)
    (hS : S w) (hdr : ∀ w, S w → S w.drew) (hv : OwesAll P ops S aF ops.toList) (hQ : ∀ w, S w → Q .normal aF w) : (Code.region id ops true).wp P Q a w := by
  refine wp_region_any hm (wpAny_fix hok (fun i o ho => hv.at_ o ?_) hQ _ _ _ _ (by simp) ?_ ⟨hd, hsz, fun t ht => hoff t fun o ho hdst => ?_⟩ (hdr w hS))
  · obtain ⟨h1, h2⟩ := Array.getElem?_eq_some_iff.1 ho
    rw [← h2]
    exact Array.mem_toList_iff.2 (Array.getElem_mem h1)
  · unfold left
    exact Nat.le_trans (List.length_filter_le _ _) (by simp)
  · obtain ⟨i, hi, rfl⟩ := List.getElem_of_mem ho
    have := ht i ops.toList[i] (by simp at hi ⊢) hdst
    simp at hi
    rw [Array.getD_eq_getD_getElem?, Array.getElem?_replicate] at this
    simp [hi] at this

/-- The last frame by what the region's slots hold. -/
def fillA (a : Act) : List (Tmp × Value) → Act
  | [] => a
  | p :: l => fillA (a.put (some p.1) p.2) l

theorem fill_defers (l : List (Tmp × Value)) : ∀ a : Act, (fillA a l).defers = a.defers := by
  induction l with
  | nil => intro a; rfl
  | cons p l ih => intro a; exact ih _
theorem fill_size (l : List (Tmp × Value)) : ∀ a : Act, (fillA a l).tmps.size = a.tmps.size := by
  induction l with
  | nil => intro a; rfl
  | cons p l ih => intro a; exact (ih _).trans (by simp [Act.put])
theorem fill_off (l : List (Tmp × Value)) (t : Tmp) (h : ∀ p ∈ l, p.1 ≠ t) : ∀ a : Act, (fillA a l).tmps[t]? = a.tmps[t]? := by
  induction l with
  | nil => intro a; rfl
  | cons p l ih =>
    intro a
    refine (ih (fun q hq => h q (List.mem_cons_of_mem _ hq)) _).trans ?_
    simp [Act.put, Array.getElem?_setIfInBounds_ne (h p List.mem_cons_self)]

theorem owes_of {P : Program} {ops : Array Oper} {S : World → Prop} {aF : Act} {o : Oper}
    (h : ∀ w, S w → ∀ K : Act → World → Prop, (∀ w', S w' → K aF w') → if Region.wanted o (yielded ops aF.tmps) = true then o.wp P aF w K noPost else K (aF.put o.dst undef) w) : Owes P ops S aF o := by
  intro w hw
  have := h w hw (fun a' w' => a' = aF ∧ S w') (fun w' h' => ⟨rfl, h'⟩)
  by_cases c : Region.wanted o (yielded ops aF.tmps) = true
  · rw [if_pos c] at this ⊢; exact this
  · rw [if_neg c] at this ⊢; exact this.1

theorem owes_cons {P : Program} {ops : Array Oper} {S : World → Prop} {aF : Act} {o : Oper} {l : List Oper}
    (h : ∀ w, S w → ∀ K : Act → World → Prop, (∀ w', S w' → K aF w') → if Region.wanted o (yielded ops aF.tmps) = true then o.wp P aF w K noPost else K (aF.put o.dst undef) w) (k : OwesAll P ops S aF l) : OwesAll P ops S aF (o :: l) := ⟨owes_of h, k⟩

theorem wp_region_fill {P : Program} {ops : List Oper} {Q : Exit → Act → World → Prop} {id : Nat} {a : Act} {w : World} (S : World → Prop) (ups : List (Tmp × Value)) (slots : List Tmp) (hm : P.follows .mixedOrders = true) (hok : fixOK .any ops.toArray = true)
    (hu : ups.map (·.1) = slots) (hb : (slots.all fun t => ops.any fun o => o.dst == some t) = true) (hS : S w) (hdr : ∀ w, S w → S w.drew) (hv : OwesAll P ops.toArray S (fillA a ups) ops) (hQ : ∀ w, S w → Q .normal (fillA a ups) w) : (Code.region id ops.toArray true).wp P Q a w := by
  refine wp_region_fix S (fillA a ups) hm hok (fill_defers ups a).symm (fill_size ups a).symm (fun t ht => (fill_off ups t (fun p hp e => ?_) a).symm) hS hdr hv hQ
  have hmem : t ∈ slots := by rw [← hu, ← e]; exact List.mem_map.2 ⟨p, hp, rfl⟩
  rw [List.all_eq_true] at hb
  have := hb t hmem
  rw [List.any_eq_true] at this
  obtain ⟨o, ho, hd⟩ := this
  exact ht o ho (by simpa using hd)
end Go.Proofs.Ytgbedoffgahhaaa
