/- A region whose order is open, told by its last frame: each operation, in that frame and in any world that meets S, gives what the frame holds. Whatever the order, the region ends there. A region whose order is open, with some operations in one forced order (calls that make memory, stores): these are walked one behind the other; all others only read, and are told by the frame that they leave. A struct or an array of many cells that is loaded, whole, from the beginning of a box: told at once (the walk's own simp takes twice as long for each cell more). A box of many cells that is made: the world behind it is a letter. A region whose order is open, with a tail that waits for all that stands ahead of it: the head is told by its last frame, the tail is walked. A region whose order is open, with some operations in one forced order that turn the world from stage to stage; every slot's last value is known. -/
import Derived.Orders
import Derived.StillTail
import Derived.Deep.MidRow
import Derived.WalkKit
import Derived.Test.YtliijchcpooplaaGreatOMWorld
namespace Go.Proofs.YtliijchcpooplaaGreat
open Go
def noPost : Exit -> Act -> World -> Prop := fun _ _ _ => False
section
variable {P : Program} {ops : Array Oper} {Q : Exit -> Act -> World -> Prop} {md : Region.Mode}
def Owes (P : Program) (ops : Array Oper) (S : World -> Prop) (aF : Act) (o : Oper) : Prop :=
  ∀ w, S w -> if Region.wanted o (yielded ops aF.tmps) = true then o.wp P aF w (fun a' w' => a' = aF /\ S w') noPost else aF.put o.dst undef = aF
def OwesAll (P : Program) (ops : Array Oper) (S : World -> Prop) (aF : Act) : List Oper -> Prop
  | [] => True
  | o :: l => Owes P ops S aF o /\ OwesAll P ops S aF l
theorem OwesAll.at_ {S : World -> Prop} {aF : Act} {l : List Oper} (h : OwesAll P ops S aF l) : ∀ o ∈ l, Owes P ops S aF o := by
  induction l with
  | nil => intro o ho; cases ho
  | cons x l ih =>
    intro o ho
    rcases List.mem_cons.1 ho with rfl | ho
    . exact h.1
    . exact ih h.2 o ho
def fixOK (md : Region.Mode) (ops : Array Oper) : Bool :=
  (List.range ops.size).all fun i => match ops[i]? with
    | none => true
    | some o =>
      (match o.op with | .select _ _ => false | _ => true) &&
      ((o.looksAt ops).all fun t => (List.range ops.size).all fun j => match ops[j]? with
        | none => true
        | some p => p.dst != some t || o.after.any fun e => Region.binds md e && e.on == j) &&
      ((List.range ops.size).all fun j => match ops[j]? with
        | none => true
        | some p => i == j || p.dst == none || p.dst != o.dst) &&
      (o.after.all fun e => !Region.binds md e || decide (e.on < i))
theorem fixOK_at {i : Nat} {o : Oper} (h : fixOK md ops = true) (hi : ops[i]? = some o) :
    (∀ cs b, o.op ≠ .select cs b) /\ (∀ t ∈ o.looksAt ops, ∀ j p, ops[j]? = some p -> p.dst = some t -> ∃ e ∈ o.after, Region.binds md e = true /\ e.on = j) /\
    (∀ j p d, ops[j]? = some p -> p.dst = some d -> o.dst = some d -> i = j) /\ (∀ e ∈ o.after, Region.binds md e = true -> e.on < i) := by
  have lt : ∀ {j p}, ops[j]? = some p -> j < ops.size := fun h => (Array.getElem?_eq_some_iff.1 h).1
  unfold fixOK at h
  rw [List.all_eq_true] at h
  have h1 := h i (List.mem_range.2 (lt hi))
  simp only [hi, Bool.and_eq_true] at h1
  obtain ⟨⟨⟨h1, h2⟩, h3⟩, h4⟩ := h1
  refine ⟨fun cs b e => ?_, fun t ht j p hj hd => ?_, fun j p d hj hd ho => ?_, fun e he hb => ?_⟩
  . rw [e] at h1; simp at h1
  . rw [List.all_eq_true] at h2
    have := h2 t ht
    rw [List.all_eq_true] at this
    have := this j (List.mem_range.2 (lt hj))
    simp only [hj, hd, bne_self_eq_false, Bool.false_or, Array.any_eq_true] at this
    obtain ⟨k, hk, h5⟩ := this
    simp only [Bool.and_eq_true, beq_iff_eq] at h5
    exact ⟨o.after[k], Array.getElem_mem hk, h5.1, h5.2⟩
  . rw [List.all_eq_true] at h3
    have := h3 j (List.mem_range.2 (lt hj))
    simp only [hj, hd, ho, bne_self_eq_false, Bool.or_false, Bool.or_eq_true, beq_iff_eq] at this
    rcases this with h | h
    . exact h
    . simp at h
  . rw [Array.all_eq_true] at h4
    obtain ⟨k, hk, rfl⟩ := Array.getElem_of_mem he
    have := h4 k hk
    simp only [Bool.or_eq_true, Bool.not_eq_true', decide_eq_true_eq] at this
    rcases this with h | h
    . rw [hb] at h; cases h
    . exact h
def Meets (ops : Array Oper) (listed : Array Bool) (aF a : Act) : Prop :=
  a.defers = aF.defers /\ a.tmps.size = aF.tmps.size /\ ∀ t, (∀ j o, ops[j]? = some o -> o.dst = some t -> listed.getD j true = true) -> a.tmps[t]? = aF.tmps[t]?
def left (ops : Array Oper) (listed : Array Bool) : List Nat := (List.range ops.size).filter fun i => !listed.getD i true
theorem left_set {listed : Array Bool} {i : Nat} (hi : i < ops.size) (hu : listed.getD i true = false) : (left ops (listed.setIfInBounds i true)).length < (left ops listed).length := by
  have hs : i < listed.size := by
    apply Classical.byContradiction
    intro c
    rw [Array.getD_eq_getD_getElem?, Array.getElem?_eq_none (by omega)] at hu
    cases hu
  have e : left ops (listed.setIfInBounds i true) = (left ops listed).filter fun j => j != i := by
    unfold left
    rw [List.filter_filter]
    apply List.filter_congr
    intro j _
    by_cases c : i = j
    . subst c
      simp [hs]
    . rw [getD_set_ne true c]
      have : (j != i) = true := by simpa using (fun h => c h.symm)
      rw [this, Bool.true_and]
  rw [e]
  refine List.length_filter_lt_length_iff_exists.2 ⟨i, ?_, by simp⟩
  unfold left
  exact List.mem_filter.2 ⟨List.mem_range.2 hi, by rw [hu]; rfl⟩
theorem upon_fix {S : World -> Prop} {aF a : Act} {o : Oper} {K : Act -> World -> Prop} {r : Result Next}
    (hK : ∀ v w', aF.put o.dst v = aF -> S w' -> K (a.put o.dst v) w') (h : o.upon P aF (fun a' w' => a' = aF /\ S w') noPost r) : o.upon P a K Q r := by
  cases r with
  | ok n w' =>
    cases n with
    | value v => exact hK v w' h.1 h.2
    | skip => exact hK undef w' h.1 h.2
    | defer d =>
      exfalso
      have h1 : ({ aF with defers := d :: aF.defers } : Act).put o.dst undef = aF := h.1
      have := congrArg Act.defers h1
      cases hd : o.dst <;> simp [Act.put, hd] at this
    | enter f args =>
      refine Calls.mono h fun e w'' he => ?_
      cases e with
      | returned v => exact hK v w'' he.1 he.2
      | panicked c => exact he.elim
      | outgrown => obtain ⟨_, _, hf⟩ := he; exact hf.elim
    | row row args => exact Rows.mono h fun v w'' he => hK v w'' he.1 he.2
    | _ => exact h.elim
  | halt x w' =>
    cases x with
    | panic v => exact h.elim
    | _ => exact h.elim
theorem eval_eq {a aF : Act} {o : Oper} (hs : ∀ cs b, o.op ≠ .select cs b) (h : ∀ t ∈ o.looksAt ops, a.tmps[t]? = aF.tmps[t]?) :
    execOp a.eval o = execOp aF.eval o /\ Region.wanted o (yielded ops a.tmps) = Region.wanted o (yielded ops aF.tmps) := by
  constructor
  . refine execOp_congr o hs fun x hx => ?_
    cases x with
    | tmp t =>
      have := h t (List.mem_append_left _ (List.mem_filterMap.2 ⟨.tmp t, by simpa using hx, rfl⟩))
      simp [Act.eval, Array.getD_eq_getD_getElem?, this]
    | _ => rfl
  . unfold Region.wanted
    cases hg : o.guard with
    | none => rfl
    | some gw =>
      obtain ⟨g, want⟩ := gw
      have hy : yielded ops a.tmps g = yielded ops aF.tmps g := by
        unfold yielded
        cases ht : (ops[g]?).bind (·.dst) with
        | none => rfl
        | some t =>
          have := h t (List.mem_append_right _ (by simp [hg, ht]))
          simp [this]
      simp only [hy]
theorem put_fix {aF : Act} {dst : Option Tmp} {v : Value} {d : Tmp} (h : aF.put dst v = aF) (hd : dst = some d) (hl : d < aF.tmps.size) : aF.tmps[d]? = some v := by
  have := congrArg Act.tmps h
  simp only [Act.put, hd] at this
  rw [<- this]
  simp [hl]
theorem wpAny_fix {S : World -> Prop} {aF : Act} (hok : fixOK md ops = true) (hv : ∀ (i : Nat) (o : Oper), ops[i]? = some o -> Owes P ops S aF o) (hQ : ∀ w, S w -> Q .normal aF w) :
    ∀ (fuel : Nat) (listed : Array Bool) (a : Act) (w : World), listed.size = ops.size -> (left ops listed).length <= fuel -> Meets ops listed aF a -> S w -> wpAny P md ops Q fuel listed a w := by
  have lt : ∀ {j p}, ops[j]? = some p -> j < ops.size := fun h => (Array.getElem?_eq_some_iff.1 h).1
  have done : ∀ (listed : Array Bool) (a : Act) (w : World), (∀ j o, ops[j]? = some o -> listed.getD j true = true) -> Meets ops listed aF a -> S w -> Q .normal a w := by
    intro listed a w hall hm hS
    have : a = aF := by
      obtain ⟨h1, h2, h3⟩ := hm
      obtain ⟨t1, d1⟩ := a
      obtain ⟨t2, d2⟩ := aF
      simp only at h1 h2 h3
      subst h1
      have : t1 = t2 := Array.ext_getElem? fun t => h3 t fun j o hj _ => hall j o hj
      subst this
      rfl
    rw [this]
    exact hQ w hS
  have ready : ∀ (listed : Array Bool), listed.size = ops.size -> Region.ready md ops listed = [] -> ∀ j o, ops[j]? = some o -> listed.getD j true = true := by
    intro listed hsz hr j
    induction j using Nat.strongRecOn with
    | ind j ih =>
      intro o hj
      apply Classical.byContradiction
      intro c
      have c' : listed.getD j true = false := by simpa using c
      have : j ∈ Region.ready md ops listed := mem_ready.2 ⟨c', o, hj, fun e he hb => by
        have hlt := (fixOK_at hok hj).2.2.2 e he hb
        have he2 : ops[e.on]? = some (ops[e.on]'(Nat.lt_trans hlt (lt hj))) := Array.getElem?_eq_getElem (Nat.lt_trans hlt (lt hj))
        have := ih e.on hlt _ he2
        rw [Array.getD_eq_getD_getElem?] at this ⊢
        rw [Array.getElem?_eq_getElem (by rw [hsz]; exact Nat.lt_trans hlt (lt hj))] at this ⊢
        exact this⟩
      rw [hr] at this
      cases this
  intro fuel
  induction fuel with
  | zero =>
    intro listed a w hsz hl hm hS
    have hn : left ops listed = [] := List.eq_nil_of_length_eq_zero (by omega)
    have hall : ∀ j o, ops[j]? = some o -> listed.getD j true = true := by
      intro j o hj
      apply Classical.byContradiction
      intro c
      have : j ∈ left ops listed := List.mem_filter.2 ⟨List.mem_range.2 (lt hj), by simpa using c⟩
      rw [hn] at this
      cases this
    refine ⟨?_, done listed a w hall hm hS⟩
    cases hr : Region.ready md ops listed with
    | nil => rfl
    | cons x xs =>
      have : x ∈ Region.ready md ops listed := by rw [hr]; exact List.mem_cons_self
      obtain ⟨h0, o, ho, _⟩ := mem_ready.1 this
      rw [hall x o ho] at h0
      cases h0
  | succ fuel ih =>
    intro listed a w hsz hl hm hS
    refine ⟨fun hr => done listed a w (ready listed hsz hr) hm hS, fun i hi => ?_⟩
    obtain ⟨hu, o, ho, hall⟩ := mem_ready.1 hi
    obtain ⟨k1, k2, k3, _⟩ := fixOK_at hok ho
    have look : ∀ t ∈ o.looksAt ops, a.tmps[t]? = aF.tmps[t]? := fun t ht => hm.2.2 t fun j p hj hd => by
      obtain ⟨e, he, hb, rfl⟩ := k2 t ht j p hj hd
      have := hall e he hb
      rw [Array.getD_eq_getD_getElem?] at this ⊢
      rw [Array.getElem?_eq_getElem (by rw [hsz]; exact lt hj)] at this ⊢
      exact this
    obtain ⟨ee, ew⟩ := eval_eq (ops := ops) k1 look
    have next : ∀ v w', aF.put o.dst v = aF -> S w' -> wpAny P md ops Q fuel (listed.setIfInBounds i true) (a.put o.dst v) w' := by
      intro v w' hp hS'
      refine ih _ _ _ (by simpa using hsz) (by have := left_set (ops := ops) (lt ho) hu; omega) ?_ hS'
      obtain ⟨m1, m2, m3⟩ := hm
      refine ⟨?_, ?_, fun t ht => ?_⟩
      . cases hd : o.dst <;> simpa [Act.put] using m1
      . cases hd : o.dst <;> simpa [Act.put] using m2
      . cases hd : o.dst with
        | none =>
          refine m3 t fun j p hj hp => ?_
          by_cases c : i = j
          . subst c
            rw [ho] at hj
            injection hj with hj
            rw [<- hj, hd] at hp
            cases hp
          . rw [<- getD_set_ne true c]
            exact ht j p hj hp
        | some d =>
          by_cases c : d = t
          . subst c
            by_cases l : d < aF.tmps.size
            . rw [put_fix hp hd l]
              simp [Act.put, m2, l]
            . have l' : aF.tmps.size <= d := Nat.le_of_not_lt l
              have l2 : (a.put (some d) v).tmps.size <= d := by
                simp only [Act.put, Array.size_setIfInBounds, m2]
                exact l'
              rw [Array.getElem?_eq_none l2, Array.getElem?_eq_none l']
          . have : (a.put (some d) v).tmps[t]? = a.tmps[t]? := by simp [Act.put, Array.getElem?_setIfInBounds_ne c]
            rw [this]
            refine m3 t fun j p hj hp => ?_
            by_cases c2 : i = j
            . subst c2
              rw [ho] at hj
              injection hj with hj
              rw [<- hj, hd] at hp
              injection hp with hp
              exact absurd hp c
            . rw [<- getD_set_ne true c2]
              exact ht j p hj hp
    have h := hv i o ho w hS
    unfold wpOp
    simp only [ho]
    rw [ew]
    by_cases hw : Region.wanted o (yielded ops aF.tmps) = true
    . rw [if_pos hw] at h ⊢
      refine .inl ?_
      unfold Oper.wp at h ⊢
      rw [ee]
      exact upon_fix next h
    . rw [if_neg hw] at h ⊢
      exact next undef w h hS
end
theorem wp_region_fix {P : Program} {ops : Array Oper} {Q : Exit -> Act -> World -> Prop} {id : Nat} {a : Act} {w : World} (S : World -> Prop) (aF : Act) (hm : P.follows .mixedOrders = true) (hok : fixOK .any ops = true)
    (hd : a.defers = aF.defers) (hsz : a.tmps.size = aF.tmps.size) (hoff : ∀ t, (∀ o ∈ ops.toList, o.dst ≠ some t) -> a.tmps[t]? = aF.tmps[t]?)
    (hS : S w) (hdr : ∀ w, S w -> S w.drew) (hv : OwesAll P ops S aF ops.toList) (hQ : ∀ w, S w -> Q .normal aF w) : (Code.region id ops true).wp P Q a w := by
  refine wp_region_any hm (wpAny_fix hok (fun i o ho => hv.at_ o ?_) hQ _ _ _ _ (by simp) ?_ ⟨hd, hsz, fun t ht => hoff t fun o ho hdst => ?_⟩ (hdr w hS))
  . obtain ⟨h1, h2⟩ := Array.getElem?_eq_some_iff.1 ho
    rw [<- h2]
    exact Array.mem_toList_iff.2 (Array.getElem_mem h1)
  . unfold left
    exact Nat.le_trans (List.length_filter_le _ _) (by simp)
  . obtain ⟨i, hi, rfl⟩ := List.getElem_of_mem ho
    have := ht i ops.toList[i] (by simp at hi ⊢) hdst
    simp at hi
    rw [Array.getD_eq_getD_getElem?, Array.getElem?_replicate] at this
    simp [hi] at this
theorem fU1 {α : Type} {l : List α} {i : Nat} {a : α} : l.toArray.setIfInBounds i a = (l.set i a).toArray := List.setIfInBounds_toArray _ _ _
theorem fU2 {α : Type} {x : α} {l : List α} {a : α} : (x :: l).set 0 a = a :: l := rfl
theorem fU3 {α : Type} {x : α} {l : List α} {n : Nat} {a : α} : (x :: l).set (n + 1) a = x :: l.set n a := rfl
def fillA (a : Act) : List (Tmp × Value) -> Act
  | [] => a
  | p :: l => fillA (a.put (some p.1) p.2) l
theorem fill_defers (l : List (Tmp × Value)) : ∀ a : Act, (fillA a l).defers = a.defers := by
  induction l with
  | nil => intro a; rfl
  | cons p l ih => intro a; exact ih _
theorem fill_size (l : List (Tmp × Value)) : ∀ a : Act, (fillA a l).tmps.size = a.tmps.size := by
  induction l with
  | nil => intro a; rfl
  | cons p l ih => intro a; exact (ih _).trans (by simp [Act.put])
theorem fill_off (l : List (Tmp × Value)) (t : Tmp) (h : ∀ p ∈ l, p.1 ≠ t) : ∀ a : Act, (fillA a l).tmps[t]? = a.tmps[t]? := by
  induction l with
  | nil => intro a; rfl
  | cons p l ih =>
    intro a
    refine (ih (fun q hq => h q (List.mem_cons_of_mem _ hq)) _).trans ?_
    simp [Act.put, Array.getElem?_setIfInBounds_ne (h p List.mem_cons_self)]
theorem owes_of {P : Program} {ops : Array Oper} {S : World -> Prop} {aF : Act} {o : Oper}
    (h : ∀ w, S w -> ∀ K : Act -> World -> Prop, (∀ w', S w' -> K aF w') -> if Region.wanted o (yielded ops aF.tmps) = true then o.wp P aF w K noPost else K (aF.put o.dst undef) w) : Owes P ops S aF o := by
  intro w hw
  have := h w hw (fun a' w' => a' = aF /\ S w') (fun w' h' => ⟨rfl, h'⟩)
  by_cases c : Region.wanted o (yielded ops aF.tmps) = true
  . rw [if_pos c] at this ⊢; exact this
  . rw [if_neg c] at this ⊢; exact this.1
theorem owes_cons {P : Program} {ops : Array Oper} {S : World -> Prop} {aF : Act} {o : Oper} {l : List Oper}
    (h : ∀ w, S w -> ∀ K : Act -> World -> Prop, (∀ w', S w' -> K aF w') -> if Region.wanted o (yielded ops aF.tmps) = true then o.wp P aF w K noPost else K (aF.put o.dst undef) w) (k : OwesAll P ops S aF l) : OwesAll P ops S aF (o :: l) := ⟨owes_of h, k⟩
theorem wp_region_fill {P : Program} {ops : List Oper} {Q : Exit -> Act -> World -> Prop} {id : Nat} {a : Act} {w : World} (S : World -> Prop) (ups : List (Tmp × Value)) (slots : List Tmp) (hm : P.follows .mixedOrders = true) (hok : fixOK .any ops.toArray = true)
    (hu : ups.map (·.1) = slots) (hb : (slots.all fun t => ops.any fun o => o.dst == some t) = true) (hS : S w) (hdr : ∀ w, S w -> S w.drew) (hv : OwesAll P ops.toArray S (fillA a ups) ops) (hQ : ∀ w, S w -> Q .normal (fillA a ups) w) : (Code.region id ops.toArray true).wp P Q a w := by
  refine wp_region_fix S (fillA a ups) hm hok (fill_defers ups a).symm (fill_size ups a).symm (fun t ht => (fill_off ups t (fun p hp e => ?_) a).symm) hS hdr hv hQ
  have hmem : t ∈ slots := by rw [<- hu, <- e]; exact List.mem_map.2 ⟨p, hp, rfl⟩
  rw [List.all_eq_true] at hb
  have := hb t hmem
  rw [List.any_eq_true] at this
  obtain ⟨o, ho, hd⟩ := this
  exact ht o ho (by simpa using hd)
section
variable {P : Program} {ops : Array Oper} {Q : Exit -> Act -> World -> Prop} {md : Region.Mode}
def OwesR (P : Program) (ops : Array Oper) (S : World -> Prop) (aF : Act) (o : Oper) : Prop :=
  ∀ w, S w -> if Region.wanted o (yielded ops aF.tmps) = true then o.wp P aF w (fun a' w' => a' = aF /\ w' = w) noPost else aF.put o.dst undef = aF
def chainW (md : Region.Mode) (ops : Array Oper) : List Nat -> Bool
  | i :: j :: l => Region.waitsFor md ops j i && chainW md ops (j :: l)
  | _ => true
def mixOK (md : Region.Mode) (ops : Array Oper) (bs : List Nat) : Bool :=
  fixOK md ops && chainW md ops bs &&
  ((List.range ops.size).all fun i => match ops[i]? with
    | none => true
    | some o => bs.contains i || ((o.looksAt ops).all fun t => bs.all fun j => match ops[j]? with
      | none => true
      | some p => p.dst != some t)) &&
  (bs.all fun i => match ops[i]? with
    | none => false
    | some o => o.guard.isNone) && decide bs.Nodup
def mixList (P : Program) (ops : Array Oper) (S : World -> Prop) (Q : Exit -> Act -> World -> Prop) : List Nat -> Act -> World -> Prop
  | [], a, w => Q .normal a w
  | i :: l, a, w => ∃ o, ops[i]? = some o /\ o.wp P a w (fun a' w' => a'.defers = a.defers /\ (∃ v, a' = a.put o.dst v) /\ S w' /\ mixList P ops S Q l a' w') noPost
theorem mix_cons {S : World -> Prop} {i : Nat} {l : List Nat} {a : Act} {w : World} {o : Oper} (ho : ops[i]? = some o)
    (h : ∀ K : Act -> World -> Prop, (∀ v w', S w' -> mixList P ops S Q l (a.put o.dst v) w' -> K (a.put o.dst v) w') -> o.wp P a w K noPost) : mixList P ops S Q (i :: l) a w :=
  ⟨o, ho, h _ fun v w' hS hm => ⟨by cases hd : o.dst <;> simp [Act.put], ⟨v, rfl⟩, hS, hm⟩⟩
theorem upon_mix {S : World -> Prop} {aF a : Act} {o : Oper} {K R : Act -> World -> Prop} {r : Result Next}
    (hK : ∀ v w', S w' -> R (aF.put o.dst v) w' -> K (a.put o.dst v) w') (h : o.upon P aF (fun a' w' => a'.defers = aF.defers /\ (∃ v, a' = aF.put o.dst v) /\ S w' /\ R a' w') noPost r) : o.upon P a K Q r := by
  cases r with
  | ok n w' =>
    cases n with
    | value v => exact hK v w' h.2.2.1 h.2.2.2
    | skip => exact hK undef w' h.2.2.1 h.2.2.2
    | defer d =>
      exfalso
      have h1 : (({ aF with defers := d :: aF.defers } : Act).put o.dst undef).defers = aF.defers := h.1
      cases hd : o.dst <;> simp [Act.put, hd] at h1
    | enter f args =>
      refine Calls.mono h fun e w'' he => ?_
      cases e with
      | returned v => exact hK v w'' he.2.2.1 he.2.2.2
      | panicked c => exact he.elim
      | outgrown => obtain ⟨_, _, hf⟩ := he; exact hf.elim
    | row row args => exact Rows.mono h fun v w'' he => hK v w'' he.2.2.1 he.2.2.2
    | _ => exact h.elim
  | halt x w' =>
    cases x with
    | panic v => exact h.elim
    | _ => exact h.elim
theorem upon_read {w : World} {aF a : Act} {o : Oper} {K : Act -> World -> Prop} {r : Result Next}
    (hK : ∀ v, aF.put o.dst v = aF -> K (a.put o.dst v) w) (h : o.upon P aF (fun a' w' => a' = aF /\ w' = w) noPost r) : o.upon P a K Q r :=
  upon_fix (S := fun w' => w' = w) (fun v w' hp hw => by subst hw; exact hK v hp) h
theorem chain_head {b : Nat} {l : List Nat} (h : chainW md ops (b :: l) = true) {i : Nat} (hi : i ∈ l) : ∃ p, p ∈ b :: l /\ Region.waitsFor md ops i p = true := by
  induction l generalizing b with
  | nil => cases hi
  | cons c l ih =>
    simp only [chainW, Bool.and_eq_true] at h
    rcases List.mem_cons.1 hi with rfl | hi
    . exact ⟨b, List.mem_cons_self, h.1⟩
    . obtain ⟨p, hp, hw⟩ := ih h.2 hi
      exact ⟨p, List.mem_cons_of_mem _ hp, hw⟩
theorem chain_tail {b : Nat} {l : List Nat} (h : chainW md ops (b :: l) = true) : chainW md ops l = true := by
  cases l with
  | nil => rfl
  | cons c l => simp only [chainW, Bool.and_eq_true] at h; exact h.2
def MeetsM (ops : Array Oper) (listed : Array Bool) (rest : List Nat) (aF a : Act) : Prop :=
  a.defers = aF.defers /\ a.tmps.size = aF.tmps.size /\ ∀ t, (∀ j o, ops[j]? = some o -> o.dst = some t -> listed.getD j true = true ∨ j ∈ rest) -> a.tmps[t]? = aF.tmps[t]?
theorem wpAny_mix {S : World -> Prop} {a0 : Act} {bs : List Nat} (hok : mixOK md ops bs = true) (hv : ∀ (i : Nat) (o : Oper), i ∉ bs -> ops[i]? = some o -> OwesR P ops S a0 o) :
    ∀ (fuel : Nat) (listed : Array Bool) (rest : List Nat) (aF a : Act) (w : World), listed.size = ops.size -> (left ops listed).length <= fuel -> chainW md ops rest = true -> rest.Nodup -> (∀ i, i ∈ rest ↔ (i ∈ bs /\ listed.getD i true = false)) ->
      aF.defers = a0.defers -> aF.tmps.size = a0.tmps.size -> (∀ t, (∀ j ∈ bs, ∀ p, ops[j]? = some p -> p.dst ≠ some t) -> aF.tmps[t]? = a0.tmps[t]?) -> MeetsM ops listed rest aF a -> S w -> mixList P ops S Q rest aF w -> wpAny P md ops Q fuel listed a w := by
  have lt : ∀ {j p}, ops[j]? = some p -> j < ops.size := fun h => (Array.getElem?_eq_some_iff.1 h).1
  simp only [mixOK, Bool.and_eq_true] at hok
  obtain ⟨⟨⟨⟨hfix, hch⟩, hlook⟩, hgu⟩, hnd⟩ := hok
  have noB : ∀ {i o}, i ∉ bs -> ops[i]? = some o -> ∀ t ∈ o.looksAt ops, ∀ j ∈ bs, ∀ p, ops[j]? = some p -> p.dst ≠ some t := by
    intro i o hi ho t ht j hj p hp
    rw [List.all_eq_true] at hlook
    have h := hlook i (List.mem_range.2 (lt ho))
    simp only [ho, Bool.or_eq_true, List.contains_iff_mem, hi, false_or] at h
    rw [List.all_eq_true] at h
    have h := h t ht
    rw [List.all_eq_true] at h
    have h := h j hj
    simpa [hp] using h
  have noG : ∀ {i o}, i ∈ bs -> ops[i]? = some o -> o.guard = none := by
    intro i o hi ho
    rw [List.all_eq_true] at hgu
    have h := hgu i hi
    simp only [ho] at h
    exact Option.isNone_iff_eq_none.1 h
  have ready : ∀ (listed : Array Bool), listed.size = ops.size -> Region.ready md ops listed = [] -> ∀ j o, ops[j]? = some o -> listed.getD j true = true := by
    intro listed hsz hr j
    induction j using Nat.strongRecOn with
    | ind j ih =>
      intro o hj
      apply Classical.byContradiction
      intro c
      have c' : listed.getD j true = false := by simpa using c
      have : j ∈ Region.ready md ops listed := mem_ready.2 ⟨c', o, hj, fun e he hb => by
        have hlt := (fixOK_at hfix hj).2.2.2 e he hb
        have he2 : ops[e.on]? = some (ops[e.on]'(Nat.lt_trans hlt (lt hj))) := Array.getElem?_eq_getElem (Nat.lt_trans hlt (lt hj))
        have := ih e.on hlt _ he2
        rw [Array.getD_eq_getD_getElem?] at this ⊢
        rw [Array.getElem?_eq_getElem (by rw [hsz]; exact Nat.lt_trans hlt (lt hj))] at this ⊢
        exact this⟩
      rw [hr] at this
      cases this
  have done : ∀ (listed : Array Bool) (rest : List Nat) (aF a : Act) (w : World), (∀ j o, ops[j]? = some o -> listed.getD j true = true) -> (∀ i, i ∈ rest ↔ (i ∈ bs /\ listed.getD i true = false)) -> MeetsM ops listed rest aF a -> mixList P ops S Q rest aF w -> Q .normal a w := by
    intro listed rest aF a w hall hrest hm hx
    have e : rest = [] := by
      cases rest with
      | nil => rfl
      | cons b l =>
        obtain ⟨o, ho, _⟩ := hx
        have := (hrest b).1 List.mem_cons_self
        rw [hall b o ho] at this
        cases this.2
    subst e
    have : a = aF := by
      obtain ⟨h1, h2, h3⟩ := hm
      obtain ⟨t1, d1⟩ := a
      obtain ⟨t2, d2⟩ := aF
      simp only at h1 h2 h3
      subst h1
      have : t1 = t2 := Array.ext_getElem? fun t => h3 t fun j o hj _ => .inl (hall j o hj)
      subst this
      rfl
    rw [this]
    exact hx
  intro fuel
  induction fuel with
  | zero =>
    intro listed rest aF a w hsz hl _ _ hrest _ _ _ hm _ hx
    have hn : left ops listed = [] := List.eq_nil_of_length_eq_zero (by omega)
    have hall : ∀ j o, ops[j]? = some o -> listed.getD j true = true := by
      intro j o hj
      apply Classical.byContradiction
      intro c
      have : j ∈ left ops listed := List.mem_filter.2 ⟨List.mem_range.2 (lt hj), by simpa using c⟩
      rw [hn] at this
      cases this
    refine ⟨?_, done listed rest aF a w hall hrest hm hx⟩
    cases hr : Region.ready md ops listed with
    | nil => rfl
    | cons x xs =>
      have : x ∈ Region.ready md ops listed := by rw [hr]; exact List.mem_cons_self
      obtain ⟨h0, o, ho, _⟩ := mem_ready.1 this
      rw [hall x o ho] at h0
      cases h0
  | succ fuel ih =>
    intro listed rest aF a w hsz hl hcr hndr hrest hdf hsf hag hm hS hx
    refine ⟨fun hr => done listed rest aF a w (ready listed hsz hr) hrest hm hx, fun i hi => ?_⟩
    obtain ⟨hu, o, ho, hall⟩ := mem_ready.1 hi
    obtain ⟨k1, k2, k3, _⟩ := fixOK_at hfix ho
    have waits : ∀ {j : Nat} {e : Edge}, e ∈ o.after -> Region.binds md e = true -> e.on = j -> (∃ p, ops[j]? = some p) -> listed.getD j true = true := by
      rintro j e he hb rfl ⟨p, hp⟩
      have := hall e he hb
      rw [Array.getD_eq_getD_getElem?] at this ⊢
      rw [Array.getElem?_eq_getElem (by rw [hsz]; exact lt hp)] at this ⊢
      exact this
    have look : ∀ t ∈ o.looksAt ops, a.tmps[t]? = aF.tmps[t]? := fun t ht => hm.2.2 t fun j p hj hd => by
      obtain ⟨e, he, hb, he2⟩ := k2 t ht j p hj hd
      exact .inl (waits he hb he2 ⟨p, hj⟩)
    have getS : ∀ {j : Nat}, i ≠ j -> (listed.setIfInBounds i true).getD j true = listed.getD j true := fun c => getD_set_ne true c
    have getI : (listed.setIfInBounds i true).getD i true = true := by simp [hsz, lt ho]
    by_cases hB : i ∈ bs
    . -- one of the forced ones
      have him : i ∈ rest := (hrest i).2 ⟨hB, hu⟩
      obtain ⟨b, l, rfl⟩ : ∃ b l, rest = b :: l := by
        cases rest with
        | nil => cases him
        | cons b l => exact ⟨b, l, rfl⟩
      have hib : i = b := by
        rcases List.mem_cons.1 him with h | h
        . exact h
        . exfalso
          obtain ⟨p, hp, hw⟩ := chain_head hcr h
          obtain ⟨oi, hoi, e, he, hb, hon⟩ := Region.waitsFor_spec hw
          have : oi = o := Option.some.inj (hoi.symm.trans ho)
          subst this
          have hpl := ((hrest p).1 hp).2
          have hps : p < ops.size := by
            have hpb := ((hrest p).1 hp).1
            rw [List.all_eq_true] at hgu
            have h := hgu p hpb
            cases hq : ops[p]? with
            | none => simp [hq] at h
            | some q => exact lt hq
          rw [waits he hb hon ⟨_, Array.getElem?_eq_getElem hps⟩] at hpl
          cases hpl
      subst hib
      obtain ⟨ee, ew⟩ := eval_eq (ops := ops) k1 look
      obtain ⟨o', ho', hwp⟩ := hx
      have : o' = o := Option.some.inj (ho'.symm.trans ho)
      subst this
      have hwant : Region.wanted o' (yielded ops a.tmps) = true := by unfold Region.wanted; rw [noG hB ho]
      unfold wpOp
      simp only [ho]
      rw [if_pos hwant]
      refine .inl ?_
      unfold Oper.wp at hwp ⊢
      rw [ee]
      refine upon_mix (S := S) (R := fun a' w' => mixList P ops S Q l a' w') (fun v w' hS' hm' => ?_) hwp
      refine ih (listed.setIfInBounds i true) l (aF.put o'.dst v) (a.put o'.dst v) w' (by simpa using hsz) (by have := left_set (ops := ops) (lt ho) hu; omega) (chain_tail hcr) (List.nodup_cons.1 hndr).2 (fun j => ?_) ?_ ?_ ?_ ?_ hS' hm'
      . by_cases c : i = j
        . subst c
          rw [getI]
          simp only [Bool.true_eq_false, and_false, iff_false]
          exact (List.nodup_cons.1 hndr).1
        . rw [getS c, <- hrest j, List.mem_cons]
          constructor
          . exact fun h => .inr h
          . rintro (h | h)
            . exact absurd h.symm c
            . exact h
      . cases hd : o'.dst <;> simpa [Act.put] using hdf
      . cases hd : o'.dst <;> simpa [Act.put] using hsf
      . intro t ht
        have hne : o'.dst ≠ some t := ht i hB o' ho
        rw [<- hag t ht]
        cases hd : o'.dst with
        | none => rfl
        | some d => simp [Act.put, Array.getElem?_setIfInBounds_ne (show d ≠ t from fun e => hne (by rw [hd, e]))]
      . obtain ⟨m1, m2, m3⟩ := hm
        refine ⟨?_, ?_, fun t ht => ?_⟩
        . cases hd : o'.dst <;> simpa [Act.put] using m1
        . cases hd : o'.dst <;> simpa [Act.put] using m2
        . cases hd : o'.dst with
          | none =>
            refine m3 t fun j p hj hp => ?_
            by_cases c : i = j
            . subst c; exact .inr List.mem_cons_self
            . rcases ht j p hj hp with h | h
              . rw [getS c] at h; exact .inl h
              . exact .inr (List.mem_cons_of_mem _ h)
          | some d =>
            by_cases c : d = t
            . subst c
              simp [Act.put, Array.getElem?_setIfInBounds, m2]
            . have e1 : (a.put (some d) v).tmps[t]? = a.tmps[t]? := by simp [Act.put, Array.getElem?_setIfInBounds_ne c]
              have e2 : (aF.put (some d) v).tmps[t]? = aF.tmps[t]? := by simp [Act.put, Array.getElem?_setIfInBounds_ne c]
              rw [e1, e2]
              refine m3 t fun j p hj hp => ?_
              by_cases c2 : i = j
              . subst c2; exact .inr List.mem_cons_self
              . rcases ht j p hj hp with h | h
                . rw [getS c2] at h; exact .inl h
                . exact .inr (List.mem_cons_of_mem _ h)
    . -- one that only reads
      have look0 : ∀ t ∈ o.looksAt ops, a.tmps[t]? = a0.tmps[t]? := fun t ht => (look t ht).trans (hag t (noB hB ho t ht))
      obtain ⟨ee, ew⟩ := eval_eq (ops := ops) k1 look0
      have hdst : ∀ t, o.dst = some t -> ∀ j ∈ bs, ∀ p, ops[j]? = some p -> p.dst ≠ some t := fun t hd j hj p hp hpd => hB (by rw [k3 j p t hp hpd hd]; exact hj)
      have next : ∀ v, a0.put o.dst v = a0 -> wpAny P md ops Q fuel (listed.setIfInBounds i true) (a.put o.dst v) w := by
        intro v hp
        refine ih _ rest aF _ _ (by simpa using hsz) (by have := left_set (ops := ops) (lt ho) hu; omega) hcr hndr (fun j => ?_) hdf hsf hag ?_ hS hx
        . by_cases c : i = j
          . subst c
            rw [getI]
            simp only [Bool.true_eq_false, and_false, iff_false]
            exact fun h => hB ((hrest i).1 h).1
          . rw [getS c]; exact hrest j
        . obtain ⟨m1, m2, m3⟩ := hm
          refine ⟨?_, ?_, fun t ht => ?_⟩
          . cases hd : o.dst <;> simpa [Act.put] using m1
          . cases hd : o.dst <;> simpa [Act.put] using m2
          . cases hd : o.dst with
            | none =>
              refine m3 t fun j p hj hpd => ?_
              by_cases c : i = j
              . subst c
                rw [ho] at hj
                injection hj with hj
                rw [<- hj, hd] at hpd
                cases hpd
              . rw [<- getS c]
                exact ht j p hj hpd
            | some d =>
              by_cases c : d = t
              . subst c
                by_cases l : d < a0.tmps.size
                . have e0 := put_fix hp hd l
                  rw [hag d (hdst d hd), e0]
                  simp [Act.put, m2, hsf, l]
                . have l' : aF.tmps.size <= d := by rw [hsf]; exact Nat.le_of_not_lt l
                  have l2 : (a.put (some d) v).tmps.size <= d := by
                    simp only [Act.put, Array.size_setIfInBounds, m2]
                    exact l'
                  rw [Array.getElem?_eq_none l2, Array.getElem?_eq_none l']
              . have : (a.put (some d) v).tmps[t]? = a.tmps[t]? := by simp [Act.put, Array.getElem?_setIfInBounds_ne c]
                rw [this]
                refine m3 t fun j p hj hpd => ?_
                by_cases c2 : i = j
                . subst c2
                  rw [ho] at hj
                  injection hj with hj
                  rw [<- hj, hd] at hpd
                  injection hpd with hpd
                  exact absurd hpd c
                . rw [<- getS c2]
                  exact ht j p hj hpd
      have h := hv i o hB ho w hS
      unfold wpOp
      simp only [ho]
      rw [ew]
      by_cases hw : Region.wanted o (yielded ops a0.tmps) = true
      . rw [if_pos hw] at h ⊢
        refine .inl ?_
        unfold Oper.wp at h ⊢
        rw [ee]
        exact upon_read next h
      . rw [if_neg hw] at h ⊢
        exact next undef h
end
def OwesRI (P : Program) (ops : Array Oper) (S : World -> Prop) (aF : Act) (bs : List Nat) : Nat -> List Oper -> Prop
  | _, [] => True
  | i, o :: l => (bs.contains i = true ∨ OwesR P ops S aF o) /\ OwesRI P ops S aF bs (i + 1) l
theorem OwesRI.at_ {P : Program} {ops : Array Oper} {S : World -> Prop} {aF : Act} {bs : List Nat} {l : List Oper} : ∀ {k : Nat}, OwesRI P ops S aF bs k l -> ∀ {j : Nat} {o : Oper}, l[j]? = some o -> k + j ∉ bs -> OwesR P ops S aF o := by
  induction l with
  | nil => intro k h j o hj; simp at hj
  | cons x l ih =>
    intro k h j o hj hn
    cases j with
    | zero =>
      simp only [List.getElem?_cons_zero, Option.some.injEq] at hj
      subst hj
      rcases h.1 with c | c
      . exact absurd (by simpa using c) hn
      . exact c
    | succ j => exact ih h.2 (by simpa using hj) (by rw [show k + 1 + j = k + (j + 1) by omega]; exact hn)
theorem forced {P : Program} {ops : Array Oper} {S : World -> Prop} {aF : Act} {bs : List Nat} {i : Nat} {o : Oper} {l : List Oper} (h : bs.contains i = true) (k : OwesRI P ops S aF bs (i + 1) l) : OwesRI P ops S aF bs i (o :: l) := ⟨.inl h, k⟩
theorem reads {P : Program} {ops : Array Oper} {S : World -> Prop} {aF : Act} {bs : List Nat} {i : Nat} {o : Oper} {l : List Oper}
    (h : ∀ w, S w -> ∀ K : Act -> World -> Prop, K aF w -> if Region.wanted o (yielded ops aF.tmps) = true then o.wp P aF w K noPost else K (aF.put o.dst undef) w) (k : OwesRI P ops S aF bs (i + 1) l) : OwesRI P ops S aF bs i (o :: l) := by
  refine ⟨.inr fun w hw => ?_, k⟩
  have := h w hw (fun a' w' => a' = aF /\ w' = w) ⟨rfl, rfl⟩
  by_cases c : Region.wanted o (yielded ops aF.tmps) = true
  . rw [if_pos c] at this ⊢; exact this
  . rw [if_neg c] at this ⊢; exact this.1
theorem mix_at {P : Program} {ops : Array Oper} {S : World -> Prop} {Q : Exit -> Act -> World -> Prop} {i : Nat} {l : List Nat} {a : Act} {w : World} {o : Oper} (d : Tmp) (ho : ops[i]? = some o) (hd : o.dst = some d)
    (h : ∀ K : Act -> World -> Prop, (∀ v w', S w' -> mixList P ops S Q l (a.put (some d) v) w' -> K (a.put (some d) v) w') -> o.wp P a w K noPost) : mixList P ops S Q (i :: l) a w :=
  mix_cons ho (fun K hK => h K (by rw [<- hd]; exact hK))
theorem mix_nil {P : Program} {ops : Array Oper} {S : World -> Prop} {Q : Exit -> Act -> World -> Prop} {a : Act} {w : World} (h : Q .normal a w) : mixList P ops S Q [] a w := h
def readSlots (bs : List Nat) : Nat -> List Oper -> List Tmp
  | _, [] => []
  | i, o :: l => if bs.contains i then readSlots bs (i + 1) l else (match o.dst with | some t => [t] | none => []) ++ readSlots bs (i + 1) l
theorem readSlots_mem {bs : List Nat} {t : Tmp} {l : List Oper} : ∀ {k : Nat}, t ∈ readSlots bs k l -> ∃ j o, l[j]? = some o /\ k + j ∉ bs /\ o.dst = some t := by
  induction l with
  | nil => intro k h; cases h
  | cons x l ih =>
    intro k h
    unfold readSlots at h
    split at h
    . obtain ⟨j, o, h1, h2, h3⟩ := ih h
      exact ⟨j + 1, o, by simpa using h1, by rw [show k + (j + 1) = k + 1 + j by omega]; exact h2, h3⟩
    . rename_i c
      rcases List.mem_append.1 h with h | h
      . refine ⟨0, x, rfl, by simpa using c, ?_⟩
        cases hd : x.dst with
        | none => simp [hd] at h
        | some d => simp [hd] at h; rw [h]
      . obtain ⟨j, o, h1, h2, h3⟩ := ih h
        exact ⟨j + 1, o, by simpa using h1, by rw [show k + (j + 1) = k + 1 + j by omega]; exact h2, h3⟩
theorem wp_region_mix {P : Program} {ops : List Oper} {Q : Exit -> Act -> World -> Prop} {id : Nat} {a : Act} {w : World} (bs : List Nat) (S : World -> Prop) (ups : List (Tmp × Value)) (slots : List Tmp) (hm : P.follows .mixedOrders = true) (hok : mixOK .any ops.toArray bs = true)
    (hu : ups.map (·.1) = slots) (hb : (slots.all fun t => (readSlots bs 0 ops).contains t) = true) (hS : S w) (hdr : ∀ w, S w -> S w.drew) (hv : OwesRI P ops.toArray S (fillA a ups) bs 0 ops) (hQ : ∀ w, S w -> mixList P ops.toArray S Q bs (fillA a ups) w) : (Code.region id ops.toArray true).wp P Q a w := by
  have hok' := hok
  simp only [mixOK, Bool.and_eq_true, decide_eq_true_eq] at hok'
  obtain ⟨⟨⟨⟨_, hch⟩, _⟩, hgu⟩, hnd⟩ := hok'
  have inB : ∀ i, i ∈ bs -> i < ops.toArray.size := fun i hi => by
    rw [List.all_eq_true] at hgu
    have h := hgu i hi
    cases hq : ops.toArray[i]? with
    | none => simp [hq] at h
    | some q => exact (Array.getElem?_eq_some_iff.1 hq).1
  refine wp_region_any hm (wpAny_mix (S := S) (a0 := fillA a ups) (bs := bs) hok (fun i o hi ho => hv.at_ (j := i) (by simpa using ho) (by simpa using hi)) _ (Array.replicate ops.toArray.size false) bs (fillA a ups) a w.drew (by simp) ?_ hch hnd (fun i => ?_) rfl rfl (fun _ _ => rfl) ⟨(fill_defers ups a).symm, (fill_size ups a).symm, fun t ht => ?_⟩ (hdr w hS) (hQ _ (hdr w hS)))
  . unfold left
    exact Nat.le_trans (List.length_filter_le _ _) (by simp)
  . refine ⟨fun h => ⟨h, ?_⟩, fun h => h.1⟩
    rw [Array.getD_eq_getD_getElem?, Array.getElem?_replicate, if_pos (inB i h)]
    rfl
  . refine (fill_off ups t (fun p hp e => ?_) a).symm
    have hmem : t ∈ slots := by rw [<- hu, <- e]; exact List.mem_map.2 ⟨p, hp, rfl⟩
    rw [List.all_eq_true] at hb
    have h := hb t hmem
    obtain ⟨i, o, h1, h2, hd⟩ := readSlots_mem (by simpa using h)
    rw [Nat.zero_add] at h2
    have hkl : i < ops.length := (List.getElem?_eq_some_iff.1 h1).1
    have := ht i o (by simpa using h1) hd
    rcases this with h | h
    . rw [Array.getD_eq_getD_getElem?, Array.getElem?_replicate, if_pos (by simpa using hkl)] at h
      cases h
    . exact h2 h
section
variable {P : Program} {ops : Array Oper} {Q : Exit -> Act -> World -> Prop}
theorem range_box {w : World} {b o : Nat} {cells : Array Value} (h : ∀ k : Nat, w.cell? ⟨b, k, none⟩ = cells[k]?) (l : List Value) (hl : ∀ j v, l[j]? = some v -> cells[o + j]? = some v) : w.rangeAt b o l := fun j v hv => by rw [h (o + j)]; exact hl j v hv
theorem wpList_load_box {rest : List Oper} {op : Oper} {a : Act} {w : World} (hgd : op.guard = none) (ty : TypeId) (x : Operand) (ho : op.op = .load ty x) (b : Nat) (cells : Array Value) {d : TypeDesc} (hx : a.eval x = .pointer (some ⟨b, 0, none⟩)) (hb : ∀ k : Nat, w.cell? ⟨b, k, none⟩ = cells[k]?)
    (hu : P.underlying ty = some d) (hd : d.isRow = true) (hi : (P.info? ty).map (·.size) = some cells.size) (h : wpList P ops Q rest (a.put op.dst (.agg cells)) w) : wpList P ops Q (op :: rest) a w :=
  wpList_load_mid hgd ty x ho b 0 hx cells.toList d (range_box hb _ (fun j v hv => by rw [Nat.zero_add]; simpa using hv)) hu hd (by simpa using hi) h
theorem wp_load_box {op : Oper} {a : Act} {w : World} {K : Act -> World -> Prop} (ty : TypeId) (x : Operand) (ho : op.op = .load ty x) (b : Nat) (cells : Array Value) {d : TypeDesc} (hx : a.eval x = .pointer (some ⟨b, 0, none⟩)) (hb : ∀ k : Nat, w.cell? ⟨b, k, none⟩ = cells[k]?)
    (hu : P.underlying ty = some d) (hd : d.isRow = true) (hi : (P.info? ty).map (·.size) = some cells.size) (h : K (a.put op.dst (.agg cells)) w) : op.wp P a w K Q :=
  wp_load_mid ty x ho b 0 hx cells.toList d (range_box hb _ (fun j v hv => by rw [Nat.zero_add]; simpa using hv)) hu hd (by simpa using hi) h
theorem reads_load {S : World -> Prop} {aF : Act} {bs : List Nat} {i : Nat} {o : Oper} {l : List Oper} (hg : o.guard = none) (ty : TypeId) (x : Operand) (ho : o.op = .load ty x) (b : Nat) (cells : Array Value) {d : TypeDesc} (hx : aF.eval x = .pointer (some ⟨b, 0, none⟩)) (hb : ∀ w, S w -> ∀ k : Nat, w.cell? ⟨b, k, none⟩ = cells[k]?)
    (hu : P.underlying ty = some d) (hd : d.isRow = true) (hi : (P.info? ty).map (·.size) = some cells.size) (hp : aF.put o.dst (.agg cells) = aF) (k : OwesRI P ops S aF bs (i + 1) l) : OwesRI P ops S aF bs i (o :: l) := by
  refine ⟨.inr fun w hw => ?_, k⟩
  have hwant : Region.wanted o (yielded ops aF.tmps) = true := by unfold Region.wanted; rw [hg]
  rw [if_pos hwant]
  exact wp_load_box ty x ho b cells hx (hb w hw) hu hd hi ⟨hp, rfl⟩
theorem owes_load {S : World -> Prop} {aF : Act} {o : Oper} {l : List Oper} (hg : o.guard = none) (ty : TypeId) (x : Operand) (ho : o.op = .load ty x) (b : Nat) (cells : Array Value) {d : TypeDesc} (hx : aF.eval x = .pointer (some ⟨b, 0, none⟩)) (hb : ∀ w, S w -> ∀ k : Nat, w.cell? ⟨b, k, none⟩ = cells[k]?)
    (hu : P.underlying ty = some d) (hd : d.isRow = true) (hi : (P.info? ty).map (·.size) = some cells.size) (hp : aF.put o.dst (.agg cells) = aF) (k : OwesAll P ops S aF l) : OwesAll P ops S aF (o :: l) := by
  refine ⟨fun w hw => ?_, k⟩
  have hwant : Region.wanted o (yielded ops aF.tmps) = true := by unfold Region.wanted; rw [hg]
  rw [if_pos hwant]
  exact wp_load_box ty x ho b cells hx (hb w hw) hu hd hi ⟨hp, hw⟩
end
section
variable {P : Program} {ops : Array Oper} {Q : Exit -> Act -> World -> Prop}
theorem wpList_alloc_box {rest : List Oper} {op : Oper} {a : Act} {w : World} (hgd : op.guard = none) (ty : TypeId) (ho : op.op = .alloc ty) (z : Value) (hz : (P.info? ty).map (·.zero) = some (some z)) (S : World -> Prop) (hS : S (w.alloc (.cells z.cells ty)))
    (h : ∀ w', S w' -> wpList P ops Q rest (a.put op.dst (.pointer (some ⟨w.heap.size, 0, none⟩))) w') : wpList P ops Q (op :: rest) a w := by
  refine wpList_plain hgd fun K hK => ?_
  obtain ⟨i, hi, hiz⟩ : ∃ i, P.info? ty = some i /\ i.zero = some z := by
    cases hq : P.info? ty with
    | none => simp [hq] at hz
    | some i => exact ⟨i, rfl, by simpa [hq] using hz⟩
  have hrun : (Instr.alloc ty true (.tuple #[])).run P w = .ok (.pointer (some ⟨w.heap.size, 0, none⟩)) (w.alloc (.cells z.cells ty)) := by
    simp [Instr.alloc, zeroValue, typeInfo, newVar, newRow, Sem.run_bind, hi, hiz, go_sem]
  unfold Oper.wp execOp
  simp only [ho]
  simp only [hrun, Sem.run_bind, Sem.run_pure, Result.andThen_ok]
  exact hK _ _ (h _ hS)
end
section
variable {P : Program} {ops : Array Oper} {Q : Exit -> Act -> World -> Prop} {md : Region.Mode}
def fixOKT (md : Region.Mode) (ops : Array Oper) (n : Nat) : Bool :=
  (List.range n).all fun i => match ops[i]? with
    | none => true
    | some o =>
      (match o.op with | .select _ _ => false | _ => true) &&
      ((o.looksAt ops).all fun t => (List.range n).all fun j => match ops[j]? with
        | none => true
        | some p => p.dst != some t || o.after.any fun e => Region.binds md e && e.on == j) &&
      ((List.range n).all fun j => match ops[j]? with
        | none => true
        | some p => i == j || p.dst == none || p.dst != o.dst) &&
      (o.after.all fun e => !Region.binds md e || decide (e.on < i))
theorem fixOKT_at {i n : Nat} {o : Oper} (h : fixOKT md ops n = true) (hn : i < n) (hi : ops[i]? = some o) :
    (∀ cs b, o.op ≠ .select cs b) /\ (∀ t ∈ o.looksAt ops, ∀ j p, j < n -> ops[j]? = some p -> p.dst = some t -> ∃ e ∈ o.after, Region.binds md e = true /\ e.on = j) /\
    (∀ j p d, j < n -> ops[j]? = some p -> p.dst = some d -> o.dst = some d -> i = j) /\ (∀ e ∈ o.after, Region.binds md e = true -> e.on < i) := by
  unfold fixOKT at h
  rw [List.all_eq_true] at h
  have h1 := h i (List.mem_range.2 hn)
  simp only [hi, Bool.and_eq_true] at h1
  obtain ⟨⟨⟨h1, h2⟩, h3⟩, h4⟩ := h1
  refine ⟨fun cs b e => ?_, fun t ht j p hjn hj hd => ?_, fun j p d hjn hj hd ho => ?_, fun e he hb => ?_⟩
  . rw [e] at h1; simp at h1
  . rw [List.all_eq_true] at h2
    have := h2 t ht
    rw [List.all_eq_true] at this
    have := this j (List.mem_range.2 hjn)
    simp only [hj, hd, bne_self_eq_false, Bool.false_or, Array.any_eq_true] at this
    obtain ⟨k, hk, h5⟩ := this
    simp only [Bool.and_eq_true, beq_iff_eq] at h5
    exact ⟨o.after[k], Array.getElem_mem hk, h5.1, h5.2⟩
  . rw [List.all_eq_true] at h3
    have := h3 j (List.mem_range.2 hjn)
    simp only [hj, hd, ho, bne_self_eq_false, Bool.or_false, Bool.or_eq_true, beq_iff_eq] at this
    rcases this with h | h
    . exact h
    . simp at h
  . rw [Array.all_eq_true] at h4
    obtain ⟨k, hk, rfl⟩ := Array.getElem_of_mem he
    have := h4 k hk
    simp only [Bool.or_eq_true, Bool.not_eq_true', decide_eq_true_eq] at this
    rcases this with h | h
    . rw [hb] at h; cases h
    . exact h
def MeetsT (ops : Array Oper) (n : Nat) (listed : Array Bool) (aF a : Act) : Prop :=
  a.defers = aF.defers /\ a.tmps.size = aF.tmps.size /\ ∀ t, (∀ j o, j < n -> ops[j]? = some o -> o.dst = some t -> listed.getD j true = true) -> a.tmps[t]? = aF.tmps[t]?
def leftT (n : Nat) (listed : Array Bool) : List Nat := (List.range n).filter fun i => !listed.getD i true
theorem leftT_set {n : Nat} {listed : Array Bool} {i : Nat} (hi : i < n) (hu : listed.getD i true = false) : (leftT n (listed.setIfInBounds i true)).length + 1 = (leftT n listed).length := by
  have hs : i < listed.size := by
    apply Classical.byContradiction
    intro c
    rw [Array.getD_eq_getD_getElem?, Array.getElem?_eq_none (by omega)] at hu
    cases hu
  have e : leftT n (listed.setIfInBounds i true) = (leftT n listed).filter fun j => j != i := by
    unfold leftT
    rw [List.filter_filter]
    apply List.filter_congr
    intro j _
    by_cases c : i = j
    . subst c
      simp [hs]
    . rw [getD_set_ne true c]
      have : (j != i) = true := by simpa using (fun h => c h.symm)
      rw [this, Bool.true_and]
  have nd : (leftT n listed).Nodup := List.Pairwise.filter _ List.nodup_range
  have mem : i ∈ leftT n listed := List.mem_filter.2 ⟨List.mem_range.2 hi, by rw [hu]; rfl⟩
  rw [e, <- List.Nodup.erase_eq_filter nd, List.length_erase_of_mem mem]
  have := List.length_pos_of_mem mem
  omega
def headL (n m : Nat) : Array Bool := ((List.range m).map fun i => decide (i < n)).toArray
theorem wpAny_fixT {S : World -> Prop} {aF : Act} {n : Nat} (hok : fixOKT md ops n = true) (hs : Region.sinkB md ops n = true) (hc : Region.chainB md ops n = true) (hn : n < ops.size)
    (hq : Region.seqB md ops (ops.size - n) n (headL n ops.size) = true)
    (hv : ∀ (i : Nat) (o : Oper), i < n -> ops[i]? = some o -> Owes P ops S aF o) (hQ : ∀ w, S w -> wpList P ops Q (ops.toList.drop n) aF w) :
    ∀ (fuel : Nat) (listed : Array Bool) (a : Act) (w : World), HeadInv md ops n listed -> (leftT n listed).length = fuel -> MeetsT ops n listed aF a -> S w -> wpAny P md ops Q (fuel + (ops.size - n)) listed a w := by
  intro fuel
  induction fuel with
  | zero =>
    intro listed a w inv hl hm hS
    have hnil : leftT n listed = [] := List.eq_nil_of_length_eq_zero hl
    have hall : ∀ j, j < n -> listed.getD j true = true := by
      intro j hj
      apply Classical.byContradiction
      intro c
      have : j ∈ leftT n listed := List.mem_filter.2 ⟨List.mem_range.2 hj, by simpa using c⟩
      rw [hnil] at this
      cases this
    have ea : a = aF := by
      obtain ⟨h1, h2, h3⟩ := hm
      obtain ⟨t1, d1⟩ := a
      obtain ⟨t2, d2⟩ := aF
      simp only at h1 h2 h3
      subst h1
      have : t1 = t2 := Array.ext_getElem? fun t => h3 t fun j o hj _ _ => hall j hj
      subst this
      rfl
    have el : listed = headL n ops.size := by
      refine Array.ext (by simp [headL, inv.size]) fun i h1 h2 => ?_
      have hi : i < ops.size := by rw [<- inv.size]; exact h1
      by_cases c : i < n
      . have := hall i c
        simp only [Array.getD_eq_getD_getElem?, Array.getElem?_eq_getElem h1, Option.getD_some] at this
        rw [this]
        simp [headL, c]
      . have := inv.tail i (by omega) hi
        simp only [Array.getD_eq_getD_getElem?, Array.getElem?_eq_getElem h1, Option.getD_some] at this
        rw [this]
        simp [headL, c]
    subst ea el
    have hlen : (ops.toList.drop n).length = ops.size - n := by simp
    have := wpAny_of_seq (md := md) (Q' := Q) (ops.toList.drop n) n (headL n ops.size) a w (fun j => by simp [List.getElem?_drop]) (by rw [hlen]; exact hq) (hQ w hS)
    rw [hlen] at this
    rw [Nat.zero_add]
    exact this
  | succ fuel ih =>
    intro listed a w inv hl hm hS
    rw [show fuel + 1 + (ops.size - n) = (fuel + (ops.size - n)) + 1 by omega]
    obtain ⟨i0, hi0⟩ : ∃ i, i ∈ leftT n listed := by
      cases e : leftT n listed with
      | nil => rw [e] at hl; cases hl
      | cons x xs => exact ⟨x, List.mem_cons_self⟩
    obtain ⟨hi0n, hi0u⟩ := List.mem_filter.1 hi0
    rw [List.mem_range] at hi0n
    have hi0u' : listed.getD i0 true = false := by simpa using hi0u
    have head : ∀ i ∈ Region.ready md ops listed, i < n := fun i hi => by
      apply Classical.byContradiction
      intro c
      exact tail_waits hs hc hn inv _ i0 rfl hi0n hi0u' i (by omega) hi
    refine ⟨fun hr => ?_, fun i hi => ?_⟩
    . exfalso
      have all : ∀ j, j < n -> listed.getD j true = true := by
        intro j
        induction j using Nat.strongRecOn with
        | ind j ihj =>
          intro hj
          apply Classical.byContradiction
          intro c
          have c' : listed.getD j true = false := by simpa using c
          have hjs : j < ops.size := by omega
          have ho : ops[j]? = some (ops[j]'hjs) := Array.getElem?_eq_getElem hjs
          have : j ∈ Region.ready md ops listed := mem_ready.2 ⟨c', _, ho, fun e he hb => by
            have hlt := (fixOKT_at hok hj ho).2.2.2 e he hb
            have := ihj e.on hlt (by omega)
            rw [Array.getD_eq_getD_getElem?] at this ⊢
            rw [Array.getElem?_eq_getElem (by rw [inv.size]; omega)] at this ⊢
            exact this⟩
          rw [hr] at this
          cases this
      rw [all i0 hi0n] at hi0u'
      cases hi0u'
    . have hin := head i hi
      obtain ⟨hu, o, ho, hall⟩ := mem_ready.1 hi
      obtain ⟨k1, k2, k3, _⟩ := fixOKT_at hok hin ho
      have look : ∀ t ∈ o.looksAt ops, a.tmps[t]? = aF.tmps[t]? := fun t ht => hm.2.2 t fun j p hjn hj hd => by
        obtain ⟨e, he, hb, rfl⟩ := k2 t ht j p hjn hj hd
        have := hall e he hb
        rw [Array.getD_eq_getD_getElem?] at this ⊢
        rw [Array.getElem?_eq_getElem (by rw [inv.size]; omega)] at this ⊢
        exact this
      obtain ⟨ee, ew⟩ := eval_eq (ops := ops) k1 look
      have next : ∀ v w', aF.put o.dst v = aF -> S w' -> wpAny P md ops Q (fuel + (ops.size - n)) (listed.setIfInBounds i true) (a.put o.dst v) w' := by
        intro v w' hp hS'
        refine ih _ _ _ (inv.set hi hin) (by have := leftT_set hin hu; omega) ?_ hS'
        obtain ⟨m1, m2, m3⟩ := hm
        refine ⟨?_, ?_, fun t ht => ?_⟩
        . cases hd : o.dst <;> simpa [Act.put] using m1
        . cases hd : o.dst <;> simpa [Act.put] using m2
        . cases hd : o.dst with
          | none =>
            refine m3 t fun j p hjn hj hp => ?_
            by_cases c : i = j
            . subst c
              rw [ho] at hj
              injection hj with hj
              rw [<- hj, hd] at hp
              cases hp
            . rw [<- getD_set_ne true c]
              exact ht j p hjn hj hp
          | some d =>
            by_cases c : d = t
            . subst c
              by_cases l : d < aF.tmps.size
              . rw [put_fix hp hd l]
                simp [Act.put, m2, l]
              . have l' : aF.tmps.size <= d := Nat.le_of_not_lt l
                have l2 : (a.put (some d) v).tmps.size <= d := by
                  simp only [Act.put, Array.size_setIfInBounds, m2]
                  exact l'
                rw [Array.getElem?_eq_none l2, Array.getElem?_eq_none l']
            . have : (a.put (some d) v).tmps[t]? = a.tmps[t]? := by simp [Act.put, Array.getElem?_setIfInBounds_ne c]
              rw [this]
              refine m3 t fun j p hjn hj hp => ?_
              by_cases c2 : i = j
              . subst c2
                rw [ho] at hj
                injection hj with hj
                rw [<- hj, hd] at hp
                injection hp with hp
                exact absurd hp c
              . rw [<- getD_set_ne true c2]
                exact ht j p hjn hj hp
      have h := hv i o hin ho w hS
      unfold wpOp
      simp only [ho]
      rw [ew]
      by_cases hw : Region.wanted o (yielded ops aF.tmps) = true
      . rw [if_pos hw] at h ⊢
        refine .inl ?_
        unfold Oper.wp at h ⊢
        rw [ee]
        exact upon_fix next h
      . rw [if_neg hw] at h ⊢
        exact next undef w h hS
end
theorem wp_region_tail {P : Program} {ops : List Oper} {Q : Exit -> Act -> World -> Prop} {id : Nat} {a : Act} {w : World} (n : Nat) (S : World -> Prop) (ups : List (Tmp × Value)) (slots : List Tmp) (hm : P.follows .mixedOrders = true)
    (hok : (fixOKT .any ops.toArray n && Region.sinkB .any ops.toArray n && Region.chainB .any ops.toArray n && decide (n < ops.length) && Region.seqB .any ops.toArray (ops.length - n) n (headL n ops.length)) = true)
    (hu : ups.map (·.1) = slots) (hb : (slots.all fun t => (ops.take n).any fun o => o.dst == some t) = true) (hS : S w) (hdr : ∀ w, S w -> S w.drew) (hv : OwesAll P ops.toArray S (fillA a ups) (ops.take n)) (hQ : ∀ w, S w -> wpList P ops.toArray Q (ops.drop n) (fillA a ups) w) : (Code.region id ops.toArray true).wp P Q a w := by
  simp only [Bool.and_eq_true, decide_eq_true_eq] at hok
  obtain ⟨⟨⟨⟨h1, h2⟩, h3⟩, h4⟩, h5⟩ := hok
  have hoff : ∀ t, (∀ o ∈ ops.take n, o.dst ≠ some t) -> (fillA a ups).tmps[t]? = a.tmps[t]? := fun t ht => fill_off ups t (fun p hp e => by
    have hmem : t ∈ slots := by rw [<- hu, <- e]; exact List.mem_map.2 ⟨p, hp, rfl⟩
    rw [List.all_eq_true] at hb
    have := hb t hmem
    rw [List.any_eq_true] at this
    obtain ⟨o, ho, hd⟩ := this
    exact ht o ho (by simpa using hd)) a
  have inv0 : HeadInv .any ops.toArray n (Array.replicate ops.toArray.size false) :=
    ⟨by simp, fun j oj _ hl => (by rw [getD_replicate_false] at hl; cases hl), fun t _ ht => getD_in (by simpa using ht) (getD_replicate_false _ _)⟩
  have hlen : (leftT n (Array.replicate ops.toArray.size false)).length = n := by
    have : leftT n (Array.replicate ops.toArray.size false) = List.range n := by
      unfold leftT
      refine List.filter_eq_self.2 fun i hi => ?_
      rw [List.mem_range] at hi
      have : i < ops.toArray.size := by rw [List.size_toArray]; omega
      rw [Array.getD_eq_getD_getElem?, Array.getElem?_replicate, if_pos this]
      rfl
    rw [this, List.length_range]
  refine wp_region_any hm ?_
  have H := wpAny_fixT (P := P) (Q := Q) (S := S) (aF := fillA a ups) h1 h2 h3 (by simpa using h4) (by simpa using h5) (fun i o hi ho => hv.at_ o ?_) (by simpa using hQ) n _ a w.drew inv0 hlen ⟨(fill_defers ups a).symm, (fill_size ups a).symm, fun t ht => (hoff t fun o ho hd => ?_).symm⟩ (hdr w hS)
  . rw [show n + (ops.toArray.size - n) = ops.toArray.size by simp; omega] at H
    exact H
  . have : ops[i]? = some o := by simpa using ho
    have : (ops.take n)[i]? = some o := by rw [List.getElem?_take, if_pos hi]; exact this
    exact List.mem_of_getElem? this
  . obtain ⟨i, hi, rfl⟩ := List.getElem_of_mem ho
    have hin : i < n := by simp at hi; omega
    have := ht i _ hin (by simp [show i < ops.length by omega]; rfl) (by simpa using hd)
    have l1 : i < ops.length := by simp at hi; omega
    rw [Array.getD_eq_getD_getElem?, Array.getElem?_replicate, if_pos (by rw [List.size_toArray]; exact l1)] at this
    cases this
section
variable {P : Program} {ops : Array Oper} {Q : Exit -> Act -> World -> Prop} {md : Region.Mode}
def OwesB (P : Program) (ops : Array Oper) (S S' : World -> Prop) (aF : Act) (o : Oper) : Prop :=
  ∀ w, S w -> if Region.wanted o (yielded ops aF.tmps) = true then o.wp P aF w (fun a' w' => a' = aF /\ S' w') noPost else aF.put o.dst undef = aF /\ S' w
theorem chain_prev {bs : List Nat} (h : chainW md ops bs = true) : ∀ {k i : Nat}, bs[k + 1]? = some i -> ∃ p, bs[k]? = some p /\ Region.waitsFor md ops i p = true := by
  induction bs with
  | nil => intro k i hi; simp at hi
  | cons b l ih =>
    intro k i hi
    cases l with
    | nil => simp at hi
    | cons c l =>
      simp only [chainW, Bool.and_eq_true] at h
      cases k with
      | zero =>
        simp at hi
        subst hi
        exact ⟨b, rfl, h.1⟩
      | succ k => exact ih h.2 (by simpa using hi)
theorem wpAny_stage {S : Nat -> World -> Prop} {aF : Act} {bs : List Nat} (hok : fixOK md ops = true) (hch : chainW md ops bs = true) (hin : ∀ i ∈ bs, i < ops.size) (hinj : bs.Nodup)
    (hA : ∀ j, j <= bs.length -> ∀ (i : Nat) (o : Oper), i ∉ bs -> ops[i]? = some o -> Owes P ops (S j) aF o) (hB : ∀ (j i : Nat) (o : Oper), bs[j]? = some i -> ops[i]? = some o -> OwesB P ops (S j) (S (j + 1)) aF o) (hQ : ∀ w, S bs.length w -> Q .normal aF w) :
    ∀ (fuel : Nat) (listed : Array Bool) (j : Nat) (a : Act) (w : World), listed.size = ops.size -> (left ops listed).length <= fuel -> j <= bs.length -> (∀ k i, bs[k]? = some i -> (listed.getD i true = true ↔ k < j)) -> Meets ops listed aF a -> S j w -> wpAny P md ops Q fuel listed a w := by
  have lt : ∀ {j p}, ops[j]? = some p -> j < ops.size := fun h => (Array.getElem?_eq_some_iff.1 h).1
  have done : ∀ (listed : Array Bool) (j : Nat) (a : Act) (w : World), (∀ j o, ops[j]? = some o -> listed.getD j true = true) -> j <= bs.length -> (∀ k i, bs[k]? = some i -> (listed.getD i true = true ↔ k < j)) -> Meets ops listed aF a -> S j w -> Q .normal a w := by
    intro listed j a w hall hj hst hm hS
    have ej : j = bs.length := by
      apply Classical.byContradiction
      intro c
      have hlt : j < bs.length := by omega
      have hi : bs[j]? = some bs[j] := List.getElem?_eq_getElem hlt
      have hsz := hin _ (List.getElem_mem hlt)
      have := (hst j _ hi).1 (hall _ _ (Array.getElem?_eq_getElem hsz))
      omega
    subst ej
    have : a = aF := by
      obtain ⟨h1, h2, h3⟩ := hm
      obtain ⟨t1, d1⟩ := a
      obtain ⟨t2, d2⟩ := aF
      simp only at h1 h2 h3
      subst h1
      have : t1 = t2 := Array.ext_getElem? fun t => h3 t fun j o hj _ => hall j o hj
      subst this
      rfl
    rw [this]
    exact hQ w hS
  have ready : ∀ (listed : Array Bool), listed.size = ops.size -> Region.ready md ops listed = [] -> ∀ j o, ops[j]? = some o -> listed.getD j true = true := by
    intro listed hsz hr j
    induction j using Nat.strongRecOn with
    | ind j ih =>
      intro o hj
      apply Classical.byContradiction
      intro c
      have c' : listed.getD j true = false := by simpa using c
      have : j ∈ Region.ready md ops listed := mem_ready.2 ⟨c', o, hj, fun e he hb => by
        have hlt := (fixOK_at hok hj).2.2.2 e he hb
        have he2 : ops[e.on]? = some (ops[e.on]'(Nat.lt_trans hlt (lt hj))) := Array.getElem?_eq_getElem (Nat.lt_trans hlt (lt hj))
        have := ih e.on hlt _ he2
        rw [Array.getD_eq_getD_getElem?] at this ⊢
        rw [Array.getElem?_eq_getElem (by rw [hsz]; exact Nat.lt_trans hlt (lt hj))] at this ⊢
        exact this⟩
      rw [hr] at this
      cases this
  intro fuel
  induction fuel with
  | zero =>
    intro listed j a w hsz hl hj hst hm hS
    have hn : left ops listed = [] := List.eq_nil_of_length_eq_zero (by omega)
    have hall : ∀ j o, ops[j]? = some o -> listed.getD j true = true := by
      intro j o hj
      apply Classical.byContradiction
      intro c
      have : j ∈ left ops listed := List.mem_filter.2 ⟨List.mem_range.2 (lt hj), by simpa using c⟩
      rw [hn] at this
      cases this
    refine ⟨?_, done listed j a w hall hj hst hm hS⟩
    cases hr : Region.ready md ops listed with
    | nil => rfl
    | cons x xs =>
      have : x ∈ Region.ready md ops listed := by rw [hr]; exact List.mem_cons_self
      obtain ⟨h0, o, ho, _⟩ := mem_ready.1 this
      rw [hall x o ho] at h0
      cases h0
  | succ fuel ih =>
    intro listed j a w hsz hl hj hst hm hS
    refine ⟨fun hr => done listed j a w (ready listed hsz hr) hj hst hm hS, fun i hi => ?_⟩
    obtain ⟨hu, o, ho, hall⟩ := mem_ready.1 hi
    obtain ⟨k1, k2, k3, _⟩ := fixOK_at hok ho
    have waits : ∀ {j : Nat} {e : Edge}, e ∈ o.after -> Region.binds md e = true -> e.on = j -> j < ops.size -> listed.getD j true = true := by
      rintro j e he hb rfl hp
      have := hall e he hb
      rw [Array.getD_eq_getD_getElem?] at this ⊢
      rw [Array.getElem?_eq_getElem (by rw [hsz]; exact hp)] at this ⊢
      exact this
    have look : ∀ t ∈ o.looksAt ops, a.tmps[t]? = aF.tmps[t]? := fun t ht => hm.2.2 t fun j p hj hd => by
      obtain ⟨e, he, hb, he2⟩ := k2 t ht j p hj hd
      exact waits he hb he2 (lt hj)
    obtain ⟨ee, ew⟩ := eval_eq (ops := ops) k1 look
    have getS : ∀ {j : Nat}, i ≠ j -> (listed.setIfInBounds i true).getD j true = listed.getD j true := fun c => getD_set_ne true c
    have getI : (listed.setIfInBounds i true).getD i true = true := by simp [hsz, lt ho]
    have next : ∀ j', j' <= bs.length -> (∀ k i', bs[k]? = some i' -> ((listed.setIfInBounds i true).getD i' true = true ↔ k < j')) -> ∀ v w', aF.put o.dst v = aF -> S j' w' -> wpAny P md ops Q fuel (listed.setIfInBounds i true) (a.put o.dst v) w' := by
      intro j' hj' hst' v w' hp hS'
      refine ih _ j' _ _ (by simpa using hsz) (by have := left_set (ops := ops) (lt ho) hu; omega) hj' hst' ?_ hS'
      obtain ⟨m1, m2, m3⟩ := hm
      refine ⟨?_, ?_, fun t ht => ?_⟩
      . cases hd : o.dst <;> simpa [Act.put] using m1
      . cases hd : o.dst <;> simpa [Act.put] using m2
      . cases hd : o.dst with
        | none =>
          refine m3 t fun j p hj hp => ?_
          by_cases c : i = j
          . subst c
            rw [ho] at hj
            injection hj with hj
            rw [<- hj, hd] at hp
            cases hp
          . rw [<- getD_set_ne true c]
            exact ht j p hj hp
        | some d =>
          by_cases c : d = t
          . subst c
            by_cases l : d < aF.tmps.size
            . rw [put_fix hp hd l]
              simp [Act.put, m2, l]
            . have l' : aF.tmps.size <= d := Nat.le_of_not_lt l
              have l2 : (a.put (some d) v).tmps.size <= d := by
                simp only [Act.put, Array.size_setIfInBounds, m2]
                exact l'
              rw [Array.getElem?_eq_none l2, Array.getElem?_eq_none l']
          . have : (a.put (some d) v).tmps[t]? = a.tmps[t]? := by simp [Act.put, Array.getElem?_setIfInBounds_ne c]
            rw [this]
            refine m3 t fun j p hj hp => ?_
            by_cases c2 : i = j
            . subst c2
              rw [ho] at hj
              injection hj with hj
              rw [<- hj, hd] at hp
              injection hp with hp
              exact absurd hp c
            . rw [<- getD_set_ne true c2]
              exact ht j p hj hp
    by_cases hb : i ∈ bs
    . obtain ⟨k, hk⟩ := List.mem_iff_getElem?.1 hb
      have hkj : k = j := by
        have h1 : ¬ k < j := fun c => by rw [(hst k i hk).2 c] at hu; cases hu
        apply Classical.byContradiction
        intro c
        obtain ⟨k', rfl⟩ : ∃ k', k = k' + 1 := ⟨k - 1, by omega⟩
        obtain ⟨p, hp, hw⟩ := chain_prev hch hk
        obtain ⟨oi, hoi, e, he, hb2, hon⟩ := Region.waitsFor_spec hw
        have : oi = o := Option.some.inj (hoi.symm.trans ho)
        subst this
        have hpl := waits he hb2 hon (hin p (List.mem_of_getElem? hp))
        have := (hst k' p hp).1 hpl
        omega
      subst hkj
      have hlen : k < bs.length := (List.getElem?_eq_some_iff.1 hk).1
      have hst' : ∀ k2 i2, bs[k2]? = some i2 -> ((listed.setIfInBounds i true).getD i2 true = true ↔ k2 < k + 1) := by
        intro k2 i2 h2
        by_cases c : i = i2
        . subst c
          have : k2 = k := by
            have l2 := (List.getElem?_eq_some_iff.1 h2).1
            exact (List.getElem?_inj l2 hinj).1 (h2.trans hk.symm)
          rw [getI]
          simp only [true_iff]
          omega
        . rw [getS c, hst k2 i2 h2]
          have : k2 ≠ k := fun e => c (by rw [e] at h2; exact Option.some.inj (hk.symm.trans h2))
          omega
      have h := hB k i o hk ho w hS
      unfold wpOp
      simp only [ho]
      rw [ew]
      by_cases hw : Region.wanted o (yielded ops aF.tmps) = true
      . rw [if_pos hw] at h ⊢
        refine .inl ?_
        unfold Oper.wp at h ⊢
        rw [ee]
        exact upon_fix (next (k + 1) hlen hst') h
      . rw [if_neg hw] at h ⊢
        exact next (k + 1) hlen hst' undef w h.1 h.2
    . have hst' : ∀ k2 i2, bs[k2]? = some i2 -> ((listed.setIfInBounds i true).getD i2 true = true ↔ k2 < j) := by
        intro k2 i2 h2
        rw [getS (fun e => hb (by rw [e]; exact List.mem_of_getElem? h2))]
        exact hst k2 i2 h2
      have h := hA j hj i o hb ho w hS
      unfold wpOp
      simp only [ho]
      rw [ew]
      by_cases hw : Region.wanted o (yielded ops aF.tmps) = true
      . rw [if_pos hw] at h ⊢
        refine .inl ?_
        unfold Oper.wp at h ⊢
        rw [ee]
        exact upon_fix (next j hj hst') h
      . rw [if_neg hw] at h ⊢
        exact next j hj hst' undef w h hS
end
def OwesAI (P : Program) (ops : Array Oper) (S : World -> Prop) (aF : Act) (bs : List Nat) : Nat -> List Oper -> Prop
  | _, [] => True
  | i, o :: l => (bs.contains i = true ∨ Owes P ops S aF o) /\ OwesAI P ops S aF bs (i + 1) l
theorem OwesAI.at_ {P : Program} {ops : Array Oper} {S : World -> Prop} {aF : Act} {bs : List Nat} {l : List Oper} : ∀ {k : Nat}, OwesAI P ops S aF bs k l -> ∀ {j : Nat} {o : Oper}, l[j]? = some o -> k + j ∉ bs -> Owes P ops S aF o := by
  induction l with
  | nil => intro k h j o hj; simp at hj
  | cons x l ih =>
    intro k h j o hj hn
    cases j with
    | zero =>
      simp only [List.getElem?_cons_zero, Option.some.injEq] at hj
      subst hj
      rcases h.1 with c | c
      . exact absurd (by simpa using c) hn
      . exact c
    | succ j => exact ih h.2 (by simpa using hj) (by rw [show k + 1 + j = k + (j + 1) by omega]; exact hn)
theorem pass {P : Program} {ops : Array Oper} {S : World -> Prop} {aF : Act} {bs : List Nat} {i : Nat} {o : Oper} {l : List Oper} (h : bs.contains i = true) (k : OwesAI P ops S aF bs (i + 1) l) : OwesAI P ops S aF bs i (o :: l) := ⟨.inl h, k⟩
theorem abides {P : Program} {ops : Array Oper} {S : World -> Prop} {aF : Act} {bs : List Nat} {i : Nat} {o : Oper} {l : List Oper}
    (h : ∀ w, S w -> ∀ K : Act -> World -> Prop, (∀ w', S w' -> K aF w') -> if Region.wanted o (yielded ops aF.tmps) = true then o.wp P aF w K noPost else K (aF.put o.dst undef) w) (k : OwesAI P ops S aF bs (i + 1) l) : OwesAI P ops S aF bs i (o :: l) := ⟨.inr (owes_of h), k⟩
theorem abides_load {P : Program} {ops : Array Oper} {S : World -> Prop} {aF : Act} {bs : List Nat} {i : Nat} {o : Oper} {l : List Oper} (hg : o.guard = none) (ty : TypeId) (x : Operand) (ho : o.op = .load ty x) (b : Nat) (cells : Array Value) {d : TypeDesc} (hx : aF.eval x = .pointer (some ⟨b, 0, none⟩)) (hb : ∀ w, S w -> ∀ k : Nat, w.cell? ⟨b, k, none⟩ = cells[k]?)
    (hu : P.underlying ty = some d) (hd : d.isRow = true) (hi : (P.info? ty).map (·.size) = some cells.size) (hp : aF.put o.dst (.agg cells) = aF) (k : OwesAI P ops S aF bs (i + 1) l) : OwesAI P ops S aF bs i (o :: l) := by
  refine ⟨.inr fun w hw => ?_, k⟩
  have hwant : Region.wanted o (yielded ops aF.tmps) = true := by unfold Region.wanted; rw [hg]
  rw [if_pos hwant]
  exact wp_load_box ty x ho b cells hx (hb w hw) hu hd hi ⟨hp, hw⟩
def OwesBI (P : Program) (ops : Array Oper) (aF : Act) : List (World -> Prop) -> List Nat -> Prop
  | S :: S' :: l, i :: bs => (∃ o, ops[i]? = some o /\ OwesB P ops S S' aF o) /\ OwesBI P ops aF (S' :: l) bs
  | [_], [] => True
  | _, _ => False
theorem turns {P : Program} {ops : Array Oper} {S S' : World -> Prop} {aF : Act} {l : List (World -> Prop)} {bs : List Nat} {i : Nat} {o : Oper} (ho : ops[i]? = some o)
    (h : ∀ w, S w -> ∀ K : Act -> World -> Prop, (∀ w', S' w' -> K aF w') -> if Region.wanted o (yielded ops aF.tmps) = true then o.wp P aF w K noPost else K (aF.put o.dst undef) w) (k : OwesBI P ops aF (S' :: l) bs) : OwesBI P ops aF (S :: S' :: l) (i :: bs) := by
  refine ⟨⟨o, ho, fun w hw => ?_⟩, k⟩
  have := h w hw (fun a' w' => a' = aF /\ S' w') (fun w' h' => ⟨rfl, h'⟩)
  by_cases c : Region.wanted o (yielded ops aF.tmps) = true
  . rw [if_pos c] at this ⊢; exact this
  . rw [if_neg c] at this ⊢; exact this
def stageOf (l : List (World -> Prop)) (j : Nat) : World -> Prop := l.getD j fun _ => False
theorem OwesBI.at_ {P : Program} {ops : Array Oper} {aF : Act} : ∀ {Ss : List (World -> Prop)} {bs : List Nat}, OwesBI P ops aF Ss bs -> Ss.length = bs.length + 1 /\ ∀ (j i : Nat) (o : Oper), bs[j]? = some i -> ops[i]? = some o -> OwesB P ops (stageOf Ss j) (stageOf Ss (j + 1)) aF o
  | [], [], h => h.elim
  | [], _ :: _, h => h.elim
  | [_], [], _ => ⟨rfl, fun j i o hi => by simp at hi⟩
  | [_], _ :: _, h => h.elim
  | _ :: _ :: _, [], h => h.elim
  | S :: S' :: l, b :: bs, h => by
    obtain ⟨⟨o', ho', h1⟩, h2⟩ := h
    obtain ⟨e, k⟩ := OwesBI.at_ h2
    refine ⟨by simp only [List.length_cons] at e ⊢; omega, fun j i o hi ho => ?_⟩
    cases j with
    | zero =>
      simp at hi
      subst hi
      have : o' = o := Option.some.inj (ho'.symm.trans ho)
      subst this
      exact h1
    | succ j => exact k j i o (by simpa using hi) ho
def OwesAL (P : Program) (ops : Array Oper) (aF : Act) (bs : List Nat) (l : List Oper) : List (World -> Prop) -> Prop
  | [] => True
  | S :: Ss => OwesAI P ops S aF bs 0 l /\ OwesAL P ops aF bs l Ss
theorem OwesAL.at_ {P : Program} {ops : Array Oper} {aF : Act} {bs : List Nat} {l : List Oper} : ∀ {Ss : List (World -> Prop)}, OwesAL P ops aF bs l Ss -> ∀ j, j < Ss.length -> OwesAI P ops (stageOf Ss j) aF bs 0 l
  | S :: Ss, h, 0, _ => h.1
  | S :: Ss, h, j + 1, hj => OwesAL.at_ h.2 j (by simpa using hj)
theorem wp_region_stage {P : Program} {ops : List Oper} {Q : Exit -> Act -> World -> Prop} {id : Nat} {a : Act} {w : World} (bs : List Nat) (Ss : List (World -> Prop)) (ups : List (Tmp × Value)) (slots : List Tmp) (hm : P.follows .mixedOrders = true) (hok : (fixOK .any ops.toArray && chainW .any ops.toArray bs && (bs.all fun i => decide (i < ops.length)) && decide bs.Nodup) = true)
    (hu : ups.map (·.1) = slots) (hb : (slots.all fun t => ops.any fun o => o.dst == some t) = true) (hS : stageOf Ss 0 w) (hdr : ∀ w, stageOf Ss 0 w -> stageOf Ss 0 w.drew) (hA : OwesAL P ops.toArray (fillA a ups) bs ops Ss) (hB : OwesBI P ops.toArray (fillA a ups) Ss bs) (hQ : ∀ w, stageOf Ss bs.length w -> Q .normal (fillA a ups) w) : (Code.region id ops.toArray true).wp P Q a w := by
  simp only [Bool.and_eq_true, decide_eq_true_eq] at hok
  obtain ⟨⟨⟨h1, h2⟩, h3⟩, h4⟩ := hok
  obtain ⟨hl, hBk⟩ := hB.at_
  refine wp_region_any hm (wpAny_stage (S := stageOf Ss) (aF := fillA a ups) (bs := bs) h1 h2 (fun i hi => ?_) h4 (fun j hj i o hi ho => (hA.at_ j (by omega)).at_ (j := i) (by simpa using ho) (by simpa using hi)) hBk hQ _ (Array.replicate ops.toArray.size false) 0 a w.drew (by simp) ?_ (Nat.zero_le _) (fun k i hi => ?_) ⟨(fill_defers ups a).symm, (fill_size ups a).symm, fun t ht => ?_⟩ (hdr w hS))
  . rw [List.all_eq_true] at h3
    simpa using h3 i hi
  . unfold left
    exact Nat.le_trans (List.length_filter_le _ _) (by simp)
  . rw [List.all_eq_true] at h3
    have := h3 i (List.mem_of_getElem? hi)
    rw [Array.getD_eq_getD_getElem?, Array.getElem?_replicate, if_pos (by simpa using this)]
    simp
  . refine (fill_off ups t (fun p hp e => ?_) a).symm
    have hmem : t ∈ slots := by rw [<- hu, <- e]; exact List.mem_map.2 ⟨p, hp, rfl⟩
    rw [List.all_eq_true] at hb
    have h := hb t hmem
    rw [List.any_eq_true] at h
    obtain ⟨o, ho, hd⟩ := h
    obtain ⟨i, hi, rfl⟩ := List.getElem_of_mem ho
    have := ht i _ (by simp [hi]; rfl) (by simpa using hd)
    rw [Array.getD_eq_getD_getElem?, Array.getElem?_replicate, if_pos (by simpa using hi)] at this
    cases this
end Go.Proofs.YtliijchcpooplaaGreat
