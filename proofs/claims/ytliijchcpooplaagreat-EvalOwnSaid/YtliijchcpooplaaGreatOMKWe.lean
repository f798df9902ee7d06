/- kern: rows that a call owns. which rows of a node are needed, in numbers. A region whose order is open, with several operations that make memory, one behind the other: what each gives is a letter. The reference of layer 5: Needs, in numbers. -/
import Derived.Test.YtliijchcpooplaaGreatOMKV1
import Derived.Test.YtliijchcpooplaaGreatOMKV2
import Derived.Test.YtliijchcpooplaaGreatOMP1
import Derived.Test.YtliijchcpooplaaGreatOMFxMath
import Derived.Test.YtliijchcpooplaaGreatOMR3D
namespace Go.Proofs.YtliijchcpooplaaGreat
open Go.ChangeShapes Go.WideShapes Go.ChangeAt Go.RowKit
set_option maxRecDepth 20000
set_option linter.unusedVariables false
theorem Own8.parts {w : World} {base : Nat} {v : Value} {xs : List Int} (h : Own8 w base v xs) (h0 : 0 < xs.length) : ∃ b cap, v = .slice (some ⟨b, 0, none⟩) xs.length cap /\ b < w.heap.size /\ base <= b /\ xs.length <= cap /\ cap <= maxLen /\ ∀ i, i < xs.length -> w.cell? ⟨b, i, none⟩ = some (.int .i8 (xs.getD i 0)) := by
  obtain ⟨hl, h⟩ := h
  rcases h with ⟨rfl, e⟩ | ⟨b, cap, cur, rfl, hb, hg, hn, hm, hs, ht⟩
  . omega
  . refine ⟨b, cap, rfl, (Array.getElem?_eq_some_iff.1 hg).1, hb, hn, hm, fun i hi => ?_⟩
    have key : w.cell? ⟨b, i, none⟩ = (xs.map (Value.int .i8))[i]? := by
      rw [<- ht, List.getElem?_take_of_lt (by omega)]
      simp [World.cell?, hg]
    rw [key]
    simp [List.getD, hi]
end Go.Proofs.YtliijchcpooplaaGreat
namespace Go.Proofs.YtliijchcpooplaaGreat
open Go.ChangeShapes Go.WideShapes Go.ChangeAt Go.RowKit
set_option maxRecDepth 20000
set_option linter.unusedVariables false
def rowsOk (n : NodeD) (vs : List ValD) (first rows : Int) : Prop := 0 <= first /\ 1 <= rows /\ rows <= (madeS n vs).1 - first
open Classical in
noncomputable def needsD (n : NodeD) (vs : List ValD) (first rows : Int) : (Int × Int) × (Int × Int) × Int :=
  if valueE n vs ≠ 0 then ((0, 0), (0, 0), valueE n vs) else
  if ¬ rowsOk n vs first rows then ((0, 0), (0, 0), 1) else
  (looksD n (vs.getD 0 default).h first rows, if vs.length = 2 then looksD n (vs.getD 1 default).h first rows else (0, 0), 0)
def NeedsPost (n : NodeD) (vs : List ValD) (first rows : Int) (W : World) (e : Ending) (w' : World) : Prop :=
  e = .returned (.tuple #[.agg #[.int .i64 (needsD n vs first rows).1.1, .int .i64 (needsD n vs first rows).1.2, .int .i64 (needsD n vs first rows).2.1.1, .int .i64 (needsD n vs first rows).2.1.2], .int .i64 (needsD n vs first rows).2.2]) /\ Grown W w'
theorem needs_bad {n : NodeD} {vs : List ValD} {first rows : Int} (h : valueE n vs ≠ 0) : needsD n vs first rows = ((0, 0), (0, 0), valueE n vs) := by unfold needsD; rw [if_pos h]
theorem needs_out {n : NodeD} {vs : List ValD} {first rows : Int} (h : valueE n vs = 0) (k : ¬ rowsOk n vs first rows) : needsD n vs first rows = ((0, 0), (0, 0), 1) := by unfold needsD; rw [if_neg (fun f => f h), if_pos k]
theorem needs_in {n : NodeD} {vs : List ValD} {first rows p0 p1 q0 q1 : Int} (h : valueE n vs = 0) (k : rowsOk n vs first rows) (a : NeedsAt n vs first rows vs.length p0 p1 q0 q1) : needsD n vs first rows = ((p0, p1), (q0, q1), 0) := by
  unfold needsD
  rw [if_neg (fun f => f h), if_neg (fun f => f k)]
  rcases vals_len h with ⟨_, l⟩ | ⟨_, l⟩
  . rw [if_pos l]
    have a0 := a.2.1 (by omega)
    have a1 := a.2.2.2 (by omega)
    rw [<- Prod.eta (looksD n (vs.getD 0 default).h first rows), <- Prod.eta (looksD n (vs.getD 1 default).h first rows), <- a0.1, <- a0.2, <- a1.1, <- a1.2]
  . rw [if_neg (by omega)]
    have a0 := a.2.1 (by omega)
    have a1 := a.2.2.1 (by omega)
    rw [<- Prod.eta (looksD n (vs.getD 0 default).h first rows), <- a0.1, <- a0.2, a1.1, a1.2]
end Go.Proofs.YtliijchcpooplaaGreat
namespace Go.Proofs.YtliijchcpooplaaGreat
open Go
section
variable {P : Program} {Q : Exit -> Act -> World -> Prop} {md : Region.Mode}
def Goes (P : Program) (md : Region.Mode) (ops : Array Oper) (Q : Exit -> Act -> World -> Prop) (ex un : List Nat) (F : Act) (S : World -> Prop) : Prop :=
  ∀ (fuel : Nat) (listed : Array Bool) (a : Act) (w : World), listed.size = ops.size -> (left ops listed).length <= fuel -> (∀ i, ex.contains i = true -> listed.getD i true = true) -> (∀ j o, ops[j]? = some o -> un.contains j = true -> listed.getD j true = false) -> Meets ops listed F a -> S w -> wpAny P md ops Q fuel listed a w
theorem listed_set {listed : Array Bool} {i j : Nat} (h : listed.getD j true = true) : (listed.setIfInBounds i true).getD j true = true := by
  by_cases e : i = j
  . subst e
    rw [Array.getD_eq_getD_getElem?]
    by_cases l : i < listed.size
    . rw [Array.getElem?_setIfInBounds_self_of_lt l]; rfl
    . rw [Array.getElem?_eq_none (by rw [Array.size_setIfInBounds]; omega)]; rfl
  . rw [getD_set_ne true e]
    exact h
theorem goes_fix {ops : Array Oper} {S : World -> Prop} {aF : Act} (ex : List Nat) (hok : fixOK md ops = true) (hv : ∀ (i : Nat) (o : Oper), ops[i]? = some o -> ex.contains i = false -> Owes P ops S aF o) (hQ : ∀ w, S w -> Q .normal aF w) : Goes P md ops Q ex [] aF S := by
  have lt : ∀ {j p}, ops[j]? = some p -> j < ops.size := fun h => (Array.getElem?_eq_some_iff.1 h).1
  intro fuel
  induction fuel with
  | zero =>
    intro listed a w hsz hl hex _ hm hS
    have hn : left ops listed = [] := List.eq_nil_of_length_eq_zero (by omega)
    have hall : ∀ j o, ops[j]? = some o -> listed.getD j true = true := by
      intro j o hj
      apply Classical.byContradiction
      intro c
      have : j ∈ left ops listed := List.mem_filter.2 ⟨List.mem_range.2 (lt hj), by simpa using c⟩
      rw [hn] at this
      cases this
    refine ⟨?_, by rw [done_meets hall hm]; exact hQ w hS⟩
    cases hr : Region.ready md ops listed with
    | nil => rfl
    | cons x xs =>
      have : x ∈ Region.ready md ops listed := by rw [hr]; exact List.mem_cons_self
      obtain ⟨h0, o, ho, _⟩ := mem_ready.1 this
      rw [hall x o ho] at h0
      cases h0
  | succ fuel ih =>
    intro listed a w hsz hl hex hun hm hS
    refine ⟨fun hr => by rw [done_meets (ready_all hok listed hsz hr) hm]; exact hQ w hS, fun i hi => ?_⟩
    obtain ⟨hu, o, ho, hall⟩ := mem_ready.1 hi
    have hic : ex.contains i = false := by
      rcases Bool.eq_false_or_eq_true (ex.contains i) with e | e
      . rw [hex i e] at hu; cases hu
      . exact e
    refine wpOp_owes hok ho (looks_meet hok hsz hm ho hall) hS (hv i o ho hic) fun v w' hp hS' => ?_
    refine ih _ _ _ (by simpa using hsz) (by have := left_set (ops := ops) (lt ho) hu; omega) (fun j hj => listed_set (hex j hj)) (fun j o' _ h => by simp at h) (meets_next ho hm hp) hS'
theorem goes_late {ops : Array Oper} {α : Type} {S0 : World -> Prop} {S1 : α -> World -> Prop} {V : α -> Value} {F0 : Act} {F : α -> Act} (ex un' : List Nat) (c : Nat) (oc : Oper) (d : Tmp) (late : List Nat) (hok : fixOK md ops = true)
    (hc : ops[c]? = some oc) (hg : oc.guard = none) (hd : oc.dst = some d) (hl : d < F0.tmps.size) (hlc : late.contains c = true)
    (hlate : ∀ i o, ops[i]? = some o -> late.contains i = true -> i ≠ c -> ∃ e ∈ o.after, Region.binds md e = true /\ late.contains e.on = true)
    (hF : ∀ p, (F p).defers = F0.defers /\ (F p).tmps.size = F0.tmps.size /\ (F p).tmps[d]? = some (V p) /\ ∀ t, (∀ j o, ops[j]? = some o -> o.dst = some t -> late.contains j = false) -> (F p).tmps[t]? = F0.tmps[t]?)
    (hE : ∀ i o, ops[i]? = some o -> late.contains i = false -> ex.contains i = false -> Owes P ops S0 F0 o)
    (hun' : ∀ j, un'.contains j = true -> late.contains j = true /\ j ≠ c)
    (hC : ∀ w, S0 w -> ∀ K : Act -> World -> Prop, (∀ p w', S1 p w' -> K (F0.put (some d) (V p)) w') -> oc.wp P F0 w K noPost) (hN : ∀ p, Goes P md ops Q (c :: ex) un' (F p) (S1 p)) : Goes P md ops Q ex late F0 S0 := by
  have lt : ∀ {j p}, ops[j]? = some p -> j < ops.size := fun h => (Array.getElem?_eq_some_iff.1 h).1
  intro fuel
  induction fuel with
  | zero =>
    intro listed a w hsz hl hex hun hm hS
    exfalso
    have : c ∈ left ops listed := List.mem_filter.2 ⟨List.mem_range.2 (lt hc), by rw [hun c oc hc hlc]; rfl⟩
    have hn : left ops listed = [] := List.eq_nil_of_length_eq_zero (by omega)
    rw [hn] at this
    cases this
  | succ fuel ih =>
    intro listed a w hsz hlen hex hun hm hS
    refine ⟨fun hr => ?_, fun i hi => ?_⟩
    . have := ready_all hok listed hsz hr c oc hc
      rw [hun c oc hc hlc] at this
      cases this
    obtain ⟨hu, o, ho, hall⟩ := mem_ready.1 hi
    have look := looks_meet hok hsz hm ho hall
    by_cases hli : late.contains i = true
    . by_cases hic : i = c
      . subst hic
        rw [hc] at ho
        injection ho with ho
        subst ho
        obtain ⟨ee, ew⟩ := eval_eq (ops := ops) (fixOK_at hok hc).1 look
        unfold wpOp
        simp only [hc]
        have hw : Region.wanted oc (yielded ops a.tmps) = true := by unfold Region.wanted; rw [hg]
        rw [if_pos hw]
        refine .inl ?_
        have h := hC w hS (fun a' w' => ∃ p, a' = F0.put (some d) (V p) /\ S1 p w') (fun p w' h => ⟨p, rfl, h⟩)
        unfold Oper.wp at h ⊢
        rw [ee]
        refine upon_late hd hl (fun p w' h1 => ?_) h
        obtain ⟨f1, f2, f3, f4⟩ := hF p
        refine hN p fuel _ _ _ (by simpa using hsz) (by have := left_set (ops := ops) (lt hc) hu; omega) (fun j hj => ?_) (fun j o hj hjl => ?_) ?_ h1
        . rcases Bool.eq_false_or_eq_true (ex.contains j) with e | e
          . exact listed_set (hex j e)
          . have hj2 : j = i := by
              have := List.contains_iff_mem.1 hj
              rcases List.mem_cons.1 this with h | h
              . exact h
              . rw [List.contains_iff_mem.2 h] at e; cases e
            subst hj2
            rw [Array.getD_eq_getD_getElem?, Array.getElem?_setIfInBounds_self_of_lt (by rw [hsz]; exact lt hc)]
            rfl
        . obtain ⟨l1, l2⟩ := hun' j hjl
          rw [getD_set_ne true (fun e => l2 e.symm)]
          exact hun j o hj l1
        . obtain ⟨m1, m2, m3⟩ := hm
          refine ⟨?_, ?_, fun t ht => ?_⟩
          . show a.defers = _; rw [f1]; exact m1
          . show (a.tmps.setIfInBounds d (V p)).size = _; rw [Array.size_setIfInBounds, f2]; exact m2
          . by_cases ct : d = t
            . subst ct
              rw [f3]
              show (a.tmps.setIfInBounds d (V p))[d]? = _
              rw [Array.getElem?_setIfInBounds_self_of_lt (by rw [m2]; exact hl)]
            . have e1 : (a.put (some d) (V p)).tmps[t]? = a.tmps[t]? := by simp [Act.put, Array.getElem?_setIfInBounds_ne ct]
              rw [e1]
              have nl : ∀ j o, ops[j]? = some o -> o.dst = some t -> late.contains j = false := by
                intro j o hj hdj
                rcases Bool.eq_false_or_eq_true (late.contains j) with hlj | hlj
                . exfalso
                  by_cases cj : i = j
                  . subst cj
                    rw [hc] at hj
                    injection hj with hj
                    rw [<- hj, hd] at hdj
                    injection hdj with hdj
                    exact ct hdj
                  . have h2 := ht j o hj hdj
                    rw [getD_set_ne true cj, hun j o hj hlj] at h2
                    cases h2
                . exact hlj
              rw [f4 t nl]
              refine m3 t fun j o hj hdj => ?_
              by_cases cj : i = j
              . subst cj
                have := nl i o hj hdj
                rw [hlc] at this
                cases this
              . rw [<- getD_set_ne true cj]
                exact ht j o hj hdj
      . exfalso
        obtain ⟨e, he, hb, hle⟩ := hlate i o ho hli hic
        have h1 := hall e he hb
        have hlt := (fixOK_at hok ho).2.2.2 e he hb
        have he2 : ops[e.on]? = some (ops[e.on]'(Nat.lt_trans hlt (lt ho))) := Array.getElem?_eq_getElem (Nat.lt_trans hlt (lt ho))
        have h2 := hun e.on _ he2 hle
        rw [Array.getD_eq_getD_getElem?, Array.getElem?_eq_getElem (by rw [hsz]; exact Nat.lt_trans hlt (lt ho))] at h1 h2
        simp only [Option.getD_some] at h1 h2
        rw [h1] at h2
        cases h2
    . have hli : late.contains i = false := by simpa using hli
      have hix : ex.contains i = false := by
        rcases Bool.eq_false_or_eq_true (ex.contains i) with e | e
        . rw [hex i e] at hu; cases hu
        . exact e
      refine wpOp_owes hok ho look hS (hE i o ho hli hix) fun v w' hp hS' => ?_
      refine ih _ _ _ (by simpa using hsz) (by have := left_set (ops := ops) (lt ho) hu; omega) (fun j hj => listed_set (hex j hj)) (fun j o' hj hlj => ?_) (meets_next ho hm hp) hS'
      have hij : i ≠ j := fun e => by rw [e, hlj] at hli; cases hli
      rw [getD_set_ne true hij]
      exact hun j o' hj hlj
end
theorem goes_step {P : Program} {ops : List Oper} {Q : Exit -> Act -> World -> Prop} {α : Type} {F0 : Act} (ex un' : List Nat) (c : Nat) (d : Tmp) (late : List Nat) (V : α -> Value) (S0 : World -> Prop) (S1 : α -> World -> Prop) (rest : α -> List (Tmp × Value)) (slotr : List Tmp)
    (hok : lateOK .any ops.toArray c d late [] slotr = true) (hun : (un'.all fun j => late.contains j && j != c) = true) (hr : ∀ p, (rest p).map (·.1) = slotr) (hd : d < F0.tmps.size)
    (hE : OwesX P ops.toArray S0 F0 (late ++ ex) 0 ops) (hC : ∃ o, ops[c]? = some o /\ ∀ w, S0 w -> ∀ K : Act -> World -> Prop, (∀ p w', S1 p w' -> K (F0.put (some d) (V p)) w') -> o.wp P F0 w K noPost)
    (hN : ∀ p, Goes P .any ops.toArray Q (c :: ex) un' (fillA F0 ((d, V p) :: rest p)) (S1 p)) : Goes P .any ops.toArray Q ex late F0 S0 := by
  unfold lateOK at hok
  simp only [Bool.and_eq_true] at hok
  obtain ⟨⟨⟨⟨⟨⟨h1, h2⟩, h3⟩, h4⟩, _⟩, h6⟩, h7⟩ := hok
  obtain ⟨oc, hoc, hC⟩ := hC
  have hoc' : ops.toArray[c]? = some oc := by simpa using hoc
  rw [hoc'] at h3
  simp only [Bool.and_eq_true, beq_iff_eq] at h3
  have writers : ∀ p t, (∀ j o, ops.toArray[j]? = some o -> o.dst = some t -> late.contains j = false) -> ∀ q ∈ (d, V p) :: rest p, q.1 ≠ t := by
    intro p t ht q hq e
    rw [List.all_eq_true] at h6
    have hmem : t ∈ d :: slotr := by
      rw [<- e, <- hr p]
      rcases List.mem_cons.1 hq with rfl | hq
      . exact List.mem_cons_self
      . exact List.mem_cons_of_mem _ (List.mem_map.2 ⟨q, hq, rfl⟩)
    have := h6 t hmem
    rw [List.any_eq_true] at this
    obtain ⟨j, hj, hb⟩ := this
    cases ho : ops.toArray[j]? with
    | none => rw [ho] at hb; cases hb
    | some o =>
      rw [ho] at hb
      have := ht j o ho (by simpa using hb)
      rw [List.contains_iff_mem.2 hj] at this
      cases this
  refine goes_late (V := V) (F := fun p => fillA F0 ((d, V p) :: rest p)) ex un' c oc d late h1 hoc' (Option.isNone_iff_eq_none.1 h3.1) h3.2 hd h2 (fun i o ho hl hic => ?_) (fun p => ⟨?_, ?_, ?_, fun t ht => fill_off _ _ (writers p t ht) _⟩) (fun i o ho hl hx => hE.at_ (j := i) (by simpa using ho) ?_) (fun j hj => ?_) hC hN
  . rw [List.all_eq_true] at h4
    have := h4 i (List.contains_iff_mem.1 hl)
    rw [ho] at this
    simp only [Bool.or_eq_true, beq_iff_eq] at this
    rcases this with h | h
    . exact absurd h hic
    . obtain ⟨k, hk, h5⟩ := Array.any_eq_true.1 h
      simp only [Bool.and_eq_true] at h5
      exact ⟨o.after[k], Array.getElem_mem hk, h5.1, h5.2⟩
  . exact fill_defers _ _
  . exact fill_size _ _
  . show (fillA (F0.put (some d) (V p)) (rest p)).tmps[d]? = _
    rw [fill_off (rest p) d (fun q hq e => ?_)]
    . simp [Act.put, hd]
    . have hmem : d ∈ slotr := by rw [<- hr p, <- e]; exact List.mem_map.2 ⟨q, hq, rfl⟩
      rw [List.contains_iff_mem.2 hmem] at h7
      cases h7
  . rw [Nat.zero_add]
    rcases Bool.eq_false_or_eq_true ((late ++ ex).contains i) with e | e
    . have := List.contains_iff_mem.1 e
      rcases List.mem_append.1 this with h | h
      . rw [List.contains_iff_mem.2 h] at hl; cases hl
      . rw [List.contains_iff_mem.2 h] at hx; cases hx
    . exact e
  . rw [List.all_eq_true] at hun
    have := hun j (List.contains_iff_mem.1 hj)
    simpa using this
theorem goes_end {P : Program} {ops : List Oper} {Q : Exit -> Act -> World -> Prop} {aF : Act} {S : World -> Prop} (ex : List Nat) (hok : fixOK .any ops.toArray = true) (hv : OwesX P ops.toArray S aF ex 0 ops) (hQ : ∀ w, S w -> Q .normal aF w) : Goes P .any ops.toArray Q ex [] aF S :=
  goes_fix ex hok (fun i o ho hx => hv.at_ (j := i) (by simpa using ho) (by rw [Nat.zero_add]; exact hx)) hQ
theorem wp_region_goes {P : Program} {ops : List Oper} {Q : Exit -> Act -> World -> Prop} {id : Nat} {a : Act} {w : World} (un : List Nat) (S0 : World -> Prop) (ups : List (Tmp × Value)) (slots : List Tmp)
    (hm : P.follows .mixedOrders = true) (hu : ups.map (·.1) = slots) (hs : (slots.all fun t => ops.any fun o => o.dst == some t) = true) (hS : S0 w) (hdr : ∀ w, S0 w -> S0 w.drew) (h : Goes P .any ops.toArray Q [] un (fillA a ups) S0) : (Code.region id ops.toArray true).wp P Q a w := by
  refine wp_region_any hm (h _ (Array.replicate ops.toArray.size false) a w.drew (by simp) ?_ (fun i hi => by simp at hi) (fun j o ho _ => ?_) ⟨(fill_defers ups a).symm, (fill_size ups a).symm, fun t ht => (fill_off ups t (fun p hp e => ?_) a).symm⟩ (hdr w hS))
  . unfold left
    exact Nat.le_trans (List.length_filter_le _ _) (by simp)
  . have := (Array.getElem?_eq_some_iff.1 ho).1
    rw [Array.getD_eq_getD_getElem?, Array.getElem?_replicate, if_pos this]
    rfl
  . have hmem : t ∈ slots := by rw [<- hu, <- e]; exact List.mem_map.2 ⟨p, hp, rfl⟩
    rw [List.all_eq_true] at hs
    have := hs t hmem
    rw [List.any_eq_true] at this
    obtain ⟨o, ho, hb⟩ := this
    obtain ⟨i, hi, hoi⟩ := List.getElem_of_mem ho
    have := ht i o (by rw [List.getElem?_toArray]; exact List.getElem?_eq_some_iff.2 ⟨hi, hoi⟩) (by simpa using hb)
    rw [Array.getD_eq_getD_getElem?, Array.getElem?_replicate] at this
    simp [hi] at this
end Go.Proofs.YtliijchcpooplaaGreat
namespace Go.Proofs.YtliijchcpooplaaGreat
open Go.ChangeShapes Go.WideShapes Go.ChangeAt Go.RowKit
set_option maxRecDepth 20000
set_option linter.unusedVariables false
theorem rs_pad {h y : Int} (h1 : 1 <= h) (y0 : 0 <= y) (j : Nat) : rs y 1 1 1 h j = if max (y - 1) 0 < min (y + j - 1) h then (max (y - 1) 0, min (y + j - 1) h) else (0, 0) := by
  induction j with
  | zero => rw [if_neg (by omega)]; rfl
  | succ j ih =>
    have hl : Hid (max (y + j - 1) 0 = leastI 1 1 (y + j)) := Lib.hid (by unfold leastI; omega)
    have hb : Hid (min (y + j) h = overI 1 1 1 h (y + j)) := Lib.hid (by unfold overI; omega)
    have e1 : min (y + ((j + 1 : Nat) : Int) - 1) h = min (y + j) h := by congr 1; omega
    rw [e1]
    obtain ⟨A, hA⟩ : ∃ A, max (y - 1) 0 = A := ⟨_, rfl⟩
    obtain ⟨B, hB⟩ : ∃ B, min (y + j - 1) h = B := ⟨_, rfl⟩
    obtain ⟨C, hC⟩ : ∃ C, max (y + j - 1) 0 = C := ⟨_, rfl⟩
    obtain ⟨D, hD⟩ : ∃ D, min (y + j) h = D := ⟨_, rfl⟩
    rw [hA, hB] at ih
    rw [hC] at hl
    rw [hD] at hb
    rw [hA, hD]
    have fA : y - 1 <= A /\ 0 <= A /\ (A = y - 1 ∨ A = 0) := by omega
    have fB : B <= y + j - 1 /\ B <= h /\ (B = y + j - 1 ∨ B = h) := by omega
    have fC : y + j - 1 <= C /\ 0 <= C /\ (C = y + j - 1 ∨ C = 0) := by omega
    have fD : D <= y + j /\ D <= h /\ (D = y + j ∨ D = h) := by omega
    clear hA hB hC hD e1
    by_cases c : C < D
    . by_cases z : (rs y 1 1 1 h j).2 = 0
      . rw [rs_first hl hb c z]
        have t : ¬ A < B := fun d => by rw [ih, if_pos d] at z; simp only at z; omega
        rw [if_pos (by omega), show C = A by omega]
      . rw [rs_more hl hb c z]
        have d : A < B := by
          apply Classical.byContradiction
          intro d
          rw [ih, if_neg d] at z
          exact z rfl
        rw [ih, if_pos d, if_pos (by omega)]
    . rw [rs_out hl hb c, ih]
      by_cases d : A < B
      . rw [if_pos d, if_pos (by omega), show B = D by omega]
      . rw [if_neg d, if_neg (by omega)]
theorem pad_one {n : NodeD} {vs : List ValD} (h : valueE n vs = 0) (ho : n.op = 9) : n.pad = 1 := by
  have s := (value_parts h).1.2.2.2.2
  rw [ho] at s
  have p1 : (1 : Int) <= n.pad := s.1.2.2.1.1
  have p2 : n.pad <= 1 := s.1.2.2.1.2
  omega
theorem made9 {n : NodeD} {vs : List ValD} (h : n.op = 9) : madeS n vs = ((vs.getD 0 default).h + 2, (vs.getD 0 default).w + 2, (vs.getD 0 default).c) := by unfold madeS; simp [h]
theorem looks9 {n : NodeD} {vs : List ValD} (h : valueE n vs = 0) (ho : n.op = 9) {first rows : Int} (k : rowsOk n vs first rows) : looksD n (vs.getD 0 default).h first rows = if max (first - 1) 0 < min (first + rows - 1) (vs.getD 0 default).h then (max (first - 1) 0, min (first + rows - 1) (vs.getD 0 default).h) else (0, 0) := by
  have hl : vs.length = 1 := by rcases vals_len h with ⟨c, _⟩ | ⟨_, l⟩ <;> omega
  have mv := (value_parts h).2.1 0 (by omega)
  obtain ⟨m1, m2, _⟩ := mv
  obtain ⟨k1, k2, k3⟩ := k
  rw [made9 ho] at k3
  simp only at k3
  have e : looksD n (vs.getD 0 default).h first rows = reachI first rows 1 1 1 (vs.getD 0 default).h := by unfold looksD; rw [pad_one h ho]; simp [ho]
  have w : mayWin (vs.getD 0 default).h 1 1 1 := ⟨m1, by omega, by decide, by decide, by decide, by decide, by decide, by decide, by omega⟩
  have o := out_one (size := (vs.getD 0 default).h) (k := 1) (pad := 1) m1 (by omega) (by decide) (by decide) (by decide) (by decide)
  have r : inR first rows 1 1 1 (vs.getD 0 default).h := ⟨w, k1, k2, by rw [o]; omega⟩
  rw [e, reachI_yes r, rs_pad m1 k1, Int.toNat_of_nonneg (by omega)]
end Go.Proofs.YtliijchcpooplaaGreat
