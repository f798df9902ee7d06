/- What Value answers at the examples and pairs of the laws: plain numbers. Value at nodes without slices. kern: taskOf; which rows are looked at. A region whose order is open, with one call that makes memory: what it gives is a letter, and those that hang on it come behind it. The reference of layer 3 in numbers: its node, made and many are P3.1's. -/
import Derived.Test.YtliijchcpooplaaGreatOMG12
import Derived.Test.YtliijchcpooplaaGreatOMG4
import Derived.Deep.MidRow
import Derived.Laws.ResultCell
import Derived.Test.YtliijchcpooplaaGreatOMFix
import Derived.Test.YtliijchcpooplaaGreatOMKA
import Derived.Test.YtliijchcpooplaaGreatOMSh3
import Derived.Test.YtliijchcpooplaaGreatOMG6A
import Derived.Test.YtliijchcpooplaaGreatOMR3B
import Derived.Test.YtliijchcpooplaaGreatOMR3C
namespace Go.Proofs.YtliijchcpooplaaGreat
open Go.ChangeShapes Go.WideShapes Go.ChangeAt Go.RowKit
set_option linter.unusedVariables false
theorem valueE_mk11 {n : NodeD} {vs : List ValD} (h : ¬ (hasOp n.op /\ takesP (opD n.op) n vs)) : valueE n vs = 11 := by unfold valueE; rw [if_pos h]
theorem valueE_mk10 {n : NodeD} {vs : List ValD} (h : hasOp n.op /\ takesP (opD n.op) n vs) (k : ¬ ∀ j, j < vs.length -> mayV (vs.getD j default)) : valueE n vs = 10 := by unfold valueE; rw [if_neg (fun f => f h), if_pos k]
theorem valueE_mk10' {n : NodeD} {vs : List ValD} (h : hasOp n.op /\ takesP (opD n.op) n vs) (m : ¬ mayT (madeS n vs)) : valueE n vs = 10 := by
  by_cases k : ∀ j, j < vs.length -> mayV (vs.getD j default)
  . unfold valueE; rw [if_neg (fun f => f h), if_neg (fun f => f k), if_pos m]
  . exact valueE_mk10 h k
theorem valueV_mk {n : NodeD} {vs : List ValD} (h : valueE n vs = 0) : valueV n vs = ⟨(madeS n vs).1, (madeS n vs).2.1, (madeS n vs).2.2, n.zero⟩ := by unfold valueV; rw [if_pos h]
theorem below_one {p : Nat -> Prop} (h : p 0) : ∀ j, j < 1 -> p j := fun j hj => by
  obtain rfl : j = 0 := by omega
  exact h
theorem below_two {p : Nat -> Prop} (h : p 0) (k : p 1) : ∀ j, j < 2 -> p j := fun j hj => by
  match j, hj with
  | 0, _ => exact h
  | 1, _ => exact k
theorem alike_two {a b : ValD} (h : a.h = b.h /\ a.w = b.w /\ a.c = b.c) : alikeS [a, b] = (a.h, a.w, a.c) := by
  unfold alikeS
  rw [if_pos]
  . rfl
  . exact below_two (p := fun j => shD ([a, b].getD j default) = shD ([a, b].getD 0 default)) rfl (by simp [shD, h.1, h.2.1, h.2.2])
theorem alike_not {a b : ValD} (h : ¬ (a.h = b.h /\ a.w = b.w /\ a.c = b.c)) : alikeS [a, b] = (0, 0, 0) := by
  unfold alikeS
  rw [if_neg]
  intro k
  have := k 1 (by simp)
  simp only [shD, List.getD, List.getElem?_cons_succ, List.getElem?_cons_zero, Option.getD_some, Prod.mk.injEq] at this
  exact h ⟨this.1.symm, this.2.1.symm, this.2.2.symm⟩
end Go.Proofs.YtliijchcpooplaaGreat
namespace Go.Proofs.YtliijchcpooplaaGreat
open Go.ChangeShapes Go.WideShapes Go.ChangeAt Go.RowKit
set_option maxRecDepth 20000
set_option linter.unusedVariables false
theorem nums_nil (k : IntKind) (w : World) : IsNums k w (.slice none 0 0) [] := ⟨none, 0, rfl, Nat.le_refl _, Nat.zero_le _, fun _ => rfl, by simp, by simp⟩
theorem vals_one {w : World} {b : Nat} {x : ValD} (hb : b < w.heap.size) (wf : ValWf x) (h : ValAt w b 0 x) : IsVals w (.slice (some ⟨b, 0, none⟩) 1 1) [x] :=
  ⟨some ⟨b, 0, none⟩, 1, rfl, Nat.le_refl _, by decide, (fun h => by cases h), by simpa using wf, fun _ => ⟨b, 0, rfl, hb, fun i hi => by
    simp only [List.length_cons, List.length_nil] at hi
    obtain rfl : i = 0 := by omega
    simpa using h⟩⟩
end Go.Proofs.YtliijchcpooplaaGreat
namespace Go.Proofs.YtliijchcpooplaaGreat
open Go.ChangeShapes Go.WideShapes Go.ChangeAt Go.RowKit
set_option maxRecDepth 20000
set_option linter.unusedVariables false
theorem box_setAll {w : World} {b : Nat} {old new : Array Value} (h : (Bx w b old)) (hl : old.size = new.size) : (Bx (w.setCells b 0 new.toList) b new) := by
  intro k
  by_cases c : k < new.size
  . have := World.cell?_setCells_in b new.toList 0 w (fun i hi => by
      rw [Nat.zero_add, h i, Array.getElem?_eq_getElem (by simpa [hl] using hi)]; rfl) k (by simpa using c)
    rw [Nat.zero_add] at this
    rw [this, Array.getElem?_eq_getElem c]
    simp
  . rw [World.cell?_setCells_out b new.toList 0 w ⟨b, k, none⟩ (fun _ _ => Or.inr (by simp; omega)), h k, Array.getElem?_eq_none (by omega), Array.getElem?_eq_none (by omega)]
theorem grown_setAll {W : World} {b : Nat} (hb : W.heap.size <= b) : ∀ (l : List Value) (w : World) (o : Nat), Grown W w -> Grown W (w.setCells b o l)
  | [], _, _, g => g
  | v :: l, w, o, g => by simp only [World.setCells]; exact grown_setAll hb l _ _ (Grown.setCell g (by simpa using hb) _)
theorem past_setAll {W : World} {b : Nat} (hb : W.heap.size <= b) : ∀ (l : List Value) (w : World) (o : Nat), Past W w -> Past W (w.setCells b o l)
  | [], _, _, g => g
  | v :: l, w, o, g => by simp only [World.setCells]; exact past_setAll hb l _ _ (Past.setCell g (by simpa using hb) _)
theorem box_setOther {b b2 : Nat} {cs : Array Value} (hn : b ≠ b2) : ∀ (l : List Value) (w : World) (s : Nat), (Bx w b2 cs) -> (Bx (w.setCells b s l) b2 cs)
  | [], _, _, g => g
  | v :: l, w, o, g => by simp only [World.setCells]; exact box_setOther hn l _ _ (box_set g hn)
theorem size_setAll {b m : Nat} : ∀ (l : List Value) (w : World) (o : Nat), m <= w.heap.size -> m <= (w.setCells b o l).heap.size
  | [], _, _, g => g
  | v :: l, w, o, g => by simp only [World.setCells]; exact size_setAll l _ _ (size_set g)
theorem wpList_store_box {P : Program} {ops : Array Oper} {rest : List Oper} {op : Oper} {a : Act} {w : World} {Q : Exit -> Act -> World -> Prop} (hgd : op.guard = none) (ty : TypeId) (x y : Operand) (ho : op.op = .store ty x y)
    (b : Nat) (cells old : Array Value) (hx : a.eval x = .pointer (some ⟨b, 0, none⟩)) (hy : a.eval y = .agg cells) (hb : (Bx w b old)) (hf : (Fr w b)) (hs : old.size = cells.size)
    (hi : (P.info? ty).map (·.size) = some cells.size) (h1 : cells.all (·.oneCell') = true) (S : World -> Prop) (hS : S (w.setCells b 0 cells.toList)) (h : ∀ w', S w' -> wpList P ops Q rest (a.put op.dst undef) w') : wpList P ops Q (op :: rest) a w :=
  wpList_store_mid hgd ty x y ho b 0 cells hx hy (fun j hj => ⟨by rw [Nat.zero_add, hb j, Array.getElem?_eq_getElem (by omega)]; rfl, by rw [Nat.zero_add]; exact hf j⟩) hi h1 (h _ hS)
theorem ret_box {P : Program} {fn : Func} {a : Act} {w : World} {R : Ending -> World -> Prop} {p u : Tmp} {ty : TypeId} (h : fn.results = #[.cell p ty, .tmp u]) (b : Nat) (cells : Array Value) (d : TypeDesc) (x : Value) (hp : a.tmps.getD p undef = .pointer (some ⟨b, 0, none⟩)) (hx : a.tmps.getD u undef = x) (hb : (Bx w b cells))
    (hu : P.underlying ty = some d) (hd : d.isRow = true) (hi : (P.info? ty).map (·.size) = some cells.size) (hdf : a.defers = []) (hR : R (.returned (.tuple #[.agg cells, x])) w) : bodyPost P fn R .ret a w := by
  refine bodyPost_ret (v := .tuple #[.agg cells, x]) ?_ hdf hR
  rw [results_cell_tmp h, hp, hx]
  have hl := run_loadVar_mid (P := P) w b 0 ty cells.toList d (fun j v hv => by rw [Nat.zero_add, hb j]; simpa using hv) hu hd (by simpa using hi)
  have e1 : (asAddr (.pointer (some ⟨b, 0, none⟩))).run P w = .ok ⟨b, 0, none⟩ w := rfl
  rw [e1]
  simp only [Result.andThen]
  rw [hl]
theorem T18 : (Tryz.prog.info? 77).map (·.size) = some 18 := by kernel_rfl
set_option maxHeartbeats 2000000 in
theorem taskOf_ok (n : NodeD) (vi vw vb lv : Value) (vs : List ValD) (m : Int × Int × Int) (W : World) (hin : NodeIn W n vi vw vb) (hv : IsVals W lv vs) (h0 : valueE n vs = 0) (hm : Hid (m = madeS n vs)) :
    Calls Tryz.prog 39 #[.agg (nC n vi vw vb), lv] W fun e w' => e = .returned (.tuple #[.agg #[.int .i64 n.op, vi, .int .i64 n.k, .int .i64 n.stride, .int .i64 n.pad, .int .i64 n.out, .int .i64 n.mul, .int .i64 n.shift, .int .i64 n.zero, .int .i64 n.th, .int .i64 n.tw, .int .i64 n.tc, vw, vb, lv, .int .i64 m.1, .int .i64 m.2.1, .int .i64 m.2.2], .int .i64 0]) /\ Grown W w' := by
  have hV : valueV n vs = ⟨m.1, m.2.1, m.2.2, n.zero⟩ := by rw [valueV_ok h0, hm.out]
  have VA : Hid (∀ w, Past W w -> Calls Tryz.prog 37 #[.agg (nC n vi vw vb), lv] w fun e w' => e = .returned (.tuple #[.agg #[.int .i64 m.1, .int .i64 m.2.1, .int .i64 m.2.2, .int .i64 n.zero], .int .i64 0]) /\ Grown w w') := Lib.hid (by
    intro w p
    have := value_any n vi vw vb lv vs w (hin.grow p) (hv.grow p)
    unfold ValuePost at this
    rw [hV, h0] at this
    exact this)
  obtain ⟨A1, c1, rfl, _⟩ := hv
  obtain ⟨Ai, ci, rfl, _⟩ := hin.1
  obtain ⟨Aw, cw, rfl, _⟩ := hin.2.1
  obtain ⟨Ab, cb, rfl, _⟩ := hin.2.2
  clear hin hV h0 hm
  go_enter Tryz.func39, Tryz.ntmps39
  go_upto_region 1 with fail
  refine opq (fun w' => (Bx w' (W.heap.size) (nC n (.slice Ai n.ins.length ci) (.slice Aw n.ws.length cw) (.slice Ab n.bs.length cb))) /\ (Bx w' (W.heap.size + 1) #[.int .i64 0, .slice none 0 0, .int .i64 0, .int .i64 0, .int .i64 0, .int .i64 0, .int .i64 0, .int .i64 0, .int .i64 0, .int .i64 0, .int .i64 0, .int .i64 0, .slice none 0 0, .slice none 0 0, .slice none 0 0, .int .i64 0, .int .i64 0, .int .i64 0]) /\ (Fr w' (W.heap.size + 1)) /\ Grown W w' /\ W.heap.size + 2 <= w'.heap.size) kLaid ?_
  rintro W1 ⟨b1, b2, f2, g1, z1⟩
  go_wp2_with fail
  refine (VA.out _ (Grown.past g1)).mono ?_
  rintro e w1 ⟨rfl, g⟩
  obtain ⟨b3, b4, f4, g4, z4⟩ : (Bx w1 (W.heap.size) (nC n (.slice Ai n.ins.length ci) (.slice Aw n.ws.length cw) (.slice Ab n.bs.length cb))) /\ (Bx w1 (W.heap.size + 1) #[.int .i64 0, .slice none 0 0, .int .i64 0, .int .i64 0, .int .i64 0, .int .i64 0, .int .i64 0, .int .i64 0, .int .i64 0, .int .i64 0, .int .i64 0, .int .i64 0, .slice none 0 0, .slice none 0 0, .slice none 0 0, .int .i64 0, .int .i64 0, .int .i64 0]) /\ (Fr w1 (W.heap.size + 1)) /\ Grown W w1 /\ W.heap.size + 2 <= w1.heap.size := by (exact kKeep)
  clear b1 b2 f2 g1 z1 g
  go_upto_region 2 with fail
  refine opq (fun w' => (Bx w' (W.heap.size) (nC n (.slice Ai n.ins.length ci) (.slice Aw n.ws.length cw) (.slice Ab n.bs.length cb))) /\ (Bx w' (W.heap.size + 1) #[.int .i64 0, .slice none 0 0, .int .i64 0, .int .i64 0, .int .i64 0, .int .i64 0, .int .i64 0, .int .i64 0, .int .i64 0, .int .i64 0, .int .i64 0, .int .i64 0, .slice none 0 0, .slice none 0 0, .slice none 0 0, .int .i64 0, .int .i64 0, .int .i64 0]) /\ (Fr w' (W.heap.size + 1)) /\ (Bx w' (w1.heap.size) #[.int .i64 m.1, .int .i64 m.2.1, .int .i64 m.2.2, .int .i64 n.zero]) /\ Grown W w' /\ W.heap.size + 2 <= w'.heap.size) kKeep ?_
  rintro w2 ⟨b5, b6, f6, b7, g6, z6⟩
  clear b3 b4 f4 g4
  go_wp2_with ((refine wpList_store_box rfl 77 (.tmp 4) (.tmp 22) rfl (W.heap.size + 1) #[.int .i64 n.op, (.slice Ai n.ins.length ci), .int .i64 n.k, .int .i64 n.stride, .int .i64 n.pad, .int .i64 n.out, .int .i64 n.mul, .int .i64 n.shift, .int .i64 n.zero, .int .i64 n.th, .int .i64 n.tw, .int .i64 n.tc, (.slice Aw n.ws.length cw), (.slice Ab n.bs.length cb), (.slice A1 vs.length c1), .int .i64 m.1, .int .i64 m.2.1, .int .i64 m.2.2] _ rfl rfl b6 f6 rfl T18 (by simp [Value.oneCell']) (fun w' => (Bx w' (W.heap.size + 1) #[.int .i64 n.op, (.slice Ai n.ins.length ci), .int .i64 n.k, .int .i64 n.stride, .int .i64 n.pad, .int .i64 n.out, .int .i64 n.mul, .int .i64 n.shift, .int .i64 n.zero, .int .i64 n.th, .int .i64 n.tw, .int .i64 n.tc, (.slice Aw n.ws.length cw), (.slice Ab n.bs.length cb), (.slice A1 vs.length c1), .int .i64 m.1, .int .i64 m.2.1, .int .i64 m.2.2]) /\ Grown W w') ⟨box_setAll b6 rfl, grown_setAll (by omega) _ _ _ g6⟩ ?_); rintro w3 ⟨b8, g8⟩)
  exact ret_box rfl (W.heap.size + 1) #[.int .i64 n.op, (.slice Ai n.ins.length ci), .int .i64 n.k, .int .i64 n.stride, .int .i64 n.pad, .int .i64 n.out, .int .i64 n.mul, .int .i64 n.shift, .int .i64 n.zero, .int .i64 n.th, .int .i64 n.tw, .int .i64 n.tc, (.slice Aw n.ws.length cw), (.slice Ab n.bs.length cb), (.slice A1 vs.length c1), .int .i64 m.1, .int .i64 m.2.1, .int .i64 m.2.2] _ (.int .i64 0) rfl rfl b8 Tryz.underlying77 rfl T18 rfl ⟨rfl, g8⟩
end Go.Proofs.YtliijchcpooplaaGreat
namespace Go.Proofs.YtliijchcpooplaaGreat
open Go
section
variable {P : Program} {ops : Array Oper} {Q : Exit -> Act -> World -> Prop} {md : Region.Mode}
theorem ready_all (hok : fixOK md ops = true) (listed : Array Bool) (hsz : listed.size = ops.size) (hr : Region.ready md ops listed = []) : ∀ j o, ops[j]? = some o -> listed.getD j true = true := by
  have lt : ∀ {j p}, ops[j]? = some p -> j < ops.size := fun h => (Array.getElem?_eq_some_iff.1 h).1
  intro j
  induction j using Nat.strongRecOn with
  | ind j ih =>
    intro o hj
    apply Classical.byContradiction
    intro c
    have c' : listed.getD j true = false := by simpa using c
    have : j ∈ Region.ready md ops listed := mem_ready.2 ⟨c', o, hj, fun e he hb => by
      have hlt := (fixOK_at hok hj).2.2.2 e he hb
      have he2 : ops[e.on]? = some (ops[e.on]'(Nat.lt_trans hlt (lt hj))) := Array.getElem?_eq_getElem (Nat.lt_trans hlt (lt hj))
      have := ih e.on hlt _ he2
      rw [Array.getD_eq_getD_getElem?] at this ⊢
      rw [Array.getElem?_eq_getElem (by rw [hsz]; exact Nat.lt_trans hlt (lt hj))] at this ⊢
      exact this⟩
    rw [hr] at this
    cases this
theorem meets_next {listed : Array Bool} {aF a : Act} {i : Nat} {o : Oper} {v : Value} (ho : ops[i]? = some o) (hm : Meets ops listed aF a) (hp : aF.put o.dst v = aF) : Meets ops (listed.setIfInBounds i true) aF (a.put o.dst v) := by
  obtain ⟨m1, m2, m3⟩ := hm
  refine ⟨?_, ?_, fun t ht => ?_⟩
  . cases hd : o.dst <;> simpa [Act.put] using m1
  . cases hd : o.dst <;> simpa [Act.put] using m2
  . cases hd : o.dst with
    | none =>
      refine m3 t fun j p hj hp => ?_
      by_cases c : i = j
      . subst c
        rw [ho] at hj
        injection hj with hj
        rw [<- hj, hd] at hp
        cases hp
      . rw [<- getD_set_ne true c]
        exact ht j p hj hp
    | some d =>
      by_cases c : d = t
      . subst c
        by_cases l : d < aF.tmps.size
        . rw [put_fix hp hd l]
          simp [Act.put, m2, l]
        . have l' : aF.tmps.size <= d := Nat.le_of_not_lt l
          have l2 : (a.put (some d) v).tmps.size <= d := by
            simp only [Act.put, Array.size_setIfInBounds, m2]
            exact l'
          rw [Array.getElem?_eq_none l2, Array.getElem?_eq_none l']
      . have : (a.put (some d) v).tmps[t]? = a.tmps[t]? := by simp [Act.put, Array.getElem?_setIfInBounds_ne c]
        rw [this]
        refine m3 t fun j p hj hp => ?_
        by_cases c2 : i = j
        . subst c2
          rw [ho] at hj
          injection hj with hj
          rw [<- hj, hd] at hp
          injection hp with hp
          exact absurd hp c
        . rw [<- getD_set_ne true c2]
          exact ht j p hj hp
theorem looks_meet (hok : fixOK md ops = true) {listed : Array Bool} {aF a : Act} {i : Nat} {o : Oper} (hsz : listed.size = ops.size) (hm : Meets ops listed aF a) (ho : ops[i]? = some o)
    (hall : ∀ e ∈ o.after, Region.binds md e = true -> listed.getD e.on false = true) : ∀ t ∈ o.looksAt ops, a.tmps[t]? = aF.tmps[t]? := fun t ht => hm.2.2 t fun j p hj hd => by
  obtain ⟨e, he, hb, rfl⟩ := (fixOK_at hok ho).2.1 t ht j p hj hd
  have := hall e he hb
  rw [Array.getD_eq_getD_getElem?] at this ⊢
  rw [Array.getElem?_eq_getElem (by rw [hsz]; exact (Array.getElem?_eq_some_iff.1 hj).1)] at this ⊢
  exact this
theorem wpOp_owes {S : World -> Prop} {aF a : Act} {i : Nat} {o : Oper} {w : World} {K : Act -> World -> Prop} (hok : fixOK md ops = true) (ho : ops[i]? = some o) (look : ∀ t ∈ o.looksAt ops, a.tmps[t]? = aF.tmps[t]?) (hS : S w)
    (h : Owes P ops S aF o) (next : ∀ v w', aF.put o.dst v = aF -> S w' -> K (a.put o.dst v) w') : wpOp P ops Q i K a w := by
  obtain ⟨ee, ew⟩ := eval_eq (ops := ops) (fixOK_at hok ho).1 look
  have h := h w hS
  unfold wpOp
  simp only [ho]
  rw [ew]
  by_cases hw : Region.wanted o (yielded ops aF.tmps) = true
  . rw [if_pos hw] at h ⊢
    refine .inl ?_
    unfold Oper.wp at h ⊢
    rw [ee]
    exact upon_fix next h
  . rw [if_neg hw] at h ⊢
    exact next undef w h hS
theorem done_meets {listed : Array Bool} {aF a : Act} (hall : ∀ j o, ops[j]? = some o -> listed.getD j true = true) (hm : Meets ops listed aF a) : a = aF := by
  obtain ⟨h1, h2, h3⟩ := hm
  obtain ⟨t1, d1⟩ := a
  obtain ⟨t2, d2⟩ := aF
  simp only at h1 h2 h3
  subst h1
  have : t1 = t2 := Array.ext_getElem? fun t => h3 t fun j o hj _ => hall j o hj
  subst this
  rfl
theorem upon_late {α : Type} {S1 : α -> World -> Prop} {V : α -> Value} {F0 a : Act} {d : Tmp} {o : Oper} {K : Act -> World -> Prop} {r : Result Next} (hd : o.dst = some d) (hl : d < F0.tmps.size)
    (hK : ∀ p w', S1 p w' -> K (a.put (some d) (V p)) w') (h : o.upon P F0 (fun a' w' => ∃ p, a' = F0.put (some d) (V p) /\ S1 p w') noPost r) : o.upon P a K Q r := by
  have key : ∀ v p, F0.put (some d) v = F0.put (some d) (V p) -> v = V p := by
    intro v p e
    have := congrArg (fun x : Act => x.tmps[d]?) e
    simpa [Act.put, hl] using this
  cases r with
  | ok n w' =>
    cases n with
    | value v => obtain ⟨p, e, h⟩ := h; rw [hd] at e; have := key v p e; subst this; show K (a.put o.dst (V p)) w'; rw [hd]; exact hK p w' h
    | skip => obtain ⟨p, e, h⟩ := h; rw [hd] at e; have := key _ p e; show K (a.put o.dst undef) w'; rw [hd, this]; exact hK p w' h
    | defer d' =>
      exfalso
      obtain ⟨p, e, h⟩ := h
      have e : ({ F0 with defers := d' :: F0.defers } : Act).put o.dst undef = F0.put (some d) (V p) := e
      have := congrArg Act.defers e
      rw [hd] at this
      simp [Act.put] at this
    | enter f args =>
      refine Calls.mono h fun e w'' he => ?_
      cases e with
      | returned v => obtain ⟨p, e, h⟩ := he; rw [hd] at e; have := key v p e; subst this; show K (a.put o.dst (V p)) w''; rw [hd]; exact hK p w'' h
      | panicked c => exact he.elim
      | outgrown => obtain ⟨_, _, hf⟩ := he; exact hf.elim
    | row row args => exact Rows.mono h fun v w'' he => by obtain ⟨p, e, h⟩ := he; rw [hd] at e; have := key v p e; subst this; show K (a.put o.dst (V p)) w''; rw [hd]; exact hK p w'' h
    | _ => exact h.elim
  | halt x w' =>
    cases x with
    | panic v => exact h.elim
    | _ => exact h.elim
end
def OwesX (P : Program) (ops : Array Oper) (S : World -> Prop) (aF : Act) (bs : List Nat) : Nat -> List Oper -> Prop
  | _, [] => True
  | k, o :: l => (bs.contains k = true ∨ Owes P ops S aF o) /\ OwesX P ops S aF bs (k + 1) l
theorem OwesX.at_ {P : Program} {ops : Array Oper} {S : World -> Prop} {aF : Act} {bs : List Nat} {l : List Oper} : ∀ {k : Nat}, OwesX P ops S aF bs k l -> ∀ {j : Nat} {o : Oper}, l[j]? = some o -> bs.contains (k + j) = false -> Owes P ops S aF o := by
  induction l with
  | nil => intro k _ j o hj; simp at hj
  | cons x l ih =>
    intro k h j o hj hn
    cases j with
    | zero =>
      simp at hj
      subst hj
      rcases h.1 with h | h
      . rw [Nat.add_zero, h] at hn; cases hn
      . exact h
    | succ j => exact ih h.2 (by simpa using hj) (by rw [<- hn]; congr 1; omega)
theorem owesb_skip {P : Program} {ops : Array Oper} {S : World -> Prop} {aF : Act} {bs : List Nat} {k : Nat} {o : Oper} {l : List Oper} (h : bs.contains k = true) (g : OwesX P ops S aF bs (k + 1) l) : OwesX P ops S aF bs k (o :: l) := ⟨.inl h, g⟩
theorem owesb_cons {P : Program} {ops : Array Oper} {S : World -> Prop} {aF : Act} {bs : List Nat} {k : Nat} {o : Oper} {l : List Oper}
    (h : ∀ w, S w -> ∀ K : Act -> World -> Prop, (∀ w', S w' -> K aF w') -> if Region.wanted o (yielded ops aF.tmps) = true then o.wp P aF w K noPost else K (aF.put o.dst undef) w) (g : OwesX P ops S aF bs (k + 1) l) : OwesX P ops S aF bs k (o :: l) := ⟨.inr (owes_of h), g⟩
def lateOK (md : Region.Mode) (ops : Array Oper) (c : Nat) (d : Tmp) (late : List Nat) (slots slotr : List Tmp) : Bool :=
  fixOK md ops && late.contains c && (match ops[c]? with | none => false | some o => o.guard.isNone && o.dst == some d) &&
  (late.all fun i => match ops[i]? with | none => false | some o => i == c || o.after.any fun e => Region.binds md e && late.contains e.on) &&
  (slots.all fun t => ops.any fun o => o.dst == some t) &&
  ((d :: slotr).all fun t => late.any fun j => match ops[j]? with | none => false | some o => o.dst == some t) && !slotr.contains d
end Go.Proofs.YtliijchcpooplaaGreat
namespace Go.Proofs.YtliijchcpooplaaGreat
open Go.ChangeShapes Go.WideShapes Go.ChangeAt Go.RowKit
set_option maxRecDepth 20000
set_option linter.unusedVariables false
theorem op_cases {o : Int} (h : hasOp o) : o = 1 ∨ o = 2 ∨ o = 3 ∨ o = 4 ∨ o = 5 ∨ o = 6 ∨ o = 7 ∨ o = 8 ∨ o = 9 ∨ o = 10 ∨ o = 11 ∨ o = 12 := by
  unfold hasOp at h
  omega
theorem vals_node {o : Int} (h : hasOp o) : (opD o).vals = nodeW o := by
  rcases op_cases h with rfl | rfl | rfl | rfl | rfl | rfl | rfl | rfl | rfl | rfl | rfl | rfl <;> rfl
theorem keeps_node {o : Int} (h : hasOp o) : (opD o).keeps = true ↔ o = 4 ∨ o = 5 ∨ o = 8 ∨ o = 9 ∨ o = 10 ∨ o = 11 := by
  rcases op_cases h with rfl | rfl | rfl | rfl | rfl | rfl | rfl | rfl | rfl | rfl | rfl | rfl <;> simp [opD]
theorem set_node {n : NodeD} (h : hasOp n.op) : setP (opD n.op) n ↔ nodeK n /\ nodeP n /\ nodeO n /\ nodeT n := by
  unfold setP nodeK nodeP nodeO nodeT
  rcases op_cases h with e | e | e | e | e | e | e | e | e | e | e | e <;> rw [e] <;> simp [opD] <;> omega
theorem takes_node {n : NodeD} {vs : List ValD} : (hasOp n.op /\ takesP (opD n.op) n vs) ↔ ((1 <= n.op /\ n.op <= 12) /\ (vs.length : Int) = nodeW n.op /\ nodeK n /\ nodeP n /\ nodeO n /\ nodeT n /\ nodeS n) /\ ∀ j, j < vs.length -> ¬ ((n.op = 4 ∨ n.op = 5 ∨ n.op = 8 ∨ n.op = 9 ∨ n.op = 10 ∨ n.op = 11) /\ (vs.getD j default).z ≠ n.zero) := by
  constructor
  . rintro ⟨h, h1, h2, h3, h4⟩
    rw [vals_node h] at h1
    rw [set_node h] at h4
    exact ⟨⟨h, h1, h4.1, h4.2.1, h4.2.2.1, h4.2.2.2, h3⟩, fun j hj k => h2 j hj ⟨(keeps_node h).mpr k.1, k.2⟩⟩
  . rintro ⟨⟨h, h1, h2, h3, h4, h5, h6⟩, h7⟩
    exact ⟨h, by rw [vals_node h]; exact h1, fun j hj k => h7 j hj ⟨(keeps_node h).mp k.1, k.2⟩, h6, (set_node h).mpr ⟨h2, h3, h4, h5⟩⟩
theorem two_of {vs : List ValD} (h : vs.length = 2) : ∃ x y, vs = [x, y] := by
  match vs, h with
  | [x, y], _ => exact ⟨x, y, rfl⟩
theorem one_of {vs : List ValD} (h : vs.length = 1) : ∃ x, vs = [x] := by
  match vs, h with
  | [x], _ => exact ⟨x, rfl⟩
theorem alike_made {x y : ValD} : alikeS [x, y] = if y.h = x.h /\ y.w = x.w /\ y.c = x.c then (x.h, x.w, x.c) else (0, 0, 0) := by
  by_cases c : y.h = x.h /\ y.w = x.w /\ y.c = x.c
  . rw [if_pos c, alike_two ⟨c.1.symm, c.2.1.symm, c.2.2.symm⟩]
  . rw [if_neg c, alike_not (fun k => c ⟨k.1.symm, k.2.1.symm, k.2.2.symm⟩)]
theorem alike_one {x : ValD} : alikeS [x] = (x.h, x.w, x.c) := by
  unfold alikeS
  rw [if_pos]
  . rfl
  . exact below_one (p := fun j => shD ([x].getD j default) = shD ([x].getD 0 default)) rfl
theorem made_any (n : NodeD) (vi vw vb lv : Value) (vs : List ValD) (W : World) (hv : IsVals W lv vs) (ho : hasOp n.op) (hl : (vs.length : Int) = nodeW n.op) (hm : ∀ j, j < vs.length -> mayV (vs.getD j default)) (s : Int × Int × Int) (hs : madeS n vs = s) :
    Calls Tryz.prog 32 #[.agg (nC n vi vw vb), lv] W fun e w' => e = .returned (.agg #[.int .i64 s.1, .int .i64 s.2.1, .int .i64 s.2.2]) /\ Grown W w' := by
  obtain ⟨A, cap, rfl, h1, _, _, _, h6⟩ := hv
  have hp : 0 < vs.length := by
    unfold nodeW at hl
    split at hl <;> omega
  obtain ⟨b, off, rfl, hb, hx⟩ := h6 hp
  by_cases c2 : n.op = 6 ∨ n.op = 7 ∨ n.op = 10
  . have l2 : vs.length = 2 := by
      unfold nodeW at hl
      rw [if_pos c2] at hl
      omega
    obtain ⟨x, y, rfl⟩ := two_of l2
    have x0 : ValAt W b off x := by simpa using hx 0 (by simp)
    have y0 : ValAt W b (off + 4) y := by simpa using hx 1 (by simp)
    have mx : mayS x.h x.w x.c := hm 0 (by simp)
    have my : mayS y.h y.w y.c := hm 1 (by simp)
    rcases c2 with e | e | e
    . refine made_6 n vi vw vb x y b off _ cap W (by simp) h1 hb x0 y0 (by simp [e]) (by simp [e]) (by simp [e]) (by simp [e]) (by simp [e]) (by simp [e]) s (Lib.hid ?_)
      rw [<- hs, <- alike_made]
      simp [madeS, e]
    . refine made_7 n vi vw vb x y b off _ cap W (by simp) h1 hb x0 y0 (by simp [e]) (by simp [e]) (by simp [e]) (by simp [e]) (by simp [e]) (by simp [e]) (by simp [e]) s (Lib.hid ?_)
      rw [<- hs, <- alike_made]
      simp [madeS, e]
    . refine made_10 n vi vw vb x y b off _ cap W (by simp) h1 hb x0 y0 (by simp [e]) (by simp [e]) (by simp [e]) (by simp [e]) (by simp [e]) (by simp [e]) (by simp [e]) (by simp [e]) (by simp [e]) mx my s (Lib.hid ?_)
      rw [<- hs]
      simp [madeS, e]
  . have l1 : vs.length = 1 := by
      unfold nodeW at hl
      rw [if_neg c2] at hl
      omega
    obtain ⟨x, rfl⟩ := one_of l1
    have x0 : ValAt W b off x := by simpa using hx 0 (by simp)
    have mx : mayS x.h x.w x.c := hm 0 (by simp)
    rcases op_cases ho with e | e | e | e | e | e | e | e | e | e | e | e
    . have := made_1 n vi vw vb x b off _ cap W (by simp) h1 hb x0 (by simp [e]) _ _ (Lib.hid rfl) (Lib.hid rfl)
      rw [<- hs]
      have k : madeS n [x] = (outI x.h n.k n.stride n.pad, outI x.w n.k n.stride n.pad, n.out) := by unfold madeS; rw [if_pos e]; rfl
      rw [k]
      exact this
    . have := made_2 n vi vw vb x b off _ cap W (by simp) h1 hb x0 (by simp [e]) (by simp [e]) _ _ (Lib.hid rfl) (Lib.hid rfl)
      rw [<- hs]
      simpa [madeS, e] using this
    . have := made_3 n vi vw vb x b off _ cap W (by simp) h1 hb x0 (by simp [e]) (by simp [e]) (by simp [e]) (by simp [e]) (by simp [e])
      rw [<- hs]
      simpa [madeS, e] using this
    . have := made_4 n vi vw vb x b off _ cap W (by simp) h1 hb x0 (by simp [e]) (by simp [e]) (by simp [e]) _ _ (Lib.hid rfl) (Lib.hid rfl)
      rw [<- hs]
      simpa [madeS, e] using this
    . have := made_5 n vi vw vb x b off _ cap W (by simp) h1 hb x0 (by simp [e]) (by simp [e]) (by simp [e]) (by simp [e]) _ _ (Lib.hid rfl) (Lib.hid rfl)
      rw [<- hs]
      simpa [madeS, e] using this
    . exact absurd (.inl e) c2
    . exact absurd (.inr (.inl e)) c2
    . have := made_0 n vi vw vb x b off _ cap W (by simp) h1 hb x0 (by simp [e]) (by simp [e]) (by simp [e]) (by simp [e]) (by simp [e]) (by simp [e]) (by simp [e]) (by simp [e]) (by simp [e]) (by simp [e])
      rw [<- hs]
      simpa [madeS, e, alike_one] using this
    . have := made_9 n vi vw vb x b off _ cap W (by simp) h1 hb x0 (by simp [e]) (by simp [e]) (by simp [e]) (by simp [e]) (by simp [e]) (by simp [e]) (by simp [e]) (by simp [e]) mx
      rw [<- hs]
      simpa [madeS, e] using this
    . exact absurd (.inr (.inr e)) c2
    . refine made_11 n vi vw vb x b off _ cap W (by simp) h1 hb x0 (by simp [e]) (by simp [e]) (by simp [e]) (by simp [e]) (by simp [e]) (by simp [e]) (by simp [e]) (by simp [e]) (by simp [e]) (by simp [e]) _ _ (Lib.hid rfl) (Lib.hid rfl) s (Lib.hid ?_)
      rw [<- hs]
      simp [madeS, e]
    . have := made_0 n vi vw vb x b off _ cap W (by simp) h1 hb x0 (by simp [e]) (by simp [e]) (by simp [e]) (by simp [e]) (by simp [e]) (by simp [e]) (by simp [e]) (by simp [e]) (by simp [e]) (by simp [e])
      rw [<- hs]
      simpa [madeS, e, alike_one] using this
theorem size_bd {h w c : Int} (m : mayS h w c) : 1 <= sizeI h w c /\ sizeI h w c <= 2048 := by
  unfold sizeI
  rw [if_pos m]
  obtain ⟨h1, h2, h3, h4, h5, h6⟩ := m
  obtain ⟨a1, a2⟩ := mul_bd h1 h2 h3 h4
  obtain ⟨a3, a4⟩ := mul_bd a1 a2 h5 h6
  omega
theorem many_any (n : NodeD) (vi vw vb : Value) (vs : List ValD) (W : World) (hp : 0 < vs.length) (ho : hasOp n.op) (hk : nodeK n) (hu : nodeO n) (hm : ∀ j, j < vs.length -> mayV (vs.getD j default)) (x : ValD) (hx : vs.getD 0 default = x) (a b : Int) (ha : wantS n x (madeS n vs).2.2 = (a, b)) :
    Calls Tryz.prog 33 #[.agg (nC n vi vw vb), .agg #[.int .i64 x.h, .int .i64 x.w, .int .i64 x.c]] W fun e w' => e = .returned (.tuple #[.int .i64 a, .int .i64 b]) /\ Grown W w' := by
  have mx : mayS x.h x.w x.c := by rw [<- hx]; exact hm 0 hp
  have ms := size_bd mx
  have mc := mx
  obtain ⟨_, _, _, _, c1, c2⟩ := mc
  by_cases e1 : n.op = 1
  . unfold nodeK at hk
    unfold nodeO at hu
    rw [if_pos (by omega)] at hk hu
    have : wantS n x (madeS n vs).2.2 = (n.k * n.k * x.c * n.out, n.out) := by simp [wantS, madeS, e1]
    rw [this] at ha
    obtain ⟨rfl, rfl⟩ := Prod.mk.inj ha
    exact many_1 n vi vw vb x W hk.1.1 hk.1.2 c1 c2 hu.1 hu.2 (by simp [e1])
  by_cases e2 : n.op = 2
  . unfold nodeK at hk
    rw [if_pos (by omega)] at hk
    have : wantS n x (madeS n vs).2.2 = (n.k * n.k * x.c, x.c) := by simp only [wantS, madeS, e2, hx]; simp
    rw [this] at ha
    obtain ⟨rfl, rfl⟩ := Prod.mk.inj ha
    exact many_2 n vi vw vb x W hk.1.1 hk.1.2 c1 c2 (by simp [e2]) (by simp [e2])
  by_cases e3 : n.op = 3
  . unfold nodeO at hu
    rw [if_pos (by omega)] at hu
    have : wantS n x (madeS n vs).2.2 = (sizeI x.h x.w x.c * n.out, n.out) := by simp [wantS, madeS, e3]
    rw [this] at ha
    obtain ⟨rfl, rfl⟩ := Prod.mk.inj ha
    exact many_3 n vi vw vb x W _ (Lib.hid rfl) ms.1 ms.2 hu.1 hu.2 (by simp [e3]) (by simp [e3]) (by simp [e3])
  by_cases e4 : n.op = 12
  . have : wantS n x (madeS n vs).2.2 = (256, 0) := by simp [wantS, e4]
    rw [this] at ha
    obtain ⟨rfl, rfl⟩ := Prod.mk.inj ha
    exact many_12 n vi vw vb x W (by simp [e4]) (by simp [e4]) (by simp [e4]) (by simp [e4])
  . have : wantS n x (madeS n vs).2.2 = (0, 0) := by simp [wantS, e1, e2, e3, e4]
    rw [this] at ha
    obtain ⟨rfl, rfl⟩ := Prod.mk.inj ha
    exact many_0 n vi vw vb x W (by simp [e1]) (by simp [e2]) (by simp [e3]) (by simp [e4])
end Go.Proofs.YtliijchcpooplaaGreat
