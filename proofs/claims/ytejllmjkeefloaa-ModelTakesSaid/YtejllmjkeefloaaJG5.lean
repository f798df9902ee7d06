/- graph: alike. A region whose order is open, with one call that makes memory: what it gives is a letter, and those that hang on it come behind it. -/
import Derived.Test.YtejllmjkeefloaaJG3
import Derived.Test.YtejllmjkeefloaaJFix
namespace Go.Proofs.Ytejllmjkeefloaa
open Go.ChangeShapes Go.WideShapes Go.ChangeAt Go.RowKit
set_option maxRecDepth 20000
set_option linter.unusedVariables false

def shD (x : ValD) : Int × Int × Int := (x.h, x.w, x.c)
open Classical in
noncomputable def alikeS (xs : List ValD) : Int × Int × Int := if ∀ j, j < xs.length → shD (xs.getD j default) = shD (xs.getD 0 default) then shD (xs.getD 0 default) else (0, 0, 0)
set_option maxHeartbeats 2000000 in
theorem alike_any (n : NodeD) (vi vw vb : Value) (xs : List ValD) (b off cap : Nat) (W : World) (t : Int × Int × Int)
    (h0 : 0 < xs.length) (h1 : xs.length ≤ cap) (hm : cap ≤ maxLen) (hbb : b < W.heap.size) (hx : ∀ i, i < xs.length → ValAt W b (off + i * 4) (xs.getD i default)) (ht : Hid (t = alikeS xs)) :
    Calls Try.prog 117 #[.agg #[.int .i64 n.op, vi, .int .i64 n.k, .int .i64 n.stride, .int .i64 n.pad, .int .i64 n.out, .int .i64 n.mul, .int .i64 n.shift, .int .i64 n.zero, .int .i64 n.th, .int .i64 n.tw, .int .i64 n.tc, vw, vb], .slice (some ⟨b, off, none⟩) xs.length cap] W fun e w' => e = .returned (.agg #[.int .i64 t.1, .int .i64 t.2.1, .int .i64 t.2.2]) ∧ Grown W w' := by
  have hl1 : xs.length ≤ 9223372036854775807 := by unfold maxLen at hm; omega
  have HX := Lib.hid hx
  clear hx hm
  have x0 := HX.out 0 h0
  obtain ⟨x, hx0⟩ : ∃ x, xs.getD 0 default = x := ⟨_, rfl⟩
  rw [hx0, show off + 0 * 4 = off by omega] at x0
  have HX0 := Lib.hid hx0
  clear hx0
  obtain ⟨xh, xw, xc, xz⟩ := x
  obtain ⟨x1, x2, x3, x4⟩ := x0
  simp only at x1 x2 x3 x4
  go_enter Try.func117, Try.ntmps117
  go_wp2_with fail
  refine opq (fun w' => w'.cell? ⟨b, off, none⟩ = some (.int .i64 xh) ∧ w'.cell? ⟨b, off + 1, none⟩ = some (.int .i64 xw) ∧ w'.cell? ⟨b, off + 2, none⟩ = some (.int .i64 xc) ∧ (∀ o : Nat, w'.cell? ⟨W.heap.size + 1, o, none⟩ = (#[.int .i64 0, .int .i64 0, .int .i64 0] : Array Value)[o]?) ∧ (∀ o : Nat, w'.frozen? ⟨W.heap.size + 1, o, none⟩ = false) ∧ Grown W w' ∧ W.heap.size + 2 ≤ w'.heap.size) kLaid ?_
  rintro W1 ⟨y1, y2, y3, b1, f1, g1, z1⟩
  clear x1 x2 x3 x4
  go_loopw [9] (fun i wr => ∃ k : Nat, k ≤ xs.length ∧ i = .int .i64 k ∧ Hid (∀ j, j < k → shD (xs.getD j default) = (xh, xw, xc)) ∧ wr.cell? ⟨b, off, none⟩ = some (.int .i64 xh) ∧ wr.cell? ⟨b, off + 1, none⟩ = some (.int .i64 xw) ∧ wr.cell? ⟨b, off + 2, none⟩ = some (.int .i64 xc) ∧ (∀ o : Nat, wr.cell? ⟨W.heap.size + 1, o, none⟩ = (#[.int .i64 0, .int .i64 0, .int .i64 0] : Array Value)[o]?) ∧ (∀ o : Nat, wr.frozen? ⟨W.heap.size + 1, o, none⟩ = false) ∧ Grown W wr ∧ W.heap.size + 2 ≤ wr.heap.size) (fun i _ => xs.length - (intOf i).toNat)
  case atStart => exact ⟨0, by omega, rfl, Lib.hid (fun j h => by omega), y1, y2, y3, b1, f1, g1, z1⟩
  case round =>
    clear y1 y2 y3 b1 f1 g1 z1
    obtain ⟨k, hk, rfl, hs, y1, y2, y3, b1, f1, g1, z1⟩ := hrel
    by_cases l : k < xs.length
    · obtain ⟨c1, c2, c3, c4⟩ := (HX.out k l).grow hbb (Grown.past g1)
      obtain ⟨y, hy⟩ : ∃ y, xs.getD k default = y := ⟨_, rfl⟩
      rw [hy] at c1 c2 c3 c4
      obtain ⟨yh, yw, yc, yz⟩ := y
      simp only at c1 c2 c3 c4
      have HY := Lib.hid hy
      clear hy
      have i1 : (0 : Int) ≤ (k : Int) := by omega
      have n1 : b ≠ wr.heap.size := by omega
      have n2 : b < wr.heap.size := by omega
      have n3 : W.heap.size + 1 ≠ wr.heap.size := by omega
      have n4 : W.heap.size + 1 < wr.heap.size := by omega
      have i2 : (k : Int) < (xs.length : Int) := by omega
      by_cases q : yh = xh ∧ yw = xw ∧ yc = xc
      · obtain ⟨rfl, rfl, rfl⟩ := q
        have E : Hid (∀ j, j < k + 1 → shD (xs.getD j default) = (yh, yw, yc)) := Lib.hid (fun j h => by
          by_cases c : j = k
          · subst c; rw [HY.out]; rfl
          · exact hs.out j (by omega))
        go_wp2_with fail
        go_quiet (fail)
        go_wp2_with fail
        go_roundw
        case rel => exact ⟨k + 1, by omega, by go_num, E, by (exact kKeep)⟩
        case measure => simp [intOf]; omega
      · have T : t = (0, 0, 0) := by
          rw [ht.out]; unfold alikeS
          rw [if_neg]
          intro h
          have := h k l
          rw [HY.out, HX0.out] at this
          simp only [shD, Prod.mk.injEq] at this
          exact q this
        subst T
        by_cases q1 : yh = xh
        · subst q1
          by_cases q2 : yw = xw
          · subst q2
            have q3 : ¬ yc = xc := fun h => q ⟨rfl, rfl, h⟩
            clear q
            go_wp2_with fail
            go_quiet (fail)
            go_wp2_with fail
            exact bodyPost_ret (v := .agg #[.int .i64 0, .int .i64 0, .int .i64 0]) (by simp [results, Try.results117, go_sem, *]) rfl ⟨rfl, by (exact kKeep)⟩
          · clear q
            go_wp2_with fail
            go_quiet (fail)
            go_wp2_with fail
            exact bodyPost_ret (v := .agg #[.int .i64 0, .int .i64 0, .int .i64 0]) (by simp [results, Try.results117, go_sem, *]) rfl ⟨rfl, by (exact kKeep)⟩
        · clear q
          go_wp2_with fail
          go_quiet (fail)
          go_wp2_with fail
          exact bodyPost_ret (v := .agg #[.int .i64 0, .int .i64 0, .int .i64 0]) (by simp [results, Try.results117, go_sem, *]) rfl ⟨rfl, by (exact kKeep)⟩
    · have T : t = (xh, xw, xc) := by
        rw [ht.out]; unfold alikeS
        rw [if_pos]
        · rw [HX0.out]; rfl
        · intro j hj
          rw [hs.out j (by omega), HX0.out]; rfl
      subst T
      go_wp2_with fail
      exact bodyPost_ret (v := .agg #[.int .i64 xh, .int .i64 xw, .int .i64 xc]) (by simp [results, Try.results117, go_sem, *]) rfl ⟨rfl, by (exact kKeep)⟩
end Go.Proofs.Ytejllmjkeefloaa
namespace Go.Proofs.Ytejllmjkeefloaa
open Go

section
variable {P : Program} {ops : Array Oper} {Q : Exit → Act → World → Prop} {md : Region.Mode}

theorem ready_all (hok : fixOK md ops = true) (listed : Array Bool) (hsz : listed.size = ops.size) (hr : Region.ready md ops listed = []) : ∀ j o, ops[j]? = some o → listed.getD j true = true := by
  have lt : ∀ {j p}, ops[j]? = some p → j < ops.size := fun h => (Array.getElem?_eq_some_iff.1 h).1
  intro j
  induction j using Nat.strongRecOn with
  | ind j ih =>
    intro o hj
    apply Classical.byContradiction
    intro c
    have c' : listed.getD j true = false := by simpa using c
    have : j ∈ Region.ready md ops listed := mem_ready.2 ⟨c', o, hj, fun e he hb => by
      have hlt := (fixOK_at hok hj).2.2.2 e he hb
      have he2 : ops[e.on]? = some (ops[e.on]'(Nat.lt_trans hlt (lt hj))) := Array.getElem?_eq_getElem (Nat.lt_trans hlt (lt hj))
      have := ih e.on hlt _ he2
      rw [Array.getD_eq_getD_getElem?] at this ⊢
      rw [Array.getElem?_eq_getElem (by rw [hsz]; exact Nat.lt_trans hlt (lt hj))] at this ⊢
      exact this⟩
    rw [hr] at this
    cases this
theorem meets_next {listed : Array Bool} {aF a : Act} {i : Nat} {o : Oper} {v : Value} (ho : ops[i]? = some o) (hm : Meets ops listed aF a) (hp : aF.put o.dst v = aF) : Meets ops (listed.setIfInBounds i true) aF (a.put o.dst v) := by
  obtain ⟨m1, m2, m3⟩ := hm
  refine ⟨?_, ?_, fun t ht => ?_⟩
  · cases hd : o.dst <;> simpa [Act.put] using m1
  · cases hd : o.dst <;> simpa [Act.put] using m2
  · cases hd : o.dst with
    | none =>
      refine m3 t fun j p hj hp => ?_
      by_cases c : i = j
      · subst c
        rw [ho] at hj
        injection hj with hj
        rw [← hj, hd] at hp
        cases hp
      · rw [← getD_set_ne true c]
        exact ht j p hj hp
    | some d =>
      by_cases c : d = t
      · subst c
        by_cases l : d < aF.tmps.size
        · rw [put_fix hp hd l]
          simp [Act.put, m2, l]
        · have l' : aF.tmps.size ≤ d := Nat.le_of_not_lt l
          have l2 : (a.put (some d) v).tmps.size ≤ d := by
            simp only [Act.put, Array.size_setIfInBounds, m2]
            exact l'
          rw [Array.getElem?_eq_none l2, Array.getElem?_eq_none l']
      · have : (a.put (some d) v).tmps[t]? = a.tmps[t]? := by simp [Act.put, Array.getElem?_setIfInBounds_ne c]
        rw [this]
        refine m3 t fun j p hj hp => ?_
        by_cases c2 : i = j
        · subst c2
          rw [ho] at hj
          injection hj with hj
          rw [← hj, hd] at hp
          injection hp with hp
          exact absurd hp c
        · rw [← getD_set_ne true c2]
          exact ht j p hj hp
theorem looks_meet (hok : fixOK md ops = true) {listed : Array Bool} {aF a : Act} {i : Nat} {o : Oper} (hsz : listed.size = ops.size) (hm : Meets ops listed aF a) (ho : ops[i]? = some o)
    (hall : ∀ e ∈ o.after, Region.binds md e = true → listed.getD e.on false = true) : ∀ t ∈ o.looksAt ops, a.tmps[t]? = aF.tmps[t]? := fun t ht => hm.2.2 t fun j p hj hd => by
  obtain ⟨e, he, hb, rfl⟩ := (fixOK_at hok ho).2.1 t ht j p hj hd
  have := hall e he hb
  rw [Array.getD_eq_getD_getElem?] at this ⊢
  rw [Array.getElem?_eq_getElem (by rw [hsz]; exact (Array.getElem?_eq_some_iff.1 hj).1)] at this ⊢
  exact this
theorem wpOp_owes {S : World → Prop} {aF a : Act} {i : Nat} {o : Oper} {w : World} {K : Act → World → Prop} (hok : fixOK md ops = true) (ho : ops[i]? = some o) (look : ∀ t ∈ o.looksAt ops, a.tmps[t]? = aF.tmps[t]?) (hS : S w)
    (h : Owes P ops S aF o) (next : ∀ v w', aF.put o.dst v = aF → S w' → K (a.put o.dst v) w') : wpOp P ops Q i K a w := by
  obtain ⟨ee, ew⟩ := eval_eq (ops := ops) (fixOK_at hok ho).1 look
  have h := h w hS
  unfold wpOp
  simp only [ho]
  rw [ew]
  by_cases hw : Region.wanted o (yielded ops aF.tmps) = true
  · rw [if_pos hw] at h ⊢
    refine .inl ?_
    unfold Oper.wp at h ⊢
    rw [ee]
    exact upon_fix next h
  · rw [if_neg hw] at h ⊢
    exact next undef w h hS
theorem done_meets {listed : Array Bool} {aF a : Act} (hall : ∀ j o, ops[j]? = some o → listed.getD j true = true) (hm : Meets ops listed aF a) : a = aF := by
  obtain ⟨h1, h2, h3⟩ := hm
  obtain ⟨t1, d1⟩ := a
  obtain ⟨t2, d2⟩ := aF
  simp only at h1 h2 h3
  subst h1
  have : t1 = t2 := Array.ext_getElem? fun t => h3 t fun j o hj _ => hall j o hj
  subst this
  rfl
end

/-- What all operations owe but those of the list. -/
def OwesX (P : Program) (ops : Array Oper) (S : World → Prop) (aF : Act) (bs : List Nat) : Nat → List Oper → Prop
  | _, [] => True
  | k, o :: l => (bs.contains k = true ∨ Owes P ops S aF o) ∧ OwesX P ops S aF bs (k + 1) l
theorem OwesX.at_ {P : Program} {ops : Array Oper} {S : World → Prop} {aF : Act} {bs : List Nat} {l : List Oper} : ∀ {k : Nat}, OwesX P ops S aF bs k l → ∀ {j : Nat} {o : Oper}, l[j]? = some o → bs.contains (k + j) = false → Owes P ops S aF o := by
  induction l with
  | nil => intro k _ j o hj; simp at hj
  | cons x l ih =>
    intro k h j o hj hn
    cases j with
    | zero =>
      simp at hj
      subst hj
      rcases h.1 with h | h
      · rw [Nat.add_zero, h] at hn; cases hn
      · exact h
    | succ j => exact ih h.2 (by simpa using hj) (by rw [← hn]; congr 1; omega)
end Go.Proofs.Ytejllmjkeefloaa
