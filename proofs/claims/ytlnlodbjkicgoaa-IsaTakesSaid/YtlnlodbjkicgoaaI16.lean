/- Rows of bytes: appends of bytes, slices of them; wide, as a table. -/
import Derived.Test.YtlnlodbjkicgoaaI15
namespace Go.Proofs.Ytlnlodbjkicgoaa
open Go.ChangeShapes Go.WideShapes Go.ChangeAt Go.RowKit
set_option maxRecDepth 20000
set_option linter.unusedVariables false
set_option linter.unusedSimpArgs false

/-- A row of bytes that a call owns. -/
def OwnR (w : World) (base : Nat) (v : Value) (xs : List Int) : Prop := w.ownsRow base 5 1 v xs.length (xs.map (Value.int .u8))
theorem OwnR.past {w w' : World} {base : Nat} {v : Value} {l : List Int} (h : OwnR w base v l) (g : Past w w') : OwnR w' base v l := by
  obtain ⟨hl, h⟩ := h
  refine ⟨hl, ?_⟩
  rcases h with ⟨rfl, h0⟩ | ⟨b, cap, cur, rfl, hb, hg, hn, hm, hs, ht⟩
  · exact .inl ⟨rfl, h0⟩
  · exact .inr ⟨b, cap, cur, rfl, hb, (g.2.2.2 b (Array.getElem?_eq_some_iff.1 hg).1).trans hg, hn, hm, hs, ht⟩
theorem wf_u8_of {l : List Int} (h : bytesP l) : ∀ x ∈ l, (Lit.int .u8 x).wf = true := fun x hx => by
  have := h x hx
  simp [Lit.wf, IntKind.min, IntKind.max, IntKind.bits, IntKind.signed]
  omega
theorem OwnR.nums {w : World} {base : Nat} {v : Value} {l : List Int} (h : OwnR w base v l) (hb : bytesP l) : IsNums .u8 w v l := nums_of_ownI (t := 5) h (wf_u8_of hb)
theorem OwnR.lt {w : World} {base : Nat} {v : Value} {l : List Int} (h : OwnR w base v l) {k : Nat} (hk : v.ownBlock = some k) : base ≤ k := (World.ownsRow.lt h k hk).1
theorem ownR_lit (w : World) : OwnR (w.alloc (.cells #[] 5)) w.heap.size (.slice (some ⟨w.heap.size, 0, none⟩) 0 0) [] := World.ownsRow_lit w #[] 0 (Nat.le_refl _) (by decide) rfl
theorem OwnR.alloc {w : World} {base : Nat} {v : Value} {l : List Int} (h : OwnR w base v l) (x : Obj) : OwnR (w.alloc x) base v l := World.ownsRow.alloc h x
theorem nums_form {w : World} {v : Value} {l : List Int} (h : IsNums .u8 w v l) : ∃ A cap, v = .slice A l.length cap ∧ l.length ≤ cap ∧ cap ≤ maxLen ∧ (A = none → cap = 0) := by
  obtain ⟨A, cap, rfl, h2, h3, h4, _⟩ := h
  exact ⟨A, cap, rfl, h2, h3, h4⟩
theorem nums_cut {w : World} {A : Option Addr} {len cap : Nat} {l : List Int} (m : Nat) (hm : m ≤ l.length) (h : IsNums .u8 w (.slice A len cap) l) : IsNums .u8 w (.slice A m cap) (l.take m) := by
  obtain ⟨A', cap', e, h2, h3, h4, h5, h6⟩ := h
  simp only [Value.slice.injEq] at e
  obtain ⟨rfl, rfl, rfl⟩ := e
  have e1 : (l.take m).length = m := by simp; omega
  refine ⟨A, cap, by rw [e1], by omega, h3, h4, fun x hx => h5 x (List.mem_of_mem_take hx), fun hp => ?_⟩
  rw [e1] at hp
  obtain ⟨b, off, rfl, hb, hc⟩ := h6 (by omega)
  refine ⟨b, off, rfl, hb, fun i hi => ?_⟩
  rw [e1] at hi
  rw [hc i (by omega)]
  simp [List.getD, hi]
theorem nums_drop {w : World} {b off len cap n : Nat} {l : List Int} (h : IsNums .u8 w (.slice (some ⟨b, off, none⟩) len cap) l) (hn : n < l.length) : IsNums .u8 w (.slice (some ⟨b, off + n, none⟩) (len - n) (cap - n)) (l.drop n) := by
  obtain ⟨A', cap', e, h2, h3, h4, h5, h6⟩ := h
  simp only [Value.slice.injEq] at e
  obtain ⟨rfl, rfl, rfl⟩ := e
  refine ⟨_, cap - n, by rw [List.length_drop], by rw [List.length_drop]; omega, by omega, (fun h => by cases h), fun x hx => h5 x (List.mem_of_mem_drop hx), fun hp => ?_⟩
  obtain ⟨b', off', e, hb, hc⟩ := h6 (by omega)
  simp only [Option.some.injEq, Addr.mk.injEq, and_true] at e
  obtain ⟨rfl, rfl⟩ := e
  refine ⟨b, off + n, rfl, hb, fun i hi => ?_⟩
  rw [List.length_drop] at hi
  rw [Nat.add_assoc, hc (n + i) (by omega)]
  simp [List.getD]
theorem nums_new' (w : World) (l : List Int) (hp : 0 < l.length) (hb : bytesP l) (hm : l.length ≤ maxLen) : IsNums .u8 (w.alloc (.cells ⟨l.map (Value.int .u8)⟩ 5)) (.slice (some ⟨w.heap.size, 0, none⟩) l.length l.length) l := nums_new .u8 w 5 l hp hm (wf_u8_of hb)
/-- append of a row of bytes to one that the call owns. -/
theorem wpList_append_b {ops : Array Oper} {Q : Exit → Act → World → Prop} {rest : List Oper} {o : Oper} {a : Act} {w : World} (hgd : o.guard = none) (s x : Operand) (ho : o.op = .call { callee := .builtin .append, args := #[s, x], argTypes := #[25, 25] })
    (base : Nat) (v : Value) (xs : List Int) (hs : a.eval s = v) (hown : OwnR w base v xs) (ys : List Int) (A : Option Addr) (n cap : Nat) (hx : a.eval x = .slice A n cap) (hy : IsNums .u8 w (.slice A n cap) ys) (hm : xs.length + ys.length ≤ 1000000) (hbase : base ≤ w.heap.size)
    (h : ∀ v' w', OwnR w' base v' (xs ++ ys) → w.grownBy w' v.ownBlock → wpList Try.prog ops Q rest (a.put o.dst v') w') : wpList Try.prog ops Q (o :: rest) a w := by
  obtain ⟨i, hi, hz, hsz, hb⟩ := info_parts info8
  obtain ⟨A', cap', e, h2, h3, h4, h5, h6⟩ := hy
  simp only [Value.slice.injEq] at e
  obtain ⟨rfl, rfl, rfl⟩ := e
  by_cases hp : 0 < ys.length
  · obtain ⟨b, off, rfl, hbl, hc⟩ := h6 hp
    refine wpList_append_own _ hgd s x 25 ho base 5 i _ 1 1 Try.underlying25 hi hz hsz hb rfl (by decide) v xs.length (xs.map (Value.int .u8)) hs hown ⟨b, off, none⟩ ys.length cap (ys.map (Value.int .u8)) hx (by simp) (fun j u hu => ?_) (by intro u hu; simp only [List.mem_map] at hu; obtain ⟨z, _, rfl⟩ := hu; rfl) (by unfold maxLen; omega) (by omega) hbase ?_
    · rw [add_plain]
      have hj : j < ys.length := by
        by_cases q : j < ys.length
        · exact q
        · rw [List.getElem?_eq_none (by simpa using q)] at hu; cases hu
      rw [hc j hj]
      rw [← hu]
      simp [List.getD, hj]
    · intro v' w' ow g _
      exact h v' w' (by unfold OwnR; simpa using ow) g
  · have e0 : ys = [] := List.eq_nil_of_length_eq_zero (by omega)
    subst e0
    simp only [List.length_nil] at hx h4
    cases A with
    | none =>
      obtain rfl := h4 rfl
      have hr := run_append_owned_none (P := Try.prog) w base 25 o.type 5 i 1 Try.underlying25 hi v xs.length (xs.map (Value.int .u8)) hown
      refine wpList_plain hgd fun K hK => ?_
      unfold Oper.wp execOp
      simp only [ho, resolve, invoke, builtin, Sem.run_bind, Sem.run_pure, Result.andThen_ok, List.map_toArray, List.map_cons, List.map_nil, hs, hx, hr]
      exact hK _ _ (h v w (by simpa using hown) (World.grownBy.refl _ _))
    | some ad =>
      refine wpList_append_own _ hgd s x 25 ho base 5 i _ 1 1 Try.underlying25 hi hz hsz hb rfl (by decide) v xs.length (xs.map (Value.int .u8)) hs hown ad 0 cap [] hx rfl (fun j u hu => by simp at hu) (by simp) (by unfold maxLen; omega) (by omega) hbase ?_
      intro v' w' ow g _
      exact h v' w' (by unfold OwnR; simpa using ow) g
theorem str_eq {xs ys : List Int} (hx : bytesP xs) (hy : bytesP ys) : ((strOfNums xs).toList == (strOfNums ys).toList) = decide (xs = ys) := by
  by_cases h : xs = ys
  · rw [h]; simp
  · have : (strOfNums xs).toList ≠ (strOfNums ys).toList := fun e => h (str_inj hx hy (ByteArray.ext (by
      have := congrArg List.toArray e
      simpa [ByteArray.toList_eq] using this)))
    rw [decide_eq_false h]
    simpa using this
/-- The table of how many bytes commands have. -/
def wideT : List Value := [.int .i64 0, .int .i64 9, .int .i64 9, .int .i64 14, .int .i64 3, .int .i64 2, .int .i64 2, .int .i64 1]
theorem wide_at {k : Int} (h : kindP k) : ∃ n : Nat, k = n ∧ n ≤ 7 ∧ wideT[n]? = some (.int .i64 ((1 + restW k : Nat) : Int)) ∧ bits .and .i64 k 7 = k := by
  unfold kindP at h
  rcases (show k = 1 ∨ k = 2 ∨ k = 3 ∨ k = 4 ∨ k = 5 ∨ k = 6 ∨ k = 7 by omega) with rfl | rfl | rfl | rfl | rfl | rfl | rfl
  · exact ⟨1, rfl, by decide, rfl, by decide⟩
  · exact ⟨2, rfl, by decide, rfl, by decide⟩
  · exact ⟨3, rfl, by decide, rfl, by decide⟩
  · exact ⟨4, rfl, by decide, rfl, by decide⟩
  · exact ⟨5, rfl, by decide, rfl, by decide⟩
  · exact ⟨6, rfl, by decide, rfl, by decide⟩
  · exact ⟨7, rfl, by decide, rfl, by decide⟩
end Go.Proofs.Ytlnlodbjkicgoaa
