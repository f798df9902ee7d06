/- quiltlaw05: some; node's slices; two numbers as an argument. Two pairs of numbers compared; two numbers as an argument is read. -/
import Derived.Test.YtbkigldffcgodaaMKW
import Derived.Test.YtbkigldffcgodaaMRead
import Derived.Test.YtbkigldffcgodaaMFewD
namespace Go.Proofs.Ytbkigldffcgodaa
open Go.ChangeShapes Go.WideShapes Go.ChangeAt Go.RowKit
set_option maxRecDepth 20000
set_option linter.unusedVariables false

theorem node_slices {w : World} {v : Value} {n : NodeD} (h : IsNode w v n) : ∃ vi vw vb : Value, v = .agg #[.int .i64 n.op, vi, .int .i64 n.k, .int .i64 n.stride, .int .i64 n.pad, .int .i64 n.out, .int .i64 n.mul, .int .i64 n.shift, .int .i64 n.zero, .int .i64 n.th, .int .i64 n.tw, .int .i64 n.tc, vw, vb] ∧ NodeIn w n vi vw vb := by
  obtain ⟨vi, vw, vb, rfl, h, _⟩ := h
  exact ⟨vi, vw, vb, rfl, h⟩

theorem vals_few {w : World} {A : Option Addr} {cap : Nat} {xs : List ValD} (m : Nat) (h : IsVals w (.slice A xs.length cap) xs) (hm : m < xs.length) : IsVals w (.slice A m cap) (xs.take m) := by
  obtain ⟨A', cap', e, h2, h3, h4, h5, h6⟩ := h
  simp only [Value.slice.injEq] at e
  obtain ⟨rfl, _, rfl⟩ := e
  have hl : (xs.take m).length = m := by simp; omega
  refine ⟨A, cap, by rw [hl], by omega, h3, h4, fun x hx => h5 x (List.mem_of_mem_take hx), fun hp => ?_⟩
  obtain ⟨b, off, rfl, hb, hc⟩ := h6 (by omega)
  refine ⟨b, off, rfl, hb, fun i hi => ?_⟩
  have e : (xs.take m).getD i default = xs.getD i default := by simp [List.getD, show i < m by omega]
  rw [e]
  exact hc i (by omega)

/-- The first three of the values; the slice is known ahead. -/
theorem some_det (lv : Value) (l : List ValD) (W : World) (hl : IsVals W lv l) :
    ∃ lv', IsVals W lv' (l.take 3) ∧ ∀ w, Calls Try.prog 15 #[lv] w fun e w' => e = .returned lv' ∧ Grown w w' := by
  have h := hl
  obtain ⟨A, cap, rfl, h2, h3, h4, h5, h6⟩ := hl
  have k1 : l.length ≤ 9223372036854775807 := by unfold maxLen at h3; omega
  by_cases c : 3 < l.length
  · refine ⟨.slice A 3 cap, vals_few 3 h c, fun w => ?_⟩
    obtain ⟨b, off, rfl, hb, hc⟩ := h6 (by omega)
    have d1 : decide ((3 : Int) < (l.length : Int)) = true := by simp; omega
    have h7 : 3 ≤ cap := by omega
    have h8 : (3 : Int) ≤ (cap : Int) := by omega
    clear h hc h5
    go_enter Try.func15, Try.ntmps15
    go_wp2_with fail
    go_ret
    exact ⟨rfl, Grown.refl _⟩
  · refine ⟨.slice A l.length cap, by rw [List.take_of_length_le (by omega)]; exact h, fun w => ?_⟩
    have d1 : decide ((3 : Int) < (l.length : Int)) = false := by simp; omega
    clear h h6 h5
    go_enter Try.func15, Try.ntmps15
    go_wp2_with fail
    go_ret
    exact ⟨rfl, Grown.refl _⟩
end Go.Proofs.Ytbkigldffcgodaa
namespace Go.Proofs.Ytbkigldffcgodaa
open Go.ChangeShapes Go.WideShapes Go.ChangeAt Go.RowKit
set_option linter.unusedVariables false
set_option maxRecDepth 20000

set_option maxHeartbeats 4000000 in
theorem eq2 (a b : Int) (w : World) : (Op.equalIn 9999 30 (.agg #[.int .i64 a, .int .i64 b]) (.agg #[.int .i64 a, .int .i64 b])).run Try.prog w = .ok true w := by
  have ku := Try.underlying3
  have ka := Try.isAgg3
  have kz := Try.sizeOf3
  rw [show (9999 : Nat) = 9998 + 1 from rfl, Op.equalIn]
  simp only [Sem.run_bind, run_underlying Try.underlying30, Result.andThen_ok]
  simp only [Std.Legacy.Range.forIn_eq_forIn_range', Std.Legacy.Range.size, Nat.sub_zero, Nat.add_sub_cancel, Nat.div_one, List.range'_succ, List.range'_zero, List.forIn_cons, List.forIn_nil]
  go_simp
set_option maxHeartbeats 4000000 in
theorem eq22 (a b c d : Int) (w : World) : (Op.equalIn 10000 32 (.agg #[.int .i64 a, .int .i64 b, .int .i64 c, .int .i64 d]) (.agg #[.int .i64 a, .int .i64 b, .int .i64 c, .int .i64 d])).run Try.prog w = .ok true w := by
  have ku := Try.underlying30
  have ka := Try.isAgg30
  have kz := Try.sizeOf30
  have e1 := eq2 a b w
  have e2 := eq2 c d w
  rw [show (10000 : Nat) = 9999 + 1 from rfl, Op.equalIn]
  simp only [Sem.run_bind, run_underlying Try.underlying32, Result.andThen_ok]
  simp only [Std.Legacy.Range.forIn_eq_forIn_range', Std.Legacy.Range.size, Nat.sub_zero, Nat.add_sub_cancel, Nat.div_one, List.range'_succ, List.range'_zero, List.forIn_cons, List.forIn_nil]
  go_simp

variable {H : Type} {enc : TypeId × Value → H} {W : World}
theorem cellsInt1 : Try.prog.cellsOf 3 = 1 := by kernel_rfl
theorem cellsInts2 : Try.prog.cellsOf 30 = 2 := by kernel_rfl
theorem ints2_read {fuel : Nat} {a b : Value} {x : DataW H × List MemPlace} (h : DataW.trod enc Try.prog W 0 (fun _ => true) true fuel 30 [a, b] = some x) :
    ∃ m y z, DataW.trod enc Try.prog W 0 (fun _ => true) true m 3 [a] = some y ∧ DataW.trod enc Try.prog W 0 (fun _ => true) true m 3 [b] = some z := by
  match fuel, h with
  | 0, h => simp [DataW.trod] at h
  | m + 1, h =>
    unfold DataW.trod at h
    rw [Try.underlying30] at h
    simp [show List.range 2 = [0, 1] from rfl, cellsInt1] at h
    have h := h.2
    rcases e0 : DataW.trod enc Try.prog W 0 (fun _ => true) true m 3 [a] with _ | y
    · rw [e0] at h; simp at h
    · rcases e1 : DataW.trod enc Try.prog W 0 (fun _ => true) true m 3 [b] with _ | z
      · rw [e0, e1] at h; simp at h
      · exact ⟨m, y, z, e0, e1⟩
theorem two_values {l : List Value} (h : (⟨l⟩ : Array Value).size = 2) : ∃ a b, l = [a, b] := by
  match l, h with
  | [a, b], _ => exact ⟨a, b, rfl⟩
theorem open_ints2 {r : Reach} {b0 : Nat} {v : Value} {d : DataW H} {p : List MemPlace} (hv : Value.okWide Try.prog W r b0 30 v) (h : DataW.Trod enc Try.prog W 0 (fun _ => true) true 30 v d p) : ∃ x : Int × Int, v = .agg #[.int .i64 x.1, .int .i64 x.2] ∧ (Lit.int .i64 x.1).wf = true ∧ (Lit.int .i64 x.2).wf = true := by
  obtain ⟨cs, rfl, hsz, _⟩ : ∃ cs, v = .agg cs ∧ cs.size = Try.prog.cellsOf 30 ∧ Row.okWide Try.prog W r b0 30 cs := by simpa [Value.okWide, Try.underlying30] using hv
  rw [cellsInts2] at hsz
  obtain ⟨l⟩ := cs
  obtain ⟨a, b, rfl⟩ := two_values hsz
  obtain ⟨fuel, hf⟩ := h
  obtain ⟨m, y, z, h1, h2⟩ := ints2_read hf
  obtain ⟨n1, e1, _, w1⟩ := DataW.trod_int Try.underlying3 h1
  obtain ⟨n2, e2, _, w2⟩ := DataW.trod_int Try.underlying3 h2
  simp at e1 e2
  subst e1 e2
  exact ⟨(n1, n2), rfl, w1, w2⟩
end Go.Proofs.Ytbkigldffcgodaa
