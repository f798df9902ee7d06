/- IsaFields holds: a command of a kind may be just where each of its fields is within its bounds and no other field is told; the arguments are any ints and any array of four ints. -/
import Derived.Test.YtlnlodbjkicgoaaJf
import Derived.Test.YtlnlodbjkicgoaaRows
import Derived.WalkKit
import Derived.ProofKit
import Derived.OpenShut
namespace Go.Proofs.Ytlnlodbjkicgoaa.isaFields
open Go.ChangeShapes Go.WideShapes Go.ChangeAt Go.RowKit Go.Proofs.Ytlnlodbjkicgoaa
set_option linter.unusedVariables false

theorem own : ownKnob Try.prog.godebug = none := by kernel_rfl
theorem cells3 : Try.prog.cellsOf 3 = 1 := by kernel_rfl
theorem cells40 : Try.prog.cellsOf 40 = 4 := by kernel_rfl
theorem list4 {α : Type} (l : List α) (h : (⟨l⟩ : Array α).size = 4) : ∃ a b c d, l = [a, b, c, d] := by
  match l, h with
  | [a, b, c, d], _ => exact ⟨a, b, c, d, rfl⟩

set_option maxHeartbeats 400000 in
set_option maxRecDepth 100000 in
theorem lifted (os : Os) (started : os.Started) (H : Type) (enc : TypeId × Value → H) :
    ReturnsInHanded {} Try.checked os 6 .any (Rows.isaFieldsSpec.pre6 enc Try.prog Try.f6 Rows.isaFieldsRow.domain false) (Rows.isaFieldsSpec.post enc Try.prog Try.f6 false true false false) := by
  refine returnsInHanded_of_change (C := Try.checked) own started (by kernel_rfl) Try.func6
    (ChangeSpec.witness6 (enc := enc) (C := Try.checked) false ⟨#[], #[.int .i64 0, .int .i64 0, .agg #[.int .i64 0, .int .i64 0, .int .i64 0, .int .i64 0]], []⟩ 8 (by kernel_rfl) (by kernel_rfl) (by kernel_rfl) (by kernel_rfl)) ?_
  intro W base args ds gs before hval0 hW hcnd _
  have hval : ∀ (j : Nat) t v, Try.f6.params[j]? = some t → args[j]? = some v → Value.okWide Try.prog W .any base t v := hval0
  have hW' := hW
  obtain ⟨p, q, hA0, hV, rfl, hfz, hnd⟩ := hW
  have hA : DataW.TrodAll enc Try.prog W 0 (fun _ => true) true Try.f6.params.toList args.toList ds p := hA0
  rw [Try.params6] at hA hval
  obtain ⟨v0, vs0, d0, ds0, p0, q0, hargs, rfl, rfl, h0, r0⟩ := trodAll_cons hA
  obtain ⟨v1, vs1, d1, ds1, p1, q1, rfl, rfl, rfl, h1, r1⟩ := trodAll_cons r0
  obtain ⟨v2, vs2, d2, ds2, p2, q2, rfl, rfl, rfl, h2, r2⟩ := trodAll_cons r1
  obtain ⟨rfl, rfl, rfl⟩ := trodAll_nil r2
  obtain rfl : args = #[v0, v1, v2] := by cases args; simp_all
  obtain ⟨rfl, rfl⟩ := trodVars_none hV
  obtain ⟨z0, rfl, rfl, rfl, w0⟩ := open_int Try.underlying3 (hval 0 3 v0 rfl rfl) h0
  obtain ⟨z1, rfl, rfl, rfl, w1⟩ := open_int Try.underlying3 (hval 1 3 v1 rfl rfl) h1
  obtain ⟨cs2, rfl, hsz2, _⟩ : ∃ cs, v2 = .agg cs ∧ cs.size = Try.prog.cellsOf 40 ∧ Row.okWide Try.prog W .any base 40 cs := by
    have := hval 2 40 v2 rfl rfl
    simpa [Value.okWide, Try.underlying40] using this
  rw [cells40] at hsz2
  obtain ⟨l2⟩ := cs2
  obtain ⟨k2, k3, k4, k5, rfl⟩ := list4 l2 hsz2
  obtain ⟨fuel2, hf2⟩ := h2
  obtain ⟨y2, y3, y4, y5, m2, hx2, hy2, hy3, hy4, hy5⟩ := trod_array4 Try.underlying40 cells3 hf2
  obtain ⟨z2, e2, rfl, x2⟩ := DataW.trod_int Try.underlying3 hy2
  obtain ⟨z3, e3, rfl, x3⟩ := DataW.trod_int Try.underlying3 hy3
  obtain ⟨z4, e4, rfl, x4⟩ := DataW.trod_int Try.underlying3 hy4
  obtain ⟨z5, e5, rfl, x5⟩ := DataW.trod_int Try.underlying3 hy5
  simp at e2 e3 e4 e5
  subst e2 e3 e4 e5
  simp only [Prod.mk.injEq] at hx2
  obtain ⟨rfl, rfl⟩ := hx2
  clear hA0 hval0
  refine (fields_walk W z0 w0 z1 w1 z2 z3 z4 z5 x2 x3 x4 x5).mono fun e W' ⟨he, hg⟩ => ?_
  subst he
  have rd2 : DataW.Trod enc Try.prog W' 0 (fun b => decide (b < W.heap.size)) true 40 (.agg #[.int .i64 z2, .int .i64 z3, .int .i64 z4, .int .i64 z5]) (DataW.agg [.lit (.int .i64 z2), .lit (.int .i64 z3), .lit (.int .i64 z4), .lit (.int .i64 z5)]) [] := ⟨2, by simp [DataW.trod, Value.cells, Try.underlying40, Try.underlying3, cells40, cells3, x2, x3, x4, x5, show List.range 4 = [0, 1, 2, 3] from rfl]⟩
  exact ⟨_, rfl, _, _, _, [], ([] ++ ([] ++ ([] ++ []))), [], hW', (trodAll_cons_mk (shut_bool Try.underlying4 _) trodAll_mk0), (trodAll_cons_mk (shut_int Try.underlying3 w0) (trodAll_cons_mk (shut_int Try.underlying3 w1) (trodAll_cons_mk rd2 trodAll_mk0))), rfl, hg.frame _, fun h => by cases h⟩

theorem over : Rows.isaFieldsRow.holds Try.pinned (OpenSpec.ofChange Rows.isaFieldsSpec) :=
  OpenClaim.holds_of_wide 6 Try.f6 rfl rfl rfl rfl rfl rfl rfl ⟨rfl, rfl, rfl, rfl, rfl⟩ rfl rfl rfl rfl rfl (by kernel_rfl) Try.func6 (by kernel_rfl)
    (of_decide_eq_true (by kernel_rfl)) (by unfold Func.isWrapper; first | (rw [if_pos (by decide +kernel)]; kernel_rfl) | (rw [if_neg (by decide +kernel)]; exact ⟨rfl, rfl⟩))
    (fun os started H enc _ => lifted os started H enc)

/-- THE STATEMENT -/
theorem proved : Rows.IsaFieldsSaid :=
  over
#print axioms proved
end Go.Proofs.Ytlnlodbjkicgoaa.isaFields
