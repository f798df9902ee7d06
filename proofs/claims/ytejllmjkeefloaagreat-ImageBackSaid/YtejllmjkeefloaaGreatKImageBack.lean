/- ImageBack: an image that was laid down is taken as it was; with up to four bytes side by side turned, or with a byte more, it is none; its commands are those of its streams; for all inputs. -/
import Derived.Test.YtejllmjkeefloaaGreatRows
import Derived.WalkKit
import Derived.ProofKit
import Derived.OpenShut
import Derived.Test.YtejllmjkeefloaaGreatKD1
namespace Go.Proofs.YtejllmjkeefloaaGreat.imageBack
open Go.ChangeShapes Go.WideShapes Go.ChangeAt Go.RowKit Go.Proofs.YtejllmjkeefloaaGreat
set_option linter.unusedVariables false

theorem own : ownKnob Tryz.prog.godebug = none := by kernel_rfl
theorem cells5 : Tryz.prog.cellsOf 5 = 1 := by kernel_rfl
theorem cells38 : Tryz.prog.cellsOf 38 = 4 := by kernel_rfl
theorem list4 {α : Type} (l : List α) (h : (⟨l⟩ : Array α).size = 4) : ∃ a b c d, l = [a, b, c, d] := by
  match l, h with
  | [a, b, c, d], _ => exact ⟨a, b, c, d, rfl⟩
set_option maxHeartbeats 400000 in
set_option maxRecDepth 100000 in
theorem lifted (os : Os) (started : os.Started) (H : Type) (enc : TypeId × Value → H) :
    ReturnsInHanded {} Tryz.checked os 4 .any (Rows.imageBackSpec.pre6 enc Tryz.prog Tryz.f4 Rows.imageBackRow.domain false) (Rows.imageBackSpec.post enc Tryz.prog Tryz.f4 false true false false) := by
  refine returnsInHanded_of_change (C := Tryz.checked) own started (by kernel_rfl) Tryz.func4
    (ChangeSpec.witness6 (enc := enc) (C := Tryz.checked) false ⟨#[], #[.agg #[.slice none 0 0, .slice none 0 0, .slice none 0 0, .slice none 0 0, .slice none 0 0, .slice none 0 0, .slice none 0 0], .int .i64 0, .agg #[.int .u8 0, .int .u8 0, .int .u8 0, .int .u8 0]], []⟩ 8 (by kernel_rfl) (by kernel_rfl) (by kernel_rfl) (by kernel_rfl)) ?_
  intro W base args ds gs before hval0 hW hcnd _
  have hval : ∀ (j : Nat) t v, Tryz.f4.params[j]? = some t → args[j]? = some v → Value.okWide Tryz.prog W .any base t v := hval0
  have hW' := hW
  obtain ⟨p, q, hA0, hV, rfl, hfz, hnd⟩ := hW
  have hA : DataW.TrodAll enc Tryz.prog W 0 (fun _ => true) true Tryz.f4.params.toList args.toList ds p := hA0
  rw [Tryz.params4] at hA hval
  obtain ⟨v0, vs0, d0, ds0, p0, q0, hargs, rfl, rfl, h0, r0⟩ := trodAll_cons hA
  obtain ⟨v1, vs1, d1, ds1, p1, q1, rfl, rfl, rfl, h1, r1⟩ := trodAll_cons r0
  obtain ⟨v2, vs2, d2, ds2, p2, q2, rfl, rfl, rfl, h2, r2⟩ := trodAll_cons r1
  obtain ⟨rfl, rfl, rfl⟩ := trodAll_nil r2
  obtain rfl : args = #[v0, v1, v2] := by cases args; simp_all
  obtain ⟨rfl, rfl⟩ := trodVars_none hV
  obtain ⟨g0, hg0⟩ := open_image (hval 0 32 v0 rfl rfl) h0
  obtain ⟨z0, rfl, rfl, rfl, w1⟩ := open_int Tryz.underlying3 (hval 1 3 v1 rfl rfl) h1
  obtain ⟨cs2, rfl, hsz2, _⟩ : ∃ cs, v2 = .agg cs ∧ cs.size = Tryz.prog.cellsOf 38 ∧ Row.okWide Tryz.prog W .any base 38 cs := by
    have := hval 2 38 v2 rfl rfl
    simpa [Value.okWide, Tryz.underlying38] using this
  rw [cells38] at hsz2
  obtain ⟨l2⟩ := cs2
  obtain ⟨k1, k2, k3, k4, rfl⟩ := list4 l2 hsz2
  obtain ⟨fuel2, hf2⟩ := h2
  obtain ⟨y1, y2, y3, y4, m2, hx2, hy1, hy2, hy3, hy4⟩ := trod_array4 Tryz.underlying38 cells5 hf2
  obtain ⟨z1, e1, rfl, x1⟩ := DataW.trod_int Tryz.underlying5 hy1
  obtain ⟨z2, e2, rfl, x2⟩ := DataW.trod_int Tryz.underlying5 hy2
  obtain ⟨z3, e3, rfl, x3⟩ := DataW.trod_int Tryz.underlying5 hy3
  obtain ⟨z4, e4, rfl, x4⟩ := DataW.trod_int Tryz.underlying5 hy4
  simp at e1 e2 e3 e4
  subst e1 e2 e3 e4
  simp only [Prod.mk.injEq] at hx2
  obtain ⟨rfl, rfl⟩ := hx2
  clear hA0 hval0
  refine (back9_walk W v0 g0 hg0 z0 w1 z1 z2 z3 z4 x1 x2 x3 x4).mono fun e W' ⟨he, hg⟩ => ?_
  subst he
  have rd2 : DataW.Trod enc Tryz.prog W' 0 (fun b => decide (b < W.heap.size)) true 38 (.agg #[.int .u8 z1, .int .u8 z2, .int .u8 z3, .int .u8 z4]) (DataW.agg [.lit (.int .u8 z1), .lit (.int .u8 z2), .lit (.int .u8 z3), .lit (.int .u8 z4)]) [] := ⟨2, by simp [DataW.trod, Value.cells, Tryz.underlying38, Tryz.underlying5, cells38, cells5, x1, x2, x3, x4, show List.range 4 = [0, 1, 2, 3] from rfl]⟩
  exact ⟨_, rfl, _, _, _, [], (p0 ++ ([] ++ ([] ++ []))), [], hW', (trodAll_cons_mk (shut_bool Tryz.underlying4 _) trodAll_mk0), (trodAll_cons_mk (stays (by kernel_rfl) (of_decide_eq_true (by kernel_rfl)) h0 hg (fun x hx => by simpa using hW'.lt x (List.mem_append_left _ (List.mem_append_left _ hx))) (fun x hx => by simpa using hW'.lt x (List.mem_append_left _ (List.mem_append_left _ hx)))) (trodAll_cons_mk (shut_int Tryz.underlying3 w1) (trodAll_cons_mk rd2 trodAll_mk0))), rfl, hg.frame _, fun h => by cases h⟩
theorem over : Rows.imageBackRow.holds Tryz.pinned (OpenSpec.ofChange Rows.imageBackSpec) :=
  OpenClaim.holds_of_wide 4 Tryz.f4 rfl rfl rfl rfl rfl rfl rfl ⟨rfl, rfl, rfl, rfl, rfl⟩ rfl rfl rfl rfl rfl (by kernel_rfl) Tryz.func4 (by kernel_rfl)
    (of_decide_eq_true (by kernel_rfl)) (by unfold Func.isWrapper; first | (rw [if_pos (by decide +kernel)]; kernel_rfl) | (rw [if_neg (by decide +kernel)]; exact ⟨rfl, rfl⟩))
    (fun os started H enc _ => lifted os started H enc)
/-- THE STATEMENT -/
theorem proved : Rows.ImageBackSaid :=
  over
#print axioms proved
end Go.Proofs.YtejllmjkeefloaaGreat.imageBack
