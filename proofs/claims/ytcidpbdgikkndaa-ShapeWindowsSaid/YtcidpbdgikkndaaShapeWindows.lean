/- Whatever two numbers and whatever four: ShapeWindows returns true, and changes nothing that it was handed.
   Conditions: none beyond the row's own cells. -/
import Derived.Test.YtcidpbdgikkndaaRows
import Derived.Test.YtcidpbdgikkndaaBox
import Derived.WalkKit
import Derived.ProofKit
import Derived.OpenShut
import Derived.Laws.IdiomArrays
import Derived.Deep.RegionHeld3
namespace Go.Proofs.Ytcidpbdgikkndaa.shapeWindows
open Go.ChangeShapes Go.WideShapes Go.ChangeAt Go.RowKit
set_option linter.unusedVariables false

/-- The box of a law over four numbers: what lies in it. -/
def Kept4 (b : Nat) (z0 z1 z2 z3 : Value) (w0 w' : World) : Prop :=
  w'.cell? ⟨b, 0, none⟩ = some z0 ∧ w'.cell? ⟨b, 1, none⟩ = some z1 ∧ w'.cell? ⟨b, 2, none⟩ = some z2 ∧ w'.cell? ⟨b, 3, none⟩ = some z3 ∧ Grown w0 w' ∧ b < w'.heap.size

theorem kept4_step {b : Nat} {z0 z1 z2 z3 : Value} {w0 w1 w2 : World} (h : Kept4 b z0 z1 z2 z3 w0 w1) (g : Grown w1 w2) : Kept4 b z0 z1 z2 z3 w0 w2 := by
  obtain ⟨h0, h1, h2, h3, h6, l⟩ := h
  exact ⟨(grown_cell g l).trans h0, (grown_cell g l).trans h1, (grown_cell g l).trans h2, (grown_cell g l).trans h3, grown_trans h6 g, by have := g.2.2; omega⟩

set_option maxHeartbeats 4000000 in
theorem walk (first rows k stride pad size : Int) (w0 : (Lit.int .i64 first).wf = true) (w1 : (Lit.int .i64 rows).wf = true) (w : World) :
    Calls Try.prog 4 #[.int .i64 first, .int .i64 rows, .agg #[.int .i64 k, .int .i64 stride, .int .i64 pad, .int .i64 size]] w fun e w' => e = .returned (.bool true) ∧ Grown w w' := by
  obtain ⟨x1, x2⟩ := wf_bd w0
  have F : Kept4 w.heap.size (.int .i64 k) (.int .i64 stride) (.int .i64 pad) (.int .i64 size) w (w.alloc (.cells #[.int .i64 k, .int .i64 stride, .int .i64 pad, .int .i64 size] 31)) := ⟨by go_cell, by go_cell, by go_cell, by go_cell, by go_grown, by simp⟩
  obtain ⟨a, ha⟩ : ∃ v, Hid (v = (reachI first rows k stride pad size).1) := ⟨_, Lib.hid rfl⟩
  obtain ⟨b, hb⟩ : ∃ v, Hid (v = (reachI first rows k stride pad size).2) := ⟨_, Lib.hid rfl⟩
  obtain ⟨q, hq⟩ : ∃ v, Hid (v = outI size k stride pad) := ⟨_, Lib.hid rfl⟩
  go_enter Try.func4, Try.ntmps4
  go_wp2_with fail
  refine (shown_any _).mono ?_; rintro e w1 ⟨rfl, g1⟩
  have k1 := kept4_step F g1
  clear F g1
  unfold Kept4 at k1
  go_wp2_with fail
  refine (reach_any _ _ _ _ _ _ a b _ x1 x2 ha hb).mono ?_; rintro e w2 ⟨rfl, g2⟩
  have k2 := kept4_step k1 g2
  clear k1 g2
  unfold Kept4 at k2
  go_wp2_with fail
  refine (rreach_any _ _ _ _ _ _ a b _ x1 x2 ha hb).mono ?_; rintro e w3 ⟨rfl, g3⟩
  have k3 := kept4_step k2 g3
  clear k2 g3
  unfold Kept4 at k3
  go_wp2_with fail
  go_region_held3 (fun w' => w'.cell? ⟨w.heap.size, 0, none⟩ = some (.int .i64 k) ∧ w'.cell? ⟨w.heap.size, 1, none⟩ = some (.int .i64 stride) ∧ w'.cell? ⟨w.heap.size, 2, none⟩ = some (.int .i64 pad) ∧ w'.cell? ⟨w.heap.size, 3, none⟩ = some (.int .i64 size) ∧ Grown w w' ∧ w.heap.size < w'.heap.size)
    (first | assumption | exact kept4_step (by assumption) (by assumption) | exact kept4_step (by assumption) (Grown.refl _).drew)
    (first | (go_at_call 22; refine (out_any size k stride pad q _ hq).mono ?_; rintro e w' ⟨rfl, g⟩) | (go_at_call 23; refine (rout_any size k stride pad q _ hq).mono ?_; rintro e w' ⟨rfl, g⟩))
  all_goals
    go_wp2_with fail
    go_ret
    rename_i hk
    exact ⟨rfl, hk.2.2.2.2.1⟩

theorem own : ownKnob Try.prog.godebug = none := by kernel_rfl
theorem cells3 : Try.prog.cellsOf 3 = 1 := by kernel_rfl
theorem cells31 : Try.prog.cellsOf 31 = 4 := by kernel_rfl
theorem list4 {α : Type} (l : List α) (h : (⟨l⟩ : Array α).size = 4) : ∃ a b c d, l = [a, b, c, d] := by
  match l, h with
  | [a, b, c, d], _ => exact ⟨a, b, c, d, rfl⟩

set_option maxHeartbeats 400000 in
set_option maxRecDepth 100000 in
theorem lifted (os : Os) (started : os.Started) (H : Type) (enc : TypeId × Value → H) :
    ReturnsInHanded {} Try.checked os 4 .any (Rows.shapeWindowsSpec.pre6 enc Try.prog Try.f4 Rows.shapeWindowsRow.domain false) (Rows.shapeWindowsSpec.post enc Try.prog Try.f4 false true false false) := by
  refine returnsInHanded_of_change (C := Try.checked) own started (by kernel_rfl) Try.func4
    (ChangeSpec.witness6 (enc := enc) (C := Try.checked) false ⟨#[], #[.int .i64 0, .int .i64 0, .agg #[.int .i64 0, .int .i64 0, .int .i64 0, .int .i64 0]], []⟩ 8 (by kernel_rfl) (by kernel_rfl) (by kernel_rfl) (by kernel_rfl)) ?_
  intro W base args ds gs before hval0 hW hcnd _
  have hval : ∀ (j : Nat) t v, Try.f4.params[j]? = some t → args[j]? = some v → Value.okWide Try.prog W .any base t v := hval0
  have hW' := hW
  obtain ⟨p, q, hA0, hV, rfl, hfz, hnd⟩ := hW
  have hA : DataW.TrodAll enc Try.prog W 0 (fun _ => true) true Try.f4.params.toList args.toList ds p := hA0
  rw [Try.params4] at hA hval
  obtain ⟨v0, vs0, d0, ds0, p0, q0, hargs, rfl, rfl, h0, r0⟩ := trodAll_cons hA
  obtain ⟨v1, vs1, d1, ds1, p1, q1, rfl, rfl, rfl, h1, r1⟩ := trodAll_cons r0
  obtain ⟨v2, vs2, d2, ds2, p2, q2, rfl, rfl, rfl, h2, r2⟩ := trodAll_cons r1
  obtain ⟨rfl, rfl, rfl⟩ := trodAll_nil r2
  obtain rfl : args = #[v0, v1, v2] := by cases args; simp_all
  obtain ⟨rfl, rfl⟩ := trodVars_none hV
  obtain ⟨z0, rfl, rfl, rfl, w0⟩ := open_int Try.underlying3 (hval 0 3 v0 rfl rfl) h0
  obtain ⟨z1, rfl, rfl, rfl, w1⟩ := open_int Try.underlying3 (hval 1 3 v1 rfl rfl) h1
  obtain ⟨cs2, rfl, hsz2, _⟩ : ∃ cs, v2 = .agg cs ∧ cs.size = Try.prog.cellsOf 31 ∧ Row.okWide Try.prog W .any base 31 cs := by
    have := hval 2 31 v2 rfl rfl
    simpa [Value.okWide, Try.underlying31] using this
  rw [cells31] at hsz2
  obtain ⟨l2⟩ := cs2
  obtain ⟨k2, k3, k4, k5, rfl⟩ := list4 l2 hsz2
  obtain ⟨fuel2, hf2⟩ := h2
  obtain ⟨y2, y3, y4, y5, m2, hx2, hy2, hy3, hy4, hy5⟩ := trod_array4 Try.underlying31 cells3 hf2
  obtain ⟨z2, e2, rfl, x2⟩ := DataW.trod_int Try.underlying3 hy2
  obtain ⟨z3, e3, rfl, x3⟩ := DataW.trod_int Try.underlying3 hy3
  obtain ⟨z4, e4, rfl, x4⟩ := DataW.trod_int Try.underlying3 hy4
  obtain ⟨z5, e5, rfl, x5⟩ := DataW.trod_int Try.underlying3 hy5
  simp at e2 e3 e4 e5
  subst e2 e3 e4 e5
  simp only [Prod.mk.injEq] at hx2
  obtain ⟨rfl, rfl⟩ := hx2
  clear hA0 hval0
  simp only [List.append_nil] at hW'
  refine (walk z0 z1 z2 z3 z4 z5 w0 w1 W).mono fun e W' ⟨he, hg⟩ => ?_
  subst he
  have rd2 : ∀ sp : Nat → Bool, DataW.Trod enc Try.prog W' 0 sp true 31 (.agg #[.int .i64 z2, .int .i64 z3, .int .i64 z4, .int .i64 z5]) (DataW.agg [.lit (.int .i64 z2), .lit (.int .i64 z3), .lit (.int .i64 z4), .lit (.int .i64 z5)]) [] := fun sp => ⟨2, by simp [DataW.trod, Value.cells, Try.underlying31, Try.underlying3, cells31, cells3, x2, x3, x4, x5, show List.range 4 = [0, 1, 2, 3] from rfl]⟩
  exact ⟨_, rfl, post_of_same (pa := []) (pv := []) hW' (fun _ _ _ => (trodAll_cons_mk (shut_bool Try.underlying4 _) trodAll_mk0)) (fun sp _ => (trodAll_cons_mk (shut_int Try.underlying3 w0) (trodAll_cons_mk (shut_int Try.underlying3 w1) (trodAll_cons_mk (rd2 sp) trodAll_mk0)))) (fun _ _ => rfl) rfl
    (hg.frame _) hg.2.1 (ok_one (by kernel_rfl) rfl (okWide_bool_mk Try.underlying4 _))⟩

theorem over : Rows.shapeWindowsRow.holds Try.pinned (OpenSpec.ofChange Rows.shapeWindowsSpec) :=
  OpenClaim.holds_of_wide 4 Try.f4 rfl rfl rfl rfl rfl rfl rfl ⟨rfl, rfl, rfl, rfl, rfl⟩ rfl rfl rfl rfl rfl (by kernel_rfl) Try.func4 (by kernel_rfl)
    (of_decide_eq_true (by kernel_rfl)) (by unfold Func.isWrapper; first | (rw [if_pos (by decide +kernel)]; kernel_rfl) | (rw [if_neg (by decide +kernel)]; exact ⟨rfl, rfl⟩))
    (fun os started H enc _ => lifted os started H enc)

/-- THE STATEMENT -/
theorem proved : Rows.ShapeWindowsSaid :=
  over
#print axioms proved
end Go.Proofs.Ytcidpbdgikkndaa.shapeWindows
