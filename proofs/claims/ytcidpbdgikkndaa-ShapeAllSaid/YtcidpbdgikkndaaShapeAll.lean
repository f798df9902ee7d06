/- Whatever three sides and whatever three numbers: ShapeAll returns true, and changes nothing that it was handed.
   Conditions: none beyond the row's own cells. -/
import Derived.Test.YtcidpbdgikkndaaRows
import Derived.Test.YtcidpbdgikkndaaBox
import Derived.Test.YtcidpbdgikkndaaRefIndex
import Derived.WalkKit
import Derived.ProofKit
import Derived.OpenShut
import Derived.Lib.SmallJoins
import Derived.Laws.IdiomArrays
import Derived.Deep.RegionHeld3
namespace Go.Proofs.Ytcidpbdgikkndaa.shapeAll
open Go.ChangeShapes Go.WideShapes Go.ChangeAt Go.RowKit
set_option linter.unusedVariables false

theorem may_at (H W C v : Int) (w : World) (hv : Hid ((mayS H W C → v = 0) ∧ (¬ mayS H W C → v = 10))) :
    Calls Try.prog 12 #[.agg #[.int .i64 H, .int .i64 W, .int .i64 C]] w fun e w' => e = .returned (.int .i64 v) ∧ Grown w w' := by
  by_cases h : mayS H W C
  · rw [hv.out.1 h]; exact may_yes H W C w h
  · rw [hv.out.2 h]; exact may_no H W C w h
theorem rmay_at (H W C v : Int) (w : World) (hv : Hid ((mayS H W C → v = 0) ∧ (¬ mayS H W C → v = 10))) :
    Calls Try.prog 13 #[.agg #[.int .i64 H, .int .i64 W, .int .i64 C]] w fun e w' => e = .returned (.int .i64 v) ∧ Grown w w' := by
  by_cases h : mayS H W C
  · rw [hv.out.1 h]; exact rmay_yes H W C w h
  · rw [hv.out.2 h]; exact rmay_no H W C w h
theorem may_ex (H W C : Int) : ∃ v : Int, Hid ((mayS H W C → v = 0) ∧ (¬ mayS H W C → v = 10)) := by
  by_cases h : mayS H W C
  · exact ⟨0, Lib.hid ⟨fun _ => rfl, fun k => absurd h k⟩⟩
  · exact ⟨10, Lib.hid ⟨fun k => absurd k h, fun _ => rfl⟩⟩

set_option maxHeartbeats 4000000 in
theorem walk (H W C y x c : Int) (w : World) :
    Calls Try.prog 3 #[.agg #[.int .i64 H, .int .i64 W, .int .i64 C], .agg #[.int .i64 y, .int .i64 x, .int .i64 c]] w fun e w' => e = .returned (.bool true) ∧ Grown w w' := by
  have F : Kept w.heap.size (.int .i64 H) (.int .i64 W) (.int .i64 C) (.int .i64 y) (.int .i64 x) (.int .i64 c) w ((w.alloc (.cells #[.int .i64 H, .int .i64 W, .int .i64 C] 23)).alloc (.cells #[.int .i64 y, .int .i64 x, .int .i64 c] 24)) := ⟨by go_cell, by go_cell, by go_cell, by go_cell, by go_cell, by go_cell, by go_grown, by simp⟩
  obtain ⟨v, hv⟩ := may_ex H W C
  obtain ⟨qs, hs⟩ : ∃ v, Hid (v = sizeI H W C) := ⟨_, Lib.hid rfl⟩
  obtain ⟨qr, hr⟩ : ∃ v, Hid (v = rowI H W C) := ⟨_, Lib.hid rfl⟩
  obtain ⟨q, hq⟩ : ∃ v, Hid (v = indexI H W C y x c) := ⟨_, Lib.hid rfl⟩
  go_enter Try.func3, Try.ntmps3
  go_wp2_with fail
  refine (shown_any _).mono ?_; rintro e w1 ⟨rfl, g1⟩
  have k1 := kept_step F g1
  clear F g1
  unfold Kept at k1
  go_wp2_with fail
  go_region_held3 (fun w' => w'.cell? ⟨w.heap.size, 0, none⟩ = some (.int .i64 H) ∧ w'.cell? ⟨w.heap.size, 1, none⟩ = some (.int .i64 W) ∧ w'.cell? ⟨w.heap.size, 2, none⟩ = some (.int .i64 C) ∧ w'.cell? ⟨w.heap.size + 1, 0, none⟩ = some (.int .i64 y) ∧ w'.cell? ⟨w.heap.size + 1, 1, none⟩ = some (.int .i64 x) ∧ w'.cell? ⟨w.heap.size + 1, 2, none⟩ = some (.int .i64 c) ∧ Grown w w' ∧ w.heap.size + 1 < w'.heap.size)
    (first | assumption | exact kept_step (by assumption) (by assumption) | exact kept_step (by assumption) (Grown.refl _).drew)
    (first | (go_at_call 12; refine (may_at H W C v _ hv).mono ?_; rintro e w' ⟨rfl, g⟩) | (go_at_call 13; refine (rmay_at H W C v _ hv).mono ?_; rintro e w' ⟨rfl, g⟩) | (go_at_call 14; refine (size_any H W C qs _ hs).mono ?_; rintro e w' ⟨rfl, g⟩) | (go_at_call 15; refine (rsize_any H W C qs _ hs).mono ?_; rintro e w' ⟨rfl, g⟩) | (go_at_call 16; refine (row_any H W C qr _ hr).mono ?_; rintro e w' ⟨rfl, g⟩) | (go_at_call 17; refine (rrow_any H W C qr _ hr).mono ?_; rintro e w' ⟨rfl, g⟩) | (go_at_call 18; refine (index_any H W C y x c q _ hq).mono ?_; rintro e w' ⟨rfl, g⟩) | (go_at_call 19; refine (rindex_any H W C y x c q _ hq).mono ?_; rintro e w' ⟨rfl, g⟩))
  all_goals
    go_wp2_with fail
    go_ret
    rename_i hk
    exact ⟨rfl, hk.2.2.2.2.2.2.1⟩

theorem own : ownKnob Try.prog.godebug = none := by kernel_rfl
theorem cells3 : Try.prog.cellsOf 3 = 1 := by kernel_rfl
theorem cells23 : Try.prog.cellsOf 23 = 3 := by kernel_rfl
theorem cells24 : Try.prog.cellsOf 24 = 3 := by kernel_rfl
theorem list3 {α : Type} (l : List α) (h : (⟨l⟩ : Array α).size = 3) : ∃ a b c, l = [a, b, c] := by
  match l, h with
  | [a, b, c], _ => exact ⟨a, b, c, rfl⟩

set_option maxHeartbeats 400000 in
set_option maxRecDepth 100000 in
theorem lifted (os : Os) (started : os.Started) (H : Type) (enc : TypeId × Value → H) :
    ReturnsInHanded {} Try.checked os 3 .any (Rows.shapeAllSpec.pre6 enc Try.prog Try.f3 Rows.shapeAllRow.domain false) (Rows.shapeAllSpec.post enc Try.prog Try.f3 false true false false) := by
  refine returnsInHanded_of_change (C := Try.checked) own started (by kernel_rfl) Try.func3
    (ChangeSpec.witness6 (enc := enc) (C := Try.checked) false ⟨#[], #[.agg #[.int .i64 0, .int .i64 0, .int .i64 0], .agg #[.int .i64 0, .int .i64 0, .int .i64 0]], []⟩ 8 (by kernel_rfl) (by kernel_rfl) (by kernel_rfl) (by kernel_rfl)) ?_
  intro W base args ds gs before hval0 hW hcnd _
  have hval : ∀ (j : Nat) t v, Try.f3.params[j]? = some t → args[j]? = some v → Value.okWide Try.prog W .any base t v := hval0
  have hW' := hW
  obtain ⟨p, q, hA0, hV, rfl, hfz, hnd⟩ := hW
  have hA : DataW.TrodAll enc Try.prog W 0 (fun _ => true) true Try.f3.params.toList args.toList ds p := hA0
  rw [Try.params3] at hA hval
  obtain ⟨v0, vs0, d0, ds0, p0, q0, hargs, rfl, rfl, h0, r0⟩ := trodAll_cons hA
  obtain ⟨v1, vs1, d1, ds1, p1, q1, rfl, rfl, rfl, h1, r1⟩ := trodAll_cons r0
  obtain ⟨rfl, rfl, rfl⟩ := trodAll_nil r1
  obtain rfl : args = #[v0, v1] := by cases args; simp_all
  obtain ⟨rfl, rfl⟩ := trodVars_none hV
  obtain ⟨s0, s1, s2, y0, y1, y2, m, rfl, rfl, rfl, hy0, hy1, hy2⟩ := Joins.open_agg3 Try.underlying23 (by kernel_rfl) cells23 (hval 0 23 v0 rfl rfl) h0
  obtain ⟨z0, e0, rfl, x0⟩ := DataW.trod_int Try.underlying3 hy0
  obtain ⟨z1, e1, rfl, x1⟩ := DataW.trod_int Try.underlying3 hy1
  obtain ⟨z2, e2, rfl, x2⟩ := DataW.trod_int Try.underlying3 hy2
  simp at e0 e1 e2
  subst e0 e1 e2
  obtain ⟨cs, rfl, hsz, _⟩ : ∃ cs, v1 = .agg cs ∧ cs.size = Try.prog.cellsOf 24 ∧ Row.okWide Try.prog W .any base 24 cs := by
    have := hval 1 24 v1 rfl rfl
    simpa [Value.okWide, Try.underlying24] using this
  rw [cells24] at hsz
  obtain ⟨l⟩ := cs
  obtain ⟨k0, k1, k2, rfl⟩ := list3 l hsz
  obtain ⟨fuel, hf⟩ := h1
  obtain ⟨y3, y4, y5, m1, hx, hy3, hy4, hy5⟩ := trod_array3 Try.underlying24 cells3 hf
  obtain ⟨z3, e3, rfl, x3⟩ := DataW.trod_int Try.underlying3 hy3
  obtain ⟨z4, e4, rfl, x4⟩ := DataW.trod_int Try.underlying3 hy4
  obtain ⟨z5, e5, rfl, x5⟩ := DataW.trod_int Try.underlying3 hy5
  simp at e3 e4 e5
  subst e3 e4 e5
  simp only [Prod.mk.injEq] at hx
  obtain ⟨rfl, rfl⟩ := hx
  clear hA0 hval0
  simp only [List.append_nil] at hW'
  refine (walk z0 z1 z2 z3 z4 z5 W).mono fun e W' ⟨he, hg⟩ => ?_
  subst he
  have rdS : ∀ sp : Nat → Bool, DataW.Trod enc Try.prog W' 0 sp true 23 (.agg #[.int .i64 z0, .int .i64 z1, .int .i64 z2]) (DataW.agg [.lit (.int .i64 z0), .lit (.int .i64 z1), .lit (.int .i64 z2)]) [] := fun sp =>
    Joins.shut_agg3 (y0 := (.lit (.int .i64 z0), [])) (y1 := (.lit (.int .i64 z1), [])) (y2 := (.lit (.int .i64 z2), [])) Try.underlying23 (by kernel_rfl) cells23 ⟨1, by simp [DataW.trod, Try.underlying3, x0]⟩ ⟨1, by simp [DataW.trod, Try.underlying3, x1]⟩ ⟨1, by simp [DataW.trod, Try.underlying3, x2]⟩
  have rdA : ∀ sp : Nat → Bool, DataW.Trod enc Try.prog W' 0 sp true 24 (.agg #[.int .i64 z3, .int .i64 z4, .int .i64 z5]) (DataW.agg [.lit (.int .i64 z3), .lit (.int .i64 z4), .lit (.int .i64 z5)]) [] := fun sp => ⟨2, by simp [DataW.trod, Value.cells, Try.underlying24, Try.underlying3, cells24, cells3, x3, x4, x5, show List.range 3 = [0, 1, 2] from rfl]⟩
  exact ⟨_, rfl, post_of_same (pa := []) (pv := []) hW' (fun _ _ _ => (trodAll_cons_mk (shut_bool Try.underlying4 _) trodAll_mk0)) (fun sp _ => (trodAll_cons_mk (rdS sp) (trodAll_cons_mk (rdA sp) trodAll_mk0))) (fun _ _ => rfl) rfl
    (hg.frame _) hg.2.1 (ok_one (by kernel_rfl) rfl (okWide_bool_mk Try.underlying4 _))⟩

theorem over : Rows.shapeAllRow.holds Try.pinned (OpenSpec.ofChange Rows.shapeAllSpec) :=
  OpenClaim.holds_of_wide 3 Try.f3 rfl rfl rfl rfl rfl rfl rfl ⟨rfl, rfl, rfl, rfl, rfl⟩ rfl rfl rfl rfl rfl (by kernel_rfl) Try.func3 (by kernel_rfl)
    (of_decide_eq_true (by kernel_rfl)) (by unfold Func.isWrapper; first | (rw [if_pos (by decide +kernel)]; kernel_rfl) | (rw [if_neg (by decide +kernel)]; exact ⟨rfl, rfl⟩))
    (fun os started H enc _ => lifted os started H enc)

/-- THE STATEMENT -/
theorem proved : Rows.ShapeAllSaid :=
  over
#print axioms proved
end Go.Proofs.Ytcidpbdgikkndaa.shapeAll
