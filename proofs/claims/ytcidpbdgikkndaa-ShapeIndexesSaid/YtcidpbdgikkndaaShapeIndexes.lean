/- Whatever three sides: ShapeIndexes returns true, and changes nothing that it was handed.
   Conditions: none beyond the row's own cells. -/
import Derived.Test.YtcidpbdgikkndaaRows
import Derived.Test.YtcidpbdgikkndaaBox
import Derived.Test.YtcidpbdgikkndaaRefIndex
import Derived.WalkKit
import Derived.ProofKit
import Derived.OpenShut
import Derived.Lib.SmallJoins
import Derived.Laws.IdiomArrays
import Derived.Deep.RegionHeld3
namespace Go.Proofs.Ytcidpbdgikkndaa.shapeIndexes
open Go.ChangeShapes Go.WideShapes Go.ChangeAt Go.RowKit
set_option linter.unusedVariables false

theorem grown_free {W w' : World} (h : Grown W w') {p : Addr} (hp : W.heap.size ≤ p.block) : w'.frozen? p = false := (h.2.1 p).trans (by unfold World.frozen?; rw [Array.getElem?_eq_none hp])

/-- The box of a law over a shape: what lies in it. -/
def Kept3 (b : Nat) (z0 z1 z2 : Value) (w0 w' : World) : Prop :=
  w'.cell? ⟨b, 0, none⟩ = some z0 ∧ w'.cell? ⟨b, 1, none⟩ = some z1 ∧ w'.cell? ⟨b, 2, none⟩ = some z2 ∧ Grown w0 w' ∧ b < w'.heap.size

theorem kept3_step {b : Nat} {z0 z1 z2 : Value} {w0 w1 w2 : World} (h : Kept3 b z0 z1 z2 w0 w1) (g : Grown w1 w2) : Kept3 b z0 z1 z2 w0 w2 := by
  obtain ⟨h0, h1, h2, h6, l⟩ := h
  exact ⟨(grown_cell g l).trans h0, (grown_cell g l).trans h1, (grown_cell g l).trans h2, grown_trans h6 g, by have := g.2.2; omega⟩

theorem kept3_set {b : Nat} {z0 z1 z2 v0 v1 v2 : Value} {w0 w1 : World} (h : Kept3 b z0 z1 z2 w0 w1) (hb : w0.heap.size ≤ b := by exact Nat.le_refl _) : Kept3 b v0 v1 v2 w0 (((w1.setCell ⟨b, 0, none⟩ v0).setCell ⟨b, 1, none⟩ v1).setCell ⟨b, 2, none⟩ v2) := by
  obtain ⟨h0, h1, h2, h6, h7⟩ := h
  exact ⟨by go_cell, by go_cell, by go_cell, ((h6.setCell hb _).setCell hb _).setCell hb _, by simpa using h7⟩

set_option maxRecDepth 4000 in
set_option maxHeartbeats 1000000 in
theorem walk_no (H0 W0 C0 : Int) (w : World) (h : ¬ mayS (bits BinOp.and IntKind.i64 H0 15) (bits BinOp.and IntKind.i64 W0 15) (bits BinOp.and IntKind.i64 C0 7)) :
    Calls Try.prog 5 #[.agg #[.int .i64 H0, .int .i64 W0, .int .i64 C0]] w fun e w' => e = .returned (.bool true) ∧ Grown w w' := by
  have h' := Lib.hid h
  have hs : Hid (0 = sizeI (bits BinOp.and IntKind.i64 H0 15) (bits BinOp.and IntKind.i64 W0 15) (bits BinOp.and IntKind.i64 C0 7)) := Lib.hid (by unfold sizeI; rw [if_neg h])
  have hr : Hid (0 = rowI (bits BinOp.and IntKind.i64 H0 15) (bits BinOp.and IntKind.i64 W0 15) (bits BinOp.and IntKind.i64 C0 7)) := Lib.hid (by unfold rowI; rw [if_neg h])
  have hq : Hid (-1 = indexI (bits BinOp.and IntKind.i64 H0 15) (bits BinOp.and IntKind.i64 W0 15) (bits BinOp.and IntKind.i64 C0 7) 0 0 0) := Lib.hid (indexI_no (fun k => h k.1)).symm
  clear h
  have F : Kept3 w.heap.size (.int .i64 H0) (.int .i64 W0) (.int .i64 C0) w (w.alloc (.cells #[.int .i64 H0, .int .i64 W0, .int .i64 C0] 23)) := ⟨by go_cell, by go_cell, by go_cell, by go_grown, by simp⟩
  go_enter Try.func5, Try.ntmps5
  go_wp2_with fail
  refine (shown_any _).mono ?_; rintro e w1 ⟨rfl, g1⟩
  have k1 := kept3_step F g1
  clear F g1
  have f0 : w1.frozen? ⟨w.heap.size, 0, none⟩ = false := grown_free k1.2.2.2.1 (Nat.le_refl _)
  have f1 : w1.frozen? ⟨w.heap.size, 1, none⟩ = false := grown_free k1.2.2.2.1 (Nat.le_refl _)
  have f2 : w1.frozen? ⟨w.heap.size, 2, none⟩ = false := grown_free k1.2.2.2.1 (Nat.le_refl _)
  have k2 := kept3_set (v0 := .int .i64 (bits BinOp.and IntKind.i64 H0 15)) (v1 := .int .i64 (bits BinOp.and IntKind.i64 W0 15)) (v2 := .int .i64 (bits BinOp.and IntKind.i64 C0 7)) k1
  unfold Kept3 at k1
  go_wp2_with fail
  clear k1 f0 f1 f2
  generalize ((w1.setCell ⟨w.heap.size, 0, none⟩ (.int .i64 (bits BinOp.and IntKind.i64 H0 15))).setCell ⟨w.heap.size, 1, none⟩ (.int .i64 (bits BinOp.and IntKind.i64 W0 15))).setCell ⟨w.heap.size, 2, none⟩ (.int .i64 (bits BinOp.and IntKind.i64 C0 7)) = w2 at k2 ⊢
  refine (may_no _ _ _ _ h'.out).mono ?_; rintro e w3 ⟨rfl, g3⟩
  have k3 := kept3_step k2 g3
  clear k2 g3
  unfold Kept3 at k3
  go_wp2_with fail
  refine (size_any _ _ _ _ _ hs).mono ?_; rintro e w4 ⟨rfl, g4⟩
  have k4 := kept3_step k3 g4
  clear k3 g4
  unfold Kept3 at k4
  go_wp2_with fail
  refine (row_any _ _ _ _ _ hr).mono ?_; rintro e w5 ⟨rfl, g5⟩
  have k5 := kept3_step k4 g5
  clear k4 g5
  unfold Kept3 at k5
  go_wp2_with fail
  refine (index_any _ _ _ _ _ _ _ _ hq).mono ?_; rintro e w6 ⟨rfl, g6⟩
  have k6 := kept3_step k5 g6
  clear k5 g6
  unfold Kept3 at k6
  go_wp2_with fail
  go_ret
  exact ⟨rfl, k6.2.2.2.1⟩

set_option maxRecDepth 4000 in
set_option maxHeartbeats 4000000 in
theorem walk_yes (H0 W0 C0 : Int) (H W C : Nat) (w : World) (eH : bits BinOp.and IntKind.i64 H0 15 = H) (eW : bits BinOp.and IntKind.i64 W0 15 = W) (eC : bits BinOp.and IntKind.i64 C0 7 = C) (h : mayS H W C) :
    Calls Try.prog 5 #[.agg #[.int .i64 H0, .int .i64 W0, .int .i64 C0]] w fun e w' => e = .returned (.bool true) ∧ Grown w w' := by
  have HM := Lib.hid h
  have BD := Lib.hid (fun (i k j : Nat) => idx_bd (i := i) (k := k) (j := j) h)
  obtain ⟨a1, a2, b1, b2, d1, d2⟩ := id h
  have lH : H ≤ 16 := by omega
  have lW : W ≤ 16 := by omega
  have lC : C ≤ 8 := by omega
  clear h a1 a2 b1 b2 d1 d2
  have EH := Lib.hid eH
  have EW := Lib.hid eW
  have EC := Lib.hid eC
  clear eH eW eC
  have F : Kept3 w.heap.size (.int .i64 H0) (.int .i64 W0) (.int .i64 C0) w (w.alloc (.cells #[.int .i64 H0, .int .i64 W0, .int .i64 C0] 23)) := ⟨by go_cell, by go_cell, by go_cell, by go_grown, by simp⟩
  go_enter Try.func5, Try.ntmps5
  go_wp2_with fail
  refine (shown_any _).mono ?_; rintro e w1 ⟨rfl, g1⟩
  have k1 := kept3_step F g1
  clear F g1
  have f0 : w1.frozen? ⟨w.heap.size, 0, none⟩ = false := grown_free k1.2.2.2.1 (Nat.le_refl _)
  have f1 : w1.frozen? ⟨w.heap.size, 1, none⟩ = false := grown_free k1.2.2.2.1 (Nat.le_refl _)
  have f2 : w1.frozen? ⟨w.heap.size, 2, none⟩ = false := grown_free k1.2.2.2.1 (Nat.le_refl _)
  have k2 := kept3_set (v0 := .int .i64 (bits BinOp.and IntKind.i64 H0 15)) (v1 := .int .i64 (bits BinOp.and IntKind.i64 W0 15)) (v2 := .int .i64 (bits BinOp.and IntKind.i64 C0 7)) k1
  unfold Kept3 at k1
  go_wp2_with fail
  clear k1 f0 f1 f2
  generalize ((w1.setCell ⟨w.heap.size, 0, none⟩ (.int .i64 (bits BinOp.and IntKind.i64 H0 15))).setCell ⟨w.heap.size, 1, none⟩ (.int .i64 (bits BinOp.and IntKind.i64 W0 15))).setCell ⟨w.heap.size, 2, none⟩ (.int .i64 (bits BinOp.and IntKind.i64 C0 7)) = w2 at k2 ⊢
  rw [EH.out, EW.out, EC.out] at k2 ⊢
  refine (may_yes _ _ _ _ HM.out).mono ?_; rintro e w3 ⟨rfl, g3⟩
  have k3 := kept3_step k2 g3
  clear k2 g3
  unfold Kept3 at k3
  go_wp2_with fail
  go_loopw [4, 5] (fun n i wr => ∃ a : Nat, a ≤ H ∧ i = .int .i64 a ∧ n = .int .i64 ((a * W + (0 : Nat)) * C + (0 : Nat)) ∧ Kept3 w.heap.size (.int .i64 H) (.int .i64 W) (.int .i64 C) w wr) (fun _ i _ => H - (intOf i).toNat)
  case atStart => exact ⟨0, by omega, rfl, by simp, k3⟩
  case round =>
    obtain ⟨a, ha, rfl, rfl, ka⟩ := hrel
    unfold Kept3 at ka
    clear k3
    by_cases l1 : a < H
    · go_wp2_with fail
      go_loopw [4, 6] (fun n i wr => ∃ b : Nat, b ≤ W ∧ i = .int .i64 b ∧ n = .int .i64 ((a * W + b) * C + (0 : Nat)) ∧ Kept3 w.heap.size (.int .i64 H) (.int .i64 W) (.int .i64 C) w wr) (fun _ i _ => W - (intOf i).toNat)
      case atStart => exact ⟨0, by omega, rfl, rfl, ka⟩
      case round =>
        obtain ⟨b, hb, rfl, rfl, kb⟩ := hrel
        unfold Kept3 at kb
        clear ka
        by_cases l2 : b < W
        · go_wp2_with fail
          go_loopw [4, 7] (fun n i wr => ∃ d : Nat, d ≤ C ∧ i = .int .i64 d ∧ n = .int .i64 ((a * W + b) * C + d) ∧ Kept3 w.heap.size (.int .i64 H) (.int .i64 W) (.int .i64 C) w wr) (fun _ i _ => C - (intOf i).toNat)
          case atStart => exact ⟨0, by omega, rfl, rfl, kb⟩
          case round =>
            obtain ⟨d, hd, rfl, rfl, kd⟩ := hrel
            unfold Kept3 at kd
            clear kb
            obtain ⟨B1, B2⟩ := BD.out a b d (by omega) (by omega) (by omega) (by omega) (by omega) (by omega)
            by_cases l3 : d < C
            · have E : Hid ((a * W + b) * C + d = indexI H W C a b d) := Lib.hid (indexI_yes ⟨HM.out, by omega, by omega, by omega, by omega, by omega, by omega⟩).symm
              go_wp2_with fail
              refine (index_any _ _ _ _ _ _ _ _ E).mono ?_; rintro e w9 ⟨rfl, g9⟩
              have k9 := kept3_step kd g9
              clear kd g9
              go_wp2_with fail
              go_roundw
              case rel => exact ⟨d + 1, by omega, by go_num, by go_num, k9⟩
              case measure => simp [intOf]; omega
            · obtain rfl : d = C := by omega
              have e : ((a : Int) * W + b) * d + d = (a * W + ((b + 1 : Nat) : Int)) * d + (0 : Nat) := by
                rw [Int.natCast_add, ← Int.add_assoc, Int.add_mul ((a : Int) * W + b)]; simp
              go_wp2_with fail
              go_roundw
              case rel => exact ⟨b + 1, by omega, by go_num, by rw [e], kd⟩
              case measure => simp [intOf]; omega
        · obtain rfl : b = W := by omega
          have e : ((a : Int) * b + b) * C + (0 : Nat) = (((a + 1 : Nat) : Int) * b + (0 : Nat)) * C + (0 : Nat) := by
            rw [Int.natCast_add, Int.add_mul (a : Int)]; simp
          go_wp2_with fail
          go_roundw
          case rel => exact ⟨a + 1, by omega, by go_num, by rw [e], kb⟩
          case measure => simp [intOf]; omega
    · obtain rfl : a = H := by omega
      obtain ⟨B1, B2⟩ := BD.out a 0 0 (by omega) (by omega) (by omega) (by omega) (by omega) (by omega)
      obtain ⟨N, eN⟩ : ∃ N : Int, ((a : Int) * W + (0 : Nat)) * C + (0 : Nat) = N := ⟨_, rfl⟩
      obtain ⟨R, hR⟩ : ∃ v, Hid (v = rowI a W C) := ⟨_, Lib.hid rfl⟩
      have hS : Hid (N = sizeI a W C) := Lib.hid (by unfold sizeI; rw [if_pos HM.out, ← eN]; simp)
      have eR : R * a = N := by rw [hR.out]; unfold rowI; rw [if_pos HM.out, ← eN, Int.mul_comm]; simp [Int.mul_assoc]
      rw [eN] at B1 B2 ⊢
      clear eN
      have s1 : IntKind.i64.wrap (R * a) = N := by rw [eR]; exact IntWalk.i64_in _ (by omega)
      have A1 : Hid (-1 = indexI a W C a 0 0) := Lib.hid (indexI_no (fun k => by obtain ⟨_, k1, k2, k3, k4, k5, k6⟩ := k; omega)).symm
      have A2 : Hid (-1 = indexI a W C 0 W 0) := Lib.hid (indexI_no (fun k => by obtain ⟨_, k1, k2, k3, k4, k5, k6⟩ := k; omega)).symm
      have A3 : Hid (-1 = indexI a W C 0 0 C) := Lib.hid (indexI_no (fun k => by obtain ⟨_, k1, k2, k3, k4, k5, k6⟩ := k; omega)).symm
      have A4 : Hid (-1 = indexI a W C (-1) 0 0) := Lib.hid (indexI_no (fun k => by obtain ⟨_, k1, k2, k3, k4, k5, k6⟩ := k; omega)).symm
      clear eR B1 B2
      go_wp2_with fail
      go_region_held3 (fun w' => w'.cell? ⟨w.heap.size, 0, none⟩ = some (.int .i64 a) ∧ w'.cell? ⟨w.heap.size, 1, none⟩ = some (.int .i64 W) ∧ w'.cell? ⟨w.heap.size, 2, none⟩ = some (.int .i64 C) ∧ Grown w w' ∧ w.heap.size < w'.heap.size)
        (first | assumption | exact kept3_step (by assumption) (by assumption) | exact kept3_step (by assumption) (Grown.refl _).drew)
        (first | (go_at_call 14; refine (size_any _ _ _ N _ hS).mono ?_; rintro e w' ⟨rfl, g⟩) | (go_at_call 16; refine (row_any _ _ _ R _ hR).mono ?_; rintro e w' ⟨rfl, g⟩) | (go_at_call 18; with_reducible refine (index_any _ _ _ a 0 0 (-1) _ A1).mono ?_; rintro e w' ⟨rfl, g⟩) | (go_at_call 18; with_reducible refine (index_any _ _ _ 0 W 0 (-1) _ A2).mono ?_; rintro e w' ⟨rfl, g⟩) | (go_at_call 18; with_reducible refine (index_any _ _ _ 0 0 C (-1) _ A3).mono ?_; rintro e w' ⟨rfl, g⟩) | (go_at_call 18; with_reducible refine (index_any _ _ _ (-1) 0 0 (-1) _ A4).mono ?_; rintro e w' ⟨rfl, g⟩))
      all_goals
        go_wp2_with fail
        go_ret
        rename_i hk
        exact ⟨rfl, hk.2.2.2.1⟩

theorem walk (H0 W0 C0 : Int) (w : World) :
    Calls Try.prog 5 #[.agg #[.int .i64 H0, .int .i64 W0, .int .i64 C0]] w fun e w' => e = .returned (.bool true) ∧ Grown w w' := by
  obtain ⟨m1, m2⟩ := mask_bd H0 15 (by omega) (by omega)
  obtain ⟨m3, m4⟩ := mask_bd W0 15 (by omega) (by omega)
  obtain ⟨m5, m6⟩ := mask_bd C0 7 (by omega) (by omega)
  by_cases h : mayS (bits BinOp.and IntKind.i64 H0 15) (bits BinOp.and IntKind.i64 W0 15) (bits BinOp.and IntKind.i64 C0 7)
  · obtain ⟨H, eH⟩ : ∃ n : Nat, bits BinOp.and IntKind.i64 H0 15 = n := ⟨_, (Int.toNat_of_nonneg m1).symm⟩
    obtain ⟨W, eW⟩ : ∃ n : Nat, bits BinOp.and IntKind.i64 W0 15 = n := ⟨_, (Int.toNat_of_nonneg m3).symm⟩
    obtain ⟨C, eC⟩ : ∃ n : Nat, bits BinOp.and IntKind.i64 C0 7 = n := ⟨_, (Int.toNat_of_nonneg m5).symm⟩
    rw [eH, eW, eC] at h
    exact walk_yes H0 W0 C0 H W C w eH eW eC h
  · exact walk_no H0 W0 C0 w h

theorem own : ownKnob Try.prog.godebug = none := by kernel_rfl
theorem cells23 : Try.prog.cellsOf 23 = 3 := by kernel_rfl

set_option maxHeartbeats 400000 in
set_option maxRecDepth 100000 in
theorem lifted (os : Os) (started : os.Started) (H : Type) (enc : TypeId × Value → H) :
    ReturnsInHanded {} Try.checked os 5 .any (Rows.shapeIndexesSpec.pre6 enc Try.prog Try.f5 Rows.shapeIndexesRow.domain false) (Rows.shapeIndexesSpec.post enc Try.prog Try.f5 false true false false) := by
  refine returnsInHanded_of_change (C := Try.checked) own started (by kernel_rfl) Try.func5
    (ChangeSpec.witness6 (enc := enc) (C := Try.checked) false ⟨#[], #[.agg #[.int .i64 0, .int .i64 0, .int .i64 0]], []⟩ 8 (by kernel_rfl) (by kernel_rfl) (by kernel_rfl) (by kernel_rfl)) ?_
  intro W base args ds gs before hval0 hW hcnd _
  have hval : ∀ (j : Nat) t v, Try.f5.params[j]? = some t → args[j]? = some v → Value.okWide Try.prog W .any base t v := hval0
  have hW' := hW
  obtain ⟨p, q, hA0, hV, rfl, hfz, hnd⟩ := hW
  have hA : DataW.TrodAll enc Try.prog W 0 (fun _ => true) true Try.f5.params.toList args.toList ds p := hA0
  rw [Try.params5] at hA hval
  obtain ⟨v0, vs0, d0, ds0, p0, q0, hargs, rfl, rfl, h0, r0⟩ := trodAll_cons hA
  obtain ⟨rfl, rfl, rfl⟩ := trodAll_nil r0
  obtain rfl : args = #[v0] := by cases args; simp_all
  obtain ⟨rfl, rfl⟩ := trodVars_none hV
  obtain ⟨s0, s1, s2, y0, y1, y2, m0, rfl, rfl, rfl, hy0, hy1, hy2⟩ := Joins.open_agg3 Try.underlying23 (by kernel_rfl) cells23 (hval 0 23 v0 rfl rfl) h0
  obtain ⟨z0, e0, rfl, x0⟩ := DataW.trod_int Try.underlying3 hy0
  obtain ⟨z1, e1, rfl, x1⟩ := DataW.trod_int Try.underlying3 hy1
  obtain ⟨z2, e2, rfl, x2⟩ := DataW.trod_int Try.underlying3 hy2
  simp at e0 e1 e2
  subst e0 e1 e2
  clear hA0 hval0
  simp only [List.append_nil] at hW'
  refine (walk z0 z1 z2  W).mono fun e W' ⟨he, hg⟩ => ?_
  subst he
  have rd0 : ∀ sp : Nat → Bool, DataW.Trod enc Try.prog W' 0 sp true 23 (.agg #[.int .i64 z0, .int .i64 z1, .int .i64 z2]) (DataW.agg [.lit (.int .i64 z0), .lit (.int .i64 z1), .lit (.int .i64 z2)]) [] := fun sp =>
    Joins.shut_agg3 (y0 := (.lit (.int .i64 z0), [])) (y1 := (.lit (.int .i64 z1), [])) (y2 := (.lit (.int .i64 z2), [])) Try.underlying23 (by kernel_rfl) cells23 ⟨1, by simp [DataW.trod, Try.underlying3, x0]⟩ ⟨1, by simp [DataW.trod, Try.underlying3, x1]⟩ ⟨1, by simp [DataW.trod, Try.underlying3, x2]⟩
  exact ⟨_, rfl, post_of_same (pa := []) (pv := []) hW' (fun _ _ _ => (trodAll_cons_mk (shut_bool Try.underlying4 _) trodAll_mk0)) (fun sp _ => (trodAll_cons_mk (rd0 sp) trodAll_mk0)) (fun _ _ => rfl) rfl
    (hg.frame _) hg.2.1 (ok_one (by kernel_rfl) rfl (okWide_bool_mk Try.underlying4 _))⟩

theorem over : Rows.shapeIndexesRow.holds Try.pinned (OpenSpec.ofChange Rows.shapeIndexesSpec) :=
  OpenClaim.holds_of_wide 5 Try.f5 rfl rfl rfl rfl rfl rfl rfl ⟨rfl, rfl, rfl, rfl, rfl⟩ rfl rfl rfl rfl rfl (by kernel_rfl) Try.func5 (by kernel_rfl)
    (of_decide_eq_true (by kernel_rfl)) (by unfold Func.isWrapper; first | (rw [if_pos (by decide +kernel)]; kernel_rfl) | (rw [if_neg (by decide +kernel)]; exact ⟨rfl, rfl⟩))
    (fun os started H enc _ => lifted os started H enc)

/-- THE STATEMENT -/
theorem proved : Rows.ShapeIndexesSaid :=
  over
#print axioms proved
end Go.Proofs.Ytcidpbdgikkndaa.shapeIndexes
