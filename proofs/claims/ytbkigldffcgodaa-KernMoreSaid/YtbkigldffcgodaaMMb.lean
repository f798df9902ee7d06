/- The walk of KernMore. -/
import Derived.Test.YtbkigldffcgodaaMMa
import Derived.Test.YtbkigldffcgodaaMLa
import Derived.Test.YtbkigldffcgodaaMR3D
import Derived.Test.YtbkigldffcgodaaMFewD
namespace Go.Proofs.Ytbkigldffcgodaa
open Go.ChangeShapes Go.WideShapes Go.ChangeAt Go.RowKit
set_option maxRecDepth 20000
set_option linter.unusedVariables false
set_option linter.unusedSimpArgs false

theorem reach_in2 {y k s p h : Int} (h0 : 0 ≤ h) : 0 ≤ (reachI y 1 k s p h).1 ∧ (reachI y 1 k s p h).2 ≤ h := by
  by_cases c : inR y 1 k s p h
  · rw [reachI_yes c]
    obtain ⟨⟨w1, _, w3, _, w5, _⟩, _⟩ := c
    rcases rs_inv y k s p h w5 w1 w3 (1 : Int).toNat with ⟨a, b⟩ | ⟨_, b, _, d, _⟩
    · omega
    · exact ⟨b, d⟩
  · rw [reachI_no c]; exact ⟨Int.le_refl _, h0⟩
theorem looks_in2 {n : NodeD} {vs : List ValD} (h : valueE n vs = 0) {y : Int} (y0 : 0 ≤ y) (y1 : y < (madeS n vs).1) {j : Nat} (hj : j < vs.length) :
    0 ≤ (looksD n (vs.getD j default).h y 1).1 ∧ (looksD n (vs.getD j default).h y 1).2 ≤ (vs.getD j default).h := by
  obtain ⟨v1, v2, _⟩ := (value_parts h).2.1 j hj
  rcases looks_in h y0 y1 hj with e | e
  · have hh : 0 ≤ (vs.getD j default).h := by omega
    unfold looksD at e ⊢
    split
    · exact reach_in2 hh
    · split
      · exact reach_in2 hh
      · rename_i c1 c2
        rw [if_neg c1, if_neg c2] at e
        split
        · exact ⟨Int.le_refl _, Int.le_refl _⟩
        · rename_i c3
          rw [if_neg c3] at e
          exfalso
          simp only at e
          omega
  · exact e
theorem spanN_yes {f : Nat → Int × Int} {j : Nat} {a b c d : Int} (h : f j = (a, b)) (s : spanN f j = (c, d)) (k : a < b) : spanN f (j + 1) = (min c a, max d b) := by
  simp only [spanN]; rw [h, s, if_pos k]
theorem spanN_no {f : Nat → Int × Int} {j : Nat} {a b c d : Int} (h : f j = (a, b)) (s : spanN f j = (c, d)) (k : ¬ a < b) : spanN f (j + 1) = (c, d) := by
  simp only [spanN]; rw [h, if_neg k, s]
theorem spanN_bd {f : Nat → Int × Int} {H : Int} (h0 : 0 ≤ H) (j : Nat) (h : ∀ i, i < j → 0 ≤ (f i).1 ∧ (f i).2 ≤ H) : 0 ≤ (spanN f j).1 ∧ (spanN f j).1 ≤ 99 ∧ 0 ≤ (spanN f j).2 ∧ (spanN f j).2 ≤ H := by
  induction j with
  | zero => simp only [spanN]; omega
  | succ j ih =>
    have a := ih (fun i hi => h i (by omega))
    have b := h j (by omega)
    simp only [spanN]
    split
    · simp only; omega
    · exact a

set_option maxHeartbeats 4000000 in
theorem eq2t (a b : Int) (w : World) : (Op.equalIn 10000 30 (.agg #[.int .i64 a, .int .i64 b]) (.agg #[.int .i64 a, .int .i64 b])).run Try.prog w = .ok true w := by
  have ku := Try.underlying3
  have ka := Try.isAgg3
  have kz := Try.sizeOf3
  rw [show (10000 : Nat) = 9999 + 1 from rfl, Op.equalIn]
  simp only [Sem.run_bind, run_underlying Try.underlying30, Result.andThen_ok]
  simp only [Std.Legacy.Range.forIn_eq_forIn_range', Std.Legacy.Range.size, Nat.sub_zero, Nat.add_sub_cancel, Nat.div_one, List.range'_succ, List.range'_zero, List.forIn_cons, List.forIn_nil]
  go_simp
theorem nums_one8 {k : IntKind} {w : World} {v : Value} {xs : List Int} (h : IsNums k w v xs) : v.oneCell' = true := by
  obtain ⟨A, cap, rfl, _⟩ := h
  rfl

set_option maxHeartbeats 8000000 in
theorem more_bad (W : World) (nv : Value) (n0 : NodeD) (hn : IsNode W nv n0) (lv : Value) (l0 : List ValD) (hl : IsVals W lv l0) (x0 x1 : Int) (hx0 : (Lit.int .u8 x0).wf = true) (hx1 : (Lit.int .u8 x1).wf = true) (hE : valueE (fewD n0) (l0.take 3) ≠ 0) :
    Calls Try.prog 4 #[nv, lv, .agg #[.int .u8 x0, .int .u8 x1]] W fun e w' => e = .returned (.bool true) ∧ Past W w' := by
  obtain ⟨nv', hnv, FD⟩ := few_det W nv n0 hn
  obtain ⟨lv', hlv, SD⟩ := some_det lv l0 W hl
  obtain ⟨a1, a2, a3, rfl, hin⟩ := node_slices hnv
  have O1 := nums_one8 hin.1
  have O2 := nums_one8 hin.2.1
  have O3 := nums_one8 hin.2.2
  obtain ⟨vi, vw, vb, rfl, _⟩ := node_slices hn
  obtain ⟨er, her⟩ : ∃ er, valueE (fewD n0) (l0.take 3) = er := ⟨_, rfl⟩
  have hE' : er ≠ 0 := by rw [← her]; exact hE
  have VA : Hid (∀ w, Past W w → Calls Try.prog 17 #[.agg #[.int .i64 (fewD n0).op, a1, .int .i64 (fewD n0).k, .int .i64 (fewD n0).stride, .int .i64 (fewD n0).pad, .int .i64 (fewD n0).out, .int .i64 (fewD n0).mul, .int .i64 (fewD n0).shift, .int .i64 (fewD n0).zero, .int .i64 (fewD n0).th, .int .i64 (fewD n0).tw, .int .i64 (fewD n0).tc, a2, a3], lv'] w fun e w' => e = .returned (.tuple #[.agg #[.int .i64 0, .int .i64 0, .int .i64 0, .int .i64 0], .int .i64 er]) ∧ Grown w w') := Lib.hid (by
    intro w g
    have := rvalue_any (fewD n0) a1 a2 a3 lv' (l0.take 3) w (hin.grow g) (hlv.grow g)
    unfold ValuePost at this
    rw [valueV_err her hE', her] at this
    exact this)
  have KN : Hid (∀ w, Past W w → Calls Try.prog 13 #[.agg #[.int .i64 (fewD n0).op, a1, .int .i64 (fewD n0).k, .int .i64 (fewD n0).stride, .int .i64 (fewD n0).pad, .int .i64 (fewD n0).out, .int .i64 (fewD n0).mul, .int .i64 (fewD n0).shift, .int .i64 (fewD n0).zero, .int .i64 (fewD n0).th, .int .i64 (fewD n0).tw, .int .i64 (fewD n0).tc, a2, a3], lv', .int .i64 0, .int .i64 1] w fun e w' => e = .returned (.tuple #[.agg #[.int .i64 0, .int .i64 0, .int .i64 0, .int .i64 0], .int .i64 er]) ∧ Grown w w') := Lib.hid (by
    intro w g
    have := kneeds_any (fewD n0) a1 a2 a3 lv' (l0.take 3) 0 1 w (hin.grow g) (hlv.grow g) (by decide)
    unfold NeedsPost at this
    rw [needs_bad hE, her] at this
    exact this)
  have F1 := Lib.hid FD
  have S1 := Lib.hid SD
  have d1 : (er == 0) = false := by rw [beq_eq_false_iff_ne]; exact hE'
  clear hin hlv hnv FD SD hn hl her hE hE'
  go_enter Try.func4, Try.ntmps4
  go_upto_region 1 with fail
  refine opq (fun w' => (∀ o : Nat, w'.cell? ⟨W.heap.size, o, none⟩ = (#[.int .i64 n0.op, vi, .int .i64 n0.k, .int .i64 n0.stride, .int .i64 n0.pad, .int .i64 n0.out, .int .i64 n0.mul, .int .i64 n0.shift, .int .i64 n0.zero, .int .i64 n0.th, .int .i64 n0.tw, .int .i64 n0.tc, vw, vb] : Array Value)[o]?) ∧ (∀ o : Nat, w'.frozen? ⟨W.heap.size, o, none⟩ = false) ∧ Past W w' ∧ W.heap.size + 2 ≤ w'.heap.size) (by (((try dsimp only); (try go_split_ands); (repeat' with_reducible apply And.intro)) <;> ((repeat (first | (with_reducible (first | assumption | refine kbS ?_ | refine has_set ?_ | refine kcS ?_ | refine free_set ?_ | refine size_set ?_ | refine kgS ?_ | refine kpS ?_ | refine box_drewN ?_ | refine has_drewN ?_ | refine cell_drewN ?_ | refine free_drewN ?_ | refine size_drewN ?_ | refine Grown.drewN ?_ | refine Past.drewN ?_ | refine box_drew ?_ | refine has_drew ?_ | refine cell_drew ?_ | refine free_drew ?_ | refine size_drew ?_ | refine Grown.drew ?_ | refine Past.drew ?_ | exact kbN | refine kbO ?_ | refine khA ?_ | refine kcA ?_ | refine free_alloc ?_ | exact ksA | refine Grown.alloc ?_ _ _ | refine Past.alloc ?_ _ | exact kbG | exact khG | exact kcG | exact ksG | exact kfG | exact kgG | exact kbP | exact kfP | exact khP | exact kcP | exact ksP | exact kpP | exact kfN | refine Grown.past ?_ | exact Grown.refl _ | exact Past.refl _)) | omega)); done))) ?_
  rintro w1 ⟨b3, f3, p1, z1⟩
  go_wp2_with fail
  refine (shown_any _).mono ?_
  rintro e w2 ⟨rfl, p2⟩
  have b32 := box_past p2 b3 (by omega)
  have f32 := free_past p2 f3 (by omega)
  have pW := p1.trans p2
  have z2 : W.heap.size + 2 ≤ w2.heap.size := by have := p2.2.2.1; omega
  clear b3 f3 p1 z1 p2
  go_wp2_with fail
  refine (S1.out _).mono ?_
  rintro e w3 ⟨rfl, g3⟩
  have b33 := box_grown g3 b32 (by omega)
  have f33 := kfG g3 f32
  have p3 := past_trans3 pW g3
  have z3 : W.heap.size + 2 ≤ w3.heap.size := by have := g3.2.2; omega
  clear b32 f32 pW z2 g3
  go_wp2_with (refine wpList_load_box rfl 28 (.tmp 3) rfl W.heap.size #[.int .i64 n0.op, vi, .int .i64 n0.k, .int .i64 n0.stride, .int .i64 n0.pad, .int .i64 n0.out, .int .i64 n0.mul, .int .i64 n0.shift, .int .i64 n0.zero, .int .i64 n0.th, .int .i64 n0.tw, .int .i64 n0.tc, vw, vb] rfl b33 Try.underlying28 rfl N14 ?_)
  refine (F1.out _).mono ?_
  rintro e w4 ⟨rfl, g4⟩
  have b34 := box_grown g4 b33 (by omega)
  have f34 := kfG g4 f33
  have p4 := past_trans3 p3 g4
  have z4 : W.heap.size + 2 ≤ w4.heap.size := by have := g4.2.2; omega
  clear b33 f33 p3 z3 g4
  go_upto_region 4 with (first | ((refine wpList_store_box rfl 28 (.tmp 3) (.tmp 26) rfl W.heap.size #[.int .i64 (fewD n0).op, a1, .int .i64 (fewD n0).k, .int .i64 (fewD n0).stride, .int .i64 (fewD n0).pad, .int .i64 (fewD n0).out, .int .i64 (fewD n0).mul, .int .i64 (fewD n0).shift, .int .i64 (fewD n0).zero, .int .i64 (fewD n0).th, .int .i64 (fewD n0).tw, .int .i64 (fewD n0).tc, a2, a3] #[.int .i64 n0.op, vi, .int .i64 n0.k, .int .i64 n0.stride, .int .i64 n0.pad, .int .i64 n0.out, .int .i64 n0.mul, .int .i64 n0.shift, .int .i64 n0.zero, .int .i64 n0.th, .int .i64 n0.tw, .int .i64 n0.tc, vw, vb] rfl rfl b34 f34 rfl N14 (by have O1 := O1; have O2 := O2; have O3 := O3; simp only [Value.oneCell'] at O1 O2 O3; simp [Value.oneCell', O1, O2, O3]) (fun w' => (∀ o : Nat, w'.cell? ⟨W.heap.size, o, none⟩ = (#[.int .i64 (fewD n0).op, a1, .int .i64 (fewD n0).k, .int .i64 (fewD n0).stride, .int .i64 (fewD n0).pad, .int .i64 (fewD n0).out, .int .i64 (fewD n0).mul, .int .i64 (fewD n0).shift, .int .i64 (fewD n0).zero, .int .i64 (fewD n0).th, .int .i64 (fewD n0).tw, .int .i64 (fewD n0).tc, a2, a3] : Array Value)[o]?) ∧ Past W w' ∧ W.heap.size + 2 ≤ w'.heap.size) ⟨box_setAll b34 rfl, past_setAll (Nat.le_refl _) _ _ _ p4, size_setAll _ _ _ z4⟩ ?_); rintro w5 ⟨b35, p5, z5⟩))
  clear b34 f34 p4 z4
  go_wp2_with (refine wpList_load_box rfl 28 (.tmp 3) rfl W.heap.size #[.int .i64 (fewD n0).op, a1, .int .i64 (fewD n0).k, .int .i64 (fewD n0).stride, .int .i64 (fewD n0).pad, .int .i64 (fewD n0).out, .int .i64 (fewD n0).mul, .int .i64 (fewD n0).shift, .int .i64 (fewD n0).zero, .int .i64 (fewD n0).th, .int .i64 (fewD n0).tw, .int .i64 (fewD n0).tc, a2, a3] rfl b35 Try.underlying28 rfl N14 ?_)
  refine (VA.out _ p5).mono ?_
  rintro e w6 ⟨rfl, g6⟩
  have b36 := box_grown g6 b35 (by omega)
  have p6 := past_trans3 p5 g6
  have z6 : W.heap.size + 2 ≤ w6.heap.size := by have := g6.2.2; omega
  clear b35 p5 z5 g6
  go_upto_region 6 with fail
  refine opq (fun w' => (∀ o : Nat, w'.cell? ⟨W.heap.size, o, none⟩ = (#[.int .i64 (fewD n0).op, a1, .int .i64 (fewD n0).k, .int .i64 (fewD n0).stride, .int .i64 (fewD n0).pad, .int .i64 (fewD n0).out, .int .i64 (fewD n0).mul, .int .i64 (fewD n0).shift, .int .i64 (fewD n0).zero, .int .i64 (fewD n0).th, .int .i64 (fewD n0).tw, .int .i64 (fewD n0).tc, a2, a3] : Array Value)[o]?) ∧ Past W w' ∧ W.heap.size + 2 ≤ w'.heap.size) (by (((try dsimp only); (try go_split_ands); (repeat' with_reducible apply And.intro)) <;> ((repeat (first | (with_reducible (first | assumption | refine kbS ?_ | refine has_set ?_ | refine kcS ?_ | refine free_set ?_ | refine size_set ?_ | refine kgS ?_ | refine kpS ?_ | refine box_drewN ?_ | refine has_drewN ?_ | refine cell_drewN ?_ | refine free_drewN ?_ | refine size_drewN ?_ | refine Grown.drewN ?_ | refine Past.drewN ?_ | refine box_drew ?_ | refine has_drew ?_ | refine cell_drew ?_ | refine free_drew ?_ | refine size_drew ?_ | refine Grown.drew ?_ | refine Past.drew ?_ | exact kbN | refine kbO ?_ | refine khA ?_ | refine kcA ?_ | refine free_alloc ?_ | exact ksA | refine Grown.alloc ?_ _ _ | refine Past.alloc ?_ _ | exact kbG | exact khG | exact kcG | exact ksG | exact kfG | exact kgG | exact kbP | exact kfP | exact khP | exact kcP | exact ksP | exact kpP | exact kfN | refine Grown.past ?_ | exact Grown.refl _ | exact Past.refl _)) | omega)); done))) ?_
  rintro w7 ⟨b37, p7, z7⟩
  clear b36 p6 z6
  go_wp2_with (refine wpList_load_box rfl 28 (.tmp 3) rfl W.heap.size #[.int .i64 (fewD n0).op, a1, .int .i64 (fewD n0).k, .int .i64 (fewD n0).stride, .int .i64 (fewD n0).pad, .int .i64 (fewD n0).out, .int .i64 (fewD n0).mul, .int .i64 (fewD n0).shift, .int .i64 (fewD n0).zero, .int .i64 (fewD n0).th, .int .i64 (fewD n0).tw, .int .i64 (fewD n0).tc, a2, a3] rfl b37 Try.underlying28 rfl N14 ?_)
  refine (KN.out _ p7).mono ?_
  rintro e w8 ⟨rfl, g8⟩
  have p8 := past_trans3 p7 g8
  clear b37 p7 z7 g8
  go_wp2_with fail
  go_ret
  exact ⟨rfl, by (((try dsimp only); (try go_split_ands); (repeat' with_reducible apply And.intro)) <;> ((repeat (first | (with_reducible (first | assumption | refine kbS ?_ | refine has_set ?_ | refine kcS ?_ | refine free_set ?_ | refine size_set ?_ | refine kgS ?_ | refine kpS ?_ | refine box_drewN ?_ | refine has_drewN ?_ | refine cell_drewN ?_ | refine free_drewN ?_ | refine size_drewN ?_ | refine Grown.drewN ?_ | refine Past.drewN ?_ | refine box_drew ?_ | refine has_drew ?_ | refine cell_drew ?_ | refine free_drew ?_ | refine size_drew ?_ | refine Grown.drew ?_ | refine Past.drew ?_ | exact kbN | refine kbO ?_ | refine khA ?_ | refine kcA ?_ | refine free_alloc ?_ | exact ksA | refine Grown.alloc ?_ _ _ | refine Past.alloc ?_ _ | exact kbG | exact khG | exact kcG | exact ksG | exact kfG | exact kgG | exact kbP | exact kfP | exact khP | exact kcP | exact ksP | exact kpP | exact kfN | refine Grown.past ?_ | exact Grown.refl _ | exact Past.refl _)) | omega)); done))⟩

theorem rem_nat {a H : Int} (h0 : 0 ≤ a) (h1 : 1 ≤ H) : ∃ f : Nat, a % H = f ∧ Int.tmod a H = f ∧ (f : Int) < H := by
  have m0 := Int.emod_nonneg a (show H ≠ 0 by omega)
  have m1 := Int.emod_lt_of_pos a (show 0 < H by omega)
  refine ⟨(a % H).toNat, by omega, ?_, by omega⟩
  rw [Int.tmod_eq_emod_of_nonneg h0]
  omega

set_option maxHeartbeats 16000000 in
theorem more_ok (W : World) (nv : Value) (n0 : NodeD) (hn : IsNode W nv n0) (lv : Value) (l0 : List ValD) (hl : IsVals W lv l0) (x0 x1 : Int) (hx0 : (Lit.int .u8 x0).wf = true) (hx1 : (Lit.int .u8 x1).wf = true) (hE : valueE (fewD n0) (l0.take 3) = 0) :
    Calls Try.prog 4 #[nv, lv, .agg #[.int .u8 x0, .int .u8 x1]] W fun e w' => e = .returned (.bool true) ∧ Past W w' := by
  obtain ⟨nv', hnv, FD⟩ := few_det W nv n0 hn
  obtain ⟨lv', hlv, SD⟩ := some_det lv l0 W hl
  obtain ⟨a1, a2, a3, rfl, hin⟩ := node_slices hnv
  have O1 := nums_one8 hin.1
  have O2 := nums_one8 hin.2.1
  have O3 := nums_one8 hin.2.2
  obtain ⟨vi, vw, vb, rfl, _⟩ := node_slices hn
  obtain ⟨vs, hvs⟩ : ∃ vs, l0.take 3 = vs := ⟨_, rfl⟩
  rw [hvs] at hE hlv
  have u0 : 0 ≤ x0 ∧ x0 ≤ 255 := by simpa [Lit.wf, IntKind.min, IntKind.max, IntKind.bits, IntKind.signed] using hx0
  have u1 : 0 ≤ x1 ∧ x1 ≤ 255 := by simpa [Lit.wf, IntKind.min, IntKind.max, IntKind.bits, IntKind.signed] using hx1
  obtain ⟨m1, m2, _⟩ := (value_parts hE).2.2.1
  obtain ⟨H, hH⟩ : ∃ H, (madeS (fewD n0) vs).1 = H := ⟨_, rfl⟩
  rw [hH] at m1 m2
  obtain ⟨f, ef, tf, fH⟩ := rem_nat (a := x0) u0.1 m1
  obtain ⟨r, er, tr, rH⟩ := rem_nat (a := x1) (H := H - f) u1.1 (by omega)
  have g1 : (H == 0) = false := by rw [beq_eq_false_iff_ne]; omega
  have g2 : (H - (f : Int) == 0) = false := by rw [beq_eq_false_iff_ne]; omega
  have RO : rowsOk (fewD n0) vs f ((r + 1 : Nat) : Int) := ⟨by omega, by omega, by rw [hH]; omega⟩
  have R1 : ∀ j : Nat, j < r + 1 → rowsOk (fewD n0) vs ((f : Int) + j) 1 := fun j hj => ⟨by omega, by omega, by rw [hH]; omega⟩
  have VA : Hid (∀ w, Past W w → ∃ vw' vc' vz' : Int, Calls Try.prog 17 #[.agg #[.int .i64 (fewD n0).op, a1, .int .i64 (fewD n0).k, .int .i64 (fewD n0).stride, .int .i64 (fewD n0).pad, .int .i64 (fewD n0).out, .int .i64 (fewD n0).mul, .int .i64 (fewD n0).shift, .int .i64 (fewD n0).zero, .int .i64 (fewD n0).th, .int .i64 (fewD n0).tw, .int .i64 (fewD n0).tc, a2, a3], lv'] w fun e w' => e = .returned (.tuple #[.agg #[.int .i64 H, .int .i64 vw', .int .i64 vc', .int .i64 vz'], .int .i64 0]) ∧ Grown w w') := Lib.hid (by
    intro w g
    have := rvalue_any (fewD n0) a1 a2 a3 lv' vs w (hin.grow g) (hlv.grow g)
    unfold ValuePost at this
    rw [valueV_ok hE, hE, hH] at this
    exact ⟨_, _, _, this⟩)
  have KN : ∀ (y rr : Int), rowsOk (fewD n0) vs y rr → ∀ w, Past W w → Calls Try.prog 13 #[.agg #[.int .i64 (fewD n0).op, a1, .int .i64 (fewD n0).k, .int .i64 (fewD n0).stride, .int .i64 (fewD n0).pad, .int .i64 (fewD n0).out, .int .i64 (fewD n0).mul, .int .i64 (fewD n0).shift, .int .i64 (fewD n0).zero, .int .i64 (fewD n0).th, .int .i64 (fewD n0).tw, .int .i64 (fewD n0).tc, a2, a3], lv', .int .i64 y, .int .i64 rr] w fun e w' => e = .returned (.tuple #[.agg #[.int .i64 (looksD (fewD n0) (vs.getD 0 default).h y rr).1, .int .i64 (looksD (fewD n0) (vs.getD 0 default).h y rr).2, .int .i64 (if vs.length = 2 then looksD (fewD n0) (vs.getD 1 default).h y rr else (0, 0)).1, .int .i64 (if vs.length = 2 then looksD (fewD n0) (vs.getD 1 default).h y rr else (0, 0)).2], .int .i64 0]) ∧ Grown w w' := by
    intro y rr k w g
    have kk := k
    obtain ⟨k0, k1, k2⟩ := kk
    rw [hH] at k2
    have := kneeds_any (fewD n0) a1 a2 a3 lv' vs y rr w (hin.grow g) (hlv.grow g) (by omega)
    unfold NeedsPost at this
    have e : needsD (fewD n0) vs y rr = (looksD (fewD n0) (vs.getD 0 default).h y rr, if vs.length = 2 then looksD (fewD n0) (vs.getD 1 default).h y rr else (0, 0), 0) := by
      unfold needsD
      rw [if_neg (fun d => d hE), if_neg (fun d => d k)]
    rw [e] at this
    exact this
  have SP : ∀ k : Nat, k < vs.length → ∃ (g : Nat → Int × Int), (∀ j : Nat, j < r + 1 → looksD (fewD n0) (vs.getD k default).h ((f : Int) + j) 1 = g j ∧ 0 ≤ (g j).1 ∧ (g j).2 ≤ (vs.getD k default).h) ∧ looksD (fewD n0) (vs.getD k default).h f ((r + 1 : Nat) : Int) = (if (spanN g (r + 1)).2 = 0 then 0 else (spanN g (r + 1)).1, (spanN g (r + 1)).2) := by
    intro k hk
    refine ⟨fun j => looksD (fewD n0) (vs.getD k default).h ((f : Int) + j) 1, fun j hj => ⟨rfl, looks_in2 hE (by omega) (by have := (R1 j hj).2.2; omega) hk⟩, ?_⟩
    exact span_looks hE RO hk
  have LN : vs.length = 1 ∨ vs.length = 2 := by rcases vals_len hE with ⟨_, l⟩ | ⟨_, l⟩ <;> omega
  have VH : ∀ k : Nat, k < vs.length → 1 ≤ (vs.getD k default).h ∧ (vs.getD k default).h ≤ 16 := fun k hk => by have := (value_parts hE).2.1 k hk; exact ⟨this.1, this.2.1⟩
  obtain ⟨p, hp⟩ : ∃ p, (looksD (fewD n0) (vs.getD 0 default).h f ((r + 1 : Nat) : Int)) = p := ⟨_, rfl⟩
  obtain ⟨q, hq⟩ : ∃ q, (if vs.length = 2 then looksD (fewD n0) (vs.getD 1 default).h f ((r + 1 : Nat) : Int) else (0, 0)) = q := ⟨_, rfl⟩
  have KA := Lib.hid (KN f ((r + 1 : Nat) : Int) RO)
  rw [hp, hq] at KA
  have KN := Lib.hid KN
  have SP := Lib.hid SP
  have R1 := Lib.hid R1
  have VH := Lib.hid VH
  have HP := Lib.hid hp
  have HQ := Lib.hid hq
  have F1 := Lib.hid FD
  have S1 := Lib.hid SD
  obtain ⟨A1, c1, rfl, lc1, lm1, _, lw1, a5⟩ := hlv
  obtain ⟨lb, lo, rfl, hlb, hlc⟩ := a5 (by omega)
  have HC := Lib.hid hlc
  have ec : ((r + 1 : Nat) : Int) = 1 + (r : Int) := by omega
  rw [ec] at KA
  have hlr : (r : Int) ≤ 15 ∧ (f : Int) ≤ 15 := by omega
  clear hin hnv FD SD hn hl hE hp hq hlc a5 lw1 hvs RO hx0 hx1
  go_enter Try.func4, Try.ntmps4
  go_upto_region 1 with fail
  refine opq (fun w' => (∀ o : Nat, w'.cell? ⟨W.heap.size, o, none⟩ = (#[.int .i64 n0.op, vi, .int .i64 n0.k, .int .i64 n0.stride, .int .i64 n0.pad, .int .i64 n0.out, .int .i64 n0.mul, .int .i64 n0.shift, .int .i64 n0.zero, .int .i64 n0.th, .int .i64 n0.tw, .int .i64 n0.tc, vw, vb] : Array Value)[o]?) ∧ (∀ o : Nat, w'.frozen? ⟨W.heap.size, o, none⟩ = false) ∧ (∀ o : Nat, w'.cell? ⟨W.heap.size + 1, o, none⟩ = (#[.int .u8 x0, .int .u8 x1] : Array Value)[o]?) ∧ Past W w' ∧ W.heap.size + 2 ≤ w'.heap.size) (by (((try dsimp only); (try go_split_ands); (repeat' with_reducible apply And.intro)) <;> ((repeat (first | (with_reducible (first | assumption | refine kbS ?_ | refine has_set ?_ | refine kcS ?_ | refine free_set ?_ | refine size_set ?_ | refine kgS ?_ | refine kpS ?_ | refine box_drewN ?_ | refine has_drewN ?_ | refine cell_drewN ?_ | refine free_drewN ?_ | refine size_drewN ?_ | refine Grown.drewN ?_ | refine Past.drewN ?_ | refine box_drew ?_ | refine has_drew ?_ | refine cell_drew ?_ | refine free_drew ?_ | refine size_drew ?_ | refine Grown.drew ?_ | refine Past.drew ?_ | exact kbN | refine kbO ?_ | refine khA ?_ | refine kcA ?_ | refine free_alloc ?_ | exact ksA | refine Grown.alloc ?_ _ _ | refine Past.alloc ?_ _ | exact kbG | exact khG | exact kcG | exact ksG | exact kfG | exact kgG | exact kbP | exact kfP | exact khP | exact kcP | exact ksP | exact kpP | exact kfN | refine Grown.past ?_ | exact Grown.refl _ | exact Past.refl _)) | omega)); done))) ?_
  rintro w1 ⟨b3, f3, bb, p1, z1⟩
  go_wp2_with fail
  refine (shown_any _).mono ?_
  rintro e w2 ⟨rfl, p2⟩
  have b32 := box_past p2 b3 (by omega)
  have f32 := free_past p2 f3 (by omega)
  have bb2 := box_past p2 bb (by omega)
  have pW := p1.trans p2
  have z2 : W.heap.size + 2 ≤ w2.heap.size := by have := p2.2.2.1; omega
  clear b3 f3 bb p1 z1 p2
  go_wp2_with fail
  refine (S1.out _).mono ?_
  rintro e w3 ⟨rfl, g3⟩
  have b33 := box_grown g3 b32 (by omega)
  have f33 := kfG g3 f32
  have bb3 := box_grown g3 bb2 (by omega)
  have p3 := past_trans3 pW g3
  have z3 : W.heap.size + 2 ≤ w3.heap.size := by have := g3.2.2; omega
  clear b32 f32 bb2 pW z2 g3
  go_wp2_with (refine wpList_load_box rfl 28 (.tmp 3) rfl W.heap.size #[.int .i64 n0.op, vi, .int .i64 n0.k, .int .i64 n0.stride, .int .i64 n0.pad, .int .i64 n0.out, .int .i64 n0.mul, .int .i64 n0.shift, .int .i64 n0.zero, .int .i64 n0.th, .int .i64 n0.tw, .int .i64 n0.tc, vw, vb] rfl b33 Try.underlying28 rfl N14 ?_)
  refine (F1.out _).mono ?_
  rintro e w4 ⟨rfl, g4⟩
  have b34 := box_grown g4 b33 (by omega)
  have f34 := kfG g4 f33
  have bb4 := box_grown g4 bb3 (by omega)
  have p4 := past_trans3 p3 g4
  have z4 : W.heap.size + 2 ≤ w4.heap.size := by have := g4.2.2; omega
  clear b33 f33 bb3 p3 z3 g4
  go_upto_region 4 with (first | ((refine wpList_store_box rfl 28 (.tmp 3) (.tmp 26) rfl W.heap.size #[.int .i64 (fewD n0).op, a1, .int .i64 (fewD n0).k, .int .i64 (fewD n0).stride, .int .i64 (fewD n0).pad, .int .i64 (fewD n0).out, .int .i64 (fewD n0).mul, .int .i64 (fewD n0).shift, .int .i64 (fewD n0).zero, .int .i64 (fewD n0).th, .int .i64 (fewD n0).tw, .int .i64 (fewD n0).tc, a2, a3] #[.int .i64 n0.op, vi, .int .i64 n0.k, .int .i64 n0.stride, .int .i64 n0.pad, .int .i64 n0.out, .int .i64 n0.mul, .int .i64 n0.shift, .int .i64 n0.zero, .int .i64 n0.th, .int .i64 n0.tw, .int .i64 n0.tc, vw, vb] rfl rfl b34 f34 rfl N14 (by have O1 := O1; have O2 := O2; have O3 := O3; simp only [Value.oneCell'] at O1 O2 O3; simp [Value.oneCell', O1, O2, O3]) (fun w' => (∀ o : Nat, w'.cell? ⟨W.heap.size, o, none⟩ = (#[.int .i64 (fewD n0).op, a1, .int .i64 (fewD n0).k, .int .i64 (fewD n0).stride, .int .i64 (fewD n0).pad, .int .i64 (fewD n0).out, .int .i64 (fewD n0).mul, .int .i64 (fewD n0).shift, .int .i64 (fewD n0).zero, .int .i64 (fewD n0).th, .int .i64 (fewD n0).tw, .int .i64 (fewD n0).tc, a2, a3] : Array Value)[o]?) ∧ (∀ o : Nat, w'.cell? ⟨W.heap.size + 1, o, none⟩ = (#[.int .u8 x0, .int .u8 x1] : Array Value)[o]?) ∧ Past W w' ∧ W.heap.size + 2 ≤ w'.heap.size) ⟨box_setAll b34 rfl, box_setOther (by omega) _ _ _ bb4, past_setAll (Nat.le_refl _) _ _ _ p4, size_setAll _ _ _ z4⟩ ?_); rintro w5 ⟨b35, bb5, p5, z5⟩))
  clear b34 f34 bb4 p4 z4
  obtain ⟨vw', vc', vz', VB⟩ := VA.out _ p5
  go_wp2_with (refine wpList_load_box rfl 28 (.tmp 3) rfl W.heap.size #[.int .i64 (fewD n0).op, a1, .int .i64 (fewD n0).k, .int .i64 (fewD n0).stride, .int .i64 (fewD n0).pad, .int .i64 (fewD n0).out, .int .i64 (fewD n0).mul, .int .i64 (fewD n0).shift, .int .i64 (fewD n0).zero, .int .i64 (fewD n0).th, .int .i64 (fewD n0).tw, .int .i64 (fewD n0).tc, a2, a3] rfl b35 Try.underlying28 rfl N14 ?_)
  refine VB.mono ?_
  rintro e w6 ⟨rfl, g6⟩
  have b36 := box_grown g6 b35 (by omega)
  have bb6 := box_grown g6 bb5 (by omega)
  have p6 := past_trans3 p5 g6
  have z6 : W.heap.size + 2 ≤ w6.heap.size := by have := g6.2.2; omega
  clear b35 bb5 p5 z5 g6 VB
  go_upto_region 8 with fail
  refine opq (fun w' => (∀ o : Nat, w'.cell? ⟨W.heap.size, o, none⟩ = (#[.int .i64 (fewD n0).op, a1, .int .i64 (fewD n0).k, .int .i64 (fewD n0).stride, .int .i64 (fewD n0).pad, .int .i64 (fewD n0).out, .int .i64 (fewD n0).mul, .int .i64 (fewD n0).shift, .int .i64 (fewD n0).zero, .int .i64 (fewD n0).th, .int .i64 (fewD n0).tw, .int .i64 (fewD n0).tc, a2, a3] : Array Value)[o]?) ∧ (∀ o : Nat, w'.cell? ⟨W.heap.size + 1, o, none⟩ = (#[.int .u8 x0, .int .u8 x1] : Array Value)[o]?) ∧ (∀ o : Nat, w'.cell? ⟨w6.heap.size, o, none⟩ = (#[.int .i64 H, .int .i64 vw', .int .i64 vc', .int .i64 vz'] : Array Value)[o]?) ∧ Past W w' ∧ w6.heap.size + 1 ≤ w'.heap.size) (by (((try dsimp only); (try go_split_ands); (repeat' with_reducible apply And.intro)) <;> ((repeat (first | (with_reducible (first | assumption | refine kbS ?_ | refine has_set ?_ | refine kcS ?_ | refine free_set ?_ | refine size_set ?_ | refine kgS ?_ | refine kpS ?_ | refine box_drewN ?_ | refine has_drewN ?_ | refine cell_drewN ?_ | refine free_drewN ?_ | refine size_drewN ?_ | refine Grown.drewN ?_ | refine Past.drewN ?_ | refine box_drew ?_ | refine has_drew ?_ | refine cell_drew ?_ | refine free_drew ?_ | refine size_drew ?_ | refine Grown.drew ?_ | refine Past.drew ?_ | exact kbN | refine kbO ?_ | refine khA ?_ | refine kcA ?_ | refine free_alloc ?_ | exact ksA | refine Grown.alloc ?_ _ _ | refine Past.alloc ?_ _ | exact kbG | exact khG | exact kcG | exact ksG | exact kfG | exact kgG | exact kbP | exact kfP | exact khP | exact kcP | exact ksP | exact kpP | exact kfN | refine Grown.past ?_ | exact Grown.refl _ | exact Past.refl _)) | omega)); done))) ?_
  rintro w7 ⟨b37, bb7, b87, p7, z7⟩
  clear b36 p6 bb6
  go_upto_region 10 with fail
  go_wp2_with (refine wpList_load_box rfl 28 (.tmp 3) rfl W.heap.size #[.int .i64 (fewD n0).op, a1, .int .i64 (fewD n0).k, .int .i64 (fewD n0).stride, .int .i64 (fewD n0).pad, .int .i64 (fewD n0).out, .int .i64 (fewD n0).mul, .int .i64 (fewD n0).shift, .int .i64 (fewD n0).zero, .int .i64 (fewD n0).th, .int .i64 (fewD n0).tw, .int .i64 (fewD n0).tc, a2, a3] rfl b37 Try.underlying28 rfl N14 ?_)
  refine (KA.out _ p7).mono ?_
  rintro e w8 ⟨rfl, g8⟩
  have b38 := box_grown g8 b37 (by omega)
  have p8 := past_trans3 p7 g8
  have z8 : W.heap.size + 2 ≤ w8.heap.size := by have := g8.2.2; omega
  clear b37 p7 z7 g8
  go_upto_region 13 with fail
  refine opq (fun w' => (∀ o : Nat, w'.cell? ⟨W.heap.size, o, none⟩ = (#[.int .i64 (fewD n0).op, a1, .int .i64 (fewD n0).k, .int .i64 (fewD n0).stride, .int .i64 (fewD n0).pad, .int .i64 (fewD n0).out, .int .i64 (fewD n0).mul, .int .i64 (fewD n0).shift, .int .i64 (fewD n0).zero, .int .i64 (fewD n0).th, .int .i64 (fewD n0).tw, .int .i64 (fewD n0).tc, a2, a3] : Array Value)[o]?) ∧ (∀ o : Nat, w'.cell? ⟨w8.heap.size, o, none⟩ = (#[.int .i64 p.1, .int .i64 p.2, .int .i64 q.1, .int .i64 q.2] : Array Value)[o]?) ∧ Past W w' ∧ w8.heap.size + 1 ≤ w'.heap.size) (by (((try dsimp only); (try go_split_ands); (repeat' with_reducible apply And.intro)) <;> ((repeat (first | (with_reducible (first | assumption | refine kbS ?_ | refine has_set ?_ | refine kcS ?_ | refine free_set ?_ | refine size_set ?_ | refine kgS ?_ | refine kpS ?_ | refine box_drewN ?_ | refine has_drewN ?_ | refine cell_drewN ?_ | refine free_drewN ?_ | refine size_drewN ?_ | refine Grown.drewN ?_ | refine Past.drewN ?_ | refine box_drew ?_ | refine has_drew ?_ | refine cell_drew ?_ | refine free_drew ?_ | refine size_drew ?_ | refine Grown.drew ?_ | refine Past.drew ?_ | exact kbN | refine kbO ?_ | refine khA ?_ | refine kcA ?_ | refine free_alloc ?_ | exact ksA | refine Grown.alloc ?_ _ _ | refine Past.alloc ?_ _ | exact kbG | exact khG | exact kcG | exact ksG | exact kfG | exact kgG | exact kbP | exact kfP | exact khP | exact kcP | exact ksP | exact kpP | exact kfN | refine Grown.past ?_ | exact Grown.refl _ | exact Past.refl _)) | omega)); done))) ?_
  rintro w9 ⟨b39, b14, p9, z9⟩
  obtain ⟨P14, hP14⟩ : ∃ P14, w8.heap.size = P14 := ⟨_, rfl⟩
  rw [hP14] at b14 z9 z8
  simp only [hP14]
  clear hP14 b38 p8
  go_wp2_with fail
  go_loopw [6, 16] (fun s6 i wr => ∃ k : Nat, s6 = .bool false ∧ k ≤ vs.length ∧ i = .int .i64 k ∧ (∀ o : Nat, wr.cell? ⟨W.heap.size, o, none⟩ = (#[.int .i64 (fewD n0).op, a1, .int .i64 (fewD n0).k, .int .i64 (fewD n0).stride, .int .i64 (fewD n0).pad, .int .i64 (fewD n0).out, .int .i64 (fewD n0).mul, .int .i64 (fewD n0).shift, .int .i64 (fewD n0).zero, .int .i64 (fewD n0).th, .int .i64 (fewD n0).tw, .int .i64 (fewD n0).tc, a2, a3] : Array Value)[o]?) ∧ (∀ o : Nat, wr.cell? ⟨P14, o, none⟩ = (#[.int .i64 p.1, .int .i64 p.2, .int .i64 q.1, .int .i64 q.2] : Array Value)[o]?) ∧ Past W wr ∧ P14 + 1 ≤ wr.heap.size) (fun _ i _ => vs.length - (intOf i).toNat)
  case atStart => exact ⟨0, rfl, by omega, rfl, b39, b14, p9, z9⟩
  case round =>
    clear b39 b14 p9 z9
    obtain ⟨k, rfl, hk, rfl, b39, b14, p9, z9⟩ := hrel
    by_cases hkl : k < vs.length
    · obtain ⟨g, hg, hgg⟩ := SP.out k hkl
      have HG := Lib.hid hg
      have HGG := Lib.hid hgg
      have vh := VH.out k hkl
      obtain ⟨h, hh⟩ : ∃ h, (vs.getD k default).h = h := ⟨_, rfl⟩
      obtain ⟨ch, _⟩ := (HC.out k hkl).grow hlb p9
      rw [hh] at ch
      have HH := Lib.hid hh
      clear hg hgg hh
      have dk : decide ((k : Int) < (vs.length : Int)) = true := decide_eq_true (by omega)
      rcases (show k = 0 ∨ k = 1 by omega) with rfl | rfl
      · simp only [Nat.zero_mul, Nat.one_mul, Nat.add_zero] at ch
        have zk : ((0 : Nat) : Int) = 0 := rfl
        simp only [zk]
        clear zk
        have e2 := eq2t
        go_wp2_with fail
        obtain ⟨wR, hwR⟩ : ∃ wR, wR = wr := ⟨wr, rfl⟩
        subst hwR
        go_loopw [6, 17, 18, 19] (fun s6 fr tq rr wq => ∃ (j : Nat) (c d : Int), s6 = .bool false ∧ j ≤ r + 1 ∧ rr = .int .i64 ((f : Int) + j) ∧ fr = .int .i64 c ∧ tq = .int .i64 d ∧ Hid (spanN g j = (c, d)) ∧ (∀ o : Nat, wq.cell? ⟨W.heap.size, o, none⟩ = (#[.int .i64 (fewD n0).op, a1, .int .i64 (fewD n0).k, .int .i64 (fewD n0).stride, .int .i64 (fewD n0).pad, .int .i64 (fewD n0).out, .int .i64 (fewD n0).mul, .int .i64 (fewD n0).shift, .int .i64 (fewD n0).zero, .int .i64 (fewD n0).th, .int .i64 (fewD n0).tw, .int .i64 (fewD n0).tc, a2, a3] : Array Value)[o]?) ∧ (∀ o : Nat, wq.cell? ⟨P14, o, none⟩ = (#[.int .i64 p.1, .int .i64 p.2, .int .i64 q.1, .int .i64 q.2] : Array Value)[o]?) ∧ Past W wq ∧ P14 + 1 ≤ wq.heap.size ∧ (wq.cell? ⟨lb, lo, none⟩ = some (.int .i64 h))) (fun _ _ _ rr _ => f + r + 1 - (intOf rr).toNat)
        case atStart => exact ⟨0, 99, 0, rfl, by omega, by go_num, rfl, rfl, Lib.hid rfl, b39, b14, p9, z9, ch⟩
        case round =>
          clear b39 b14 p9 z9 ch
          obtain ⟨j, c, d, rfl, hj, rfl, rfl, rfl, hs, b39, b14, p9, z9, ch⟩ := hrel
          by_cases hjr : j < r + 1
          · have d1 : decide ((f : Int) + (j : Int) < (f : Int) + (1 + (r : Int))) = true := decide_eq_true (by omega)
            obtain ⟨gj, gj0, gj1⟩ := HG.out j hjr
            obtain ⟨⟨A, B⟩, hAB⟩ : ∃ t, g j = t := ⟨_, rfl⟩
            rw [hAB] at gj gj0 gj1
            rw [HH.out] at gj1
            simp only at gj0 gj1
            have NE : Hid (∃ oo : Int × Int, ∀ w, Past W w → Calls Try.prog 13 #[.agg #[.int .i64 (fewD n0).op, a1, .int .i64 (fewD n0).k, .int .i64 (fewD n0).stride, .int .i64 (fewD n0).pad, .int .i64 (fewD n0).out, .int .i64 (fewD n0).mul, .int .i64 (fewD n0).shift, .int .i64 (fewD n0).zero, .int .i64 (fewD n0).th, .int .i64 (fewD n0).tw, .int .i64 (fewD n0).tc, a2, a3], .slice (some ⟨lb, lo, none⟩) vs.length c1, .int .i64 ((f : Int) + j), .int .i64 1] w fun e w' => e = .returned (.tuple #[.agg #[.int .i64 A, .int .i64 B, .int .i64 oo.1, .int .i64 oo.2], .int .i64 0]) ∧ Grown w w') := Lib.hid (by
              have e := KN.out ((f : Int) + j) 1 (R1.out j hjr)
              rw [gj] at e
              exact ⟨_, e⟩)
            obtain ⟨oo, NE⟩ := NE.out
            have NE := Lib.hid NE
            have GJ := Lib.hid hAB
            clear gj hAB
            have wj : -9223372036854775808 ≤ (f : Int) + (j : Int) ∧ (f : Int) + (j : Int) ≤ 9223372036854775807 := by omega
            go_wp2_with (refine wpList_load_box rfl 28 (.tmp 3) rfl W.heap.size #[.int .i64 (fewD n0).op, a1, .int .i64 (fewD n0).k, .int .i64 (fewD n0).stride, .int .i64 (fewD n0).pad, .int .i64 (fewD n0).out, .int .i64 (fewD n0).mul, .int .i64 (fewD n0).shift, .int .i64 (fewD n0).zero, .int .i64 (fewD n0).th, .int .i64 (fewD n0).tw, .int .i64 (fewD n0).tc, a2, a3] rfl b39 Try.underlying28 rfl N14 ?_)
            refine (NE.out _ p9).mono ?_
            rintro e w10 ⟨rfl, g10⟩
            have b310 := box_grown g10 b39 (by omega)
            have b1410 := box_grown g10 b14 (by omega)
            have ch10 := cell_grown g10 ch (Nat.lt_of_lt_of_le hlb p9.2.2.1)
            have p10 := past_trans3 p9 g10
            have z10 : P14 + 1 ≤ w10.heap.size := by have := g10.2.2; omega
            clear b39 b14 ch p9 z9 g10
            have hlb10 : lb < w10.heap.size := Nat.lt_of_lt_of_le hlb p10.2.2.1
            go_upto_region 22 with fail
            refine opq (fun w' => (∀ o : Nat, w'.cell? ⟨W.heap.size, o, none⟩ = (#[.int .i64 (fewD n0).op, a1, .int .i64 (fewD n0).k, .int .i64 (fewD n0).stride, .int .i64 (fewD n0).pad, .int .i64 (fewD n0).out, .int .i64 (fewD n0).mul, .int .i64 (fewD n0).shift, .int .i64 (fewD n0).zero, .int .i64 (fewD n0).th, .int .i64 (fewD n0).tw, .int .i64 (fewD n0).tc, a2, a3] : Array Value)[o]?) ∧ (∀ o : Nat, w'.cell? ⟨P14, o, none⟩ = (#[.int .i64 p.1, .int .i64 p.2, .int .i64 q.1, .int .i64 q.2] : Array Value)[o]?) ∧ (∀ o : Nat, w'.cell? ⟨w10.heap.size, o, none⟩ = (#[.int .i64 A, .int .i64 B, .int .i64 oo.1, .int .i64 oo.2] : Array Value)[o]?) ∧ w'.cell? ⟨lb, lo, none⟩ = some (.int .i64 h) ∧ Past W w' ∧ P14 + 1 ≤ w'.heap.size) (by (((try dsimp only); (try go_split_ands); (repeat' with_reducible apply And.intro)) <;> ((repeat (first | (with_reducible (first | assumption | refine kbS ?_ | refine has_set ?_ | refine kcS ?_ | refine free_set ?_ | refine size_set ?_ | refine kgS ?_ | refine kpS ?_ | refine box_drewN ?_ | refine has_drewN ?_ | refine cell_drewN ?_ | refine free_drewN ?_ | refine size_drewN ?_ | refine Grown.drewN ?_ | refine Past.drewN ?_ | refine box_drew ?_ | refine has_drew ?_ | refine cell_drew ?_ | refine free_drew ?_ | refine size_drew ?_ | refine Grown.drew ?_ | refine Past.drew ?_ | exact kbN | refine kbO ?_ | refine khA ?_ | refine kcA ?_ | refine free_alloc ?_ | exact ksA | refine Grown.alloc ?_ _ _ | refine Past.alloc ?_ _ | exact kbG | exact khG | exact kcG | exact ksG | exact kfG | exact kgG | exact kbP | exact kfP | exact khP | exact kcP | exact ksP | exact kpP | exact kfN | refine Grown.past ?_ | exact Grown.refl _ | exact Past.refl _)) | omega)); done))) ?_
            rintro w11 ⟨b3, b14, b20, ch, p11, z11⟩
            obtain ⟨P20, hP20⟩ : ∃ P20, w10.heap.size = P20 := ⟨_, rfl⟩
            rw [hP20] at b20
            simp only [hP20]
            clear hP20 b310 b1410 ch10 p10 z10 hlb10
            have dA : decide (A < 0) = false := decide_eq_false (by omega)
            have dB : decide (B > h) = false := decide_eq_false (by omega)
            have dB' : decide (h < B) = false := decide_eq_false (by omega)
            have il : (0 : Nat) < vs.length := by omega
            have il2 : (0 : Int) < (vs.length : Int) := by omega
            refine wp_region_fill (fun w' => (∀ o : Nat, w'.cell? ⟨W.heap.size, o, none⟩ = (#[.int .i64 (fewD n0).op, a1, .int .i64 (fewD n0).k, .int .i64 (fewD n0).stride, .int .i64 (fewD n0).pad, .int .i64 (fewD n0).out, .int .i64 (fewD n0).mul, .int .i64 (fewD n0).shift, .int .i64 (fewD n0).zero, .int .i64 (fewD n0).th, .int .i64 (fewD n0).tw, .int .i64 (fewD n0).tc, a2, a3] : Array Value)[o]?) ∧ (∀ o : Nat, w'.cell? ⟨P14, o, none⟩ = (#[.int .i64 p.1, .int .i64 p.2, .int .i64 q.1, .int .i64 q.2] : Array Value)[o]?) ∧ (∀ o : Nat, w'.cell? ⟨P20, o, none⟩ = (#[.int .i64 A, .int .i64 B, .int .i64 oo.1, .int .i64 oo.2] : Array Value)[o]?) ∧ w'.cell? ⟨lb, lo, none⟩ = some (.int .i64 h) ∧ Past W w' ∧ P14 + 1 ≤ w'.heap.size) [(99, ?va099), (100, ?va0100), (101, ?va0101), (102, ?va0102), (103, ?va0103), (104, ?va0104), (105, ?va0105), (106, ?va0106), (107, ?va0107), (108, ?va0108), (109, ?va0109), (110, ?va0110), (111, ?va0111), (112, ?va0112), (113, ?va0113), (114, ?va0114), (115, ?va0115), (116, ?va0116), (117, ?va0117), (118, ?va0118), (119, ?va0119), (120, ?va0120)] [99, 100, 101, 102, 103, 104, 105, 106, 107, 108, 109, 110, 111, 112, 113, 114, 115, 116, 117, 118, 119, 120] (by kernel_rfl) (by kernel_rfl) rfl (by kernel_rfl) ⟨b3, b14, b20, ch, p11, z11⟩ (fun w h => h) ?alla0 ?fina0
            case alla0 =>
              simp only [fillA, Act.put, List.setIfInBounds_toArray, List.set_cons_zero, List.set_cons_succ]
              iterate 22 (refine owes_cons (fun w hw K hK => ?_) ?_; focus ((have hS := Lib.hid hw); go_split_ands; go_simp; (try simp only [Act.put, List.setIfInBounds_toArray, List.set_cons_zero, List.set_cons_succ]); first | exact hK _ hS.out))
              exact True.intro
            case fina0 =>
              rintro w12 ⟨b3, b14, b20, ch, p12, z12⟩
              simp only [fillA, Act.put, List.setIfInBounds_toArray, List.set_cons_zero, List.set_cons_succ]
              go_upto_region 24 with fail
              refine wp_region_fill (fun w' => (∀ o : Nat, w'.cell? ⟨W.heap.size, o, none⟩ = (#[.int .i64 (fewD n0).op, a1, .int .i64 (fewD n0).k, .int .i64 (fewD n0).stride, .int .i64 (fewD n0).pad, .int .i64 (fewD n0).out, .int .i64 (fewD n0).mul, .int .i64 (fewD n0).shift, .int .i64 (fewD n0).zero, .int .i64 (fewD n0).th, .int .i64 (fewD n0).tw, .int .i64 (fewD n0).tc, a2, a3] : Array Value)[o]?) ∧ (∀ o : Nat, w'.cell? ⟨P14, o, none⟩ = (#[.int .i64 p.1, .int .i64 p.2, .int .i64 q.1, .int .i64 q.2] : Array Value)[o]?) ∧ (∀ o : Nat, w'.cell? ⟨P20, o, none⟩ = (#[.int .i64 A, .int .i64 B, .int .i64 oo.1, .int .i64 oo.2] : Array Value)[o]?) ∧ w'.cell? ⟨lb, lo, none⟩ = some (.int .i64 h) ∧ Past W w' ∧ P14 + 1 ≤ w'.heap.size) [(121, ?vb0121), (122, ?vb0122), (123, ?vb0123), (124, ?vb0124), (125, ?vb0125), (126, ?vb0126), (127, ?vb0127), (128, ?vb0128), (129, ?vb0129)] [121, 122, 123, 124, 125, 126, 127, 128, 129] (by kernel_rfl) (by kernel_rfl) rfl (by kernel_rfl) ⟨b3, b14, b20, ch, p12, z12⟩ (fun w h => h) ?allb0 ?finb0
              case allb0 =>
                simp only [fillA, Act.put, List.setIfInBounds_toArray, List.set_cons_zero, List.set_cons_succ]
                iterate 9 (refine owes_cons (fun w hw K hK => ?_) ?_; focus ((have hS := Lib.hid hw); go_split_ands; go_simp; (try simp only [Act.put, List.setIfInBounds_toArray, List.set_cons_zero, List.set_cons_succ]); first | exact hK _ hS.out))
                exact True.intro
              case finb0 =>
                rintro w13 ⟨b3, b14, b20, ch, p13, z13⟩
                simp only [fillA, Act.put, List.setIfInBounds_toArray, List.set_cons_zero, List.set_cons_succ]
                by_cases cab : A < B
                · have dab : decide (A < B) = true := decide_eq_true cab
                  have sn := Lib.hid (spanN_yes GJ.out hs.out cab)
                  go_wp2_with fail
                  all_goals
                    go_roundw
                    case rel => exact ⟨j + 1, _, _, rfl, by omega, by go_num, rfl, rfl, Lib.hid (by rw [sn.out]; simp only [Prod.mk.injEq]; omega), b3, b14, p13, z13, ch⟩
                    case measure => simp [intOf]; omega
                · have dab : decide (A < B) = false := decide_eq_false cab
                  have sn := Lib.hid (spanN_no GJ.out hs.out cab)
                  go_wp2_with fail
                  go_roundw
                  case rel => exact ⟨j + 1, _, _, rfl, by omega, by go_num, rfl, rfl, sn, b3, b14, p13, z13, ch⟩
                  case measure => simp [intOf]; omega
          · obtain rfl : j = r + 1 := by omega
            have d1 : decide ((f : Int) + ((r + 1 : Nat) : Int) < (f : Int) + (1 + (r : Int))) = false := decide_eq_false (by omega)
            have E : Hid (p.1 = (if d = 0 then 0 else c) ∧ p.2 = d) := Lib.hid (by
              have e := HGG.out
              rw [hs.out] at e
              rw [HP.out] at e
              rw [e]
              exact ⟨rfl, rfl⟩)
            by_cases cd : d = 0
            · have ea : p.1 = 0 := by have := E.out.1; rw [if_pos cd] at this; exact this
              have eb : p.2 = 0 := E.out.2.trans cd
              subst cd
              rw [ea, eb] at b14
              go_wp2_with fail
              go_roundw
              case rel => exact ⟨1, rfl, by omega, by go_num, b39, by rw [ea, eb]; exact b14, p9, z9⟩
              case measure => simp [intOf]; omega
            · have ea : p.1 = c := by have := E.out.1; rw [if_neg cd] at this; exact this
              have eb : p.2 = d := E.out.2
              have dd : (d == 0) = false := by rw [beq_eq_false_iff_ne]; exact cd
              rw [ea, eb] at b14
              go_wp2_with fail
              go_roundw
              case rel => exact ⟨1, rfl, by omega, by go_num, b39, by rw [ea, eb]; exact b14, p9, z9⟩
              case measure => simp [intOf]; omega
      · simp only [Nat.zero_mul, Nat.one_mul, Nat.add_zero] at ch
        have zk : ((1 : Nat) : Int) = 1 := rfl
        simp only [zk]
        clear zk
        have e2 := eq2t
        go_wp2_with fail
        obtain ⟨wR, hwR⟩ : ∃ wR, wR = wr := ⟨wr, rfl⟩
        subst hwR
        go_loopw [6, 17, 18, 19] (fun s6 fr tq rr wq => ∃ (j : Nat) (c d : Int), s6 = .bool false ∧ j ≤ r + 1 ∧ rr = .int .i64 ((f : Int) + j) ∧ fr = .int .i64 c ∧ tq = .int .i64 d ∧ Hid (spanN g j = (c, d)) ∧ (∀ o : Nat, wq.cell? ⟨W.heap.size, o, none⟩ = (#[.int .i64 (fewD n0).op, a1, .int .i64 (fewD n0).k, .int .i64 (fewD n0).stride, .int .i64 (fewD n0).pad, .int .i64 (fewD n0).out, .int .i64 (fewD n0).mul, .int .i64 (fewD n0).shift, .int .i64 (fewD n0).zero, .int .i64 (fewD n0).th, .int .i64 (fewD n0).tw, .int .i64 (fewD n0).tc, a2, a3] : Array Value)[o]?) ∧ (∀ o : Nat, wq.cell? ⟨P14, o, none⟩ = (#[.int .i64 p.1, .int .i64 p.2, .int .i64 q.1, .int .i64 q.2] : Array Value)[o]?) ∧ Past W wq ∧ P14 + 1 ≤ wq.heap.size ∧ (wq.cell? ⟨lb, lo + 4, none⟩ = some (.int .i64 h))) (fun _ _ _ rr _ => f + r + 1 - (intOf rr).toNat)
        case atStart => exact ⟨0, 99, 0, rfl, by omega, by go_num, rfl, rfl, Lib.hid rfl, b39, b14, p9, z9, ch⟩
        case round =>
          clear b39 b14 p9 z9 ch
          obtain ⟨j, c, d, rfl, hj, rfl, rfl, rfl, hs, b39, b14, p9, z9, ch⟩ := hrel
          by_cases hjr : j < r + 1
          · have d1 : decide ((f : Int) + (j : Int) < (f : Int) + (1 + (r : Int))) = true := decide_eq_true (by omega)
            obtain ⟨gj, gj0, gj1⟩ := HG.out j hjr
            obtain ⟨⟨A, B⟩, hAB⟩ : ∃ t, g j = t := ⟨_, rfl⟩
            rw [hAB] at gj gj0 gj1
            rw [HH.out] at gj1
            simp only at gj0 gj1
            have NE : Hid (∃ oo : Int × Int, ∀ w, Past W w → Calls Try.prog 13 #[.agg #[.int .i64 (fewD n0).op, a1, .int .i64 (fewD n0).k, .int .i64 (fewD n0).stride, .int .i64 (fewD n0).pad, .int .i64 (fewD n0).out, .int .i64 (fewD n0).mul, .int .i64 (fewD n0).shift, .int .i64 (fewD n0).zero, .int .i64 (fewD n0).th, .int .i64 (fewD n0).tw, .int .i64 (fewD n0).tc, a2, a3], .slice (some ⟨lb, lo, none⟩) vs.length c1, .int .i64 ((f : Int) + j), .int .i64 1] w fun e w' => e = .returned (.tuple #[.agg #[.int .i64 oo.1, .int .i64 oo.2, .int .i64 A, .int .i64 B], .int .i64 0]) ∧ Grown w w') := Lib.hid (by
              have e := KN.out ((f : Int) + j) 1 (R1.out j hjr)
              rw [if_pos (show vs.length = 2 by omega), gj] at e
              exact ⟨_, e⟩)
            obtain ⟨oo, NE⟩ := NE.out
            have NE := Lib.hid NE
            have GJ := Lib.hid hAB
            clear gj hAB
            have wj : -9223372036854775808 ≤ (f : Int) + (j : Int) ∧ (f : Int) + (j : Int) ≤ 9223372036854775807 := by omega
            go_wp2_with (refine wpList_load_box rfl 28 (.tmp 3) rfl W.heap.size #[.int .i64 (fewD n0).op, a1, .int .i64 (fewD n0).k, .int .i64 (fewD n0).stride, .int .i64 (fewD n0).pad, .int .i64 (fewD n0).out, .int .i64 (fewD n0).mul, .int .i64 (fewD n0).shift, .int .i64 (fewD n0).zero, .int .i64 (fewD n0).th, .int .i64 (fewD n0).tw, .int .i64 (fewD n0).tc, a2, a3] rfl b39 Try.underlying28 rfl N14 ?_)
            refine (NE.out _ p9).mono ?_
            rintro e w10 ⟨rfl, g10⟩
            have b310 := box_grown g10 b39 (by omega)
            have b1410 := box_grown g10 b14 (by omega)
            have ch10 := cell_grown g10 ch (Nat.lt_of_lt_of_le hlb p9.2.2.1)
            have p10 := past_trans3 p9 g10
            have z10 : P14 + 1 ≤ w10.heap.size := by have := g10.2.2; omega
            clear b39 b14 ch p9 z9 g10
            have hlb10 : lb < w10.heap.size := Nat.lt_of_lt_of_le hlb p10.2.2.1
            go_upto_region 22 with fail
            refine opq (fun w' => (∀ o : Nat, w'.cell? ⟨W.heap.size, o, none⟩ = (#[.int .i64 (fewD n0).op, a1, .int .i64 (fewD n0).k, .int .i64 (fewD n0).stride, .int .i64 (fewD n0).pad, .int .i64 (fewD n0).out, .int .i64 (fewD n0).mul, .int .i64 (fewD n0).shift, .int .i64 (fewD n0).zero, .int .i64 (fewD n0).th, .int .i64 (fewD n0).tw, .int .i64 (fewD n0).tc, a2, a3] : Array Value)[o]?) ∧ (∀ o : Nat, w'.cell? ⟨P14, o, none⟩ = (#[.int .i64 p.1, .int .i64 p.2, .int .i64 q.1, .int .i64 q.2] : Array Value)[o]?) ∧ (∀ o : Nat, w'.cell? ⟨w10.heap.size, o, none⟩ = (#[.int .i64 oo.1, .int .i64 oo.2, .int .i64 A, .int .i64 B] : Array Value)[o]?) ∧ w'.cell? ⟨lb, lo + 4, none⟩ = some (.int .i64 h) ∧ Past W w' ∧ P14 + 1 ≤ w'.heap.size) (by (((try dsimp only); (try go_split_ands); (repeat' with_reducible apply And.intro)) <;> ((repeat (first | (with_reducible (first | assumption | refine kbS ?_ | refine has_set ?_ | refine kcS ?_ | refine free_set ?_ | refine size_set ?_ | refine kgS ?_ | refine kpS ?_ | refine box_drewN ?_ | refine has_drewN ?_ | refine cell_drewN ?_ | refine free_drewN ?_ | refine size_drewN ?_ | refine Grown.drewN ?_ | refine Past.drewN ?_ | refine box_drew ?_ | refine has_drew ?_ | refine cell_drew ?_ | refine free_drew ?_ | refine size_drew ?_ | refine Grown.drew ?_ | refine Past.drew ?_ | exact kbN | refine kbO ?_ | refine khA ?_ | refine kcA ?_ | refine free_alloc ?_ | exact ksA | refine Grown.alloc ?_ _ _ | refine Past.alloc ?_ _ | exact kbG | exact khG | exact kcG | exact ksG | exact kfG | exact kgG | exact kbP | exact kfP | exact khP | exact kcP | exact ksP | exact kpP | exact kfN | refine Grown.past ?_ | exact Grown.refl _ | exact Past.refl _)) | omega)); done))) ?_
            rintro w11 ⟨b3, b14, b20, ch, p11, z11⟩
            obtain ⟨P20, hP20⟩ : ∃ P20, w10.heap.size = P20 := ⟨_, rfl⟩
            rw [hP20] at b20
            simp only [hP20]
            clear hP20 b310 b1410 ch10 p10 z10 hlb10
            have dA : decide (A < 0) = false := decide_eq_false (by omega)
            have dB : decide (B > h) = false := decide_eq_false (by omega)
            have dB' : decide (h < B) = false := decide_eq_false (by omega)
            have il : (1 : Nat) < vs.length := by omega
            have il2 : (1 : Int) < (vs.length : Int) := by omega
            refine wp_region_fill (fun w' => (∀ o : Nat, w'.cell? ⟨W.heap.size, o, none⟩ = (#[.int .i64 (fewD n0).op, a1, .int .i64 (fewD n0).k, .int .i64 (fewD n0).stride, .int .i64 (fewD n0).pad, .int .i64 (fewD n0).out, .int .i64 (fewD n0).mul, .int .i64 (fewD n0).shift, .int .i64 (fewD n0).zero, .int .i64 (fewD n0).th, .int .i64 (fewD n0).tw, .int .i64 (fewD n0).tc, a2, a3] : Array Value)[o]?) ∧ (∀ o : Nat, w'.cell? ⟨P14, o, none⟩ = (#[.int .i64 p.1, .int .i64 p.2, .int .i64 q.1, .int .i64 q.2] : Array Value)[o]?) ∧ (∀ o : Nat, w'.cell? ⟨P20, o, none⟩ = (#[.int .i64 oo.1, .int .i64 oo.2, .int .i64 A, .int .i64 B] : Array Value)[o]?) ∧ w'.cell? ⟨lb, lo + 4, none⟩ = some (.int .i64 h) ∧ Past W w' ∧ P14 + 1 ≤ w'.heap.size) [(99, ?va199), (100, ?va1100), (101, ?va1101), (102, ?va1102), (103, ?va1103), (104, ?va1104), (105, ?va1105), (106, ?va1106), (107, ?va1107), (108, ?va1108), (109, ?va1109), (110, ?va1110), (111, ?va1111), (112, ?va1112), (113, ?va1113), (114, ?va1114), (115, ?va1115), (116, ?va1116), (117, ?va1117), (118, ?va1118), (119, ?va1119), (120, ?va1120)] [99, 100, 101, 102, 103, 104, 105, 106, 107, 108, 109, 110, 111, 112, 113, 114, 115, 116, 117, 118, 119, 120] (by kernel_rfl) (by kernel_rfl) rfl (by kernel_rfl) ⟨b3, b14, b20, ch, p11, z11⟩ (fun w h => h) ?alla1 ?fina1
            case alla1 =>
              simp only [fillA, Act.put, List.setIfInBounds_toArray, List.set_cons_zero, List.set_cons_succ]
              iterate 22 (refine owes_cons (fun w hw K hK => ?_) ?_; focus ((have hS := Lib.hid hw); go_split_ands; go_simp; (try simp only [Act.put, List.setIfInBounds_toArray, List.set_cons_zero, List.set_cons_succ]); first | exact hK _ hS.out))
              exact True.intro
            case fina1 =>
              rintro w12 ⟨b3, b14, b20, ch, p12, z12⟩
              simp only [fillA, Act.put, List.setIfInBounds_toArray, List.set_cons_zero, List.set_cons_succ]
              go_upto_region 24 with fail
              refine wp_region_fill (fun w' => (∀ o : Nat, w'.cell? ⟨W.heap.size, o, none⟩ = (#[.int .i64 (fewD n0).op, a1, .int .i64 (fewD n0).k, .int .i64 (fewD n0).stride, .int .i64 (fewD n0).pad, .int .i64 (fewD n0).out, .int .i64 (fewD n0).mul, .int .i64 (fewD n0).shift, .int .i64 (fewD n0).zero, .int .i64 (fewD n0).th, .int .i64 (fewD n0).tw, .int .i64 (fewD n0).tc, a2, a3] : Array Value)[o]?) ∧ (∀ o : Nat, w'.cell? ⟨P14, o, none⟩ = (#[.int .i64 p.1, .int .i64 p.2, .int .i64 q.1, .int .i64 q.2] : Array Value)[o]?) ∧ (∀ o : Nat, w'.cell? ⟨P20, o, none⟩ = (#[.int .i64 oo.1, .int .i64 oo.2, .int .i64 A, .int .i64 B] : Array Value)[o]?) ∧ w'.cell? ⟨lb, lo + 4, none⟩ = some (.int .i64 h) ∧ Past W w' ∧ P14 + 1 ≤ w'.heap.size) [(121, ?vb1121), (122, ?vb1122), (123, ?vb1123), (124, ?vb1124), (125, ?vb1125), (126, ?vb1126), (127, ?vb1127), (128, ?vb1128), (129, ?vb1129)] [121, 122, 123, 124, 125, 126, 127, 128, 129] (by kernel_rfl) (by kernel_rfl) rfl (by kernel_rfl) ⟨b3, b14, b20, ch, p12, z12⟩ (fun w h => h) ?allb1 ?finb1
              case allb1 =>
                simp only [fillA, Act.put, List.setIfInBounds_toArray, List.set_cons_zero, List.set_cons_succ]
                iterate 9 (refine owes_cons (fun w hw K hK => ?_) ?_; focus ((have hS := Lib.hid hw); go_split_ands; go_simp; (try simp only [Act.put, List.setIfInBounds_toArray, List.set_cons_zero, List.set_cons_succ]); first | exact hK _ hS.out))
                exact True.intro
              case finb1 =>
                rintro w13 ⟨b3, b14, b20, ch, p13, z13⟩
                simp only [fillA, Act.put, List.setIfInBounds_toArray, List.set_cons_zero, List.set_cons_succ]
                by_cases cab : A < B
                · have dab : decide (A < B) = true := decide_eq_true cab
                  have sn := Lib.hid (spanN_yes GJ.out hs.out cab)
                  go_wp2_with fail
                  all_goals
                    go_roundw
                    case rel => exact ⟨j + 1, _, _, rfl, by omega, by go_num, rfl, rfl, Lib.hid (by rw [sn.out]; simp only [Prod.mk.injEq]; omega), b3, b14, p13, z13, ch⟩
                    case measure => simp [intOf]; omega
                · have dab : decide (A < B) = false := decide_eq_false cab
                  have sn := Lib.hid (spanN_no GJ.out hs.out cab)
                  go_wp2_with fail
                  go_roundw
                  case rel => exact ⟨j + 1, _, _, rfl, by omega, by go_num, rfl, rfl, sn, b3, b14, p13, z13, ch⟩
                  case measure => simp [intOf]; omega
          · obtain rfl : j = r + 1 := by omega
            have d1 : decide ((f : Int) + ((r + 1 : Nat) : Int) < (f : Int) + (1 + (r : Int))) = false := decide_eq_false (by omega)
            have E : Hid (q.1 = (if d = 0 then 0 else c) ∧ q.2 = d) := Lib.hid (by
              have e := HGG.out
              rw [hs.out] at e
              have q1 := HQ.out
              rw [if_pos (show vs.length = 2 by omega), e] at q1
              rw [← q1]
              exact ⟨rfl, rfl⟩)
            by_cases cd : d = 0
            · have ea : q.1 = 0 := by have := E.out.1; rw [if_pos cd] at this; exact this
              have eb : q.2 = 0 := E.out.2.trans cd
              subst cd
              rw [ea, eb] at b14
              go_wp2_with fail
              go_roundw
              case rel => exact ⟨2, rfl, by omega, by go_num, b39, by rw [ea, eb]; exact b14, p9, z9⟩
              case measure => simp [intOf]; omega
            · have ea : q.1 = c := by have := E.out.1; rw [if_neg cd] at this; exact this
              have eb : q.2 = d := E.out.2
              have dd : (d == 0) = false := by rw [beq_eq_false_iff_ne]; exact cd
              rw [ea, eb] at b14
              go_wp2_with fail
              go_roundw
              case rel => exact ⟨2, rfl, by omega, by go_num, b39, by rw [ea, eb]; exact b14, p9, z9⟩
              case measure => simp [intOf]; omega
    · have dk : decide ((k : Int) < (vs.length : Int)) = false := decide_eq_false (by omega)
      go_wp2_with fail
      go_ret
      exact ⟨rfl, p9⟩
end Go.Proofs.Ytbkigldffcgodaa
