/- The walk of KernBeside. -/
import Derived.Test.YtbkigldffcgodaaMBa
import Derived.Test.YtbkigldffcgodaaMDa
import Derived.Test.YtbkigldffcgodaaMLg
import Derived.Test.YtbkigldffcgodaaMFixP
namespace Go.Proofs.Ytbkigldffcgodaa
open Go.ChangeShapes Go.WideShapes Go.ChangeAt Go.RowKit
set_option maxRecDepth 20000
set_option linter.unusedVariables false
set_option linter.unusedSimpArgs false

set_option maxHeartbeats 4000000 in
theorem beside_no (W : World) (dv : Value) (x : DataD) (hx : IsData W dv x) (wv : Value) (ws : List Int) (hw : IsNums .i8 W wv ws) (hp : ¬ pairOk x.l) :
    Calls Try.prog 9 #[dv, wv] W fun e w' => e = .returned (.bool true) ∧ Past W w' := by
  obtain ⟨lv, s0, s1, rfl, hl, h0, h1⟩ := hx
  obtain ⟨Aw, cw, rfl, _⟩ := hw
  have PN := Lib.hid (fun w (g : Past W w) => qpair_no lv s0 s1 x.l x.xs x.ys w (hl.grow g) (h0.grow g) (h1.grow g) hp)
  obtain ⟨A0, c0, rfl, _⟩ := h0
  obtain ⟨A1, c1, rfl, _⟩ := h1
  obtain ⟨A, cap, rfl, _⟩ := hl
  go_enter Try.func9, Try.ntmps9
  go_upto_region 1 with fail
  refine opq (fun w' => (∀ o : Nat, w'.cell? ⟨W.heap.size, o, none⟩ = (#[.slice A x.l.length cap, .slice A0 x.xs.length c0, .slice A1 x.ys.length c1] : Array Value)[o]?) ∧ Past W w' ∧ W.heap.size + 1 ≤ w'.heap.size) (by (((try dsimp only); (try go_split_ands); (repeat' with_reducible apply And.intro)) <;> ((repeat (first | (with_reducible (first | assumption | refine kbS ?_ | refine has_set ?_ | refine kcS ?_ | refine free_set ?_ | refine size_set ?_ | refine kgS ?_ | refine kpS ?_ | refine box_drewN ?_ | refine has_drewN ?_ | refine cell_drewN ?_ | refine free_drewN ?_ | refine size_drewN ?_ | refine Grown.drewN ?_ | refine Past.drewN ?_ | refine box_drew ?_ | refine has_drew ?_ | refine cell_drew ?_ | refine free_drew ?_ | refine size_drew ?_ | refine Grown.drew ?_ | refine Past.drew ?_ | exact kbN | refine kbO ?_ | refine khA ?_ | refine kcA ?_ | refine free_alloc ?_ | exact ksA | refine Grown.alloc ?_ _ _ | refine Past.alloc ?_ _ | exact kbG | exact khG | exact kcG | exact ksG | exact kfG | exact kgG | exact kbP | exact kfP | exact khP | exact kcP | exact ksP | exact kpP | exact kfN | refine Grown.past ?_ | exact Grown.refl _ | exact Past.refl _)) | omega)); done))) ?_
  rintro w1 ⟨b3, p1, z1⟩
  go_wp2_with fail
  refine (shown_any _).mono ?_
  rintro e w2 ⟨rfl, p2⟩
  have b32 := box_past p2 b3 (by omega)
  have pW := p1.trans p2
  clear b3 p1 p2
  go_wp2_with fail
  refine (PN.out _ pW).mono ?_
  rintro e w3 ⟨rfl, p3⟩
  have pX := pW.trans p3
  clear b32 pW p3
  go_wp2_with fail
  go_ret
  exact ⟨rfl, by (((try dsimp only); (try go_split_ands); (repeat' with_reducible apply And.intro)) <;> ((repeat (first | (with_reducible (first | assumption | refine kbS ?_ | refine has_set ?_ | refine kcS ?_ | refine free_set ?_ | refine size_set ?_ | refine kgS ?_ | refine kpS ?_ | refine box_drewN ?_ | refine has_drewN ?_ | refine cell_drewN ?_ | refine free_drewN ?_ | refine size_drewN ?_ | refine Grown.drewN ?_ | refine Past.drewN ?_ | refine box_drew ?_ | refine has_drew ?_ | refine cell_drew ?_ | refine free_drew ?_ | refine size_drew ?_ | refine Grown.drew ?_ | refine Past.drew ?_ | exact kbN | refine kbO ?_ | refine khA ?_ | refine kcA ?_ | refine free_alloc ?_ | exact ksA | refine Grown.alloc ?_ _ _ | refine Past.alloc ?_ _ | exact kbG | exact khG | exact kcG | exact ksG | exact kfG | exact kgG | exact kbP | exact kfP | exact khP | exact kcP | exact ksP | exact kpP | exact kfN | refine Grown.past ?_ | exact Grown.refl _ | exact Past.refl _)) | omega)); done))⟩

/-- The cells of the first of two values. -/
theorem two_cells {w : World} {b : Nat} {u y : ValD} (h : IsVals w (.slice (some ⟨b, 0, none⟩) 2 2) [u, y]) : b < w.heap.size ∧ w.cell? ⟨b, 0, none⟩ = some (.int .i64 u.h) ∧ w.cell? ⟨b, 1, none⟩ = some (.int .i64 u.w) ∧ w.cell? ⟨b, 2, none⟩ = some (.int .i64 u.c) ∧ w.cell? ⟨b, 3, none⟩ = some (.int .i64 u.z) := by
  obtain ⟨_, _, e, _, _, _, _, h⟩ := h
  simp only [Value.slice.injEq] at e
  obtain ⟨rfl, _, rfl⟩ := e
  obtain ⟨b', o', e, hb, hc⟩ := h (by simp)
  simp only [Option.some.injEq, Addr.mk.injEq, and_true] at e
  obtain ⟨rfl, rfl⟩ := e
  exact ⟨hb, hc 0 (by simp)⟩
theorem vals_one_of {w : World} {b : Nat} {u y : ValD} (h : IsVals w (.slice (some ⟨b, 0, none⟩) 2 2) [u, y]) : IsVals w (.slice (some ⟨b, 0, none⟩) 1 2) [u] := vals_few (xs := [u, y]) 1 h (by simp)
theorem past_cell {w w' : World} {p : Addr} {v : Value} (g : Past w w') (hb : p.block < w.heap.size) (h : w.cell? p = some v) : w'.cell? p = some v := cell_past g h hb

set_option maxHeartbeats 60000000 in
theorem beside_yes (W : World) (dv : Value) (x : DataD) (hx : IsData W dv x) (wv : Value) (ws : List Int) (hw : IsNums .i8 W wv ws) (hp : pairOk x.l) :
    Calls Try.prog 9 #[dv, wv] W fun e w' => e = .returned (.bool true) ∧ Past W w' := by
  obtain ⟨lv, s0, s1, rfl, hl, h0, h1⟩ := hx
  have HW := Lib.hid hw
  have TB := Lib.hid (tabL_bd (nums_bd8 hw))
  obtain ⟨Aw, cw, rfl, aw1, aw2, _⟩ := hw
  have kw : ws.length ≤ 9223372036854775807 := by unfold maxLen at aw2; omega
  obtain ⟨v, hv⟩ : ∃ v, x.l.getD 0 default = v := ⟨_, rfl⟩
  have PY := Lib.hid (fun w (g : Past W w) => qpair_yes lv s0 s1 x.l v x.xs x.ys w (hl.grow g) (h0.grow g) (h1.grow g) hp hv)
  have hm : mayV (heldV v) := by have := hp.2; rw [hv] at this; exact this
  have hz : -128 ≤ (heldV v).z ∧ (heldV v).z ≤ 127 := by show -128 ≤ fx.held (-128) 127 v.z ∧ fx.held (-128) 127 v.z ≤ 127; unfold fx.held; omega
  obtain ⟨D0, hD0⟩ : ∃ D, dataL (heldV v) x.xs = D := ⟨_, rfl⟩
  obtain ⟨D1, hD1⟩ : ∃ D, dataL (heldV v) x.ys = D := ⟨_, rfl⟩
  have B0 : ∀ q ∈ D0, -128 ≤ q ∧ q ≤ 127 := by rw [← hD0]; exact fillL_bd (nums_bd8 h0) _
  have B1 : ∀ q ∈ D1, -128 ≤ q ∧ q ≤ 127 := by rw [← hD1]; exact fillL_bd (nums_bd8 h1) _
  have F0 : FullV (viewOf (heldV v) D0) := viewOf_full hm hz (by rw [← hD0]; exact dataL_len hm) B0
  have F1 : FullV (viewOf (heldV v) D1) := viewOf_full hm hz (by rw [← hD1]; exact dataL_len hm) B1
  simp only [hD0, hD1] at PY
  obtain ⟨u, hu⟩ : ∃ u, heldV v = u := ⟨_, rfl⟩
  simp only [hu] at PY hm hz F0 F1
  obtain ⟨H, Wd, C, eh, ew, ec, es, hH, hW, hC, _, _, C1⟩ := size_nat hm
  obtain ⟨N, hN⟩ : ∃ N, H * (Wd * C) = N := ⟨_, rfl⟩
  have sz : sizeI u.h u.w u.c = (N : Int) := by rw [es, hN]
  have N2 : N ≤ 2048 := by have := (idx_lt_size hm).2; omega
  have l0 : D0.length = N := by have := F0.2.2.2.2.1; have e : ((viewOf u D0).xs.length : Int) = D0.length := rfl; rw [e] at this; have : (D0.length : Int) = N := this.trans sz; omega
  have l1 : D1.length = N := by have := F1.2.2.2.2.1; have e : ((viewOf u D1).xs.length : Int) = D1.length := rfl; rw [e] at this; have : (D1.length : Int) = N := this.trans sz; omega
  obtain ⟨A0, c0, rfl, _⟩ := h0
  obtain ⟨A1, c1, rfl, _⟩ := h1
  obtain ⟨A, cap, rfl, _⟩ := hl
  obtain ⟨i0, hi0, hz0, hz1, hz2⟩ := info_parts infoI8
  have I1 := Lib.hid hi0
  have I2 := Lib.hid hz0
  have I3 := Lib.hid hz1
  have I4 := Lib.hid hz2
  have HM := Lib.hid hm
  have HZ := Lib.hid hz
  have HF0 := Lib.hid F0
  have HF1 := Lib.hid F1
  have EH := Lib.hid eh
  have EW := Lib.hid ew
  have EC := Lib.hid ec
  have HN := Lib.hid hN
  have HL0 := Lib.hid l0
  have HL1 := Lib.hid l1
  have HB0 := Lib.hid B0
  have HB1 := Lib.hid B1
  clear hi0 hz0 hz1 hz2 F0 F1 hm hz hp hv hu hD0 hD1 es sz eh ew ec hN l0 l1 B0 B1
  go_enter Try.func9, Try.ntmps9
  go_upto_region 1 with fail
  refine opq (fun w' => (∀ o : Nat, w'.cell? ⟨W.heap.size, o, none⟩ = (#[.slice A x.l.length cap, .slice A0 x.xs.length c0, .slice A1 x.ys.length c1] : Array Value)[o]?) ∧ Past W w' ∧ W.heap.size + 1 ≤ w'.heap.size) (by (((try dsimp only); (try go_split_ands); (repeat' with_reducible apply And.intro)) <;> ((repeat (first | (with_reducible (first | assumption | refine kbS ?_ | refine has_set ?_ | refine kcS ?_ | refine free_set ?_ | refine size_set ?_ | refine kgS ?_ | refine kpS ?_ | refine box_drewN ?_ | refine has_drewN ?_ | refine cell_drewN ?_ | refine free_drewN ?_ | refine size_drewN ?_ | refine Grown.drewN ?_ | refine Past.drewN ?_ | refine box_drew ?_ | refine has_drew ?_ | refine cell_drew ?_ | refine free_drew ?_ | refine size_drew ?_ | refine Grown.drew ?_ | refine Past.drew ?_ | exact kbN | refine kbO ?_ | refine khA ?_ | refine kcA ?_ | refine free_alloc ?_ | exact ksA | refine Grown.alloc ?_ _ _ | refine Past.alloc ?_ _ | exact kbG | exact khG | exact kcG | exact ksG | exact kfG | exact kgG | exact kbP | exact kfP | exact khP | exact kcP | exact ksP | exact kpP | exact kfN | refine Grown.past ?_ | exact Grown.refl _ | exact Past.refl _)) | omega)); done))) ?_
  rintro w1 ⟨b3, p1, z1⟩
  go_wp2_with fail
  refine (shown_any _).mono ?_
  rintro e w2 ⟨rfl, p2⟩
  have b32 := box_past p2 b3 (by omega)
  have pW := p1.trans p2
  clear b3 p1 p2 z1
  go_wp2_with fail
  refine (PY.out _ pW).mono ?_
  rintro e w3 ⟨tb, u0, u1, rfl, hv3, o0, o1, p3⟩
  obtain ⟨V0, k0, rfl⟩ := o0.form
  obtain ⟨V1, k1, rfl⟩ := o1.form
  have pX := pW.trans p3
  have V3 := Lib.hid hv3
  have N0 := Lib.hid (o0.nums HB0.out)
  have N1 := Lib.hid (o1.nums HB1.out)
  obtain ⟨htb, _, _, ct2, ct3⟩ := two_cells hv3
  rw [EC.out] at ct2
  obtain ⟨z, hzz⟩ : ∃ z, u.z = z := ⟨_, rfl⟩
  rw [hzz] at ct3
  have HZZ := Lib.hid hzz
  clear b32 pW p3 hv3 o0 o1 PY hzz
  by_cases c4 : 4 < C
  · have d4 : decide ((C : Int) > 4) = true := decide_eq_true (by omega)
    have d4' : decide ((4 : Int) < (C : Int)) = true := decide_eq_true (by omega)
    go_wp2_with fail
    go_ret
    exact ⟨rfl, by (((try dsimp only); (try go_split_ands); (repeat' with_reducible apply And.intro)) <;> ((repeat (first | (with_reducible (first | assumption | refine kbS ?_ | refine has_set ?_ | refine kcS ?_ | refine free_set ?_ | refine size_set ?_ | refine kgS ?_ | refine kpS ?_ | refine box_drewN ?_ | refine has_drewN ?_ | refine cell_drewN ?_ | refine free_drewN ?_ | refine size_drewN ?_ | refine Grown.drewN ?_ | refine Past.drewN ?_ | refine box_drew ?_ | refine has_drew ?_ | refine cell_drew ?_ | refine free_drew ?_ | refine size_drew ?_ | refine Grown.drew ?_ | refine Past.drew ?_ | exact kbN | refine kbO ?_ | refine khA ?_ | refine kcA ?_ | refine free_alloc ?_ | exact ksA | refine Grown.alloc ?_ _ _ | refine Past.alloc ?_ _ | exact kbG | exact khG | exact kcG | exact ksG | exact kfG | exact kgG | exact kbP | exact kfP | exact khP | exact kcP | exact ksP | exact kpP | exact kfN | refine Grown.past ?_ | exact Grown.refl _ | exact Past.refl _)) | omega)); done))⟩
  have d4 : decide ((C : Int) > 4) = false := decide_eq_false (by omega)
  have d4' : decide ((4 : Int) < (C : Int)) = false := decide_eq_false (by omega)
  have MC := Lib.hid (cat_make HM.out HZ.out (by have := EC.out; omega) HF0.out HF1.out)
  rw [HZZ.out] at MC
  obtain ⟨LP, hLP⟩ : ∃ L, allL (pairK 10 1 0 z) (viewOf u D0) (viewOf u D1) (u.h, u.w, u.c + u.c) (Wd * (C + C)) (H * (Wd * (C + C))) = L := ⟨_, rfl⟩
  have CA := Lib.hid (fun (tv sa sb : Value) (w : World) (hv : IsVals w tv [u, u]) (ha : IsNums .i8 w sa D0) (hb : IsNums .i8 w sb D1) => All_2 (pairK 10 1 0 z) (.slice none 0 0) (.slice none 0 0) (.slice none 0 0) tv (u.h, u.w, u.c + u.c) (viewOf u D0) (viewOf u D1) sa sb [u, u] w MC.out rfl ⟨nums_nil _ _, nums_nil _ _, nums_nil _ _⟩ hv ha hb)
  have cc : (u.c + u.c).toNat = C + C := by have := EC.out; omega
  have hh : u.h.toNat = H := by have := EH.out; omega
  have wwd : u.w.toNat = Wd := by have := EW.out; omega
  simp only [cc, hh, wwd, hLP] at CA
  have BP : ∀ q ∈ LP, -128 ≤ q ∧ q ≤ 127 := by have := allL_bd MC.out (no_ws rfl); simp only [cc, hh, wwd, hLP] at this; exact this
  have HBP := Lib.hid BP
  have lp : LP.length = 2 * N := by rw [← hLP, allL_len, ← HN.out, Nat.mul_add, Nat.mul_add]; omega
  have CAT := Lib.hid (fun i (hi : i < N) => by have := cat_at D0 D1 HM.out EH.out EW.out EC.out (i := i) (by rw [HN.out]; exact hi); rw [HZZ.out, hLP] at this; exact this)
  have n2 : H * (Wd * (C + C)) = 2 * N := by rw [← HN.out, Nat.mul_add, Nat.mul_add]; omega
  simp only [n2] at CAT
  obtain ⟨T, hT⟩ : ∃ T, tabL ws 256 = T := ⟨_, rfl⟩
  have lT : T.length = 256 := by rw [← hT]; exact tabL_len _ _
  have BT : ∀ q ∈ T, -128 ≤ q ∧ q ≤ 127 := by rw [← hT]; exact TB.out 256 (Nat.le_refl _)
  have HT := Lib.hid hT
  obtain ⟨LQ, hLQ⟩ : ∃ L, allL (tabK T) (viewOf u D0) (⟨⟨0, 0, 0, 0⟩, 0, 0, []⟩ : ViewD) (u.h, u.w, u.c) (Wd * C) N = L := ⟨_, rfl⟩
  have MT := Lib.hid (tab_make lT HM.out HF0.out (⟨⟨0, 0, 0, 0⟩, 0, 0, []⟩ : ViewD))
  have CT := Lib.hid (fun (tv vw sa sb : Value) (w : World) (hv : IsVals w tv [u]) (hw : IsNums .i8 w vw T) (ha : IsNums .i8 w sa D0) => All_1 (tabK T) (.slice none 0 0) vw (.slice none 0 0) tv (u.h, u.w, u.c) (viewOf u D0) sa sb [u] w MT.out rfl ⟨nums_nil _ _, hw, nums_nil _ _⟩ hv ha)
  have cc1 : u.c.toNat = C := by have := EC.out; omega
  simp only [cc1, hh, wwd, HN.out, hLQ] at CT
  have BQ : ∀ q ∈ LQ, -128 ≤ q ∧ q ≤ 127 := by have := allL_bd MT.out (fun k => getD_i8 BT k); simp only [cc1, hh, wwd, HN.out, hLQ] at this; exact this
  have HBQ := Lib.hid BQ
  have lq : LQ.length = N := by rw [← hLQ, allL_len]
  have TAB := Lib.hid (fun i (hi : i < N) => by have := tab_at (T := T) D0 (⟨⟨0, 0, 0, 0⟩, 0, 0, []⟩ : ViewD) HM.out EH.out EW.out EC.out (i := i) (by rw [HN.out]; exact hi); rw [HN.out, hLQ] at this; exact this)
  have HLP := Lib.hid lp
  have HLQ := Lib.hid lq
  have HLT := Lib.hid lT
  have HBT := Lib.hid BT
  clear hLP hLQ BP BQ lp lq lT BT hT cc hh wwd cc1 n2
  go_upto_region 6 with fail
  refine opq (fun w' => (∀ o : Nat, w'.cell? ⟨w3.heap.size, o, none⟩ = (#[.slice V0 D0.length k0, .slice V1 D1.length k1] : Array Value)[o]?) ∧ Past w3 w' ∧ w3.heap.size + 1 ≤ w'.heap.size) (by (((try dsimp only); (try go_split_ands); (repeat' with_reducible apply And.intro)) <;> ((repeat (first | (with_reducible (first | assumption | refine kbS ?_ | refine has_set ?_ | refine kcS ?_ | refine free_set ?_ | refine size_set ?_ | refine kgS ?_ | refine kpS ?_ | refine box_drewN ?_ | refine has_drewN ?_ | refine cell_drewN ?_ | refine free_drewN ?_ | refine size_drewN ?_ | refine Grown.drewN ?_ | refine Past.drewN ?_ | refine box_drew ?_ | refine has_drew ?_ | refine cell_drew ?_ | refine free_drew ?_ | refine size_drew ?_ | refine Grown.drew ?_ | refine Past.drew ?_ | exact kbN | refine kbO ?_ | refine khA ?_ | refine kcA ?_ | refine free_alloc ?_ | exact ksA | refine Grown.alloc ?_ _ _ | refine Past.alloc ?_ _ | exact kbG | exact khG | exact kcG | exact ksG | exact kfG | exact kgG | exact kbP | exact kfP | exact khP | exact kcP | exact ksP | exact kpP | exact kfN | refine Grown.past ?_ | exact Grown.refl _ | exact Past.refl _)) | omega)); done))) ?_
  rintro w4 ⟨b7, p4, z4⟩
  obtain ⟨P7, hP7⟩ : ∃ P7, w3.heap.size = P7 := ⟨_, rfl⟩
  have n7 : tb < P7 := by omega
  have n3 : w3.heap.size ≤ P7 := by omega
  have n4 : P7 < w4.heap.size := by omega
  rw [hP7] at b7
  simp only [hP7]
  have ct4 := cell_past p4 ct3 htb
  have htb4 : tb < w4.heap.size := by omega
  clear hP7
  have z4' : P7 + 1 ≤ w4.heap.size := by omega
  refine wp_region_late (α := Option Addr × Nat) 7 50 [7, 8, 9, 10, 11, 12] (fun p => .tuple #[.slice p.1 LP.length p.2, .int .i64 0]) (fun w' => (∀ o : Nat, w'.cell? ⟨P7, o, none⟩ = (#[.slice V0 D0.length k0, .slice V1 D1.length k1] : Array Value)[o]?) ∧ Past w3 w' ∧ P7 + 1 ≤ w'.heap.size ∧ w'.cell? ⟨tb, 3, none⟩ = some (.int .i64 z)) (fun p w' => (∀ o : Nat, w'.cell? ⟨P7, o, none⟩ = (#[.slice V0 D0.length k0, .slice V1 D1.length k1] : Array Value)[o]?) ∧ Past w3 w' ∧ P7 + 1 ≤ w'.heap.size ∧ w'.cell? ⟨tb, 3, none⟩ = some (.int .i64 z) ∧ Hid (IsNums .i8 w' (.slice p.1 LP.length p.2) LP)) [(43, ?va43), (44, ?va44), (45, ?va45), (46, ?va46), (47, ?va47), (48, ?va48), (49, ?va49)] [43, 44, 45, 46, 47, 48, 49] (fun p => [(42, .tuple #[.slice p.1 LP.length p.2, .int .i64 0]), (51, .slice p.1 LP.length p.2), (52, .int .i64 0), (10, .slice p.1 LP.length p.2), (11, .int .i64 0)]) [42, 51, 52, 10, 11] (by kernel_rfl) (by kernel_rfl) rfl (fun p => rfl) (by simp) ⟨b7, p4, z4', ct4⟩ (fun w h => h) ?alla ?cala ?lata ?fina
  case alla =>
    simp only [fillA, Act.put, List.setIfInBounds_toArray, List.set_cons_zero, List.set_cons_succ]
    (iterate 13 (first | refine owesb_skip rfl ?_ | (refine owesb_cons (fun w hw K hK => ?_) ?_; focus ((have hS := Lib.hid hw); go_split_ands; go_simp; (try simp only [Act.put, List.setIfInBounds_toArray, List.set_cons_zero, List.set_cons_succ]); exact hK _ hS.out))))
    exact True.intro
  case lata =>
    intro p
    simp only [fillA, Act.put, List.setIfInBounds_toArray, List.set_cons_zero, List.set_cons_succ]
    (iterate 13 (first | refine owesb_skip rfl ?_ | (refine owesb_cons (fun w hw K hK => ?_) ?_; focus ((have hS := Lib.hid hw); go_split_ands; go_simp; (try simp only [Act.put, List.setIfInBounds_toArray, List.set_cons_zero, List.set_cons_succ]); exact hK _ hS.out))))
    exact True.intro
  case cala =>
    simp only [fillA, Act.put, List.setIfInBounds_toArray, List.set_cons_zero, List.set_cons_succ]
    refine ⟨_, rfl, fun w hw K hK => ?_⟩
    obtain ⟨b75, p5, z5, ct5⟩ := hw
    go_simp
    refine (CA.out _ _ _ _ (V3.out.grow p5) (N0.out.grow p5) (N1.out.grow p5)).mono ?_
    rintro e w6 ⟨vp, rfl, op, pp⟩
    obtain ⟨Ap, kp, rfl⟩ := op.form
    have b76 := box_past pp b75 (by omega)
    have p6 := p5.trans pp
    have z6 : P7 + 1 ≤ w6.heap.size := by have := pp.2.2.1; omega
    have ct6 := cell_past pp ct5 (show tb < w.heap.size by omega)
    exact hK (Ap, kp) _ ⟨b76, p6, z6, ct6, Lib.hid (op.nums HBP.out)⟩
  case fina =>
    rintro ⟨Ap, kp⟩ w6 ⟨b76, p6, z6, ct6, NP⟩
    simp only [fillA, Act.put, List.setIfInBounds_toArray, List.set_cons_zero, List.set_cons_succ]
    clear b7 p4 z4 z4' ct4 htb4
    go_upto_region 8 with fail
    refine opq (fun w' => Own8 w' w6.heap.size (.slice (some ⟨w6.heap.size, 0, none⟩) 0 0) [] ∧ Past w6 w') ⟨own8_new (Nat.le_refl _), (Past.refl _).alloc _⟩ ?_
    rintro w7 ⟨own, p7⟩
    go_wp2_with fail
    go_loopw [12, 13] (fun tv i wr => ∃ k : Nat, k ≤ 256 ∧ i = .int .i64 k ∧ Hid (Own8 wr w6.heap.size tv (tabL ws k)) ∧ Past w6 wr) (fun _ i _ => 256 - (intOf i).toNat)
    case atStart => exact ⟨0, by omega, rfl, Lib.hid own, p7⟩
    case round =>
      obtain ⟨k, hk, rfl, hown, pr⟩ := hrel
      have zz : w6.heap.size ≤ wr.heap.size := pr.2.2.1
      by_cases hkl : k < 256
      · have d1 : decide ((k : Int) < 256) = true := decide_eq_true (by omega)
        have OW := Lib.hid hown.out
        have RS := Lib.hid (tabL_succ ws k)
        have e8 : IntKind.i8.wrap ((k : Int) - 128) = (k : Int) - 128 := IntWalk.i8_in _ (by omega)
        clear hown
        by_cases hz : 0 < ws.length
        · obtain ⟨lb, lo, e, _, _, _, hlb, hc⟩ := nums_parts HW.out hz
          subst e
          obtain ⟨j, hj⟩ : ∃ j, k % ws.length = j := ⟨_, rfl⟩
          have hjl : j < ws.length := by rw [← hj]; exact Nat.mod_lt _ hz
          obtain ⟨q, hq⟩ : ∃ q, ws.getD j 0 = q := ⟨_, rfl⟩
          have c0 := ((pX.trans (p6.trans pr)).cell (p := ⟨lb, lo + j, none⟩) hlb).trans (hc j hjl).1
          rw [hq] at c0
          have FF : Hid (tabF ws k = q) := Lib.hid (by unfold tabF; rw [if_pos hz, hj, hq])
          have d2 : decide ((ws.length : Int) > 0) = true := decide_eq_true (by omega)
          have d2' : decide ((0 : Int) < (ws.length : Int)) = true := decide_eq_true (by omega)
          have em : (k : Int) % (ws.length : Int) = (j : Int) := by rw [← hj, Int.natCast_emod]
          have et : Int.tmod (k : Int) (ws.length : Int) = (j : Int) := by rw [Int.tmod_eq_emod_of_nonneg (by omega)]; exact em
          have i1 : (0 : Int) ≤ (j : Int) := by omega
          have i2 : (j : Int) < (ws.length : Int) := by omega
          have i3 : ((ws.length : Int) == 0) = false := by rw [beq_eq_false_iff_ne]; omega
          clear hc hj hq
          go_wp2_with (at_builtin; refine wpList_append_own _ rfl (.tmp 71) (.tmp 73) 25 rfl w6.heap.size 52 i0 _ 1 1 Try.underlying25 I1.out I2.out I3.out I4.out rfl (by decide) _ _ _ rfl (World.ownsRow.alloc OW.out _) ⟨wr.heap.size, 0, none⟩ 1 1 [.int .i8 q] rfl rfl (fun j u hu => cells_new1 wr _ 52 j u hu) (by intro u hu; simp at hu; subst hu; rfl) ?c4 ?c5 ?c6 ?_)
          case c4 => unfold maxLen; rw [tabL_len]; omega
          case c5 => rw [tabL_len]; omega
          case c6 => first | omega | (simp; omega)
          intro v4 w4' hown4 hgrow _
          have ho4 := Lib.hid (own8_add hown4)
          have P4 := (pr.alloc (.cells #[.int .i8 q] 52)).grownBy hgrow (fun j hj => (OW.out.lt j hj).1)
          clear hown4 hgrow OW pr
          go_wp2_with fail
          go_roundw
          case rel => exact ⟨k + 1, by omega, by go_num, Lib.hid (by rw [RS.out, FF.out]; exact ho4.out), P4⟩
          case measure => simp [intOf]; omega
        · have FF : Hid (tabF ws k = (k : Int) - 128) := Lib.hid (by unfold tabF; rw [if_neg hz])
          have d2 : decide ((ws.length : Int) > 0) = false := decide_eq_false (by omega)
          have d2' : decide ((0 : Int) < (ws.length : Int)) = false := decide_eq_false (by omega)
          obtain ⟨q, hq⟩ : ∃ q, (k : Int) - 128 = q := ⟨_, rfl⟩
          rw [hq] at FF e8
          go_wp2_with (at_builtin; refine wpList_append_own _ rfl (.tmp 71) (.tmp 73) 25 rfl w6.heap.size 52 i0 _ 1 1 Try.underlying25 I1.out I2.out I3.out I4.out rfl (by decide) _ _ _ rfl (World.ownsRow.alloc OW.out _) ⟨wr.heap.size, 0, none⟩ 1 1 [.int .i8 q] rfl rfl (fun j u hu => cells_new1 wr _ 52 j u hu) (by intro u hu; simp at hu; subst hu; rfl) ?c4 ?c5 ?c6 ?_)
          case c4 => unfold maxLen; rw [tabL_len]; omega
          case c5 => rw [tabL_len]; omega
          case c6 => first | omega | (simp; omega)
          intro v4 w4' hown4 hgrow _
          have ho4 := Lib.hid (own8_add hown4)
          have P4 := (pr.alloc (.cells #[.int .i8 q] 52)).grownBy hgrow (fun j hj => (OW.out.lt j hj).1)
          clear hown4 hgrow OW pr
          go_wp2_with fail
          go_roundw
          case rel => exact ⟨k + 1, by omega, by go_num, Lib.hid (by rw [RS.out, FF.out]; exact ho4.out), P4⟩
          case measure => simp [intOf]; omega
      · obtain rfl : k = 256 := by omega
        have d1 : decide (((256 : Nat) : Int) < 256) = false := by decide
        have NT0 := hown.out.nums (TB.out 256 (Nat.le_refl _))
        have b7r := box_past pr b76 (by omega)
        have p8 := p6.trans pr
        have z8 : P7 + 1 ≤ wr.heap.size := by have := pr.2.2.1; omega
        have NPr := Lib.hid (NP.out.grow pr)
        obtain ⟨At, kt, rfl⟩ := hown.out.form
        rw [tabL_len] at NT0
        have NT0 := Lib.hid NT0
        rw [HT.out] at NT0
        try simp only [tabL_len]
        clear hown pr b76 p6 z6 ct6 own p7 NP
        go_wp2_with fail
        refine wp_region_late (α := Option Addr × Nat) 7 83 [7, 8, 9, 10, 11, 12] (fun p => .tuple #[.slice p.1 LQ.length p.2, .int .i64 0]) (fun w' => (∀ o : Nat, w'.cell? ⟨P7, o, none⟩ = (#[.slice V0 D0.length k0, .slice V1 D1.length k1] : Array Value)[o]?) ∧ Past wr w' ∧ P7 + 1 ≤ w'.heap.size) (fun p w' => (∀ o : Nat, w'.cell? ⟨P7, o, none⟩ = (#[.slice V0 D0.length k0, .slice V1 D1.length k1] : Array Value)[o]?) ∧ Past wr w' ∧ P7 + 1 ≤ w'.heap.size ∧ Hid (IsNums .i8 w' (.slice p.1 LQ.length p.2) LQ)) [(76, ?vb76), (77, ?vb77), (78, ?vb78), (79, ?vb79), (80, ?vb80), (81, ?vb81), (82, ?vb82)] [76, 77, 78, 79, 80, 81, 82] (fun p => [(75, .tuple #[.slice p.1 LQ.length p.2, .int .i64 0]), (84, .slice p.1 LQ.length p.2), (85, .int .i64 0), (15, .slice p.1 LQ.length p.2), (16, .int .i64 0)]) [75, 84, 85, 15, 16] (by kernel_rfl) (by kernel_rfl) rfl (fun p => rfl) (by simp) ⟨b7r, Past.refl _, z8⟩ (fun w h => h) ?allb ?calb ?latb ?finb
        case allb =>
          simp only [fillA, Act.put, List.setIfInBounds_toArray, List.set_cons_zero, List.set_cons_succ]
          (iterate 13 (first | refine owesb_skip rfl ?_ | (refine owesb_cons (fun w hw K hK => ?_) ?_; focus ((have hS := Lib.hid hw); go_split_ands; go_simp; (try simp only [Act.put, List.setIfInBounds_toArray, List.set_cons_zero, List.set_cons_succ]); exact hK _ hS.out))))
          exact True.intro
        case latb =>
          intro p
          simp only [fillA, Act.put, List.setIfInBounds_toArray, List.set_cons_zero, List.set_cons_succ]
          (iterate 13 (first | refine owesb_skip rfl ?_ | (refine owesb_cons (fun w hw K hK => ?_) ?_; focus ((have hS := Lib.hid hw); go_split_ands; go_simp; (try simp only [Act.put, List.setIfInBounds_toArray, List.set_cons_zero, List.set_cons_succ]); exact hK _ hS.out))))
          exact True.intro
        case calb =>
          simp only [fillA, Act.put, List.setIfInBounds_toArray, List.set_cons_zero, List.set_cons_succ]
          refine ⟨_, rfl, fun w hw K hK => ?_⟩
          obtain ⟨b79, p9, z9⟩ := hw
          go_simp
          refine (CT.out _ _ _ _ _ (vals_one_of (V3.out.grow (p8.trans p9))) (NT0.out.grow p9) (N0.out.grow (p8.trans p9))).mono ?_
          rintro e w10 ⟨vq, rfl, oq, pq⟩
          obtain ⟨Aq, kq, rfl⟩ := oq.form
          exact hK (Aq, kq) _ ⟨box_past pq b79 (by omega), p9.trans pq, by have := pq.2.2.1; omega, Lib.hid (oq.nums HBQ.out)⟩
        case finb =>
          rintro ⟨Aq, kq⟩ w10 ⟨b710, p10, z10, NQ⟩
          simp only [fillA, Act.put, List.setIfInBounds_toArray, List.set_cons_zero, List.set_cons_succ]
          have N0' := Lib.hid (N0.out.grow (p8.trans p10))
          have N1' := Lib.hid (N1.out.grow (p8.trans p10))
          have NP' := Lib.hid (NPr.out.grow p10)
          have NT' := Lib.hid (NT0.out.grow p10)
          have pF := pX.trans (p8.trans p10)
          have dl : D0.length ≤ 2048 := by have := HL0.out; omega
          have dp : D0.length = N := HL0.out
          have q1 : ((LP.length : Int) == 2 * (D0.length : Int)) = true := by rw [beq_iff_eq]; have := HLP.out; omega
          have q2 : ((LQ.length : Int) == (D0.length : Int)) = true := by rw [beq_iff_eq]; have := HLQ.out; omega
          have q1' : ((LP.length : Int) != 2 * (D0.length : Int)) = false := by simp only [bne, q1]; rfl
          have q2' : ((LQ.length : Int) != (D0.length : Int)) = false := by simp only [bne, q2]; rfl
          have DP := Lib.hid dp
          have ll := HLP.out
          have l1 := HL1.out
          have lq := HLQ.out
          have HLLP : Hid (LP.length = 2 * N) := Lib.hid ll
          have ct10 : w10.cell? ⟨tb, 2, none⟩ = some (.int .i64 C) := cell_past (p8.trans p10) ct2 htb
          clear b7r p8 z8 NPr p10 ct3 dp ll l1 lq
          go_wp2_with fail
          go_loopw [4, 17] (fun s4 i wq => ∃ k : Nat, s4 = .bool false ∧ k ≤ D0.length ∧ i = .int .i64 k ∧ Past w10 wq) (fun _ i _ => D0.length - (intOf i).toNat)
          case atStart => exact ⟨0, rfl, by omega, rfl, Past.refl _⟩
          case round =>
            obtain ⟨k, rfl, hk, rfl, pr⟩ := hrel
            by_cases hkl : k < D0.length
            · have kN : k < N := by have := DP.out; omega
              obtain ⟨cl, cp0, cp1⟩ := CAT.out k kN
              have tq := TAB.out k kN
              obtain ⟨a, ha⟩ : ∃ a, k / C = a := ⟨_, rfl⟩
              obtain ⟨b, hb⟩ : ∃ b, k % C = b := ⟨_, rfl⟩
              rw [ha, hb] at cl cp0 cp1
              obtain ⟨m, hm⟩ : ∃ m, a * 2 * C = m := ⟨_, rfl⟩
              rw [hm] at cl cp0 cp1
              obtain ⟨t, ht⟩ : ∃ t, m + b = t := ⟨_, rfl⟩
              rw [ht] at cl cp0 cp1
              obtain ⟨t2, ht2⟩ : ∃ t2, t + C = t2 := ⟨_, rfl⟩
              rw [ht2] at cl cp1
              have a2 : a ≤ k := by rw [← ha]; exact Nat.div_le_self _ _
              have da : (k : Int) / (C : Int) = (a : Int) := by rw [← ha, Int.natCast_ediv]
              have ta : Int.tdiv (k : Int) (C : Int) = (a : Int) := by rw [Int.tdiv_eq_ediv_of_nonneg (by omega)]; exact da
              have db : (k : Int) % (C : Int) = (b : Int) := by rw [← hb, Int.natCast_emod]
              have tb' : Int.tmod (k : Int) (C : Int) = (b : Int) := by rw [Int.tmod_eq_emod_of_nonneg (by omega)]; exact db
              have em : (a : Int) * 2 * (C : Int) = (m : Int) := by rw [← hm, Int.natCast_mul, Int.natCast_mul]; rfl
              have et : (m : Int) + (b : Int) = (t : Int) := by rw [← ht, Int.natCast_add]
              have et2 : (t : Int) + (C : Int) = (t2 : Int) := by rw [← ht2, Int.natCast_add]
              have c0 : ((C : Int) == 0) = false := by rw [beq_eq_false_iff_ne]; omega
              have d1 : decide ((k : Int) < (D0.length : Int)) = true := decide_eq_true (by omega)
              have lt2 : t2 ≤ 4096 ∧ t ≤ 4096 ∧ m ≤ 4096 := by omega
              obtain ⟨x0, hx0⟩ : ∃ x0, D0.getD k 0 = x0 := ⟨_, rfl⟩
              obtain ⟨x1, hx1⟩ : ∃ x1, D1.getD k 0 = x1 := ⟨_, rfl⟩
              obtain ⟨xq, hxq⟩ : ∃ xq, LQ.getD k 0 = xq := ⟨_, rfl⟩
              have xb := getD_i8 HB0.out k
              rw [hx0] at cp0 tq xb
              rw [hx1] at cp1
              rw [hxq] at tq
              obtain ⟨j, hj⟩ : ∃ j, (x0 + 128).toNat = j := ⟨_, rfl⟩
              rw [hj] at tq
              have ej : x0 + 128 = (j : Int) := by omega
              have j256 : j < T.length := by have := HLT.out; omega
              have LPl : t2 < LP.length ∧ t < LP.length := by have := HLLP.out; omega
              obtain ⟨pb, po, e1, _, _, _, hpb, hpc⟩ := nums_parts NP'.out (by omega)
              obtain ⟨ab, ao, e2, _, _, _, hab, hac⟩ := nums_parts N0'.out (by omega)
              obtain ⟨bb, bo, e3, _, _, _, hbb, hbc⟩ := nums_parts N1'.out (by have := HL1.out; omega)
              obtain ⟨qb, qo, e4, _, _, _, hqb, hqc⟩ := nums_parts NQ.out (by have := HLQ.out; omega)
              obtain ⟨sb, so, e5, n51, n52, n53, hsb, hsc⟩ := nums_parts NT'.out (by omega)
              clear n51 n52 n53
              subst e1 e2 e3 e4 e5
              have kk1 := past_cell (p := ⟨pb, po + t, none⟩) pr hpb (hpc t LPl.2).1
              have kk2 := past_cell (p := ⟨pb, po + t2, none⟩) pr hpb (hpc t2 LPl.1).1
              have kk3 := past_cell (p := ⟨ab, ao + k, none⟩) pr hab (hac k hkl).1
              have kk4 := past_cell (p := ⟨bb, bo + k, none⟩) pr hbb (hbc k (by have := HL1.out; omega)).1
              have kk5 := past_cell (p := ⟨qb, qo + k, none⟩) pr hqb (hqc k (by have := HLQ.out; omega)).1
              have kk6 := past_cell (p := ⟨sb, so + j, none⟩) pr hsb (hsc j j256).1
              rw [cp0] at kk1
              rw [cp1] at kk2
              rw [hx0] at kk3
              rw [hx1] at kk4
              rw [hxq] at kk5
              rw [← tq] at kk6
              have b7k := box_past pr b710 (by omega)
              have i1 : (t : Int) < (LP.length : Int) := by omega
              have i2 : (t2 : Int) < (LP.length : Int) := by omega
              have i3 : (k : Int) < (D0.length : Int) := by omega
              have i4 : (k : Int) < (D1.length : Int) := by have := HL1.out; have := DP.out; omega
              have i4' : k < D1.length := by omega
              have i5 : (k : Int) < (LQ.length : Int) := by have := HLQ.out; have := DP.out; omega
              have i5' : k < LQ.length := by omega
              have i6 : (j : Int) < (T.length : Int) := by omega
              have cne : ¬ C = 0 := by omega
              have v0 : IntKind.i64.wrap ((a : Int) * 2) = (a : Int) * 2 := IntWalk.i64_in _ (by omega)
              have v1 : IntKind.i64.wrap (m : Int) = (m : Int) := IntWalk.i64_in _ (by omega)
              have v2 : IntKind.i64.wrap (t : Int) = (t : Int) := IntWalk.i64_in _ (by omega)
              have v3 : IntKind.i64.wrap (t2 : Int) = (t2 : Int) := IntWalk.i64_in _ (by omega)
              have v4 : IntKind.i64.wrap (a : Int) = (a : Int) := IntWalk.i64_in _ (by omega)
              have v5 : IntKind.i64.wrap (j : Int) = (j : Int) := IntWalk.i64_in _ (by omega)
              have v6 : IntKind.i64.wrap x0 = x0 := IntWalk.i64_in _ (by omega)
              have nk : k ≤ D0.length := hk
              have wk : (k : Int) ≤ 2048 := by omega
              have wk' : IntKind.i64.wrap ((k : Int) + 1) = (k : Int) + 1 := IntWalk.i64_in _ (by omega)
              (try clear HW); (try clear TB); (try clear aw1); (try clear aw2); (try clear kw); (try clear hH); (try clear hW); (try clear hC); (try clear C1); (try clear N2); (try clear I1); (try clear I2); (try clear I3); (try clear I4); (try clear HM); (try clear HZ); (try clear HF0); (try clear HF1); (try clear EH); (try clear EW); (try clear EC); (try clear HN); (try clear HB0); (try clear HB1); (try clear pX); (try clear V3); (try clear N0); (try clear N1); (try clear htb); (try clear ct2); (try clear HZZ); (try clear c4); (try clear d4); (try clear d4'); (try clear MC); (try clear CA); (try clear HBP); (try clear CAT); (try clear HT); (try clear MT); (try clear CT); (try clear HBQ); (try clear TAB); (try clear HLP); (try clear HLQ); (try clear HLT); (try clear HBT); (try clear n7); (try clear n3); (try clear n4); (try clear NP); (try clear NT0); (try clear N0'); (try clear N1'); (try clear NP'); (try clear NT'); (try clear NQ); (try clear pF); (try clear dl); (try clear DP); (try clear HLLP); (try clear HL0); (try clear HL1); (try clear q1); (try clear q2); (try clear q1'); (try clear q2'); (try clear zz); (try clear hkN); (try clear b710); (try clear kN); (try clear a2); (try clear LPl); (try clear j256); (try clear hk); (try clear z10); (try clear ct10); (try clear hpb); (try clear hab); (try clear hbb); (try clear hqb); (try clear hsb); (try clear z4); (try clear p10); skip
              clear hpc hac hbc hqc hsc cl cp0 cp1 tq ha hb hm ht ht2 hx0 hx1 hxq hj
              have c0' : ¬ (C : Int) = 0 := by omega
              have HKL := Lib.hid hkl
              go_upto_region 21 with fail
              go_quiet (fail)
              go_upto_region 22 with fail
              go_quiet (fail)
              go_wp2_with fail
              go_roundw
              case rel => exact ⟨k + 1, rfl, by have := HKL.out; omega, by go_num, by (((try dsimp only); (try go_split_ands); (repeat' with_reducible apply And.intro)) <;> ((repeat (first | (with_reducible (first | assumption | refine kbS ?_ | refine has_set ?_ | refine kcS ?_ | refine free_set ?_ | refine size_set ?_ | refine kgS ?_ | refine kpS ?_ | refine box_drewN ?_ | refine has_drewN ?_ | refine cell_drewN ?_ | refine free_drewN ?_ | refine size_drewN ?_ | refine Grown.drewN ?_ | refine Past.drewN ?_ | refine box_drew ?_ | refine has_drew ?_ | refine cell_drew ?_ | refine free_drew ?_ | refine size_drew ?_ | refine Grown.drew ?_ | refine Past.drew ?_ | exact kbN | refine kbO ?_ | refine khA ?_ | refine kcA ?_ | refine free_alloc ?_ | exact ksA | refine Grown.alloc ?_ _ _ | refine Past.alloc ?_ _ | exact kbG | exact khG | exact kcG | exact ksG | exact kfG | exact kgG | exact kbP | exact kfP | exact khP | exact kcP | exact ksP | exact kpP | exact kfN | refine Grown.past ?_ | exact Grown.refl _ | exact Past.refl _)) | omega)); done))⟩
              case measure => have := HKL.out; simp [intOf]; omega
            · obtain rfl : k = D0.length := by omega
              have d1 : decide ((D0.length : Int) < (D0.length : Int)) = false := by simp
              have b7k := box_past pr b710 (by omega)
              go_wp2_with fail
              go_ret
              exact ⟨rfl, pF.trans pr⟩
end Go.Proofs.Ytbkigldffcgodaa
