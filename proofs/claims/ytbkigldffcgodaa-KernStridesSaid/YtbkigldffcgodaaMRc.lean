/- The walk of KernStrides. -/
import Derived.Test.YtbkigldffcgodaaMRy
namespace Go.Proofs.Ytbkigldffcgodaa
open Go.ChangeShapes Go.WideShapes Go.ChangeAt Go.RowKit
set_option maxRecDepth 20000
set_option linter.unusedVariables false
set_option linter.unusedSimpArgs false

theorem two_cellss {w : World} {b : Nat} {u y : ValD} (h : IsVals w (.slice (some ⟨b, 0, none⟩) 2 2) [u, y]) : b < w.heap.size ∧ w.cell? ⟨b, 0, none⟩ = some (.int .i64 u.h) ∧ w.cell? ⟨b, 1, none⟩ = some (.int .i64 u.w) ∧ w.cell? ⟨b, 2, none⟩ = some (.int .i64 u.c) ∧ w.cell? ⟨b, 3, none⟩ = some (.int .i64 u.z) := by
  obtain ⟨_, _, e, _, _, _, _, h⟩ := h
  simp only [Value.slice.injEq] at e
  obtain ⟨rfl, _, rfl⟩ := e
  obtain ⟨b', o', e, hb, hc⟩ := h (by simp)
  simp only [Option.some.injEq, Addr.mk.injEq, and_true] at e
  obtain ⟨rfl, rfl⟩ := e
  exact ⟨hb, hc 0 (by simp)⟩
theorem vals_one_ofs {w : World} {b : Nat} {u y : ValD} (h : IsVals w (.slice (some ⟨b, 0, none⟩) 2 2) [u, y]) : IsVals w (.slice (some ⟨b, 0, none⟩) 1 2) [u] := vals_few (xs := [u, y]) 1 h (by simp)
theorem past_cells {w w' : World} {p : Addr} {v : Value} (g : Past w w') (hb : p.block < w.heap.size) (h : w.cell? p = some v) : w'.cell? p = some v := cell_past g h hb

set_option maxHeartbeats 4000000 in
theorem strides_no (W : World) (dv : Value) (x : DataD) (hx : IsData W dv x) (x0 x1 : Int) (hx0 : (Lit.int .u8 x0).wf = true) (hx1 : (Lit.int .u8 x1).wf = true) (cv : Bool) (hp : ¬ pairOk x.l) :
    Calls Try.prog 10 #[dv, .agg #[.int .u8 x0, .int .u8 x1], .bool cv] W fun e w' => e = .returned (.bool true) ∧ Past W w' := by
  obtain ⟨lv, s0, s1, rfl, hl, h0, h1⟩ := hx
  have u0 : 0 ≤ x0 ∧ x0 ≤ 255 := by simpa [Lit.wf, IntKind.min, IntKind.max, IntKind.bits, IntKind.signed] using hx0
  have u1 : 0 ≤ x1 ∧ x1 ≤ 255 := by simpa [Lit.wf, IntKind.min, IntKind.max, IntKind.bits, IntKind.signed] using hx1
  obtain ⟨f, ef, tf, fH⟩ := rem_nats (a := x0) (H := 3) u0.1 (by decide)
  obtain ⟨g, hg⟩ : ∃ g, bits .and .u8 x1 1 = g := ⟨_, rfl⟩
  have gb := mask_u8 x1 1 (by decide) (by decide)
  rw [hg] at gb
  have PN := Lib.hid (fun w (g : Past W w) => qpair_no lv s0 s1 x.l x.xs x.ys w (hl.grow g) (h0.grow g) (h1.grow g) hp)
  obtain ⟨A0, c0, rfl, _⟩ := h0
  obtain ⟨A1, c1, rfl, _⟩ := h1
  obtain ⟨A, cap, rfl, _⟩ := hl
  go_enter Try.func10, Try.ntmps10
  go_upto_region 1 with fail
  refine opq (fun w' => (∀ o : Nat, w'.cell? ⟨W.heap.size, o, none⟩ = (#[.slice A x.l.length cap, .slice A0 x.xs.length c0, .slice A1 x.ys.length c1] : Array Value)[o]?) ∧ (∀ o : Nat, w'.cell? ⟨W.heap.size + 1, o, none⟩ = (#[.int .u8 x0, .int .u8 x1] : Array Value)[o]?) ∧ Past W w' ∧ W.heap.size + 2 ≤ w'.heap.size) (by (((try dsimp only); (try go_split_ands); (repeat' with_reducible apply And.intro)) <;> ((repeat (first | (with_reducible (first | assumption | refine kbS ?_ | refine has_set ?_ | refine kcS ?_ | refine free_set ?_ | refine size_set ?_ | refine kgS ?_ | refine kpS ?_ | refine box_drewN ?_ | refine has_drewN ?_ | refine cell_drewN ?_ | refine free_drewN ?_ | refine size_drewN ?_ | refine Grown.drewN ?_ | refine Past.drewN ?_ | refine box_drew ?_ | refine has_drew ?_ | refine cell_drew ?_ | refine free_drew ?_ | refine size_drew ?_ | refine Grown.drew ?_ | refine Past.drew ?_ | exact kbN | refine kbO ?_ | refine khA ?_ | refine kcA ?_ | refine free_alloc ?_ | exact ksA | refine Grown.alloc ?_ _ _ | refine Past.alloc ?_ _ | exact kbG | exact khG | exact kcG | exact ksG | exact kfG | exact kgG | exact kbP | exact kfP | exact khP | exact kcP | exact ksP | exact kpP | exact kfN | refine Grown.past ?_ | exact Grown.refl _ | exact Past.refl _)) | omega)); done))) ?_
  rintro w1 ⟨b3, bb, p1, z1⟩
  go_wp2_with fail
  refine (shown_any _).mono ?_
  rintro e w2 ⟨rfl, p2⟩
  have b32 := box_past p2 b3 (by omega)
  have bb2 := box_past p2 bb (by omega)
  have pW := p1.trans p2
  have z2 : W.heap.size + 2 ≤ w2.heap.size := by have := p2.2.2.1; omega
  clear b3 bb p1 p2 z1
  go_wp2_with fail
  refine (PN.out _ pW).mono ?_
  rintro e w3 ⟨rfl, p3⟩
  have bb3 := box_past p3 bb2 (by omega)
  have z3 : W.heap.size + 2 ≤ w3.heap.size := by have := p3.2.2.1; omega
  have pX := pW.trans p3
  clear b32 bb2 pW p3
  go_upto_region 3 with fail
  refine opq (fun w' => (∀ o : Nat, w'.cell? ⟨W.heap.size + 1, o, none⟩ = (#[.int .u8 x0, .int .u8 x1] : Array Value)[o]?) ∧ Past W w') (by (((try dsimp only); (try go_split_ands); (repeat' with_reducible apply And.intro)) <;> ((repeat (first | (with_reducible (first | assumption | refine kbS ?_ | refine has_set ?_ | refine kcS ?_ | refine free_set ?_ | refine size_set ?_ | refine kgS ?_ | refine kpS ?_ | refine box_drewN ?_ | refine has_drewN ?_ | refine cell_drewN ?_ | refine free_drewN ?_ | refine size_drewN ?_ | refine Grown.drewN ?_ | refine Past.drewN ?_ | refine box_drew ?_ | refine has_drew ?_ | refine cell_drew ?_ | refine free_drew ?_ | refine size_drew ?_ | refine Grown.drew ?_ | refine Past.drew ?_ | exact kbN | refine kbO ?_ | refine khA ?_ | refine kcA ?_ | refine free_alloc ?_ | exact ksA | refine Grown.alloc ?_ _ _ | refine Past.alloc ?_ _ | exact kbG | exact khG | exact kcG | exact ksG | exact kfG | exact kgG | exact kbP | exact kfP | exact khP | exact kcP | exact ksP | exact kpP | exact kfN | refine Grown.past ?_ | exact Grown.refl _ | exact Past.refl _)) | omega)); done))) ?_
  rintro w4 ⟨bb4, p4⟩
  clear bb3 pX
  go_wp2_with fail
  go_ret
  exact ⟨rfl, p4⟩

set_option maxHeartbeats 60000000 in
theorem strides_yes (W : World) (dv : Value) (x : DataD) (hx : IsData W dv x) (x0 x1 : Int) (hx0 : (Lit.int .u8 x0).wf = true) (hx1 : (Lit.int .u8 x1).wf = true) (cv : Bool) (hp : pairOk x.l) :
    Calls Try.prog 10 #[dv, .agg #[.int .u8 x0, .int .u8 x1], .bool cv] W fun e w' => e = .returned (.bool true) ∧ Past W w' := by
  obtain ⟨lv, s0, s1, rfl, hl, h0, h1⟩ := hx
  obtain ⟨v, hv⟩ : ∃ v, x.l.getD 0 default = v := ⟨_, rfl⟩
  have PY := Lib.hid (fun w (g : Past W w) => qpair_yes lv s0 s1 x.l v x.xs x.ys w (hl.grow g) (h0.grow g) (h1.grow g) hp hv)
  have hm : mayV (heldV v) := by have := hp.2; rw [hv] at this; exact this
  have hz : -128 ≤ (heldV v).z ∧ (heldV v).z ≤ 127 := by show -128 ≤ fx.held (-128) 127 v.z ∧ fx.held (-128) 127 v.z ≤ 127; unfold fx.held; omega
  obtain ⟨D0, hD0⟩ : ∃ D, dataL (heldV v) x.xs = D := ⟨_, rfl⟩
  obtain ⟨D1, hD1⟩ : ∃ D, dataL (heldV v) x.ys = D := ⟨_, rfl⟩
  have B0 : ∀ q ∈ D0, -128 ≤ q ∧ q ≤ 127 := by rw [← hD0]; exact fillL_bd (nums_bd8 h0) _
  have F0 : FullV (viewOf (heldV v) D0) := viewOf_full hm hz (by rw [← hD0]; exact dataL_len hm) B0
  simp only [hD0, hD1] at PY
  obtain ⟨u, hu⟩ : ∃ u, heldV v = u := ⟨_, rfl⟩
  simp only [hu] at PY hm hz F0
  obtain ⟨H, Wd, C, eh, ew, ec, es, hH, hW, hC, H1, W1, C1⟩ := size_nat hm
  obtain ⟨N, hN⟩ : ∃ N, H * (Wd * C) = N := ⟨_, rfl⟩
  have sz : sizeI u.h u.w u.c = (N : Int) := by rw [es, hN]
  have N2 : N ≤ 2048 := by have := (idx_lt_size hm).2; omega
  have l0 : D0.length = N := by have := F0.2.2.2.2.1; have e : ((viewOf u D0).xs.length : Int) = D0.length := rfl; rw [e] at this; have : (D0.length : Int) = N := this.trans sz; omega
  have ch : u.h.toNat = H := by omega
  have cw : u.w.toNat = Wd := by omega
  have cc : u.c.toNat = C := by omega
  have u0 : 0 ≤ x0 ∧ x0 ≤ 255 := by simpa [Lit.wf, IntKind.min, IntKind.max, IntKind.bits, IntKind.signed] using hx0
  have u1 : 0 ≤ x1 ∧ x1 ≤ 255 := by simpa [Lit.wf, IntKind.min, IntKind.max, IntKind.bits, IntKind.signed] using hx1
  obtain ⟨f, ef, tf, fH⟩ := rem_nats (a := x0) (H := 3) u0.1 (by decide)
  obtain ⟨g, hg⟩ : ∃ g, bits .and .u8 x1 1 = g := ⟨_, rfl⟩
  have gb := mask_u8 x1 1 (by decide) (by decide)
  rw [hg] at gb
  have HY := Lib.hid h1
  have BY := Lib.hid (nums_bd8 h1)
  obtain ⟨z, hzz⟩ : ∃ z, u.z = z := ⟨_, rfl⟩
  have HB0 := Lib.hid B0
  have HF0 := Lib.hid F0
  have HL0 := Lib.hid l0
  have EH := Lib.hid eh
  have EW := Lib.hid ew
  have EC := Lib.hid ec
  have HZZ := Lib.hid hzz
  obtain ⟨A0, c0, rfl, _⟩ := h0
  obtain ⟨A1, c1, rfl, a11, a12, _⟩ := h1
  have ylen : x.ys.length ≤ 9223372036854775807 := by unfold maxLen at a12; omega
  obtain ⟨A, cap, rfl, _⟩ := hl
  clear a11 a12 B0 F0 hm hp hv hu hD0 hD1 hN sz l0 ch cw cc es eh ew ec hzz hz
  obtain ⟨i0, hi0, hz0, hz1, hz2⟩ := info_parts infoI8
  have I1 := Lib.hid hi0
  have I2 := Lib.hid hz0
  have I3 := Lib.hid hz1
  have I4 := Lib.hid hz2
  clear hi0 hz0 hz1 hz2
  go_enter Try.func10, Try.ntmps10
  go_upto_region 1 with fail
  refine opq (fun w' => (∀ o : Nat, w'.cell? ⟨W.heap.size, o, none⟩ = (#[.slice A x.l.length cap, .slice A0 x.xs.length c0, .slice A1 x.ys.length c1] : Array Value)[o]?) ∧ (∀ o : Nat, w'.cell? ⟨W.heap.size + 1, o, none⟩ = (#[.int .u8 x0, .int .u8 x1] : Array Value)[o]?) ∧ Past W w' ∧ W.heap.size + 2 ≤ w'.heap.size) (by (((try dsimp only); (try go_split_ands); (repeat' with_reducible apply And.intro)) <;> ((repeat (first | (with_reducible (first | assumption | refine kbS ?_ | refine has_set ?_ | refine kcS ?_ | refine free_set ?_ | refine size_set ?_ | refine kgS ?_ | refine kpS ?_ | refine box_drewN ?_ | refine has_drewN ?_ | refine cell_drewN ?_ | refine free_drewN ?_ | refine size_drewN ?_ | refine Grown.drewN ?_ | refine Past.drewN ?_ | refine box_drew ?_ | refine has_drew ?_ | refine cell_drew ?_ | refine free_drew ?_ | refine size_drew ?_ | refine Grown.drew ?_ | refine Past.drew ?_ | exact kbN | refine kbO ?_ | refine khA ?_ | refine kcA ?_ | refine free_alloc ?_ | exact ksA | refine Grown.alloc ?_ _ _ | refine Past.alloc ?_ _ | exact kbG | exact khG | exact kcG | exact ksG | exact kfG | exact kgG | exact kbP | exact kfP | exact khP | exact kcP | exact ksP | exact kpP | exact kfN | refine Grown.past ?_ | exact Grown.refl _ | exact Past.refl _)) | omega)); done))) ?_
  rintro w1 ⟨b3, bb, p1, z1⟩
  go_wp2_with fail
  refine (shown_any _).mono ?_
  rintro e w2 ⟨rfl, p2⟩
  have b32 := box_past p2 b3 (by omega)
  have bb2 := box_past p2 bb (by omega)
  have pW := p1.trans p2
  have z2 : W.heap.size + 2 ≤ w2.heap.size := by have := p2.2.2.1; omega
  clear b3 bb p1 p2 z1
  go_wp2_with fail
  refine (PY.out _ pW).mono ?_
  rintro e w3 ⟨tb, u0', u1', rfl, hv3, o0, o1, p3⟩
  obtain ⟨V0, k0, rfl⟩ := o0.form
  obtain ⟨V1, k1, rfl⟩ := o1.form
  have pX := pW.trans p3
  have V3 := Lib.hid hv3
  have N0 := Lib.hid (o0.nums HB0.out)
  obtain ⟨htb, ct0, ct1, ct2, ct3⟩ := two_cellss hv3
  rw [HZZ.out] at ct3
  rw [EH.out] at ct0
  rw [EW.out] at ct1
  rw [EC.out] at ct2
  have b33 := box_past p3 b32 (by omega)
  have bb3 := box_past p3 bb2 (by omega)
  have z3 : W.heap.size + 2 ≤ w3.heap.size := by have := p3.2.2.1; omega
  clear b32 bb2 pW p3 hv3 o0 o1 PY z2
  have n2 : (1 : Int) ≤ 2 := by decide
  go_upto_region 3 with fail
  refine opq (fun w' => (∀ o : Nat, w'.cell? ⟨W.heap.size, o, none⟩ = (#[.slice A x.l.length cap, .slice A0 x.xs.length c0, .slice A1 x.ys.length c1] : Array Value)[o]?) ∧ (∀ o : Nat, w'.cell? ⟨W.heap.size + 1, o, none⟩ = (#[.int .u8 x0, .int .u8 x1] : Array Value)[o]?) ∧ (∀ o : Nat, w'.cell? ⟨w3.heap.size, o, none⟩ = (#[.slice V0 D0.length k0, .slice V1 D1.length k1] : Array Value)[o]?) ∧ Past w3 w' ∧ w3.heap.size + 1 ≤ w'.heap.size) (by (((try dsimp only); (try go_split_ands); (repeat' with_reducible apply And.intro)) <;> ((repeat (first | (with_reducible (first | assumption | refine kbS ?_ | refine has_set ?_ | refine kcS ?_ | refine free_set ?_ | refine size_set ?_ | refine kgS ?_ | refine kpS ?_ | refine box_drewN ?_ | refine has_drewN ?_ | refine cell_drewN ?_ | refine free_drewN ?_ | refine size_drewN ?_ | refine Grown.drewN ?_ | refine Past.drewN ?_ | refine box_drew ?_ | refine has_drew ?_ | refine cell_drew ?_ | refine free_drew ?_ | refine size_drew ?_ | refine Grown.drew ?_ | refine Past.drew ?_ | exact kbN | refine kbO ?_ | refine khA ?_ | refine kcA ?_ | refine free_alloc ?_ | exact ksA | refine Grown.alloc ?_ _ _ | refine Past.alloc ?_ _ | exact kbG | exact khG | exact kcG | exact ksG | exact kfG | exact kgG | exact kbP | exact kfP | exact khP | exact kcP | exact ksP | exact kpP | exact kfN | refine Grown.past ?_ | exact Grown.refl _ | exact Past.refl _)) | omega)); done))) ?_
  rintro w4 ⟨b34, bb4, b9, p4, z4⟩
  obtain ⟨P9, hP9⟩ : ∃ P9, w3.heap.size = P9 := ⟨_, rfl⟩
  obtain ⟨P3, hP3⟩ : ∃ P3, W.heap.size = P3 := ⟨_, rfl⟩
  have n9 : P9 < w4.heap.size := by omega
  have n3 : P3 < w4.heap.size := by omega
  have n4 : P3 + 1 < w4.heap.size := by omega
  rw [hP9] at b9
  rw [hP3] at b34 bb4
  simp only [hP9, hP3]
  have ct24 := cell_past p4 ct2 htb
  have ct34 := cell_past p4 ct3 htb
  have htb4 : tb < w4.heap.size := by omega
  have V4 := Lib.hid (vals_one_ofs (V3.out.grow p4))
  have N04 := Lib.hid (N0.out.grow p4)
  have pX := pX.trans p4
  clear p4 z4 z3 bb3 b33 ct0 ct1 ct2 ct3 htb V3 N0 hP9 hP3
  obtain ⟨K, hK⟩ : ∃ K, 1 + (f : Int) = K := ⟨_, rfl⟩
  have kk1 : 1 ≤ K := by omega
  have kk3 : K ≤ 3 := by omega
  obtain ⟨K2, hK2⟩ : ∃ K2, K * K = K2 := ⟨_, rfl⟩
  obtain ⟨M, hM⟩ : ∃ M : Nat, K2 * (C : Int) = M := ⟨(K2 * (C : Int)).toNat, by rcases (show K = 1 ∨ K = 2 ∨ K = 3 by omega) with rfl | rfl | rfl <;> (rw [← hK2]; omega)⟩
  have mk : 1 ≤ K2 ∧ K2 ≤ 9 ∧ M ≤ 72 := by rcases (show K = 1 ∨ K = 2 ∨ K = 3 by omega) with rfl | rfl | rfl <;> (rw [← hK2] at hM ⊢; omega)
  have vK2 : IntKind.i64.wrap K2 = K2 := IntWalk.i64_in _ (by omega)
  have vM : IntKind.i64.wrap (M : Int) = (M : Int) := IntWalk.i64_in _ (by omega)
  go_upto_region 7 with fail
  try simp only [hK]
  clear ef tf fH hK
  go_upto_region 8 with fail
  refine opq (fun w' => (∀ o : Nat, w'.cell? ⟨w4.heap.size, o, none⟩ = (#[.int .i64 4, .slice none 0 0, .int .i64 K, .int .i64 1, .int .i64 0, .int .i64 0, .int .i64 1, .int .i64 0, .int .i64 z, .int .i64 0, .int .i64 0, .int .i64 0, .slice none 0 0, .slice none 0 0] : Array Value)[o]?) ∧ (∀ o : Nat, w'.frozen? ⟨w4.heap.size, o, none⟩ = false) ∧ Past w4 w' ∧ w4.heap.size + 1 ≤ w'.heap.size) (by (((try dsimp only); (try go_split_ands); (repeat' with_reducible apply And.intro)) <;> ((repeat (first | (with_reducible (first | assumption | refine kbS ?_ | refine has_set ?_ | refine kcS ?_ | refine free_set ?_ | refine size_set ?_ | refine kgS ?_ | refine kpS ?_ | refine box_drewN ?_ | refine has_drewN ?_ | refine cell_drewN ?_ | refine free_drewN ?_ | refine size_drewN ?_ | refine Grown.drewN ?_ | refine Past.drewN ?_ | refine box_drew ?_ | refine has_drew ?_ | refine cell_drew ?_ | refine free_drew ?_ | refine size_drew ?_ | refine Grown.drew ?_ | refine Past.drew ?_ | exact kbN | refine kbO ?_ | refine khA ?_ | refine kcA ?_ | refine free_alloc ?_ | exact ksA | refine Grown.alloc ?_ _ _ | refine Past.alloc ?_ _ | exact kbG | exact khG | exact kcG | exact ksG | exact kfG | exact kgG | exact kbP | exact kfP | exact khP | exact kcP | exact ksP | exact kpP | exact kfN | refine Grown.past ?_ | exact Grown.refl _ | exact Past.refl _)) | omega)); done))) ?_
  rintro w5 ⟨b13, f13, p5, z5⟩
  obtain ⟨P13, hP13⟩ : ∃ P13, w4.heap.size = P13 := ⟨_, rfl⟩
  simp only [hP13]
  rw [hP13] at b13 f13 z5
  have n13 : P13 < w5.heap.size := by omega
  go_upto_if 51 with fail
  go_cut [14] (fun c14 w' => ∃ (op pad out mul sh zn : Int) (Aw : Option Addr) (kw : Nat) (Ab : Option Addr) (kb : Nat) (ws bs : List Int), Hid (op = 1 ∨ op = 4) ∧ (∀ o : Nat, w'.cell? ⟨P13, o, none⟩ = (#[.int .i64 op, .slice none 0 0, .int .i64 K, .int .i64 1, .int .i64 pad, .int .i64 out, .int .i64 mul, .int .i64 sh, .int .i64 zn, .int .i64 0, .int .i64 0, .int .i64 0, .slice Aw ws.length kw, .slice Ab bs.length kb] : Array Value)[o]?) ∧ Hid (IsNums .i8 w' (.slice Aw ws.length kw) ws) ∧ Hid (IsNums .i32 w' (.slice Ab bs.length kb) bs) ∧ Past w4 w' ∧ P13 + 1 ≤ w'.heap.size)
  case first =>
    cases cv with
    | false =>
      go_wp2_with fail
      go_meet
      exact ⟨4, 0, 0, 1, 0, z, none, 0, none, 0, [], [], Lib.hid (.inr rfl), b13, Lib.hid (nums_nil _ _), Lib.hid (nums_nil _ _), p5, z5⟩
    | true =>
      go_upto_region 10 with (refine wpList_store_box rfl 28 (.tmp 13) (.tmp 54) rfl P13 #[.int .i64 1, .slice none 0 0, .int .i64 K, .int .i64 1, .int .i64 0, .int .i64 1, .int .i64 3, .int .i64 4, .int .i64 0, .int .i64 0, .int .i64 0, .int .i64 0, .slice none 0 0, .slice (some ⟨w5.heap.size, 0, none⟩) 1 1] #[.int .i64 4, .slice none 0 0, .int .i64 K, .int .i64 1, .int .i64 0, .int .i64 0, .int .i64 1, .int .i64 0, .int .i64 z, .int .i64 0, .int .i64 0, .int .i64 0, .slice none 0 0, .slice none 0 0] ?h1 ?h2 ?h3 ?h4 ?h5 ?h6 ?h7 (fun w' => (∀ o : Nat, w'.cell? ⟨P13, o, none⟩ = (#[.int .i64 1, .slice none 0 0, .int .i64 K, .int .i64 1, .int .i64 0, .int .i64 1, .int .i64 3, .int .i64 4, .int .i64 0, .int .i64 0, .int .i64 0, .int .i64 0, .slice none 0 0, .slice (some ⟨w5.heap.size, 0, none⟩) 1 1] : Array Value)[o]?) ∧ (∀ o : Nat, w'.frozen? ⟨P13, o, none⟩ = false) ∧ (∀ o : Nat, w'.cell? ⟨w5.heap.size, o, none⟩ = (#[.int .i32 5] : Array Value)[o]?) ∧ Past w4 w' ∧ w5.heap.size + 1 ≤ w'.heap.size) ?h8 ?_; (case h1 => rfl); (case h2 => rfl); (case h3 => exact box_old b13 n13); (case h4 => exact free_alloc f13); (case h5 => rfl); (case h6 => exact N14); (case h7 => simp [Value.oneCell']); (case h8 => exact ⟨box_setAll (box_old b13 n13) rfl, free_setAll _ (free_alloc f13), box_setOther (by omega) _ _ _ (box_new rfl), past_setAll (by omega) _ _ _ (p5.alloc _), size_setAll _ _ _ (by simp)⟩); rintro w6 ⟨b136, f136, bq, p6, z6⟩)
      obtain ⟨PQ, hPQ⟩ : ∃ PQ, w5.heap.size = PQ := ⟨_, rfl⟩
      rw [hPQ] at b136 bq z6
      simp only [hPQ]
      have n136 : P13 < PQ := by omega
      clear b13 f13 hPQ
      have bb6 := box_past p6 bb4 n4
      go_upto_if 56 with fail
      go_cut [14] (fun c14 w' => ∃ pad : Int, (∀ o : Nat, w'.cell? ⟨P13, o, none⟩ = (#[.int .i64 1, .slice none 0 0, .int .i64 K, .int .i64 1, .int .i64 pad, .int .i64 1, .int .i64 3, .int .i64 4, .int .i64 0, .int .i64 0, .int .i64 0, .int .i64 0, .slice none 0 0, .slice (some ⟨PQ, 0, none⟩) 1 1] : Array Value)[o]?) ∧ (∀ o : Nat, w'.frozen? ⟨P13, o, none⟩ = false) ∧ (∀ o : Nat, w'.cell? ⟨PQ, o, none⟩ = (#[.int .i32 5] : Array Value)[o]?) ∧ Past w4 w' ∧ PQ + 1 ≤ w'.heap.size)
      case first =>
        by_cases ck : 1 < K
        · have d1 : decide (1 < K) = true := decide_eq_true ck
          have d1' : decide (K > 1) = true := decide_eq_true ck
          go_wp2_with fail
          go_meet
          exact ⟨g, box_eq (box_setAt b136 (by simp)) rfl, by (((try dsimp only); (try go_split_ands); (repeat' with_reducible apply And.intro)) <;> ((repeat (first | (with_reducible (first | assumption | refine kbS ?_ | refine has_set ?_ | refine kcS ?_ | refine free_set ?_ | refine size_set ?_ | refine kgS ?_ | refine kpS ?_ | refine box_drewN ?_ | refine has_drewN ?_ | refine cell_drewN ?_ | refine free_drewN ?_ | refine size_drewN ?_ | refine Grown.drewN ?_ | refine Past.drewN ?_ | refine box_drew ?_ | refine has_drew ?_ | refine cell_drew ?_ | refine free_drew ?_ | refine size_drew ?_ | refine Grown.drew ?_ | refine Past.drew ?_ | exact kbN | refine kbO ?_ | refine khA ?_ | refine kcA ?_ | refine free_alloc ?_ | exact ksA | refine Grown.alloc ?_ _ _ | refine Past.alloc ?_ _ | exact kbG | exact khG | exact kcG | exact ksG | exact kfG | exact kgG | exact kbP | exact kfP | exact khP | exact kcP | exact ksP | exact kpP | exact kfN | refine Grown.past ?_ | exact Grown.refl _ | exact Past.refl _)) | omega)); done)), by (((try dsimp only); (try go_split_ands); (repeat' with_reducible apply And.intro)) <;> ((repeat (first | (with_reducible (first | assumption | refine kbS ?_ | refine has_set ?_ | refine kcS ?_ | refine free_set ?_ | refine size_set ?_ | refine kgS ?_ | refine kpS ?_ | refine box_drewN ?_ | refine has_drewN ?_ | refine cell_drewN ?_ | refine free_drewN ?_ | refine size_drewN ?_ | refine Grown.drewN ?_ | refine Past.drewN ?_ | refine box_drew ?_ | refine has_drew ?_ | refine cell_drew ?_ | refine free_drew ?_ | refine size_drew ?_ | refine Grown.drew ?_ | refine Past.drew ?_ | exact kbN | refine kbO ?_ | refine khA ?_ | refine kcA ?_ | refine free_alloc ?_ | exact ksA | refine Grown.alloc ?_ _ _ | refine Past.alloc ?_ _ | exact kbG | exact khG | exact kcG | exact ksG | exact kfG | exact kgG | exact kbP | exact kfP | exact khP | exact kcP | exact ksP | exact kpP | exact kfN | refine Grown.past ?_ | exact Grown.refl _ | exact Past.refl _)) | omega)); done)), by (((try dsimp only); (try go_split_ands); (repeat' with_reducible apply And.intro)) <;> ((repeat (first | (with_reducible (first | assumption | refine kbS ?_ | refine has_set ?_ | refine kcS ?_ | refine free_set ?_ | refine size_set ?_ | refine kgS ?_ | refine kpS ?_ | refine box_drewN ?_ | refine has_drewN ?_ | refine cell_drewN ?_ | refine free_drewN ?_ | refine size_drewN ?_ | refine Grown.drewN ?_ | refine Past.drewN ?_ | refine box_drew ?_ | refine has_drew ?_ | refine cell_drew ?_ | refine free_drew ?_ | refine size_drew ?_ | refine Grown.drew ?_ | refine Past.drew ?_ | exact kbN | refine kbO ?_ | refine khA ?_ | refine kcA ?_ | refine free_alloc ?_ | exact ksA | refine Grown.alloc ?_ _ _ | refine Past.alloc ?_ _ | exact kbG | exact khG | exact kcG | exact ksG | exact kfG | exact kgG | exact kbP | exact kfP | exact khP | exact kcP | exact ksP | exact kpP | exact kfN | refine Grown.past ?_ | exact Grown.refl _ | exact Past.refl _)) | omega)); done)), by (((try dsimp only); (try go_split_ands); (repeat' with_reducible apply And.intro)) <;> ((repeat (first | (with_reducible (first | assumption | refine kbS ?_ | refine has_set ?_ | refine kcS ?_ | refine free_set ?_ | refine size_set ?_ | refine kgS ?_ | refine kpS ?_ | refine box_drewN ?_ | refine has_drewN ?_ | refine cell_drewN ?_ | refine free_drewN ?_ | refine size_drewN ?_ | refine Grown.drewN ?_ | refine Past.drewN ?_ | refine box_drew ?_ | refine has_drew ?_ | refine cell_drew ?_ | refine free_drew ?_ | refine size_drew ?_ | refine Grown.drew ?_ | refine Past.drew ?_ | exact kbN | refine kbO ?_ | refine khA ?_ | refine kcA ?_ | refine free_alloc ?_ | exact ksA | refine Grown.alloc ?_ _ _ | refine Past.alloc ?_ _ | exact kbG | exact khG | exact kcG | exact ksG | exact kfG | exact kgG | exact kbP | exact kfP | exact khP | exact kcP | exact ksP | exact kpP | exact kfN | refine Grown.past ?_ | exact Grown.refl _ | exact Past.refl _)) | omega)); done))⟩
        · have d1 : decide (1 < K) = false := decide_eq_false ck
          have d1' : decide (K > 1) = false := decide_eq_false ck
          go_wp2_with fail
          go_meet
          exact ⟨0, b136, f136, bq, p6, z6⟩
      case rest =>
        obtain ⟨pad, b137, f137, bq7, p7, z7⟩ := hcut
        clear b136 f136 bq p6 z6 bb6
        have PS : Own8 wc (PQ + 1) (.slice none 0 0) (genL (strF x.ys) 0) := Own8.nil _ _
        go_wp2_with fail
        go_loopw [14] (fun i wr => ∃ (k : Nat) (Ak : Option Addr) (ck : Nat), k ≤ M ∧ i = .int .i64 k ∧ (∀ o : Nat, wr.cell? ⟨P13, o, none⟩ = (#[.int .i64 1, .slice none 0 0, .int .i64 K, .int .i64 1, .int .i64 pad, .int .i64 1, .int .i64 3, .int .i64 4, .int .i64 0, .int .i64 0, .int .i64 0, .int .i64 0, .slice Ak k ck, .slice (some ⟨PQ, 0, none⟩) 1 1] : Array Value)[o]?) ∧ (∀ o : Nat, wr.frozen? ⟨P13, o, none⟩ = false) ∧ Hid (Own8 wr (PQ + 1) (.slice Ak k ck) (genL (strF x.ys) k)) ∧ (∀ o : Nat, wr.cell? ⟨PQ, o, none⟩ = (#[.int .i32 5] : Array Value)[o]?) ∧ Past w4 wr ∧ PQ + 1 ≤ wr.heap.size) (fun i _ => M - (intOf i).toNat)
        case atStart => exact ⟨0, none, 0, by omega, rfl, b137, f137, Lib.hid PS, bq7, p7, z7⟩
        case round =>
          obtain ⟨k, Ak, ck, hk, rfl, bk, fk, ok, bqk, pk, zk⟩ := hrel
          have b3k := box_past pk b34 n3
          have ctk := cell_past pk ct24 htb4
          clear b137 f137 PS bq7 p7 z7
          by_cases hkM : k < M
          · have d1 : decide ((k : Int) < (M : Int)) = true := decide_eq_true (by omega)
            have e8 : IntKind.i8.wrap (k : Int) = (k : Int) := IntWalk.i8_in _ (by omega)
            by_cases hz : 0 < x.ys.length
            · obtain ⟨lb, lo, e, n1, n22, n33, hlb, hc⟩ := nums_parts HY.out hz
              clear n1 n22 n33
              subst e
              obtain ⟨j, hj⟩ : ∃ j, k % x.ys.length = j := ⟨_, rfl⟩
              have hjl : j < x.ys.length := by rw [← hj]; exact Nat.mod_lt _ hz
              obtain ⟨q, hq⟩ : ∃ q, x.ys.getD j 0 = q := ⟨_, rfl⟩
              have c0' := past_cells (p := ⟨lb, lo + j, none⟩) (pX.trans pk) hlb (hc j hjl).1
              rw [hq] at c0'
              have FF : Hid (strF x.ys k = q) := Lib.hid (by unfold strF; rw [if_pos hz, hj, hq])
              have d2 : decide ((x.ys.length : Int) > 0) = true := decide_eq_true (by omega)
              have d2' : decide ((0 : Int) < (x.ys.length : Int)) = true := decide_eq_true (by omega)
              have em : (k : Int) % (x.ys.length : Int) = (j : Int) := by rw [← hj, Int.natCast_emod]
              have et : Int.tmod (k : Int) (x.ys.length : Int) = (j : Int) := by rw [Int.tmod_eq_emod_of_nonneg (by omega)]; exact em
              have i1 : (0 : Int) ≤ (j : Int) := by omega
              have i2 : (j : Int) < (x.ys.length : Int) := by omega
              have i3 : ((x.ys.length : Int) == 0) = false := by rw [beq_eq_false_iff_ne]; omega
              have i3' : ¬ (x.ys.length : Int) = 0 := by omega
              have vj : IntKind.i64.wrap (j : Int) = (j : Int) := IntWalk.i64_in _ (by omega)
              clear hc hj hq
              go_upto_region 17 with fail
              go_quiet (fail)
              go_upto_region 18 with fail
              refine opq (fun w' => (∀ o : Nat, w'.cell? ⟨P13, o, none⟩ = (#[.int .i64 1, .slice none 0 0, .int .i64 K, .int .i64 1, .int .i64 pad, .int .i64 1, .int .i64 3, .int .i64 4, .int .i64 0, .int .i64 0, .int .i64 0, .int .i64 0, .slice Ak k ck, .slice (some ⟨PQ, 0, none⟩) 1 1] : Array Value)[o]?) ∧ (∀ o : Nat, w'.frozen? ⟨P13, o, none⟩ = false) ∧ Hid (Own8 w' (PQ + 1) (.slice Ak k ck) (genL (strF x.ys) k)) ∧ (∀ o : Nat, w'.cell? ⟨PQ, o, none⟩ = (#[.int .i32 5] : Array Value)[o]?) ∧ Past w4 w' ∧ PQ + 1 ≤ w'.heap.size) ⟨bk, fk, Lib.hid (ok.out.past (Past.refl _).drewN), bqk, pk, zk⟩ ?_
              clear bk fk ok bqk pk zk b3k
              rintro wd ⟨bk, fk, ok, bqk, pk, zk⟩
              go_wp2_with (at_builtin; refine wpList_append_apart _ rfl (.tmp 94) (.tmp 96) 25 rfl (PQ + 1) 52 i0 _ 1 1 Try.underlying25 I1.out I2.out I3.out I4.out rfl (by decide) _ _ _ rfl (World.ownsRow.alloc ok.out _) ⟨wd.heap.size, 0, none⟩ 1 1 [.int .i8 q] rfl rfl (fun j u hu => cells_new1 wd _ 52 j u hu) (by intro u hu; simp at hu; subst hu; rfl) ?c4 ?c5 ?c6 (by decide) ?_)
              case c4 => unfold maxLen; rw [genL_len]; omega
              case c5 => rw [genL_len]; omega
              case c6 => first | omega | (simp; omega)
              intro v4 w4n hown hgrow hpl
              have oN := Lib.hid (own8_add hown)
              have ne13 : some P13 ≠ (Value.slice Ak k ck).ownBlock := fun e => by have := (ok.out.lt P13 e.symm).1; omega
              have neq : some PQ ≠ (Value.slice Ak k ck).ownBlock := fun e => by have := (ok.out.lt PQ e.symm).1; omega
              have bN := box_grow' hgrow (box_old bk (by omega)) (by simp; omega) ne13
              have fN := free_grow' hgrow (free_alloc fk) (by simp; omega) ne13
              have bqN := box_grow' hgrow (box_old bqk (by omega)) (by simp; omega) neq
              have pN := (pk.alloc (.cells #[.int .i8 q] 52)).grownBy hgrow (fun j hj => by have := (ok.out.lt j hj).1; omega)
              have zN : PQ + 1 ≤ w4n.heap.size := by have := hgrow.size; simp at this; omega
              obtain ⟨An, cn, ea⟩ := oN.out.form
              rw [List.length_append, genL_len, List.length_singleton] at ea
              subst ea
              have oM := Lib.hid (oN.out.set (b := P13) (o := 12) (u := .slice An (k + 1) cn) (by omega))
              clear hown hgrow hpl ok
              go_wp2_with fail
              go_roundw
              case rel => exact ⟨k + 1, An, cn, by omega, by go_num, box_eq (box_setAt bN (by simp)) rfl, by (((try dsimp only); (try go_split_ands); (repeat' with_reducible apply And.intro)) <;> ((repeat (first | (with_reducible (first | assumption | refine kbS ?_ | refine has_set ?_ | refine kcS ?_ | refine free_set ?_ | refine size_set ?_ | refine kgS ?_ | refine kpS ?_ | refine box_drewN ?_ | refine has_drewN ?_ | refine cell_drewN ?_ | refine free_drewN ?_ | refine size_drewN ?_ | refine Grown.drewN ?_ | refine Past.drewN ?_ | refine box_drew ?_ | refine has_drew ?_ | refine cell_drew ?_ | refine free_drew ?_ | refine size_drew ?_ | refine Grown.drew ?_ | refine Past.drew ?_ | exact kbN | refine kbO ?_ | refine khA ?_ | refine kcA ?_ | refine free_alloc ?_ | exact ksA | refine Grown.alloc ?_ _ _ | refine Past.alloc ?_ _ | exact kbG | exact khG | exact kcG | exact ksG | exact kfG | exact kgG | exact kbP | exact kfP | exact khP | exact kcP | exact ksP | exact kpP | exact kfN | refine Grown.past ?_ | exact Grown.refl _ | exact Past.refl _)) | omega)); done)), Lib.hid (by rw [genL_succ, FF.out]; exact oM.out), by (((try dsimp only); (try go_split_ands); (repeat' with_reducible apply And.intro)) <;> ((repeat (first | (with_reducible (first | assumption | refine kbS ?_ | refine has_set ?_ | refine kcS ?_ | refine free_set ?_ | refine size_set ?_ | refine kgS ?_ | refine kpS ?_ | refine box_drewN ?_ | refine has_drewN ?_ | refine cell_drewN ?_ | refine free_drewN ?_ | refine size_drewN ?_ | refine Grown.drewN ?_ | refine Past.drewN ?_ | refine box_drew ?_ | refine has_drew ?_ | refine cell_drew ?_ | refine free_drew ?_ | refine size_drew ?_ | refine Grown.drew ?_ | refine Past.drew ?_ | exact kbN | refine kbO ?_ | refine khA ?_ | refine kcA ?_ | refine free_alloc ?_ | exact ksA | refine Grown.alloc ?_ _ _ | refine Past.alloc ?_ _ | exact kbG | exact khG | exact kcG | exact ksG | exact kfG | exact kgG | exact kbP | exact kfP | exact khP | exact kcP | exact ksP | exact kpP | exact kfN | refine Grown.past ?_ | exact Grown.refl _ | exact Past.refl _)) | omega)); done)), by (((try dsimp only); (try go_split_ands); (repeat' with_reducible apply And.intro)) <;> ((repeat (first | (with_reducible (first | assumption | refine kbS ?_ | refine has_set ?_ | refine kcS ?_ | refine free_set ?_ | refine size_set ?_ | refine kgS ?_ | refine kpS ?_ | refine box_drewN ?_ | refine has_drewN ?_ | refine cell_drewN ?_ | refine free_drewN ?_ | refine size_drewN ?_ | refine Grown.drewN ?_ | refine Past.drewN ?_ | refine box_drew ?_ | refine has_drew ?_ | refine cell_drew ?_ | refine free_drew ?_ | refine size_drew ?_ | refine Grown.drew ?_ | refine Past.drew ?_ | exact kbN | refine kbO ?_ | refine khA ?_ | refine kcA ?_ | refine free_alloc ?_ | exact ksA | refine Grown.alloc ?_ _ _ | refine Past.alloc ?_ _ | exact kbG | exact khG | exact kcG | exact ksG | exact kfG | exact kgG | exact kbP | exact kfP | exact khP | exact kcP | exact ksP | exact kpP | exact kfN | refine Grown.past ?_ | exact Grown.refl _ | exact Past.refl _)) | omega)); done)), by (((try dsimp only); (try go_split_ands); (repeat' with_reducible apply And.intro)) <;> ((repeat (first | (with_reducible (first | assumption | refine kbS ?_ | refine has_set ?_ | refine kcS ?_ | refine free_set ?_ | refine size_set ?_ | refine kgS ?_ | refine kpS ?_ | refine box_drewN ?_ | refine has_drewN ?_ | refine cell_drewN ?_ | refine free_drewN ?_ | refine size_drewN ?_ | refine Grown.drewN ?_ | refine Past.drewN ?_ | refine box_drew ?_ | refine has_drew ?_ | refine cell_drew ?_ | refine free_drew ?_ | refine size_drew ?_ | refine Grown.drew ?_ | refine Past.drew ?_ | exact kbN | refine kbO ?_ | refine khA ?_ | refine kcA ?_ | refine free_alloc ?_ | exact ksA | refine Grown.alloc ?_ _ _ | refine Past.alloc ?_ _ | exact kbG | exact khG | exact kcG | exact ksG | exact kfG | exact kgG | exact kbP | exact kfP | exact khP | exact kcP | exact ksP | exact kpP | exact kfN | refine Grown.past ?_ | exact Grown.refl _ | exact Past.refl _)) | omega)); done))⟩
              case measure => simp [intOf]; omega
            · have FF : Hid (strF x.ys k = (k : Int)) := Lib.hid (by unfold strF; rw [if_neg hz])
              have d2 : decide ((x.ys.length : Int) > 0) = false := decide_eq_false (by omega)
              have d2' : decide ((0 : Int) < (x.ys.length : Int)) = false := decide_eq_false (by omega)
              go_wp2_with (at_builtin; refine wpList_append_apart _ rfl (.tmp 94) (.tmp 96) 25 rfl (PQ + 1) 52 i0 _ 1 1 Try.underlying25 I1.out I2.out I3.out I4.out rfl (by decide) _ _ _ rfl (World.ownsRow.alloc ok.out _) ⟨wr.heap.size, 0, none⟩ 1 1 [.int .i8 k] rfl rfl (fun j u hu => cells_new1 wr _ 52 j u hu) (by intro u hu; simp at hu; subst hu; rfl) ?c4 ?c5 ?c6 (by decide) ?_)
              case c4 => unfold maxLen; rw [genL_len]; omega
              case c5 => rw [genL_len]; omega
              case c6 => first | omega | (simp; omega)
              intro v4 w4n hown hgrow hpl
              have oN := Lib.hid (own8_add hown)
              have ne13 : some P13 ≠ (Value.slice Ak k ck).ownBlock := fun e => by have := (ok.out.lt P13 e.symm).1; omega
              have neq : some PQ ≠ (Value.slice Ak k ck).ownBlock := fun e => by have := (ok.out.lt PQ e.symm).1; omega
              have bN := box_grow' hgrow (box_old bk (by omega)) (by simp; omega) ne13
              have fN := free_grow' hgrow (free_alloc fk) (by simp; omega) ne13
              have bqN := box_grow' hgrow (box_old bqk (by omega)) (by simp; omega) neq
              have pN := (pk.alloc (.cells #[.int .i8 k] 52)).grownBy hgrow (fun j hj => by have := (ok.out.lt j hj).1; omega)
              have zN : PQ + 1 ≤ w4n.heap.size := by have := hgrow.size; simp at this; omega
              obtain ⟨An, cn, ea⟩ := oN.out.form
              rw [List.length_append, genL_len, List.length_singleton] at ea
              subst ea
              have oM := Lib.hid (oN.out.set (b := P13) (o := 12) (u := .slice An (k + 1) cn) (by omega))
              clear hown hgrow hpl ok
              go_wp2_with fail
              go_roundw
              case rel => exact ⟨k + 1, An, cn, by omega, by go_num, box_eq (box_setAt bN (by simp)) rfl, by (((try dsimp only); (try go_split_ands); (repeat' with_reducible apply And.intro)) <;> ((repeat (first | (with_reducible (first | assumption | refine kbS ?_ | refine has_set ?_ | refine kcS ?_ | refine free_set ?_ | refine size_set ?_ | refine kgS ?_ | refine kpS ?_ | refine box_drewN ?_ | refine has_drewN ?_ | refine cell_drewN ?_ | refine free_drewN ?_ | refine size_drewN ?_ | refine Grown.drewN ?_ | refine Past.drewN ?_ | refine box_drew ?_ | refine has_drew ?_ | refine cell_drew ?_ | refine free_drew ?_ | refine size_drew ?_ | refine Grown.drew ?_ | refine Past.drew ?_ | exact kbN | refine kbO ?_ | refine khA ?_ | refine kcA ?_ | refine free_alloc ?_ | exact ksA | refine Grown.alloc ?_ _ _ | refine Past.alloc ?_ _ | exact kbG | exact khG | exact kcG | exact ksG | exact kfG | exact kgG | exact kbP | exact kfP | exact khP | exact kcP | exact ksP | exact kpP | exact kfN | refine Grown.past ?_ | exact Grown.refl _ | exact Past.refl _)) | omega)); done)), Lib.hid (by rw [genL_succ, FF.out]; exact oM.out), by (((try dsimp only); (try go_split_ands); (repeat' with_reducible apply And.intro)) <;> ((repeat (first | (with_reducible (first | assumption | refine kbS ?_ | refine has_set ?_ | refine kcS ?_ | refine free_set ?_ | refine size_set ?_ | refine kgS ?_ | refine kpS ?_ | refine box_drewN ?_ | refine has_drewN ?_ | refine cell_drewN ?_ | refine free_drewN ?_ | refine size_drewN ?_ | refine Grown.drewN ?_ | refine Past.drewN ?_ | refine box_drew ?_ | refine has_drew ?_ | refine cell_drew ?_ | refine free_drew ?_ | refine size_drew ?_ | refine Grown.drew ?_ | refine Past.drew ?_ | exact kbN | refine kbO ?_ | refine khA ?_ | refine kcA ?_ | refine free_alloc ?_ | exact ksA | refine Grown.alloc ?_ _ _ | refine Past.alloc ?_ _ | exact kbG | exact khG | exact kcG | exact ksG | exact kfG | exact kgG | exact kbP | exact kfP | exact khP | exact kcP | exact ksP | exact kpP | exact kfN | refine Grown.past ?_ | exact Grown.refl _ | exact Past.refl _)) | omega)); done)), by (((try dsimp only); (try go_split_ands); (repeat' with_reducible apply And.intro)) <;> ((repeat (first | (with_reducible (first | assumption | refine kbS ?_ | refine has_set ?_ | refine kcS ?_ | refine free_set ?_ | refine size_set ?_ | refine kgS ?_ | refine kpS ?_ | refine box_drewN ?_ | refine has_drewN ?_ | refine cell_drewN ?_ | refine free_drewN ?_ | refine size_drewN ?_ | refine Grown.drewN ?_ | refine Past.drewN ?_ | refine box_drew ?_ | refine has_drew ?_ | refine cell_drew ?_ | refine free_drew ?_ | refine size_drew ?_ | refine Grown.drew ?_ | refine Past.drew ?_ | exact kbN | refine kbO ?_ | refine khA ?_ | refine kcA ?_ | refine free_alloc ?_ | exact ksA | refine Grown.alloc ?_ _ _ | refine Past.alloc ?_ _ | exact kbG | exact khG | exact kcG | exact ksG | exact kfG | exact kgG | exact kbP | exact kfP | exact khP | exact kcP | exact ksP | exact kpP | exact kfN | refine Grown.past ?_ | exact Grown.refl _ | exact Past.refl _)) | omega)); done)), by (((try dsimp only); (try go_split_ands); (repeat' with_reducible apply And.intro)) <;> ((repeat (first | (with_reducible (first | assumption | refine kbS ?_ | refine has_set ?_ | refine kcS ?_ | refine free_set ?_ | refine size_set ?_ | refine kgS ?_ | refine kpS ?_ | refine box_drewN ?_ | refine has_drewN ?_ | refine cell_drewN ?_ | refine free_drewN ?_ | refine size_drewN ?_ | refine Grown.drewN ?_ | refine Past.drewN ?_ | refine box_drew ?_ | refine has_drew ?_ | refine cell_drew ?_ | refine free_drew ?_ | refine size_drew ?_ | refine Grown.drew ?_ | refine Past.drew ?_ | exact kbN | refine kbO ?_ | refine khA ?_ | refine kcA ?_ | refine free_alloc ?_ | exact ksA | refine Grown.alloc ?_ _ _ | refine Past.alloc ?_ _ | exact kbG | exact khG | exact kcG | exact ksG | exact kfG | exact kgG | exact kbP | exact kfP | exact khP | exact kcP | exact ksP | exact kpP | exact kfN | refine Grown.past ?_ | exact Grown.refl _ | exact Past.refl _)) | omega)); done))⟩
              case measure => simp [intOf]; omega
          · obtain rfl : k = M := by omega
            have d1 : decide ((k : Int) < (k : Int)) = false := by simp
            go_wp2_with fail
            go_meet
            exact ⟨1, pad, 1, 3, 4, 0, Ak, ck, some ⟨PQ, 0, none⟩, 1, genL (strF x.ys) k, [5], Lib.hid (.inl rfl), by rw [genL_len]; exact bk, Lib.hid (by rw [genL_len]; exact ok.out.nums (strF_bd BY.out (by omega))), Lib.hid (nums_one32b (by decide) (by omega) bqk), pk, by omega⟩
  case rest =>
    obtain ⟨op, pad, out, mul, sh, zn, Aw, kw, Ab, kb, ws, bs, HO, b13c, NW, NB, pc, zc⟩ := hcut
    have n13c : P13 < wc.heap.size := by omega
    obtain ⟨ea, hea⟩ : ∃ e, valueE (strK op K 1 pad out mul sh zn ws bs) [u] = e := ⟨_, rfl⟩
    obtain ⟨eb, heb⟩ : ∃ e, valueE (strK op K 2 pad out mul sh zn ws bs) [u] = e := ⟨_, rfl⟩
    obtain ⟨va, hva⟩ : ∃ y, valueV (strK op K 1 pad out mul sh zn ws bs) [u] = y := ⟨_, rfl⟩
    obtain ⟨vb, hvb⟩ : ∃ y, valueV (strK op K 2 pad out mul sh zn ws bs) [u] = y := ⟨_, rfl⟩
    have RV1 := Lib.hid (fun w (g : Past wc w) => rvalue_any (strK op K 1 pad out mul sh zn ws bs) (.slice none 0 0) (.slice Aw ws.length kw) (.slice Ab bs.length kb) (.slice (some ⟨tb, 0, none⟩) 1 2) [u] w ⟨nums_nil _ _, NW.out.grow g, NB.out.grow g⟩ (V4.out.grow (pc.trans g)))
    have RV2 := Lib.hid (fun w (g : Past wc w) => rvalue_any (strK op K 2 pad out mul sh zn ws bs) (.slice none 0 0) (.slice Aw ws.length kw) (.slice Ab bs.length kb) (.slice (some ⟨tb, 0, none⟩) 1 2) [u] w ⟨nums_nil _ _, NW.out.grow g, NB.out.grow g⟩ (V4.out.grow (pc.trans g)))
    unfold ValuePost at RV1 RV2
    simp only [hea, hva] at RV1
    simp only [heb, hvb] at RV2
    have HEA := Lib.hid hea
    have HEB := Lib.hid heb
    have HVA := Lib.hid hva
    have HVB := Lib.hid hvb
    clear hea heb hva hvb b13 f13 p5 z5 n13 b34 bb4
    go_upto_region 20 with (refine wpList_load_box rfl 28 (.tmp 13) rfl P13 #[.int .i64 op, .slice none 0 0, .int .i64 K, .int .i64 1, .int .i64 pad, .int .i64 out, .int .i64 mul, .int .i64 sh, .int .i64 zn, .int .i64 0, .int .i64 0, .int .i64 0, .slice Aw ws.length kw, .slice Ab bs.length kb] rfl b13c Try.underlying28 rfl N14 ?_)
    refine opq (fun w' => (∀ o : Nat, w'.cell? ⟨wc.heap.size, o, none⟩ = (#[.int .i64 op, .slice none 0 0, .int .i64 K, .int .i64 1, .int .i64 pad, .int .i64 out, .int .i64 mul, .int .i64 sh, .int .i64 zn, .int .i64 0, .int .i64 0, .int .i64 0, .slice Aw ws.length kw, .slice Ab bs.length kb] : Array Value)[o]?) ∧ (∀ o : Nat, w'.frozen? ⟨wc.heap.size, o, none⟩ = false) ∧ Past wc w' ∧ wc.heap.size + 1 ≤ w'.heap.size) (by (((try dsimp only); (try go_split_ands); (repeat' with_reducible apply And.intro)) <;> ((repeat (first | (with_reducible (first | assumption | refine kbS ?_ | refine has_set ?_ | refine kcS ?_ | refine free_set ?_ | refine size_set ?_ | refine kgS ?_ | refine kpS ?_ | refine box_drewN ?_ | refine has_drewN ?_ | refine cell_drewN ?_ | refine free_drewN ?_ | refine size_drewN ?_ | refine Grown.drewN ?_ | refine Past.drewN ?_ | refine box_drew ?_ | refine has_drew ?_ | refine cell_drew ?_ | refine free_drew ?_ | refine size_drew ?_ | refine Grown.drew ?_ | refine Past.drew ?_ | exact kbN | refine kbO ?_ | refine khA ?_ | refine kcA ?_ | refine free_alloc ?_ | exact ksA | refine Grown.alloc ?_ _ _ | refine Past.alloc ?_ _ | exact kbG | exact khG | exact kcG | exact ksG | exact kfG | exact kgG | exact kbP | exact kfP | exact khP | exact kcP | exact ksP | exact kpP | exact kfN | refine Grown.past ?_ | exact Grown.refl _ | exact Past.refl _)) | omega)); done))) ?_
    rintro wV ⟨b16, f16, pv, zv⟩
    obtain ⟨P16, hP16⟩ : ∃ P16, wc.heap.size = P16 := ⟨_, rfl⟩
    rw [hP16] at b16 f16 zv
    simp only [hP16]
    go_upto_region 21 with fail
    refine opq (fun w' => (∀ o : Nat, w'.cell? ⟨P16, o, none⟩ = (#[.int .i64 op, .slice none 0 0, .int .i64 K, .int .i64 2, .int .i64 pad, .int .i64 out, .int .i64 mul, .int .i64 sh, .int .i64 zn, .int .i64 0, .int .i64 0, .int .i64 0, .slice Aw ws.length kw, .slice Ab bs.length kb] : Array Value)[o]?) ∧ Past wc w' ∧ P16 + 1 ≤ w'.heap.size) ⟨box_eq (box_setAt b16 (by simp)) rfl, by (((try dsimp only); (try go_split_ands); (repeat' with_reducible apply And.intro)) <;> ((repeat (first | (with_reducible (first | assumption | refine kbS ?_ | refine has_set ?_ | refine kcS ?_ | refine free_set ?_ | refine size_set ?_ | refine kgS ?_ | refine kpS ?_ | refine box_drewN ?_ | refine has_drewN ?_ | refine cell_drewN ?_ | refine free_drewN ?_ | refine size_drewN ?_ | refine Grown.drewN ?_ | refine Past.drewN ?_ | refine box_drew ?_ | refine has_drew ?_ | refine cell_drew ?_ | refine free_drew ?_ | refine size_drew ?_ | refine Grown.drew ?_ | refine Past.drew ?_ | exact kbN | refine kbO ?_ | refine khA ?_ | refine kcA ?_ | refine free_alloc ?_ | exact ksA | refine Grown.alloc ?_ _ _ | refine Past.alloc ?_ _ | exact kbG | exact khG | exact kcG | exact ksG | exact kfG | exact kgG | exact kbP | exact kfP | exact khP | exact kcP | exact ksP | exact kpP | exact kfN | refine Grown.past ?_ | exact Grown.refl _ | exact Past.refl _)) | omega)); done)), by (((try dsimp only); (try go_split_ands); (repeat' with_reducible apply And.intro)) <;> ((repeat (first | (with_reducible (first | assumption | refine kbS ?_ | refine has_set ?_ | refine kcS ?_ | refine free_set ?_ | refine size_set ?_ | refine kgS ?_ | refine kpS ?_ | refine box_drewN ?_ | refine has_drewN ?_ | refine cell_drewN ?_ | refine free_drewN ?_ | refine size_drewN ?_ | refine Grown.drewN ?_ | refine Past.drewN ?_ | refine box_drew ?_ | refine has_drew ?_ | refine cell_drew ?_ | refine free_drew ?_ | refine size_drew ?_ | refine Grown.drew ?_ | refine Past.drew ?_ | exact kbN | refine kbO ?_ | refine khA ?_ | refine kcA ?_ | refine free_alloc ?_ | exact ksA | refine Grown.alloc ?_ _ _ | refine Past.alloc ?_ _ | exact kbG | exact khG | exact kcG | exact ksG | exact kfG | exact kgG | exact kbP | exact kfP | exact khP | exact kcP | exact ksP | exact kpP | exact kfN | refine Grown.past ?_ | exact Grown.refl _ | exact Past.refl _)) | omega)); done))⟩ ?_
    rintro wX ⟨b16x, px, zx⟩
    have b13x := box_past px b13c n13c
    clear b16 f16 pv zv
    go_wp2_with (refine wpList_load_box rfl 28 (.tmp 13) rfl P13 #[.int .i64 op, .slice none 0 0, .int .i64 K, .int .i64 1, .int .i64 pad, .int .i64 out, .int .i64 mul, .int .i64 sh, .int .i64 zn, .int .i64 0, .int .i64 0, .int .i64 0, .slice Aw ws.length kw, .slice Ab bs.length kb] rfl b13x Try.underlying28 rfl N14 ?_)
    refine (RV1.out _ px).mono ?_
    rintro e wY ⟨rfl, gY⟩
    have pY := px.trans (Grown.past gY)
    have b16y := box_past (Grown.past gY) b16x (by omega)
    have zy : P16 + 1 ≤ wY.heap.size := by have := gY.2.2; omega
    clear gY b13x b16x px
    go_upto_region 22 with fail
    refine opq (fun w' => (∀ o : Nat, w'.cell? ⟨wY.heap.size, o, none⟩ = (#[.int .i64 va.h, .int .i64 va.w, .int .i64 va.c, .int .i64 va.z] : Array Value)[o]?) ∧ (∀ o : Nat, w'.cell? ⟨P16, o, none⟩ = (#[.int .i64 op, .slice none 0 0, .int .i64 K, .int .i64 2, .int .i64 pad, .int .i64 out, .int .i64 mul, .int .i64 sh, .int .i64 zn, .int .i64 0, .int .i64 0, .int .i64 0, .slice Aw ws.length kw, .slice Ab bs.length kb] : Array Value)[o]?) ∧ Past wc w' ∧ wY.heap.size + 1 ≤ w'.heap.size) (by (((try dsimp only); (try go_split_ands); (repeat' with_reducible apply And.intro)) <;> ((repeat (first | (with_reducible (first | assumption | refine kbS ?_ | refine has_set ?_ | refine kcS ?_ | refine free_set ?_ | refine size_set ?_ | refine kgS ?_ | refine kpS ?_ | refine box_drewN ?_ | refine has_drewN ?_ | refine cell_drewN ?_ | refine free_drewN ?_ | refine size_drewN ?_ | refine Grown.drewN ?_ | refine Past.drewN ?_ | refine box_drew ?_ | refine has_drew ?_ | refine cell_drew ?_ | refine free_drew ?_ | refine size_drew ?_ | refine Grown.drew ?_ | refine Past.drew ?_ | exact kbN | refine kbO ?_ | refine khA ?_ | refine kcA ?_ | refine free_alloc ?_ | exact ksA | refine Grown.alloc ?_ _ _ | refine Past.alloc ?_ _ | exact kbG | exact khG | exact kcG | exact ksG | exact kfG | exact kgG | exact kbP | exact kfP | exact khP | exact kcP | exact ksP | exact kpP | exact kfN | refine Grown.past ?_ | exact Grown.refl _ | exact Past.refl _)) | omega)); done))) ?_
    rintro wZ ⟨b17, b16z, pZ, zZ⟩
    obtain ⟨P17, hP17⟩ : ∃ P17, wY.heap.size = P17 := ⟨_, rfl⟩
    rw [hP17] at b17 zZ
    simp only [hP17]
    have n1617 : P16 < P17 := by omega
    clear pY b16y zy hP17
    go_wp2_with (refine wpList_load_box rfl 28 (.tmp 16) rfl P16 #[.int .i64 op, .slice none 0 0, .int .i64 K, .int .i64 2, .int .i64 pad, .int .i64 out, .int .i64 mul, .int .i64 sh, .int .i64 zn, .int .i64 0, .int .i64 0, .int .i64 0, .slice Aw ws.length kw, .slice Ab bs.length kb] rfl b16z Try.underlying28 rfl N14 ?_)
    refine (RV2.out _ pZ).mono ?_
    rintro e wY2 ⟨rfl, gY2⟩
    have pY2 := pZ.trans (Grown.past gY2)
    have b16y2 := box_past (Grown.past gY2) b16z (by omega)
    have b17y2 := box_past (Grown.past gY2) b17 (by omega)
    have zy2 : P17 + 1 ≤ wY2.heap.size := by have := gY2.2.2; omega
    clear gY2 b16z b17 pZ
    go_upto_region 23 with fail
    refine opq (fun w' => (∀ o : Nat, w'.cell? ⟨wY2.heap.size, o, none⟩ = (#[.int .i64 vb.h, .int .i64 vb.w, .int .i64 vb.c, .int .i64 vb.z] : Array Value)[o]?) ∧ (∀ o : Nat, w'.cell? ⟨P17, o, none⟩ = (#[.int .i64 va.h, .int .i64 va.w, .int .i64 va.c, .int .i64 va.z] : Array Value)[o]?) ∧ (∀ o : Nat, w'.cell? ⟨P16, o, none⟩ = (#[.int .i64 op, .slice none 0 0, .int .i64 K, .int .i64 2, .int .i64 pad, .int .i64 out, .int .i64 mul, .int .i64 sh, .int .i64 zn, .int .i64 0, .int .i64 0, .int .i64 0, .slice Aw ws.length kw, .slice Ab bs.length kb] : Array Value)[o]?) ∧ Past wc w' ∧ wY2.heap.size + 1 ≤ w'.heap.size) (by (((try dsimp only); (try go_split_ands); (repeat' with_reducible apply And.intro)) <;> ((repeat (first | (with_reducible (first | assumption | refine kbS ?_ | refine has_set ?_ | refine kcS ?_ | refine free_set ?_ | refine size_set ?_ | refine kgS ?_ | refine kpS ?_ | refine box_drewN ?_ | refine has_drewN ?_ | refine cell_drewN ?_ | refine free_drewN ?_ | refine size_drewN ?_ | refine Grown.drewN ?_ | refine Past.drewN ?_ | refine box_drew ?_ | refine has_drew ?_ | refine cell_drew ?_ | refine free_drew ?_ | refine size_drew ?_ | refine Grown.drew ?_ | refine Past.drew ?_ | exact kbN | refine kbO ?_ | refine khA ?_ | refine kcA ?_ | refine free_alloc ?_ | exact ksA | refine Grown.alloc ?_ _ _ | refine Past.alloc ?_ _ | exact kbG | exact khG | exact kcG | exact ksG | exact kfG | exact kgG | exact kbP | exact kfP | exact khP | exact kcP | exact ksP | exact kpP | exact kfN | refine Grown.past ?_ | exact Grown.refl _ | exact Past.refl _)) | omega)); done))) ?_
    rintro wE ⟨b19, b17, b16, pE, zE⟩
    obtain ⟨P19, hP19⟩ : ∃ P19, wY2.heap.size = P19 := ⟨_, rfl⟩
    rw [hP19] at b19 zE
    simp only [hP19]
    have n1719 : P17 < P19 := by omega
    clear pY2 b16y2 b17y2 zy2 hP19 RV1 RV2
    have pXE := pX.trans (pc.trans pE)
    by_cases oa : ea = 0
    · subst oa
      by_cases ob : eb = 0
      · subst ob
        obtain ⟨Ax, Bx, A2, B2, Cx, va', vb', ⟨l1, l2, l3, l4, l5⟩, ka, kb', sa, sb, AT⟩ := strides_ok HO.out HF0.out HEA.out HEB.out
        rw [HVA.out] at va'
        rw [HVB.out] at vb'
        subst va' vb'
        obtain ⟨LA, hLA⟩ : ∃ L, allL (strK op K 1 pad out mul sh zn ws bs) (viewOf u D0) noView ((Ax : Int), (Bx : Int), (Cx : Int)) (Bx * Cx) (Ax * (Bx * Cx)) = L := ⟨_, rfl⟩
        obtain ⟨LB, hLB⟩ : ∃ L, allL (strK op K 2 pad out mul sh zn ws bs) (viewOf u D0) noView ((A2 : Int), (B2 : Int), (Cx : Int)) (B2 * Cx) (A2 * (B2 * Cx)) = L := ⟨_, rfl⟩
        simp only [hLA, hLB] at AT
        have wb := fun k => getD_i8 (nums_bd8 NW.out) k
        have BA : ∀ q ∈ LA, -128 ≤ q ∧ q ≤ 127 := by have := allL_bd ka wb; simp only [Int.toNat_natCast, hLA] at this; exact this
        have BB : ∀ q ∈ LB, -128 ≤ q ∧ q ≤ 127 := by have := allL_bd kb' wb; simp only [Int.toNat_natCast, hLB] at this; exact this
        have CA := Lib.hid (fun (sb' : Value) w (g : Past wc w) => All_1 (strK op K 1 pad out mul sh zn ws bs) (.slice none 0 0) (.slice Aw ws.length kw) (.slice Ab bs.length kb) (.slice (some ⟨tb, 0, none⟩) 1 2) ((Ax : Int), (Bx : Int), (Cx : Int)) (viewOf u D0) (.slice V0 D0.length k0) sb' [u] w ka rfl ⟨nums_nil _ _, NW.out.grow g, NB.out.grow g⟩ (V4.out.grow (pc.trans g)) (N04.out.grow (pc.trans g)))
        have CB := Lib.hid (fun (sb' : Value) w (g : Past wc w) => All_1 (strK op K 2 pad out mul sh zn ws bs) (.slice none 0 0) (.slice Aw ws.length kw) (.slice Ab bs.length kb) (.slice (some ⟨tb, 0, none⟩) 1 2) ((A2 : Int), (B2 : Int), (Cx : Int)) (viewOf u D0) (.slice V0 D0.length k0) sb' [u] w kb' rfl ⟨nums_nil _ _, NW.out.grow g, NB.out.grow g⟩ (V4.out.grow (pc.trans g)) (N04.out.grow (pc.trans g)))
        unfold noView at hLA hLB
        simp only [Int.toNat_natCast, hLA] at CA
        simp only [Int.toNat_natCast, hLB] at CB
        have lA : LA.length = Ax * (Bx * Cx) := by rw [← hLA, allL_len]
        have lB : LB.length = A2 * (B2 * Cx) := by rw [← hLB, allL_len]
        have limA : LA.length ≤ 2048 := by rw [lA]; exact Nat.mul_le_mul (show Ax ≤ 16 by omega) (Nat.mul_le_mul (show Bx ≤ 16 by omega) (show Cx ≤ 8 by omega))
        have limB : LB.length ≤ 2048 := by rw [lB]; exact Nat.mul_le_mul (show A2 ≤ 16 by omega) (Nat.mul_le_mul (show B2 ≤ 16 by omega) (show Cx ≤ 8 by omega))
        have SA := Lib.hid (fun w => rsize_any Ax Bx Cx LA.length w (Lib.hid (by rw [lA]; exact sa)))
        have SB := Lib.hid (fun w => rsize_any A2 B2 Cx LB.length w (Lib.hid (by rw [lB]; exact sb)))
        have HAT := Lib.hid AT
        have HBA := Lib.hid BA
        have HBB := Lib.hid BB
        have HLA := Lib.hid lA
        have HLB := Lib.hid lB
        clear AT BA BB lA lB hLA hLB wb ka kb' sa sb
        have b13e := box_past pE b13c n13c
        have b9e := box_past (pc.trans pE) b9 n9
        go_wp2_with (refine wpList_load_box rfl 28 (.tmp 13) rfl P13 #[.int .i64 op, .slice none 0 0, .int .i64 K, .int .i64 1, .int .i64 pad, .int .i64 out, .int .i64 mul, .int .i64 sh, .int .i64 zn, .int .i64 0, .int .i64 0, .int .i64 0, .slice Aw ws.length kw, .slice Ab bs.length kb] rfl b13e Try.underlying28 rfl N14 ?_)
        refine (CA.out _ _ pE).mono ?_
        rintro e wF ⟨vp, rfl, op1, pp⟩
        obtain ⟨Aa, ka, rfl⟩ := op1.form
        have NA := Lib.hid (op1.nums HBA.out)
        have pF := pE.trans pp
        have b16f := box_past pp b16 (by omega)
        have b17f := box_past pp b17 (by omega)
        have b19f := box_past pp b19 (by omega)
        have b9f := box_past (pc.trans pF) b9 n9
        have zF : P19 + 1 ≤ wF.heap.size := by have := pp.2.2.1; omega
        clear op1 pp b16 b17 b19 b9e pE zE b13e pXE
        go_wp2_with (refine wpList_load_box rfl 28 (.tmp 16) rfl P16 #[.int .i64 op, .slice none 0 0, .int .i64 K, .int .i64 2, .int .i64 pad, .int .i64 out, .int .i64 mul, .int .i64 sh, .int .i64 zn, .int .i64 0, .int .i64 0, .int .i64 0, .slice Aw ws.length kw, .slice Ab bs.length kb] rfl b16f Try.underlying28 rfl N14 ?_)
        refine (CB.out _ _ pF).mono ?_
        rintro e wG ⟨vp, rfl, op1, pp⟩
        obtain ⟨Ab2, kb2, rfl⟩ := op1.form
        have NBB := Lib.hid (op1.nums HBB.out)
        have NAA := Lib.hid (NA.out.grow pp)
        have pG := pF.trans pp
        have b17g := box_past pp b17f (by omega)
        have b19g := box_past pp b19f (by omega)
        have zG : P19 + 1 ≤ wG.heap.size := by have := pp.2.2.1; omega
        have pXG := pX.trans (pc.trans pG)
        clear op1 pp b16f b17f b19f b9f pF zF NA CA CB
        have q1 : ((LA.length : Int) == (LA.length : Int)) = true := by simp
        have q2 : ((LB.length : Int) == (LB.length : Int)) = true := by simp
        go_wp2_with fail
        refine (SA.out _).mono ?_
        rintro e wH ⟨rfl, gH⟩
        have pH := Grown.past gH
        have b17h := box_past pH b17g (by omega)
        have b19h := box_past pH b19g (by omega)
        clear gH
        go_wp2_with fail
        refine (SB.out _).mono ?_
        rintro e wI ⟨rfl, gI⟩
        have pI := pH.trans (Grown.past gI)
        have b17 := box_past (Grown.past gI) b17h (by have := pH.2.2.1; omega)
        have b19 := box_past (Grown.past gI) b19h (by have := pH.2.2.1; omega)
        have zI : P19 + 1 ≤ wI.heap.size := by have := pI.2.2.1; omega
        have NA := Lib.hid (NAA.out.grow pI)
        have NB2 := Lib.hid (NBB.out.grow pI)
        have pXI := pXG.trans pI
        have HLIA := Lib.hid limA
        have HLIB := Lib.hid limB
        clear gI pH b17h b19h b17g b19g zG pXG pI NAA NBB SA SB q1 q2 b9 ct24 ct34 htb4 b13c NW NB pc zc n13c
        go_wp2_with fail
        go_loopw [6, 25] (fun s6 i wq => ∃ y : Nat, s6 = .bool false ∧ y ≤ A2 ∧ i = .int .i64 y ∧ Past wI wq) (fun _ i _ => A2 - (intOf i).toNat)
        case atStart => exact ⟨0, rfl, by omega, rfl, Past.refl _⟩
        case round =>
          obtain ⟨y, rfl, hy, rfl, py⟩ := hrel
          obtain ⟨wy, hwy⟩ : ∃ wy, wy = wr := ⟨wr, rfl⟩
          subst hwy
          have b19y := box_past py b19 (by omega)
          by_cases hyA : y < A2
          · have d1 : decide ((y : Int) < (A2 : Int)) = true := decide_eq_true (by omega)
            have HYA := Lib.hid hyA
            go_wp2_with fail
            go_loopw [6, 26] (fun s6 i wq => ∃ x' : Nat, s6 = .bool false ∧ x' ≤ B2 ∧ i = .int .i64 x' ∧ Past wI wq) (fun _ i _ => B2 - (intOf i).toNat)
            case atStart => exact ⟨0, rfl, by omega, rfl, py⟩
            case round =>
              obtain ⟨x', rfl, hx', rfl, px⟩ := hrel
              obtain ⟨wx, hwx⟩ : ∃ wx, wx = wr := ⟨wr, rfl⟩
              subst hwx
              have b19x := box_past px b19 (by omega)
              by_cases hxB : x' < B2
              · have d2 : decide ((x' : Int) < (B2 : Int)) = true := decide_eq_true (by omega)
                have HXB := Lib.hid hxB
                go_wp2_with fail
                go_loopw [6, 27] (fun s6 i wq => ∃ c : Nat, s6 = .bool false ∧ c ≤ Cx ∧ i = .int .i64 c ∧ Past wI wq) (fun _ i _ => Cx - (intOf i).toNat)
                case atStart => exact ⟨0, rfl, by omega, rfl, px⟩
                case round =>
                  obtain ⟨c, rfl, hc, rfl, pc⟩ := hrel
                  have b19c := box_past pc b19 (by omega)
                  have b17c := box_past pc b17 (by omega)
                  by_cases hcC : c < Cx
                  · have d3 : decide ((c : Int) < (Cx : Int)) = true := decide_eq_true (by omega)
                    have HCC := Lib.hid hcC
                    obtain ⟨t1, t2, eq⟩ := HAT.out y x' c hyA hxB hcC
                    have ltB := place_lt hyA hxB hcC
                    have ltA := place_lt t1 t2 hcC
                    rw [← HLB.out] at ltB
                    rw [← HLA.out] at ltA
                    obtain ⟨m1, hm1⟩ : ∃ m, y * B2 = m := ⟨_, rfl⟩
                    obtain ⟨s1, hs1⟩ : ∃ m, m1 + x' = m := ⟨_, rfl⟩
                    obtain ⟨m2, hm2⟩ : ∃ m, s1 * Cx = m := ⟨_, rfl⟩
                    obtain ⟨p, hpp⟩ : ∃ m, m2 + c = m := ⟨_, rfl⟩
                    obtain ⟨y2, hy2⟩ : ∃ m, 2 * y = m := ⟨_, rfl⟩
                    obtain ⟨x2, hx2⟩ : ∃ m, 2 * x' = m := ⟨_, rfl⟩
                    rw [hy2, hx2] at eq ltA
                    obtain ⟨m3, hm3⟩ : ∃ m, y2 * Bx = m := ⟨_, rfl⟩
                    obtain ⟨s3, hs3⟩ : ∃ m, m3 + x2 = m := ⟨_, rfl⟩
                    obtain ⟨m4, hm4⟩ : ∃ m, s3 * Cx = m := ⟨_, rfl⟩
                    obtain ⟨q, hqq⟩ : ∃ m, m4 + c = m := ⟨_, rfl⟩
                    rw [hm1, hs1, hm2, hpp, hm3, hs3, hm4, hqq] at eq
                    rw [hm1, hs1, hm2, hpp] at ltB
                    rw [hm3, hs3, hm4, hqq] at ltA
                    have C0 : 1 ≤ Cx := by omega
                    have k1 : s1 ≤ m2 := by rw [← hm2]; exact Nat.le_mul_of_pos_right _ C0
                    have k3 : s3 ≤ m4 := by rw [← hm4]; exact Nat.le_mul_of_pos_right _ C0
                    have liA := HLIA.out
                    have liB := HLIB.out
                    have bds : p ≤ 2048 ∧ q ≤ 2048 ∧ m2 ≤ 2048 ∧ m4 ≤ 2048 ∧ s1 ≤ 2048 ∧ s3 ≤ 2048 ∧ m1 ≤ 2048 ∧ m3 ≤ 2048 ∧ y2 ≤ 40 ∧ x2 ≤ 40 := by omega
                    have e1 : (y : Int) * (B2 : Int) = (m1 : Int) := by rw [← hm1, Int.natCast_mul]
                    have e2 : (m1 : Int) + (x' : Int) = (s1 : Int) := by rw [← hs1, Int.natCast_add]
                    have e3 : (s1 : Int) * (Cx : Int) = (m2 : Int) := by rw [← hm2, Int.natCast_mul]
                    have e4 : (m2 : Int) + (c : Int) = (p : Int) := by rw [← hpp, Int.natCast_add]
                    have e5 : (2 : Int) * (y : Int) = (y2 : Int) := by rw [← hy2, Int.natCast_mul]; rfl
                    have e6 : (2 : Int) * (x' : Int) = (x2 : Int) := by rw [← hx2, Int.natCast_mul]; rfl
                    have e7 : (y2 : Int) * (Bx : Int) = (m3 : Int) := by rw [← hm3, Int.natCast_mul]
                    have e8 : (m3 : Int) + (x2 : Int) = (s3 : Int) := by rw [← hs3, Int.natCast_add]
                    have e9 : (s3 : Int) * (Cx : Int) = (m4 : Int) := by rw [← hm4, Int.natCast_mul]
                    have e10 : (m4 : Int) + (c : Int) = (q : Int) := by rw [← hqq, Int.natCast_add]
                    have v0 : IntKind.i64.wrap (m1 : Int) = (m1 : Int) := IntWalk.i64_in _ (by omega)
                    have v1 : IntKind.i64.wrap (s1 : Int) = (s1 : Int) := IntWalk.i64_in _ (by omega)
                    have v2 : IntKind.i64.wrap (m2 : Int) = (m2 : Int) := IntWalk.i64_in _ (by omega)
                    have v3 : IntKind.i64.wrap (p : Int) = (p : Int) := IntWalk.i64_in _ (by omega)
                    have v4 : IntKind.i64.wrap (y2 : Int) = (y2 : Int) := IntWalk.i64_in _ (by omega)
                    have v5 : IntKind.i64.wrap (x2 : Int) = (x2 : Int) := IntWalk.i64_in _ (by omega)
                    have v6 : IntKind.i64.wrap (m3 : Int) = (m3 : Int) := IntWalk.i64_in _ (by omega)
                    have v7 : IntKind.i64.wrap (s3 : Int) = (s3 : Int) := IntWalk.i64_in _ (by omega)
                    have v8 : IntKind.i64.wrap (m4 : Int) = (m4 : Int) := IntWalk.i64_in _ (by omega)
                    have v9 : IntKind.i64.wrap (q : Int) = (q : Int) := IntWalk.i64_in _ (by omega)
                    obtain ⟨r, hr⟩ : ∃ r, LB.getD p 0 = r := ⟨_, rfl⟩
                    obtain ⟨ab, ao, e11, n1, n22, n33, hab, hac⟩ := nums_parts NA.out (by omega)
                    obtain ⟨bb, bo, e12, n4, n55, n66, hbb, hbc⟩ := nums_parts NB2.out (by omega)
                    clear n1 n22 n33 n4 n55 n66
                    subst e11 e12
                    have kk1 := past_cells (p := ⟨ab, ao + q, none⟩) pc hab (hac q ltA).1
                    have kk2 := past_cells (p := ⟨bb, bo + p, none⟩) pc hbb (hbc p ltB).1
                    rw [← eq, hr] at kk1
                    rw [hr] at kk2
                    have i1 : (p : Int) < (LB.length : Int) := by omega
                    have i2 : (q : Int) < (LA.length : Int) := by omega
                    have wc1 : (c : Int) ≤ 100 := by omega
                    have wc2 : IntKind.i64.wrap ((c : Int) + 1) = (c : Int) + 1 := IntWalk.i64_in _ (by omega)
                    clear hac hbc eq hr hm1 hs1 hm2 hpp hy2 hx2 hm3 hs3 hm4 hqq k1 k3 liA liB t1 t2 hyA hxB hcC hy hx' hc bds ltA ltB C0
                    go_upto_region 38 with fail
                    go_quiet (fail)
                    go_wp2_with fail
                    go_roundw
                    case rel => exact ⟨c + 1, rfl, by have := HCC.out; omega, by go_num, by (((try dsimp only); (try go_split_ands); (repeat' with_reducible apply And.intro)) <;> ((repeat (first | (with_reducible (first | assumption | refine kbS ?_ | refine has_set ?_ | refine kcS ?_ | refine free_set ?_ | refine size_set ?_ | refine kgS ?_ | refine kpS ?_ | refine box_drewN ?_ | refine has_drewN ?_ | refine cell_drewN ?_ | refine free_drewN ?_ | refine size_drewN ?_ | refine Grown.drewN ?_ | refine Past.drewN ?_ | refine box_drew ?_ | refine has_drew ?_ | refine cell_drew ?_ | refine free_drew ?_ | refine size_drew ?_ | refine Grown.drew ?_ | refine Past.drew ?_ | exact kbN | refine kbO ?_ | refine khA ?_ | refine kcA ?_ | refine free_alloc ?_ | exact ksA | refine Grown.alloc ?_ _ _ | refine Past.alloc ?_ _ | exact kbG | exact khG | exact kcG | exact ksG | exact kfG | exact kgG | exact kbP | exact kfP | exact khP | exact kcP | exact ksP | exact kpP | exact kfN | refine Grown.past ?_ | exact Grown.refl _ | exact Past.refl _)) | omega)); done))⟩
                    case measure => have := HCC.out; simp [intOf]; omega
                  · obtain rfl : c = Cx := by omega
                    have d3 : decide ((c : Int) < (c : Int)) = false := by simp
                    go_wp2_with fail
                    go_roundw
                    case rel => exact ⟨x' + 1, rfl, by have := HXB.out; omega, by go_num, pc⟩
                    case measure => have := HXB.out; simp [intOf]; omega
              · obtain rfl : x' = B2 := by omega
                have d2 : decide ((x' : Int) < (x' : Int)) = false := by simp
                go_wp2_with fail
                go_roundw
                case rel => exact ⟨y + 1, rfl, by have := HYA.out; omega, by go_num, px⟩
                case measure => have := HYA.out; simp [intOf]; omega
          · obtain rfl : y = A2 := by omega
            have d1 : decide ((y : Int) < (y : Int)) = false := by simp
            go_wp2_with fail
            go_ret
            exact ⟨rfl, pXI.trans py⟩
      · have d1 : (eb == 0) = false := by rw [beq_eq_false_iff_ne]; exact ob
        have d2 : (eb != 0) = true := by simp only [bne, d1]; rfl
        go_wp2_with fail
        go_ret
        exact ⟨rfl, pXE⟩
    · have d1 : (ea == 0) = false := by rw [beq_eq_false_iff_ne]; exact oa
      have d2 : (ea != 0) = true := by simp only [bne, d1]; rfl
      go_wp2_with fail
      go_ret
      exact ⟨rfl, pXE⟩

theorem strides_walk (W : World) (dv : Value) (x : DataD) (hx : IsData W dv x) (bv : Value) (b : Int × Int) (hb : bv = .agg #[.int .u8 b.1, .int .u8 b.2] ∧ (Lit.int .u8 b.1).wf = true ∧ (Lit.int .u8 b.2).wf = true) (tv : Value) (t : Bool) (ht : tv = .bool t) :
    Calls Try.prog 10 #[dv, bv, tv] W fun e w' => e = .returned (.bool true) ∧ Past W w' := by
  obtain ⟨rfl, h1, h2⟩ := hb
  subst ht
  by_cases hp : pairOk x.l
  · exact strides_yes W dv x hx b.1 b.2 h1 h2 t hp
  · exact strides_no W dv x hx b.1 b.2 h1 h2 t hp
end Go.Proofs.Ytbkigldffcgodaa
