/- The walk of KernBetween. -/
import Derived.Test.YtbkigldffcgodaaMPa
import Derived.Test.YtbkigldffcgodaaMDa
import Derived.Test.YtbkigldffcgodaaMLg
import Derived.Test.YtbkigldffcgodaaMFixP
namespace Go.Proofs.Ytbkigldffcgodaa
open Go.ChangeShapes Go.WideShapes Go.ChangeAt Go.RowKit
set_option maxRecDepth 20000
set_option linter.unusedVariables false
set_option linter.unusedSimpArgs false

theorem rem_natb {a H : Int} (h0 : 0 ≤ a) (h1 : 1 ≤ H) : ∃ f : Nat, a % H = f ∧ Int.tmod a H = f ∧ (f : Int) < H := by
  have m0 := Int.emod_nonneg a (show H ≠ 0 by omega)
  have m1 := Int.emod_lt_of_pos a (show 0 < H by omega)
  refine ⟨(a % H).toNat, by omega, ?_, by omega⟩
  rw [Int.tmod_eq_emod_of_nonneg h0]
  omega
/-- The cells of the first of two values. -/
theorem two_cellsb {w : World} {b : Nat} {u y : ValD} (h : IsVals w (.slice (some ⟨b, 0, none⟩) 2 2) [u, y]) : b < w.heap.size ∧ w.cell? ⟨b, 0, none⟩ = some (.int .i64 u.h) ∧ w.cell? ⟨b, 1, none⟩ = some (.int .i64 u.w) ∧ w.cell? ⟨b, 2, none⟩ = some (.int .i64 u.c) ∧ w.cell? ⟨b, 3, none⟩ = some (.int .i64 u.z) := by
  obtain ⟨_, _, e, _, _, _, _, h⟩ := h
  simp only [Value.slice.injEq] at e
  obtain ⟨rfl, _, rfl⟩ := e
  obtain ⟨b', o', e, hb, hc⟩ := h (by simp)
  simp only [Option.some.injEq, Addr.mk.injEq, and_true] at e
  obtain ⟨rfl, rfl⟩ := e
  exact ⟨hb, hc 0 (by simp)⟩
theorem vals_one_ofb {w : World} {b : Nat} {u y : ValD} (h : IsVals w (.slice (some ⟨b, 0, none⟩) 2 2) [u, y]) : IsVals w (.slice (some ⟨b, 0, none⟩) 1 2) [u] := vals_few (xs := [u, y]) 1 h (by simp)
theorem past_cellb {w w' : World} {p : Addr} {v : Value} (g : Past w w') (hb : p.block < w.heap.size) (h : w.cell? p = some v) : w'.cell? p = some v := cell_past g h hb

set_option maxHeartbeats 4000000 in
theorem between_no (W : World) (dv : Value) (x : DataD) (hx : IsData W dv x) (x0 x1 : Int) (hx0 : (Lit.int .u8 x0).wf = true) (hx1 : (Lit.int .u8 x1).wf = true) (hp : ¬ pairOk x.l) :
    Calls Try.prog 7 #[dv, .agg #[.int .u8 x0, .int .u8 x1]] W fun e w' => e = .returned (.bool true) ∧ Past W w' := by
  obtain ⟨lv, s0, s1, rfl, hl, h0, h1⟩ := hx
  have u0 : 0 ≤ x0 ∧ x0 ≤ 255 := by simpa [Lit.wf, IntKind.min, IntKind.max, IntKind.bits, IntKind.signed] using hx0
  have u1 : 0 ≤ x1 ∧ x1 ≤ 255 := by simpa [Lit.wf, IntKind.min, IntKind.max, IntKind.bits, IntKind.signed] using hx1
  obtain ⟨f, ef, tf, fH⟩ := rem_natb (a := x0) (H := 3) u0.1 (by decide)
  obtain ⟨g, hg⟩ : ∃ g, bits .and .u8 x1 1 = g := ⟨_, rfl⟩
  have gb := mask_u8 x1 1 (by decide) (by decide)
  rw [hg] at gb
  have PN := Lib.hid (fun w (g : Past W w) => qpair_no lv s0 s1 x.l x.xs x.ys w (hl.grow g) (h0.grow g) (h1.grow g) hp)
  obtain ⟨A0, c0, rfl, _⟩ := h0
  obtain ⟨A1, c1, rfl, _⟩ := h1
  obtain ⟨A, cap, rfl, _⟩ := hl
  go_enter Try.func7, Try.ntmps7
  go_upto_region 1 with fail
  refine opq (fun w' => (∀ o : Nat, w'.cell? ⟨W.heap.size, o, none⟩ = (#[.slice A x.l.length cap, .slice A0 x.xs.length c0, .slice A1 x.ys.length c1] : Array Value)[o]?) ∧ (∀ o : Nat, w'.cell? ⟨W.heap.size + 1, o, none⟩ = (#[.int .u8 x0, .int .u8 x1] : Array Value)[o]?) ∧ Past W w' ∧ W.heap.size + 2 ≤ w'.heap.size) (by (((try dsimp only); (try go_split_ands); (repeat' with_reducible apply And.intro)) <;> ((repeat (first | (with_reducible (first | assumption | refine kbS ?_ | refine has_set ?_ | refine kcS ?_ | refine free_set ?_ | refine size_set ?_ | refine kgS ?_ | refine kpS ?_ | refine box_drewN ?_ | refine has_drewN ?_ | refine cell_drewN ?_ | refine free_drewN ?_ | refine size_drewN ?_ | refine Grown.drewN ?_ | refine Past.drewN ?_ | refine box_drew ?_ | refine has_drew ?_ | refine cell_drew ?_ | refine free_drew ?_ | refine size_drew ?_ | refine Grown.drew ?_ | refine Past.drew ?_ | exact kbN | refine kbO ?_ | refine khA ?_ | refine kcA ?_ | refine free_alloc ?_ | exact ksA | refine Grown.alloc ?_ _ _ | refine Past.alloc ?_ _ | exact kbG | exact khG | exact kcG | exact ksG | exact kfG | exact kgG | exact kbP | exact kfP | exact khP | exact kcP | exact ksP | exact kpP | exact kfN | refine Grown.past ?_ | exact Grown.refl _ | exact Past.refl _)) | omega)); done))) ?_
  rintro w1 ⟨b3, bb, p1, z1⟩
  go_wp2_with fail
  refine (shown_any _).mono ?_
  rintro e w2 ⟨rfl, p2⟩
  have b32 := box_past p2 b3 (by omega)
  have bb2 := box_past p2 bb (by omega)
  have pW := p1.trans p2
  have z2 : W.heap.size + 2 ≤ w2.heap.size := by have := p2.2.2.1; omega
  clear b3 bb p1 p2 z1
  go_wp2_with fail
  refine (PN.out _ pW).mono ?_
  rintro e w3 ⟨rfl, p3⟩
  have bb3 := box_past p3 bb2 (by omega)
  have z3 : W.heap.size + 2 ≤ w3.heap.size := by have := p3.2.2.1; omega
  have pX := pW.trans p3
  clear b32 bb2 pW p3
  go_upto_region 3 with fail
  refine opq (fun w' => (∀ o : Nat, w'.cell? ⟨W.heap.size + 1, o, none⟩ = (#[.int .u8 x0, .int .u8 x1] : Array Value)[o]?) ∧ Past W w') (by (((try dsimp only); (try go_split_ands); (repeat' with_reducible apply And.intro)) <;> ((repeat (first | (with_reducible (first | assumption | refine kbS ?_ | refine has_set ?_ | refine kcS ?_ | refine free_set ?_ | refine size_set ?_ | refine kgS ?_ | refine kpS ?_ | refine box_drewN ?_ | refine has_drewN ?_ | refine cell_drewN ?_ | refine free_drewN ?_ | refine size_drewN ?_ | refine Grown.drewN ?_ | refine Past.drewN ?_ | refine box_drew ?_ | refine has_drew ?_ | refine cell_drew ?_ | refine free_drew ?_ | refine size_drew ?_ | refine Grown.drew ?_ | refine Past.drew ?_ | exact kbN | refine kbO ?_ | refine khA ?_ | refine kcA ?_ | refine free_alloc ?_ | exact ksA | refine Grown.alloc ?_ _ _ | refine Past.alloc ?_ _ | exact kbG | exact khG | exact kcG | exact ksG | exact kfG | exact kgG | exact kbP | exact kfP | exact khP | exact kcP | exact ksP | exact kpP | exact kfN | refine Grown.past ?_ | exact Grown.refl _ | exact Past.refl _)) | omega)); done))) ?_
  rintro w4 ⟨bb4, p4⟩
  clear bb3 pX
  go_wp2_with fail
  go_ret
  exact ⟨rfl, p4⟩

set_option maxHeartbeats 60000000 in
theorem between_yes (W : World) (dv : Value) (x : DataD) (hx : IsData W dv x) (x0 x1 : Int) (hx0 : (Lit.int .u8 x0).wf = true) (hx1 : (Lit.int .u8 x1).wf = true) (hp : pairOk x.l) :
    Calls Try.prog 7 #[dv, .agg #[.int .u8 x0, .int .u8 x1]] W fun e w' => e = .returned (.bool true) ∧ Past W w' := by
  obtain ⟨lv, s0, s1, rfl, hl, h0, h1⟩ := hx
  have u0 : 0 ≤ x0 ∧ x0 ≤ 255 := by simpa [Lit.wf, IntKind.min, IntKind.max, IntKind.bits, IntKind.signed] using hx0
  have u1 : 0 ≤ x1 ∧ x1 ≤ 255 := by simpa [Lit.wf, IntKind.min, IntKind.max, IntKind.bits, IntKind.signed] using hx1
  obtain ⟨f, ef, tf, fH⟩ := rem_natb (a := x0) (H := 3) u0.1 (by decide)
  obtain ⟨g, hg⟩ : ∃ g, bits .and .u8 x1 1 = g := ⟨_, rfl⟩
  have gb := mask_u8 x1 1 (by decide) (by decide)
  rw [hg] at gb
  obtain ⟨v, hv⟩ : ∃ v, x.l.getD 0 default = v := ⟨_, rfl⟩
  have PY := Lib.hid (fun w (g : Past W w) => qpair_yes lv s0 s1 x.l v x.xs x.ys w (hl.grow g) (h0.grow g) (h1.grow g) hp hv)
  have hm : mayV (heldV v) := by have := hp.2; rw [hv] at this; exact this
  have hz : -128 ≤ (heldV v).z ∧ (heldV v).z ≤ 127 := by show -128 ≤ fx.held (-128) 127 v.z ∧ fx.held (-128) 127 v.z ≤ 127; unfold fx.held; omega
  obtain ⟨D0, hD0⟩ : ∃ D, dataL (heldV v) x.xs = D := ⟨_, rfl⟩
  obtain ⟨D1, hD1⟩ : ∃ D, dataL (heldV v) x.ys = D := ⟨_, rfl⟩
  have B0 : ∀ q ∈ D0, -128 ≤ q ∧ q ≤ 127 := by rw [← hD0]; exact fillL_bd (nums_bd8 h0) _
  have F0 : FullV (viewOf (heldV v) D0) := viewOf_full hm hz (by rw [← hD0]; exact dataL_len hm) B0
  simp only [hD0, hD1] at PY
  obtain ⟨u, hu⟩ : ∃ u, heldV v = u := ⟨_, rfl⟩
  simp only [hu] at PY hm hz F0
  obtain ⟨N, hN⟩ : ∃ N : Nat, sizeI u.h u.w u.c = N := ⟨(sizeI u.h u.w u.c).toNat, (Int.toNat_of_nonneg (size_nn _ _ _)).symm⟩
  have N2 : N ≤ 2048 := by have := (idx_lt_size hm).2; omega
  have l0 : D0.length = N := by have := F0.2.2.2.2.1; have e : ((viewOf u D0).xs.length : Int) = D0.length := rfl; rw [e] at this; have : (D0.length : Int) = N := this.trans hN; omega
  obtain ⟨A0, c0, rfl, _⟩ := h0
  obtain ⟨A1, c1, rfl, _⟩ := h1
  obtain ⟨A, cap, rfl, _⟩ := hl
  obtain ⟨m1, m2, m3, m4, m5, m6⟩ := id hm
  have HM := Lib.hid hm
  have HZ := Lib.hid hz
  have HF0 := Lib.hid F0
  have HN := Lib.hid hN
  have HL0 := Lib.hid l0
  have HB0 := Lib.hid B0
  clear F0 hm hz hp hv hu hD0 hD1 hN l0 B0
  go_enter Try.func7, Try.ntmps7
  go_upto_region 1 with fail
  refine opq (fun w' => (∀ o : Nat, w'.cell? ⟨W.heap.size, o, none⟩ = (#[.slice A x.l.length cap, .slice A0 x.xs.length c0, .slice A1 x.ys.length c1] : Array Value)[o]?) ∧ (∀ o : Nat, w'.cell? ⟨W.heap.size + 1, o, none⟩ = (#[.int .u8 x0, .int .u8 x1] : Array Value)[o]?) ∧ Past W w' ∧ W.heap.size + 2 ≤ w'.heap.size) (by (((try dsimp only); (try go_split_ands); (repeat' with_reducible apply And.intro)) <;> ((repeat (first | (with_reducible (first | assumption | refine kbS ?_ | refine has_set ?_ | refine kcS ?_ | refine free_set ?_ | refine size_set ?_ | refine kgS ?_ | refine kpS ?_ | refine box_drewN ?_ | refine has_drewN ?_ | refine cell_drewN ?_ | refine free_drewN ?_ | refine size_drewN ?_ | refine Grown.drewN ?_ | refine Past.drewN ?_ | refine box_drew ?_ | refine has_drew ?_ | refine cell_drew ?_ | refine free_drew ?_ | refine size_drew ?_ | refine Grown.drew ?_ | refine Past.drew ?_ | exact kbN | refine kbO ?_ | refine khA ?_ | refine kcA ?_ | refine free_alloc ?_ | exact ksA | refine Grown.alloc ?_ _ _ | refine Past.alloc ?_ _ | exact kbG | exact khG | exact kcG | exact ksG | exact kfG | exact kgG | exact kbP | exact kfP | exact khP | exact kcP | exact ksP | exact kpP | exact kfN | refine Grown.past ?_ | exact Grown.refl _ | exact Past.refl _)) | omega)); done))) ?_
  rintro w1 ⟨b3, bb, p1, z1⟩
  go_wp2_with fail
  refine (shown_any _).mono ?_
  rintro e w2 ⟨rfl, p2⟩
  have b32 := box_past p2 b3 (by omega)
  have bb2 := box_past p2 bb (by omega)
  have pW := p1.trans p2
  have z2 : W.heap.size + 2 ≤ w2.heap.size := by have := p2.2.2.1; omega
  clear b3 bb p1 p2 z1
  go_wp2_with fail
  refine (PY.out _ pW).mono ?_
  rintro e w3 ⟨tb, u0', u1', rfl, hv3, o0, o1, p3⟩
  obtain ⟨V0, k0, rfl⟩ := o0.form
  obtain ⟨V1, k1, rfl⟩ := o1.form
  have pX := pW.trans p3
  have V3 := Lib.hid hv3
  have N0 := Lib.hid (o0.nums HB0.out)
  obtain ⟨htb, ct0, ct1, _, ct3⟩ := two_cellsb hv3
  obtain ⟨z, hzz⟩ : ∃ z, u.z = z := ⟨_, rfl⟩
  obtain ⟨h, hh⟩ : ∃ h, u.h = h := ⟨_, rfl⟩
  obtain ⟨wd, hwd⟩ : ∃ wd, u.w = wd := ⟨_, rfl⟩
  rw [hzz] at ct3
  rw [hh] at ct0 m1 m2
  rw [hwd] at ct1 m3 m4
  have HZZ := Lib.hid hzz
  have HH := Lib.hid hh
  have HW := Lib.hid hwd
  have bb3 := box_past p3 bb2 (by omega)
  have z3 : W.heap.size + 2 ≤ w3.heap.size := by have := p3.2.2.1; omega
  clear b32 bb2 pW p3 hv3 o0 o1 PY hzz hh hwd
  go_upto_region 3 with fail
  refine opq (fun w' => (∀ o : Nat, w'.cell? ⟨W.heap.size + 1, o, none⟩ = (#[.int .u8 x0, .int .u8 x1] : Array Value)[o]?) ∧ (∀ o : Nat, w'.cell? ⟨w3.heap.size, o, none⟩ = (#[.slice V0 D0.length k0, .slice V1 D1.length k1] : Array Value)[o]?) ∧ Past w3 w' ∧ w3.heap.size + 1 ≤ w'.heap.size) (by (((try dsimp only); (try go_split_ands); (repeat' with_reducible apply And.intro)) <;> ((repeat (first | (with_reducible (first | assumption | refine kbS ?_ | refine has_set ?_ | refine kcS ?_ | refine free_set ?_ | refine size_set ?_ | refine kgS ?_ | refine kpS ?_ | refine box_drewN ?_ | refine has_drewN ?_ | refine cell_drewN ?_ | refine free_drewN ?_ | refine size_drewN ?_ | refine Grown.drewN ?_ | refine Past.drewN ?_ | refine box_drew ?_ | refine has_drew ?_ | refine cell_drew ?_ | refine free_drew ?_ | refine size_drew ?_ | refine Grown.drew ?_ | refine Past.drew ?_ | exact kbN | refine kbO ?_ | refine khA ?_ | refine kcA ?_ | refine free_alloc ?_ | exact ksA | refine Grown.alloc ?_ _ _ | refine Past.alloc ?_ _ | exact kbG | exact khG | exact kcG | exact ksG | exact kfG | exact kgG | exact kbP | exact kfP | exact khP | exact kcP | exact ksP | exact kpP | exact kfN | refine Grown.past ?_ | exact Grown.refl _ | exact Past.refl _)) | omega)); done))) ?_
  rintro w4 ⟨bb4, b7, p4, z4⟩
  obtain ⟨P7, hP7⟩ : ∃ P7, w3.heap.size = P7 := ⟨_, rfl⟩
  have n7 : tb < P7 := by omega
  have n3 : w3.heap.size ≤ P7 := by omega
  rw [hP7] at b7 z4
  simp only [hP7]
  have ct04 := cell_past p4 ct0 htb
  have ct14 := cell_past p4 ct1 htb
  have htb4 : tb < w4.heap.size := by omega
  clear hP7 bb3
  by_cases ch : h < 1 + (f : Int)
  · have dh : decide (1 + (f : Int) > h) = true := decide_eq_true ch
    have dh' : decide (h < 1 + (f : Int)) = true := decide_eq_true ch
    go_wp2_with fail
    go_ret
    exact ⟨rfl, pX.trans p4⟩
  have dh : decide (1 + (f : Int) > h) = false := decide_eq_false ch
  have dh' : decide (h < 1 + (f : Int)) = false := decide_eq_false ch
  by_cases cw : wd < 1 + (f : Int)
  · have dw : decide (1 + (f : Int) > wd) = true := decide_eq_true cw
    have dw' : decide (wd < 1 + (f : Int)) = true := decide_eq_true cw
    go_wp2_with fail
    go_ret
    exact ⟨rfl, pX.trans p4⟩
  have dw : decide (1 + (f : Int) > wd) = false := decide_eq_false cw
  have dw' : decide (wd < 1 + (f : Int)) = false := decide_eq_false cw
  obtain ⟨K, hK⟩ : ∃ K, 1 + (f : Int) = K := ⟨_, rfl⟩
  obtain ⟨S, hS'⟩ : ∃ S, 1 + g = S := ⟨_, rfl⟩
  have kk1 : 1 ≤ K := by omega
  have kk3 : K ≤ 3 := by omega
  have ss1 : 1 ≤ S := by omega
  have ss2 : S ≤ 2 := by omega
  have kh : K ≤ u.h := by have := HH.out; omega
  have kw : K ≤ u.w := by have := HW.out; omega
  have oh := win_out kk1 kk3 ss1 ss2 kh (by have := HH.out; omega)
  have ow := win_out kk1 kk3 ss1 ss2 kw (by have := HW.out; omega)
  obtain ⟨OA, hA⟩ : ∃ OA : Nat, outI u.h K S 0 = OA := ⟨(outI u.h K S 0).toNat, by omega⟩
  obtain ⟨OB, hB⟩ : ∃ OB : Nat, outI u.w K S 0 = OB := ⟨(outI u.w K S 0).toNat, by omega⟩
  obtain ⟨C, hC⟩ : ∃ C : Nat, u.c = C := ⟨u.c.toNat, by omega⟩
  have TF : FullV (viewOf u (turnL D0 N)) := viewOf_full HM.out HZ.out (by rw [turnL_len]; exact HN.out.symm) (turnL_bd HB0.out N)
  have M4 := win_make (op := 4) (Or.inl rfl) HM.out HZ.out kk1 kk3 ss1 ss2 kh kw HF0.out noView
  have M5 := win_make (op := 5) (Or.inr rfl) HM.out HZ.out kk1 kk3 ss1 ss2 kh kw HF0.out noView
  have MT := win_make (op := 4) (Or.inl rfl) HM.out HZ.out kk1 kk3 ss1 ss2 kh kw TF noView
  have BT := fun i hi => between_at (i := i) HM.out kk1 kk3 ss1 ss2 kh kw HN.out HL0.out HB0.out hA hB hC hi noView (outI u.h K S 0, outI u.w K S 0, u.c) (by show u.c.toNat = C; omega)
  rw [HZZ.out] at M4 M5 MT
  simp only [HZZ.out] at BT
  have ca : (outI u.h K S 0).toNat = OA := by omega
  have cb : (outI u.w K S 0).toNat = OB := by omega
  have cc : u.c.toNat = C := by omega
  have CC : ∀ (n : NodeD) (a : ViewD), MakeOk n [u] a noView (outI u.h K S 0, outI u.w K S 0, u.c) → n.ins = [] → n.ws = [] → n.bs = [] → ∀ (tv sa sb : Value) (w : World), IsVals w tv [u] → IsNums .i8 w sa a.xs →
      Calls Try.prog 19 #[.agg #[.int .i64 n.op, .slice none 0 0, .int .i64 n.k, .int .i64 n.stride, .int .i64 n.pad, .int .i64 n.out, .int .i64 n.mul, .int .i64 n.shift, .int .i64 n.zero, .int .i64 n.th, .int .i64 n.tw, .int .i64 n.tc, .slice none 0 0, .slice none 0 0], tv, .agg #[sa, sb]] w fun e w' => ∃ v, e = .returned (.tuple #[v, .int .i64 0]) ∧ Own8 w' w.heap.size v (allL n a noView (outI u.h K S 0, outI u.w K S 0, u.c) (OB * C) (OA * (OB * C))) ∧ Past w w' := by
    intro n a hk e1 e2 e3 tv sa sb w hv ha
    have := All_1 n (.slice none 0 0) (.slice none 0 0) (.slice none 0 0) tv (outI u.h K S 0, outI u.w K S 0, u.c) a sa sb [u] w hk rfl ⟨by rw [e1]; exact nums_nil _ _, by rw [e2]; exact nums_nil _ _, by rw [e3]; exact nums_nil _ _⟩ hv ha
    simp only [ca, cb, cc] at this
    exact this
  obtain ⟨LA, hLA⟩ : ∃ L, allL (winK 4 K S z) (viewOf u D0) noView (outI u.h K S 0, outI u.w K S 0, u.c) (OB * C) (OA * (OB * C)) = L := ⟨_, rfl⟩
  obtain ⟨LB, hLB⟩ : ∃ L, allL (winK 5 K S z) (viewOf u D0) noView (outI u.h K S 0, outI u.w K S 0, u.c) (OB * C) (OA * (OB * C)) = L := ⟨_, rfl⟩
  obtain ⟨LC, hLC⟩ : ∃ L, allL (winK 4 K S z) (viewOf u (turnL D0 N)) noView (outI u.h K S 0, outI u.w K S 0, u.c) (OB * C) (OA * (OB * C)) = L := ⟨_, rfl⟩
  simp only [hLA, hLB, hLC] at BT
  have la : LA.length = OA * (OB * C) := by rw [← hLA, allL_len]
  have lb : LB.length = OA * (OB * C) := by rw [← hLB, allL_len]
  have lc : LC.length = OA * (OB * C) := by rw [← hLC, allL_len]
  have bA : ∀ q ∈ LA, -128 ≤ q ∧ q ≤ 127 := by have := allL_bd M4 (no_ws rfl); simp only [ca, cb, cc, hLA] at this; exact this
  have bB : ∀ q ∈ LB, -128 ≤ q ∧ q ≤ 127 := by have := allL_bd M5 (no_ws rfl); simp only [ca, cb, cc, hLB] at this; exact this
  have bC : ∀ q ∈ LC, -128 ≤ q ∧ q ≤ 127 := by have := allL_bd MT (no_ws rfl); simp only [ca, cb, cc, hLC] at this; exact this
  rw [← la] at BT lb lc
  have lim : LA.length ≤ 2048 := by
    rw [la]
    have x1 := Nat.mul_le_mul (show OB ≤ 16 by omega) (show C ≤ 8 by omega)
    exact Nat.mul_le_mul (show OA ≤ 16 by omega) x1
  have C4 := Lib.hid (CC _ _ M4 rfl rfl rfl)
  have C5 := Lib.hid (CC _ _ M5 rfl rfl rfl)
  have CT := Lib.hid (CC _ _ MT rfl rfl rfl)
  rw [hLA] at C4
  rw [hLB] at C5
  rw [hLC] at CT
  have HBT := Lib.hid BT
  have HbA := Lib.hid bA
  have HbB := Lib.hid bB
  have HbC := Lib.hid bC
  have HlB := Lib.hid lb
  have HlC := Lib.hid lc
  have HTB := Lib.hid (turnL_bd HB0.out N)
  have MB := Lib.hid (mostN_bd (f := fun j => D0.getD j 0) (k := N) (fun i _ => getD_i8 HB0.out i))
  have LBd := Lib.hid (leastN_bd (f := fun j => D0.getD j 0) (k := N) (fun i _ => getD_i8 HB0.out i))
  clear hLA hLB hLC la lb lc bA bB bC CC M4 M5 MT BT TF oh ow hA hB hC ca cb cc kh kw
  obtain ⟨i0, hi0, hz0, hz1, hz2⟩ := info_parts infoI8
  have I1 := Lib.hid hi0
  have I2 := Lib.hid hz0
  have I3 := Lib.hid hz1
  have I4 := Lib.hid hz2
  clear hi0 hz0 hz1 hz2
  have n2 : (1 : Int) ≤ 2 := by decide
  go_upto_region 8 with fail
  refine opq (fun w' => (∀ o : Nat, w'.cell? ⟨P7, o, none⟩ = (#[.slice V0 D0.length k0, .slice V1 D1.length k1] : Array Value)[o]?) ∧ Past w3 w' ∧ P7 + 1 ≤ w'.heap.size) (by (((try dsimp only); (try go_split_ands); (repeat' with_reducible apply And.intro)) <;> ((repeat (first | (with_reducible (first | assumption | refine kbS ?_ | refine has_set ?_ | refine kcS ?_ | refine free_set ?_ | refine size_set ?_ | refine kgS ?_ | refine kpS ?_ | refine box_drewN ?_ | refine has_drewN ?_ | refine cell_drewN ?_ | refine free_drewN ?_ | refine size_drewN ?_ | refine Grown.drewN ?_ | refine Past.drewN ?_ | refine box_drew ?_ | refine has_drew ?_ | refine cell_drew ?_ | refine free_drew ?_ | refine size_drew ?_ | refine Grown.drew ?_ | refine Past.drew ?_ | exact kbN | refine kbO ?_ | refine khA ?_ | refine kcA ?_ | refine free_alloc ?_ | exact ksA | refine Grown.alloc ?_ _ _ | refine Past.alloc ?_ _ | exact kbG | exact khG | exact kcG | exact ksG | exact kfG | exact kgG | exact kbP | exact kfP | exact khP | exact kcP | exact ksP | exact kpP | exact kfN | refine Grown.past ?_ | exact Grown.refl _ | exact Past.refl _)) | omega)); done))) ?_
  rintro w5 ⟨b75, p5, z5⟩
  clear bb4 b7 p4 z4 ct04 ct14 htb4
  try simp only [hK, hS']
  have ct35 := cell_past p5 ct3 htb
  have htb5 : tb < w5.heap.size := by omega
  clear hK hS' ef tf hg
  go_upto_region 11 with fail
  refine opq (fun w' => Own8 w' w5.heap.size (.slice (some ⟨w5.heap.size, 0, none⟩) 0 0) [] ∧ Past w5 w') ⟨own8_new (Nat.le_refl _), (Past.refl _).alloc _⟩ ?_
  rintro w6 ⟨own, p6⟩
  go_wp2_with fail
  go_loopw [12, 13, 14, 15] (fun lv mv tv i wr => ∃ (k : Nat) (a b : Int), k ≤ N ∧ i = .int .i64 k ∧ lv = .int .i8 a ∧ mv = .int .i8 b ∧ Hid (leastN (fun j => D0.getD j 0) k = a ∧ mostN (fun j => D0.getD j 0) k = b) ∧ Hid (Own8 wr w5.heap.size tv (turnL D0 k)) ∧ Past w5 wr) (fun _ _ _ i _ => N - (intOf i).toNat)
  case atStart => exact ⟨0, 127, -128, by omega, rfl, rfl, rfl, Lib.hid ⟨rfl, rfl⟩, Lib.hid own, p6⟩
  case round =>
    obtain ⟨k, a, b, hk, rfl, rfl, rfl, hab, hown, pr⟩ := hrel
    have zz : w5.heap.size ≤ wr.heap.size := pr.2.2.1
    have b7r := box_past pr b75 (by omega)
    by_cases hkl : k < N
    · have hkd : k < D0.length := by have := HL0.out; omega
      have d1 : decide ((k : Int) < (D0.length : Int)) = true := decide_eq_true (by omega)
      have i1 : (k : Int) < (D0.length : Int) := by omega
      obtain ⟨ab, ao, e1, n1, n22, n33, hab2, hac⟩ := nums_parts N0.out (by omega)
      clear n1 n22 n33
      subst e1
      obtain ⟨q, hq⟩ : ∃ q, D0.getD k 0 = q := ⟨_, rfl⟩
      have qb := getD_i8 HB0.out k
      rw [hq] at qb
      have cq := (past_cellb (p := ⟨ab, ao + k, none⟩) (p5.trans pr) hab2 (hac k hkd).1)
      rw [hq] at cq
      have e8 : IntKind.i8.wrap (-1 - q) = -1 - q := IntWalk.i8_in _ (by omega)
      obtain ⟨y, ey⟩ : ∃ y, -1 - q = y := ⟨_, rfl⟩
      have RS := Lib.hid (turnL_succ D0 k)
      obtain ⟨a', ha'⟩ : ∃ a', leastN (fun j => D0.getD j 0) (k + 1) = a' := ⟨_, rfl⟩
      obtain ⟨b', hb'⟩ : ∃ b', mostN (fun j => D0.getD j 0) (k + 1) = b' := ⟨_, rfl⟩
      have fa : a' = min a q := by rw [← ha']; simp only [leastN]; rw [hab.out.1, hq]
      have fb : b' = max b q := by rw [← hb']; simp only [mostN]; rw [hab.out.2, hq]
      have HAB := Lib.hid (And.intro ha' hb')
      have ea : (if q < a then q else a) = a' := by rw [fa]; omega
      have eb : (if b < q then q else b) = b' := by rw [fb]; omega
      have ey' := ey
      have HQ := Lib.hid hq
      have EY := Lib.hid ey
      clear hq ha' hb' fa fb hac ey'
      have OW := Lib.hid hown.out
      clear ea eb
      go_upto_region 16 with fail
      have ea : (if q < a then q else a) = a' := by have := HAB.out.1; simp only [leastN] at this; rw [hab.out.1, HQ.out] at this; rw [← this]; omega
      have eb : (if b < q then q else b) = b' := by have := HAB.out.2; simp only [mostN] at this; rw [hab.out.2, HQ.out] at this; rw [← this]; omega
      simp only [ea, eb]
      clear ea eb
      rw [EY.out] at e8
      go_wp2_with (at_builtin; refine wpList_append_own _ rfl (.tmp 85) (.tmp 92) 25 rfl w5.heap.size 52 i0 _ 1 1 Try.underlying25 I1.out I2.out I3.out I4.out rfl (by decide) _ _ _ rfl (World.ownsRow.alloc OW.out _) ⟨wr.heap.size, 0, none⟩ 1 1 [.int .i8 y] rfl rfl (fun j u hu => cells_new1 wr _ 52 j u hu) (by intro u hu; simp at hu; subst hu; rfl) ?c4 ?c5 ?c6 ?_)
      case c4 => unfold maxLen; rw [turnL_len]; omega
      case c5 => rw [turnL_len]; omega
      case c6 => first | omega | (simp; omega)
      intro v4 w4' hown4 hgrow _
      have ho4 := Lib.hid (own8_add hown4)
      have P4 := (pr.alloc (.cells #[.int .i8 y] 52)).grownBy hgrow (fun j hj => (OW.out.lt j hj).1)
      clear hown4 hgrow OW hown pr
      go_wp2_with fail
      go_roundw
      case rel => exact ⟨k + 1, _, _, by omega, by go_num, rfl, rfl, HAB, Lib.hid (by rw [RS.out, HQ.out, EY.out]; exact ho4.out), P4⟩
      case measure => simp [intOf]; omega
    · obtain rfl : k = N := by omega
      have hkd : ¬ k < D0.length := by have := HL0.out; omega
      have d1 : decide ((k : Int) < (D0.length : Int)) = false := decide_eq_false (by omega)
      have NT := Lib.hid (hown.out.nums HTB.out)
      obtain ⟨At, kt, hvt⟩ := hown.out.form
      rw [turnL_len] at hvt
      subst hvt
      have ctr := past_cellb pr htb5 ct35
      have pL := p5.trans pr
      have zr : P7 + 1 ≤ wr.heap.size := by omega
      have htbr : tb < wr.heap.size := by omega
      obtain ⟨wL, hwL⟩ : ∃ wL, wL = wr := ⟨wr, rfl⟩
      subst hwL
      clear hown own p6 pr b75 ct35 htb5 p5 z5
      go_wp2_with fail
      refine wp_region_late (α := Option Addr × Nat) 11 106 [11, 12, 13, 14, 15, 16] (fun p => .tuple #[.slice p.1 LA.length p.2, .int .i64 0]) (fun w' => (∀ o : Nat, w'.cell? ⟨P7, o, none⟩ = (#[.slice V0 D0.length k0, .slice V1 D1.length k1] : Array Value)[o]?) ∧ Past wL w' ∧ P7 + 1 ≤ w'.heap.size ∧ w'.cell? ⟨tb, 3, none⟩ = some (.int .i64 z)) (fun p w' => (∀ o : Nat, w'.cell? ⟨P7, o, none⟩ = (#[.slice V0 D0.length k0, .slice V1 D1.length k1] : Array Value)[o]?) ∧ Past wL w' ∧ P7 + 1 ≤ w'.heap.size ∧ w'.cell? ⟨tb, 3, none⟩ = some (.int .i64 z) ∧ Hid (IsNums .i8 w' (.slice p.1 LA.length p.2) LA)) [(95, ?va95), (96, ?va96), (97, ?va97), (98, ?va98), (99, ?va99), (100, ?va100), (101, ?va101), (102, ?va102), (103, ?va103), (104, ?va104), (105, ?va105)] [95, 96, 97, 98, 99, 100, 101, 102, 103, 104, 105] (fun p => [(94, .tuple #[.slice p.1 LA.length p.2, .int .i64 0]), (107, .slice p.1 LA.length p.2), (108, .int .i64 0), (16, .slice p.1 LA.length p.2), (17, .int .i64 0)]) [94, 107, 108, 16, 17] (by kernel_rfl) (by kernel_rfl) rfl (fun p => rfl) (by simp) ⟨b7r, Past.refl _, zr, ctr⟩ (fun w h => h) ?alla ?cala ?lata ?fina
      case alla =>
        simp only [fillA, Act.put, List.setIfInBounds_toArray, List.set_cons_zero, List.set_cons_succ]
        (iterate 17 (first | refine owesb_skip rfl ?_ | (refine owesb_cons (fun w hw K hK => ?_) ?_; focus ((have hS := Lib.hid hw); go_split_ands; go_simp; (try simp only [Act.put, List.setIfInBounds_toArray, List.set_cons_zero, List.set_cons_succ]); exact hK _ hS.out))))
        exact True.intro
      case lata =>
        intro p
        simp only [fillA, Act.put, List.setIfInBounds_toArray, List.set_cons_zero, List.set_cons_succ]
        (iterate 17 (first | refine owesb_skip rfl ?_ | (refine owesb_cons (fun w hw K hK => ?_) ?_; focus ((have hS := Lib.hid hw); go_split_ands; go_simp; (try simp only [Act.put, List.setIfInBounds_toArray, List.set_cons_zero, List.set_cons_succ]); exact hK _ hS.out))))
        exact True.intro
      case cala =>
        simp only [fillA, Act.put, List.setIfInBounds_toArray, List.set_cons_zero, List.set_cons_succ]
        refine ⟨_, rfl, fun w hw K hK => ?_⟩
        obtain ⟨b7q, p9, z9, ctq⟩ := hw
        go_simp
        refine (C4.out _ _ _ _ (vals_one_ofb (V3.out.grow (pL.trans p9))) (N0.out.grow (pL.trans p9))).mono ?_
        rintro e w10 ⟨vq, rfl, oq, pq⟩
        obtain ⟨Aq, kq, rfl⟩ := oq.form
        exact hK (Aq, kq) _ ⟨box_past pq b7q (by omega), p9.trans pq, by have := pq.2.2.1; omega, past_cellb pq (show tb < w.heap.size by omega) ctq, Lib.hid (oq.nums HbA.out)⟩
      case fina =>
        rintro ⟨Aa, ka⟩ wa ⟨b7a, pa, za, cta, NA⟩
        simp only [fillA, Act.put, List.setIfInBounds_toArray, List.set_cons_zero, List.set_cons_succ]
        clear b7r ctr zr
        have htba : tb < wa.heap.size := by omega
        go_wp2_with fail
        refine wp_region_late (α := Option Addr × Nat) 11 121 [11, 12, 13, 14, 15, 16] (fun p => .tuple #[.slice p.1 LB.length p.2, .int .i64 0]) (fun w' => (∀ o : Nat, w'.cell? ⟨P7, o, none⟩ = (#[.slice V0 D0.length k0, .slice V1 D1.length k1] : Array Value)[o]?) ∧ Past wa w' ∧ P7 + 1 ≤ w'.heap.size ∧ w'.cell? ⟨tb, 3, none⟩ = some (.int .i64 z)) (fun p w' => (∀ o : Nat, w'.cell? ⟨P7, o, none⟩ = (#[.slice V0 D0.length k0, .slice V1 D1.length k1] : Array Value)[o]?) ∧ Past wa w' ∧ P7 + 1 ≤ w'.heap.size ∧ w'.cell? ⟨tb, 3, none⟩ = some (.int .i64 z) ∧ Hid (IsNums .i8 w' (.slice p.1 LB.length p.2) LB)) [(110, ?vb110), (111, ?vb111), (112, ?vb112), (113, ?vb113), (114, ?vb114), (115, ?vb115), (116, ?vb116), (117, ?vb117), (118, ?vb118), (119, ?vb119), (120, ?vb120)] [110, 111, 112, 113, 114, 115, 116, 117, 118, 119, 120] (fun p => [(109, .tuple #[.slice p.1 LB.length p.2, .int .i64 0]), (122, .slice p.1 LB.length p.2), (123, .int .i64 0), (18, .slice p.1 LB.length p.2), (19, .int .i64 0)]) [109, 122, 123, 18, 19] (by kernel_rfl) (by kernel_rfl) rfl (fun p => rfl) (by simp) ⟨b7a, Past.refl _, za, cta⟩ (fun w h => h) ?allb ?calb ?latb ?finb
        case allb =>
          simp only [fillA, Act.put, List.setIfInBounds_toArray, List.set_cons_zero, List.set_cons_succ]
          (iterate 17 (first | refine owesb_skip rfl ?_ | (refine owesb_cons (fun w hw K hK => ?_) ?_; focus ((have hS := Lib.hid hw); go_split_ands; go_simp; (try simp only [Act.put, List.setIfInBounds_toArray, List.set_cons_zero, List.set_cons_succ]); exact hK _ hS.out))))
          exact True.intro
        case latb =>
          intro p
          simp only [fillA, Act.put, List.setIfInBounds_toArray, List.set_cons_zero, List.set_cons_succ]
          (iterate 17 (first | refine owesb_skip rfl ?_ | (refine owesb_cons (fun w hw K hK => ?_) ?_; focus ((have hS := Lib.hid hw); go_split_ands; go_simp; (try simp only [Act.put, List.setIfInBounds_toArray, List.set_cons_zero, List.set_cons_succ]); exact hK _ hS.out))))
          exact True.intro
        case calb =>
          simp only [fillA, Act.put, List.setIfInBounds_toArray, List.set_cons_zero, List.set_cons_succ]
          refine ⟨_, rfl, fun w hw K hK => ?_⟩
          obtain ⟨b7q, p9, z9, ctq⟩ := hw
          go_simp
          refine (C5.out _ _ _ _ (vals_one_ofb (V3.out.grow (pL.trans (pa.trans p9)))) (N0.out.grow (pL.trans (pa.trans p9)))).mono ?_
          rintro e w10 ⟨vq, rfl, oq, pq⟩
          obtain ⟨Aq, kq, rfl⟩ := oq.form
          exact hK (Aq, kq) _ ⟨box_past pq b7q (by omega), p9.trans pq, by have := pq.2.2.1; omega, past_cellb pq (show tb < w.heap.size by omega) ctq, Lib.hid (oq.nums HbB.out)⟩
        case finb =>
          rintro ⟨Ab, kb⟩ wb ⟨b7b, pb, zb, ctb, NB⟩
          simp only [fillA, Act.put, List.setIfInBounds_toArray, List.set_cons_zero, List.set_cons_succ]
          have htbb : tb < wb.heap.size := by omega
          have pB := pa.trans pb
          go_wp2_with fail
          refine (CT.out _ _ _ _ (vals_one_ofb (V3.out.grow (pL.trans pB))) (NT.out.grow pB)).mono ?_
          rintro e wc ⟨vc, rfl, oc, pc⟩
          obtain ⟨Ac, kc, rfl⟩ := oc.form
          have NC := Lib.hid (oc.nums HbC.out)
          have NB' := Lib.hid (NB.out.grow pc)
          have NA' := Lib.hid (NA.out.grow (pb.trans pc))
          have pF := pX.trans (pL.trans (pB.trans pc))
          have q1 : ((LA.length : Int) == (LB.length : Int)) = true := by rw [beq_iff_eq]; have := HlB.out; omega
          have q2 : ((LA.length : Int) == (LC.length : Int)) = true := by rw [beq_iff_eq]; have := HlC.out; omega
          have q1' : ((LA.length : Int) != (LB.length : Int)) = false := by simp only [bne, q1]; rfl
          have q2' : ((LA.length : Int) != (LC.length : Int)) = false := by simp only [bne, q2]; rfl
          clear b7a b7b cta ctb htba htbb pa pb oc za zb
          go_wp2_with fail
          go_loopw [4, 22] (fun s4 i wq => ∃ j : Nat, s4 = .bool false ∧ j ≤ LA.length ∧ i = .int .i64 j ∧ Past wc wq) (fun _ i _ => LA.length - (intOf i).toNat)
          case atStart => exact ⟨0, rfl, by omega, rfl, Past.refl _⟩
          case round =>
            obtain ⟨j, rfl, hj, rfl, pr⟩ := hrel
            by_cases hjl : j < LA.length
            · obtain ⟨t1, t2, t3, t4⟩ := HBT.out j hjl
              obtain ⟨qa, hqa⟩ : ∃ q, LA.getD j 0 = q := ⟨_, rfl⟩
              obtain ⟨qb, hqb⟩ : ∃ q, LB.getD j 0 = q := ⟨_, rfl⟩
              obtain ⟨qc, hqc⟩ : ∃ q, LC.getD j 0 = q := ⟨_, rfl⟩
              have xa := getD_i8 HbA.out j
              have xb := getD_i8 HbB.out j
              have xc := getD_i8 HbC.out j
              rw [hqa, hqb] at t1
              rw [hqb, hqc] at t2
              rw [hqa, hab.out.2] at t3
              rw [hqb, hab.out.1] at t4
              rw [hqa] at xa
              rw [hqb] at xb
              rw [hqc] at xc
              obtain ⟨ya, yao, e1, n1, n22, n33, ha1, ha2⟩ := nums_parts NA'.out (by omega)
              obtain ⟨yb, ybo, e2, n4, n5, n6, hb1, hb2⟩ := nums_parts NB'.out (by have := HlB.out; omega)
              obtain ⟨yc, yco, e3, n7', n8, n9, hc1, hc2⟩ := nums_parts NC.out (by have := HlC.out; omega)
              clear n1 n22 n33 n4 n5 n6 n7' n8 n9
              subst e1 e2 e3
              have kk1 := past_cellb (p := ⟨ya, yao + j, none⟩) pr ha1 (ha2 j hjl).1
              have kk2 := past_cellb (p := ⟨yb, ybo + j, none⟩) pr hb1 (hb2 j (by have := HlB.out; omega)).1
              have kk3 := past_cellb (p := ⟨yc, yco + j, none⟩) pr hc1 (hc2 j (by have := HlC.out; omega)).1
              rw [hqa] at kk1
              rw [hqb] at kk2
              rw [hqc] at kk3
              have e8 : IntKind.i8.wrap (-1 - qc) = -1 - qc := IntWalk.i8_in _ (by omega)
              obtain ⟨y, ey⟩ : ∃ y, -1 - qc = y := ⟨_, rfl⟩
              rw [ey] at e8 t2
              have g1 : decide (qb > qa) = false := decide_eq_false (by omega)
              have g1' : decide (qa < qb) = false := decide_eq_false (by omega)
              have g2 : decide (qb < y) = false := decide_eq_false (by omega)
              have g3 : decide (qa > b) = false := decide_eq_false (by omega)
              have g3' : decide (b < qa) = false := decide_eq_false (by omega)
              have g4 : decide (qb < a) = false := decide_eq_false (by omega)
              have d2 : decide ((j : Int) < (LA.length : Int)) = true := decide_eq_true (by omega)
              have i1 : (j : Int) < (LA.length : Int) := by omega
              have i2 : (j : Int) < (LB.length : Int) := by have := HlB.out; omega
              have i2' : j < LB.length := by omega
              have i3 : (j : Int) < (LC.length : Int) := by have := HlC.out; omega
              have i3' : j < LC.length := by omega
              have HJL := Lib.hid hjl
              (try clear HTB); (try clear MB); (try clear LBd); (try clear HBT); (try clear HbA); (try clear HbB); (try clear HbC); (try clear HlB); (try clear HlC); (try clear C4); (try clear C5); (try clear CT); (try clear NT); (try clear NA); (try clear NB); (try clear NC); (try clear NA'); (try clear NB'); (try clear HM); (try clear HZ); (try clear HF0); (try clear HN); (try clear HL0); (try clear HB0); (try clear I1); (try clear I2); (try clear I3); (try clear I4); (try clear V3); (try clear N0); (try clear HZZ); (try clear HH); (try clear HW); (try clear pX); (try clear pL); (try clear pB); (try clear pc); (try clear pF); (try clear q1); (try clear q2); (try clear q1'); (try clear q2'); (try clear ct0); (try clear ct1); (try clear ct3); (try clear htb); (try clear htbr); (try clear n7); (try clear n3); (try clear hkd); (try clear d1); (try clear hab); (try clear t1); (try clear t2); (try clear t3); (try clear t4); (try clear m1); (try clear m2); (try clear m3); (try clear m4); (try clear m5); (try clear m6); (try clear kk1'); (try clear oh); (try clear ow); (try clear ch); (try clear cw); (try clear dh); (try clear dh'); (try clear dw); (try clear dw'); (try clear u0); (try clear u1); (try clear hx0); (try clear hx1); (try clear gb); (try clear fH); (try clear ha1); (try clear hb1); (try clear hc1); (try clear zz); (try clear hkl); (try clear i0); (try clear z3); (try clear N2); skip
              clear ha2 hb2 hc2 hqa hqb hqc
              go_upto_region 25 with fail
              refine wp_region_fill (fun w' => w'.cell? ⟨ya, yao + j, none⟩ = some (.int .i8 qa) ∧ w'.cell? ⟨yb, ybo + j, none⟩ = some (.int .i8 qb) ∧ w'.cell? ⟨yc, yco + j, none⟩ = some (.int .i8 qc) ∧ Past wc w') [(168, ?vc168), (169, ?vc169), (170, ?vc170), (171, ?vc171), (172, ?vc172), (173, ?vc173), (174, ?vc174), (175, ?vc175), (176, ?vc176), (177, ?vc177), (178, ?vc178), (179, ?vc179), (180, ?vc180), (181, ?vc181), (182, ?vc182), (183, ?vc183), (184, ?vc184), (185, ?vc185), (186, ?vc186), (187, ?vc187), (188, ?vc188), (189, ?vc189), (190, ?vc190), (191, ?vc191), (192, ?vc192), (193, ?vc193), (194, ?vc194), (195, ?vc195), (196, ?vc196), (197, ?vc197), (198, ?vc198), (199, ?vc199), (200, ?vc200), (201, ?vc201), (202, ?vc202), (203, ?vc203), (204, ?vc204)] [168, 169, 170, 171, 172, 173, 174, 175, 176, 177, 178, 179, 180, 181, 182, 183, 184, 185, 186, 187, 188, 189, 190, 191, 192, 193, 194, 195, 196, 197, 198, 199, 200, 201, 202, 203, 204] (by kernel_rfl) (by kernel_rfl) rfl (by kernel_rfl) ⟨kk1, kk2, kk3, pr⟩ (fun w h => h) ?allc ?finc
              case allc =>
                simp only [fillA, Act.put, List.setIfInBounds_toArray, List.set_cons_zero, List.set_cons_succ]
                iterate 37 (refine owes_cons (fun w hw K hK => ?_) ?_; focus ((have hS := Lib.hid hw); go_split_ands; go_simp; (try simp only [Act.put, List.setIfInBounds_toArray, List.set_cons_zero, List.set_cons_succ]); first | exact hK _ hS.out))
                exact True.intro
              case finc =>
                rintro we ⟨kk1, kk2, kk3, pr⟩
                simp only [fillA, Act.put, List.setIfInBounds_toArray, List.set_cons_zero, List.set_cons_succ]
                go_wp2_with fail
                go_roundw
                case rel => exact ⟨j + 1, rfl, by have := HJL.out; omega, by go_num, pr⟩
                case measure => have := HJL.out; simp [intOf]; omega
            · obtain rfl : j = LA.length := by omega
              have d2 : decide ((LA.length : Int) < (LA.length : Int)) = false := by simp
              go_wp2_with fail
              go_ret
              exact ⟨rfl, pF.trans pr⟩
end Go.Proofs.Ytbkigldffcgodaa
