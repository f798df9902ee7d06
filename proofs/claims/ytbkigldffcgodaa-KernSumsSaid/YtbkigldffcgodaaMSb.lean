/- The walk of KernSums. -/
import Derived.Test.YtbkigldffcgodaaMSa
import Derived.Test.YtbkigldffcgodaaMDa
import Derived.Test.YtbkigldffcgodaaMLg
namespace Go.Proofs.Ytbkigldffcgodaa
open Go.ChangeShapes Go.WideShapes Go.ChangeAt Go.RowKit
set_option maxRecDepth 20000
set_option linter.unusedVariables false
set_option linter.unusedSimpArgs false

theorem ZN14 : (Try.prog.info? 28).map (·.zero) = some (some (.agg #[.int .i64 0, .slice none 0 0, .int .i64 0, .int .i64 0, .int .i64 0, .int .i64 0, .int .i64 0, .int .i64 0, .int .i64 0, .int .i64 0, .int .i64 0, .int .i64 0, .slice none 0 0, .slice none 0 0])) := by kernel_rfl
def NZ : Value := .agg #[.int .i64 0, .slice none 0 0, .int .i64 0, .int .i64 0, .int .i64 0, .int .i64 0, .int .i64 0, .int .i64 0, .int .i64 0, .int .i64 0, .int .i64 0, .int .i64 0, .slice none 0 0, .slice none 0 0]
theorem box14_c0 {w : World} {b : Nat} {x y : Value} {l : List Value} (h : (∀ o : Nat, w.cell? ⟨b, o, none⟩ = (⟨x :: l⟩ : Array Value)[o]?)) : (∀ o : Nat, (w.setCell ⟨b, 0, none⟩ y).cell? ⟨b, o, none⟩ = (⟨y :: l⟩ : Array Value)[o]?) := by
  intro o
  match o with
  | 0 => exact World.cell?_setCell_same w _ _ (h 0)
  | k + 1 => rw [World.cell?_setCell_other _ _ _ _ (by simp)]; have := h (k + 1); simpa using this

theorem box14_c067 {w : World} {b : Nat} {x0 x1 x2 x3 x4 x5 x6 x7 y0 y6 y7 : Value} {l : List Value} (h : (∀ o : Nat, w.cell? ⟨b, o, none⟩ = (⟨x0 :: x1 :: x2 :: x3 :: x4 :: x5 :: x6 :: x7 :: l⟩ : Array Value)[o]?)) : (∀ o : Nat, (((w.setCell ⟨b, 0, none⟩ y0).setCell ⟨b, 6, none⟩ y6).setCell ⟨b, 7, none⟩ y7).cell? ⟨b, o, none⟩ = (⟨y0 :: x1 :: x2 :: x3 :: x4 :: x5 :: y6 :: y7 :: l⟩ : Array Value)[o]?) := by
  intro o
  match o with
  | 0 => rw [World.cell?_setCell_other _ _ _ _ (by simp), World.cell?_setCell_other _ _ _ _ (by simp)]; exact World.cell?_setCell_same w _ _ (h 0)
  | 1 => rw [World.cell?_setCell_other _ _ _ _ (by simp), World.cell?_setCell_other _ _ _ _ (by simp), World.cell?_setCell_other _ _ _ _ (by simp)]; exact h 1
  | 2 => rw [World.cell?_setCell_other _ _ _ _ (by simp), World.cell?_setCell_other _ _ _ _ (by simp), World.cell?_setCell_other _ _ _ _ (by simp)]; exact h 2
  | 3 => rw [World.cell?_setCell_other _ _ _ _ (by simp), World.cell?_setCell_other _ _ _ _ (by simp), World.cell?_setCell_other _ _ _ _ (by simp)]; exact h 3
  | 4 => rw [World.cell?_setCell_other _ _ _ _ (by simp), World.cell?_setCell_other _ _ _ _ (by simp), World.cell?_setCell_other _ _ _ _ (by simp)]; exact h 4
  | 5 => rw [World.cell?_setCell_other _ _ _ _ (by simp), World.cell?_setCell_other _ _ _ _ (by simp), World.cell?_setCell_other _ _ _ _ (by simp)]; exact h 5
  | 6 =>
    rw [World.cell?_setCell_other _ _ _ _ (by simp)]
    refine World.cell?_setCell_same _ ⟨b, 6, none⟩ _ (u := x6) ?_
    rw [World.cell?_setCell_other _ _ _ _ (by simp)]
    exact h 6
  | 7 =>
    refine World.cell?_setCell_same _ ⟨b, 7, none⟩ _ (u := x7) ?_
    rw [World.cell?_setCell_other _ _ _ _ (by simp), World.cell?_setCell_other _ _ _ _ (by simp)]
    exact h 7
  | k + 8 => rw [World.cell?_setCell_other _ _ _ _ (by simp), World.cell?_setCell_other _ _ _ _ (by simp), World.cell?_setCell_other _ _ _ _ (by simp)]; have := h (k + 8); simpa using this
set_option maxHeartbeats 4000000 in
theorem sums_no (W : World) (dv : Value) (x : DataD) (hx : IsData W dv x) (mul shift : Int) (hp : ¬ pairOk x.l) :
    Calls Try.prog 5 #[dv, .int .i64 mul, .int .i64 shift] W fun e w' => e = .returned (.bool true) ∧ Past W w' := by
  obtain ⟨lv, s0, s1, rfl, hl, h0, h1⟩ := hx
  have PN := Lib.hid (fun w (g : Past W w) => qpair_no lv s0 s1 x.l x.xs x.ys w (hl.grow g) (h0.grow g) (h1.grow g) hp)
  obtain ⟨A0, c0, rfl, _⟩ := h0
  obtain ⟨A1, c1, rfl, _⟩ := h1
  obtain ⟨A, cap, rfl, _⟩ := hl
  go_enter Try.func5, Try.ntmps5
  go_upto_region 1 with fail
  refine opq (fun w' => (∀ o : Nat, w'.cell? ⟨W.heap.size, o, none⟩ = (#[.slice A x.l.length cap, .slice A0 x.xs.length c0, .slice A1 x.ys.length c1] : Array Value)[o]?) ∧ Past W w' ∧ W.heap.size + 1 ≤ w'.heap.size) (by (((try dsimp only); (try go_split_ands); (repeat' with_reducible apply And.intro)) <;> ((repeat (first | (with_reducible (first | assumption | refine kbS ?_ | refine has_set ?_ | refine kcS ?_ | refine free_set ?_ | refine size_set ?_ | refine kgS ?_ | refine kpS ?_ | refine box_drewN ?_ | refine has_drewN ?_ | refine cell_drewN ?_ | refine free_drewN ?_ | refine size_drewN ?_ | refine Grown.drewN ?_ | refine Past.drewN ?_ | refine box_drew ?_ | refine has_drew ?_ | refine cell_drew ?_ | refine free_drew ?_ | refine size_drew ?_ | refine Grown.drew ?_ | refine Past.drew ?_ | exact kbN | refine kbO ?_ | refine khA ?_ | refine kcA ?_ | refine free_alloc ?_ | exact ksA | refine Grown.alloc ?_ _ _ | refine Past.alloc ?_ _ | exact kbG | exact khG | exact kcG | exact ksG | exact kfG | exact kgG | exact kbP | exact kfP | exact khP | exact kcP | exact ksP | exact kpP | exact kfN | refine Grown.past ?_ | exact Grown.refl _ | exact Past.refl _)) | omega)); done))) ?_
  rintro w1 ⟨b3, p1, z1⟩
  go_wp2_with fail
  refine (shown_any _).mono ?_
  rintro e w2 ⟨rfl, p2⟩
  have b32 := box_past p2 b3 (by omega)
  have pW := p1.trans p2
  clear b3 p1 p2
  go_wp2_with fail
  refine (PN.out _ pW).mono ?_
  rintro e w3 ⟨rfl, p3⟩
  have pX := pW.trans p3
  clear b32 pW p3
  go_wp2_with fail
  go_ret
  exact ⟨rfl, by (((try dsimp only); (try go_split_ands); (repeat' with_reducible apply And.intro)) <;> ((repeat (first | (with_reducible (first | assumption | refine kbS ?_ | refine has_set ?_ | refine kcS ?_ | refine free_set ?_ | refine size_set ?_ | refine kgS ?_ | refine kpS ?_ | refine box_drewN ?_ | refine has_drewN ?_ | refine cell_drewN ?_ | refine free_drewN ?_ | refine size_drewN ?_ | refine Grown.drewN ?_ | refine Past.drewN ?_ | refine box_drew ?_ | refine has_drew ?_ | refine cell_drew ?_ | refine free_drew ?_ | refine size_drew ?_ | refine Grown.drew ?_ | refine Past.drew ?_ | exact kbN | refine kbO ?_ | refine khA ?_ | refine kcA ?_ | refine free_alloc ?_ | exact ksA | refine Grown.alloc ?_ _ _ | refine Past.alloc ?_ _ | exact kbG | exact khG | exact kcG | exact ksG | exact kfG | exact kgG | exact kbP | exact kfP | exact khP | exact kcP | exact ksP | exact kpP | exact kfN | refine Grown.past ?_ | exact Grown.refl _ | exact Past.refl _)) | omega)); done))⟩

set_option maxHeartbeats 8000000 in
theorem sums_yes (W : World) (dv : Value) (x : DataD) (hx : IsData W dv x) (mul shift : Int) (hp : pairOk x.l) :
    Calls Try.prog 5 #[dv, .int .i64 mul, .int .i64 shift] W fun e w' => e = .returned (.bool true) ∧ Past W w' := by
  obtain ⟨lv, s0, s1, rfl, hl, h0, h1⟩ := hx
  obtain ⟨v, hv⟩ : ∃ v, x.l.getD 0 default = v := ⟨_, rfl⟩
  have PY := Lib.hid (fun w (g : Past W w) => qpair_yes lv s0 s1 x.l v x.xs x.ys w (hl.grow g) (h0.grow g) (h1.grow g) hp hv)
  have hm : mayV (heldV v) := by have := hp.2; rw [hv] at this; exact this
  have hz : -128 ≤ (heldV v).z ∧ (heldV v).z ≤ 127 := by show -128 ≤ fx.held (-128) 127 v.z ∧ fx.held (-128) 127 v.z ≤ 127; unfold fx.held; omega
  obtain ⟨D0, hD0⟩ : ∃ D, dataL (heldV v) x.xs = D := ⟨_, rfl⟩
  obtain ⟨D1, hD1⟩ : ∃ D, dataL (heldV v) x.ys = D := ⟨_, rfl⟩
  have B0 : ∀ q ∈ D0, -128 ≤ q ∧ q ≤ 127 := by rw [← hD0]; exact fillL_bd (nums_bd8 h0) _
  have B1 : ∀ q ∈ D1, -128 ≤ q ∧ q ≤ 127 := by rw [← hD1]; exact fillL_bd (nums_bd8 h1) _
  have F0 : FullV (viewOf (heldV v) D0) := viewOf_full hm hz (by rw [← hD0]; exact dataL_len hm) B0
  have F1 : FullV (viewOf (heldV v) D1) := viewOf_full hm hz (by rw [← hD1]; exact dataL_len hm) B1
  simp only [hD0, hD1] at PY
  obtain ⟨u, hu⟩ : ∃ u, heldV v = u := ⟨_, rfl⟩
  simp only [hu] at PY hm hz F0 F1
  obtain ⟨N, hN⟩ : ∃ N, u.h.toNat * (u.w.toNat * u.c.toNat) = N := ⟨_, rfl⟩
  have sz : sizeI u.h u.w u.c = (N : Int) := by
    obtain ⟨a, b, c, eh, ew, ec, es, _⟩ := size_nat hm
    rw [es, ← hN, eh, ew, ec]
    simp
  have N2 : N ≤ 2048 := by have := (idx_lt_size hm).2; omega
  have l0 : D0.length = N := by have := F0.2.2.2.2.1; have e : ((viewOf u D0).xs.length : Int) = D0.length := rfl; rw [e] at this; have : (D0.length : Int) = N := this.trans sz; omega
  have l1 : D1.length = N := by have := F1.2.2.2.2.1; have e : ((viewOf u D1).xs.length : Int) = D1.length := rfl; rw [e] at this; have : (D1.length : Int) = N := this.trans sz; omega
  have FZ : FullV (viewOf u (List.replicate N u.z)) := viewOf_full hm hz (by simp [sz]) (fun q hq => by rw [List.eq_of_mem_replicate hq]; exact hz)
  obtain ⟨M0, hM⟩ : ∃ M0, bits .and .i64 mul 1023 = M0 := ⟨_, rfl⟩
  obtain ⟨S0, hS⟩ : ∃ S0, bits .and .i64 shift 31 = S0 := ⟨_, rfl⟩
  have mb := mask_bd mul 1023 (by decide) (by decide)
  have sb := mask_bd shift 31 (by decide) (by decide)
  rw [hM] at mb
  rw [hS] at sb
  have M1 : 1 ≤ 1 + M0 ∧ 1 + M0 ≤ 32767 := by omega
  have MA := pairK_make (op := 6) (Or.inl rfl) hm hz M1 sb F0 F1
  have MB := pairK_make (op := 6) (Or.inl rfl) hm hz M1 sb F1 F0
  have MP := pairK_make (op := 7) (Or.inr rfl) hm hz M1 sb F0 F1
  have MQ := pairK_make (op := 7) (Or.inr rfl) hm hz M1 sb F1 F0
  have MZ := pairK_make (op := 7) (Or.inr rfl) hm hz M1 sb F0 FZ
  have MS := pairK_make (op := 6) (mul := 1) (shift := 0) (Or.inl rfl) hm hz (by decide) (by decide) F0 FZ
  have nob : ∀ n : NodeD, n.ws = [] → ∀ k, -128 ≤ n.ws.getD k 0 ∧ n.ws.getD k 0 ≤ 127 := fun n h => no_ws h
  obtain ⟨LA, hA⟩ : ∃ L, allL (pairK 6 (1 + M0) S0 u.z) (viewOf u D0) (viewOf u D1) (u.h, u.w, u.c) (u.w.toNat * u.c.toNat) N = L := ⟨_, rfl⟩
  obtain ⟨LP, hP⟩ : ∃ L, allL (pairK 7 (1 + M0) S0 u.z) (viewOf u D0) (viewOf u D1) (u.h, u.w, u.c) (u.w.toNat * u.c.toNat) N = L := ⟨_, rfl⟩
  have BA : ∀ q ∈ LA, -128 ≤ q ∧ q ≤ 127 := by have := allL_bd MA (no_ws rfl); rw [hN, hA] at this; exact this
  have BP : ∀ q ∈ LP, -128 ≤ q ∧ q ≤ 127 := by have := allL_bd MP (no_ws rfl); rw [hN, hP] at this; exact this
  have hB : allL (pairK 6 (1 + M0) S0 u.z) (viewOf u D1) (viewOf u D0) (u.h, u.w, u.c) (u.w.toNat * u.c.toNat) N = LA := by rw [← hA]; exact pairK_turn (Or.inl rfl) _ _ _ _ _
  have hQ : allL (pairK 7 (1 + M0) S0 u.z) (viewOf u D1) (viewOf u D0) (u.h, u.w, u.c) (u.w.toNat * u.c.toNat) N = LP := by rw [← hP]; exact pairK_turn (Or.inr rfl) _ _ _ _ _
  have hZ := mul_nought (mul := 1 + M0) (shift := S0) (v := u) D0 hm hz hN
  have hS2 := add_nought (v := u) hm hz hN l0 B0
  have bz : ∀ q ∈ List.replicate N u.z, -128 ≤ q ∧ q ≤ 127 := fun q hq => by rw [List.eq_of_mem_replicate hq]; exact hz
  have C2 : ∀ (n : NodeD) (a b : ViewD), MakeOk n [u, u] a b (u.h, u.w, u.c) → n.ins = [] → n.ws = [] → n.bs = [] → ∀ (tv sa sb : Value) (w : World), IsVals w tv [u, u] → IsNums .i8 w sa a.xs → IsNums .i8 w sb b.xs →
      Calls Try.prog 19 #[.agg #[.int .i64 n.op, .slice none 0 0, .int .i64 n.k, .int .i64 n.stride, .int .i64 n.pad, .int .i64 n.out, .int .i64 n.mul, .int .i64 n.shift, .int .i64 n.zero, .int .i64 n.th, .int .i64 n.tw, .int .i64 n.tc, .slice none 0 0, .slice none 0 0], tv, .agg #[sa, sb]] w fun e w' => ∃ v, e = .returned (.tuple #[v, .int .i64 0]) ∧ Own8 w' w.heap.size v (allL n a b (u.h, u.w, u.c) (u.w.toNat * u.c.toNat) N) ∧ Past w w' := by
    intro n a b hk e1 e2 e3 tv sa sb w hv ha hb
    have := All_2 n (.slice none 0 0) (.slice none 0 0) (.slice none 0 0) tv (u.h, u.w, u.c) a b sa sb [u, u] w hk rfl ⟨by rw [e1]; exact nums_nil _ _, by rw [e2]; exact nums_nil _ _, by rw [e3]; exact nums_nil _ _⟩ hv ha hb
    rw [← hN]
    exact this
  have CC := Lib.hid C2
  have HMA := Lib.hid MA
  have HMB := Lib.hid MB
  have HMP := Lib.hid MP
  have HMQ := Lib.hid MQ
  have HMZ := Lib.hid MZ
  have HMS := Lib.hid MS
  have HA := Lib.hid hA
  have HB := Lib.hid hB
  have HP := Lib.hid hP
  have HQ := Lib.hid hQ
  have HZ := Lib.hid hZ
  have HS2 := Lib.hid hS2
  have HB0 := Lib.hid B0
  have HB1 := Lib.hid B1
  have HBA := Lib.hid BA
  have HBP := Lib.hid BP
  have HBZ := Lib.hid bz
  have HL0 := Lib.hid l0
  have RS := Lib.hid (fun k => List.replicate_succ' (n := k) (a := u.z))
  obtain ⟨z, hzz⟩ : ∃ z, u.z = z := ⟨_, rfl⟩
  simp only [hzz] at HMA HMB HMP HMQ HMZ HMS HA HB HP HQ HZ HS2 HBZ RS hz
  obtain ⟨A0, c0, rfl, _⟩ := h0
  obtain ⟨A1, c1, rfl, _⟩ := h1
  obtain ⟨A, cap, rfl, _⟩ := hl
  obtain ⟨i0, hi0, hz0, hz1, hz2⟩ := info_parts infoI8
  have I1 := Lib.hid hi0
  have I2 := Lib.hid hz0
  have I3 := Lib.hid hz1
  have I4 := Lib.hid hz2
  have HZZ := Lib.hid hzz
  have e8 : IntKind.i8.wrap z = z := IntWalk.i8_in _ (by omega)
  clear hi0 hz0 hz1 hz2 MA MB MP MQ MZ MS hA hB hP hQ hZ hS2 B0 B1 BA BP bz l0 l1 C2 F0 F1 FZ nob sz hN hu hv hp hD0 hD1 hm hzz
  go_enter Try.func5, Try.ntmps5
  go_upto_region 1 with fail
  refine opq (fun w' => (∀ o : Nat, w'.cell? ⟨W.heap.size, o, none⟩ = (#[.slice A x.l.length cap, .slice A0 x.xs.length c0, .slice A1 x.ys.length c1] : Array Value)[o]?) ∧ Past W w' ∧ W.heap.size + 1 ≤ w'.heap.size) (by (((try dsimp only); (try go_split_ands); (repeat' with_reducible apply And.intro)) <;> ((repeat (first | (with_reducible (first | assumption | refine kbS ?_ | refine has_set ?_ | refine kcS ?_ | refine free_set ?_ | refine size_set ?_ | refine kgS ?_ | refine kpS ?_ | refine box_drewN ?_ | refine has_drewN ?_ | refine cell_drewN ?_ | refine free_drewN ?_ | refine size_drewN ?_ | refine Grown.drewN ?_ | refine Past.drewN ?_ | refine box_drew ?_ | refine has_drew ?_ | refine cell_drew ?_ | refine free_drew ?_ | refine size_drew ?_ | refine Grown.drew ?_ | refine Past.drew ?_ | exact kbN | refine kbO ?_ | refine khA ?_ | refine kcA ?_ | refine free_alloc ?_ | exact ksA | refine Grown.alloc ?_ _ _ | refine Past.alloc ?_ _ | exact kbG | exact khG | exact kcG | exact ksG | exact kfG | exact kgG | exact kbP | exact kfP | exact khP | exact kcP | exact ksP | exact kpP | exact kfN | refine Grown.past ?_ | exact Grown.refl _ | exact Past.refl _)) | omega)); done))) ?_
  rintro w1 ⟨b3, p1, z1⟩
  go_wp2_with fail
  refine (shown_any _).mono ?_
  rintro e w2 ⟨rfl, p2⟩
  have b32 := box_past p2 b3 (by omega)
  have pW := p1.trans p2
  clear b3 p1 p2 z1
  go_wp2_with fail
  refine (PY.out _ pW).mono ?_
  rintro e w3 ⟨tb, u0, u1, rfl, hv3, o0, o1, p3⟩
  obtain ⟨V0, k0, rfl⟩ := o0.form
  obtain ⟨V1, k1, rfl⟩ := o1.form
  have pX := pW.trans p3
  have V3 := Lib.hid hv3
  have N0 := Lib.hid (o0.nums HB0.out)
  have N1 := Lib.hid (o1.nums HB1.out)
  obtain ⟨htb, ct⟩ : tb < w3.heap.size ∧ w3.cell? ⟨tb, 3, none⟩ = some (.int .i64 z) := by
    obtain ⟨_, _, e, _, _, _, _, h⟩ := hv3
    simp only [Value.slice.injEq] at e
    obtain ⟨rfl, _, rfl⟩ := e
    obtain ⟨b', o', e, hb, hc⟩ := h (by simp)
    simp only [Option.some.injEq, Addr.mk.injEq, and_true] at e
    obtain ⟨rfl, rfl⟩ := e
    obtain ⟨_, _, _, c3⟩ := hc 0 (by simp)
    refine ⟨hb, ?_⟩
    rw [← HZZ.out]
    exact c3
  clear b32 pW p3 hv3 o0 o1 PY
  go_upto_region 5 with fail
  refine opq (fun w' => (∀ o : Nat, w'.cell? ⟨w3.heap.size, o, none⟩ = (#[.slice V0 D0.length k0, .slice V1 D1.length k1] : Array Value)[o]?) ∧ Past w3 w' ∧ w3.heap.size + 1 ≤ w'.heap.size) (by (((try dsimp only); (try go_split_ands); (repeat' with_reducible apply And.intro)) <;> ((repeat (first | (with_reducible (first | assumption | refine kbS ?_ | refine has_set ?_ | refine kcS ?_ | refine free_set ?_ | refine size_set ?_ | refine kgS ?_ | refine kpS ?_ | refine box_drewN ?_ | refine has_drewN ?_ | refine cell_drewN ?_ | refine free_drewN ?_ | refine size_drewN ?_ | refine Grown.drewN ?_ | refine Past.drewN ?_ | refine box_drew ?_ | refine has_drew ?_ | refine cell_drew ?_ | refine free_drew ?_ | refine size_drew ?_ | refine Grown.drew ?_ | refine Past.drew ?_ | exact kbN | refine kbO ?_ | refine khA ?_ | refine kcA ?_ | refine free_alloc ?_ | exact ksA | refine Grown.alloc ?_ _ _ | refine Past.alloc ?_ _ | exact kbG | exact khG | exact kcG | exact ksG | exact kfG | exact kgG | exact kbP | exact kfP | exact khP | exact kcP | exact ksP | exact kpP | exact kfN | refine Grown.past ?_ | exact Grown.refl _ | exact Past.refl _)) | omega)); done))) ?_
  rintro w4 ⟨b9, p4, z4⟩
  have ct4 := cell_past p4 ct htb
  have htb4 : tb < w4.heap.size := Nat.lt_of_lt_of_le htb p4.2.2.1
  go_upto_region 6 with (first | ((refine wpList_alloc_box rfl 28 rfl NZ ZN14 (fun w' => (∀ o : Nat, w'.cell? ⟨w4.heap.size, o, none⟩ = (#[.int .i64 0, .slice none 0 0, .int .i64 0, .int .i64 0, .int .i64 0, .int .i64 0, .int .i64 0, .int .i64 0, .int .i64 0, .int .i64 0, .int .i64 0, .int .i64 0, .slice none 0 0, .slice none 0 0] : Array Value)[o]?) ∧ (∀ o : Nat, w'.frozen? ⟨w4.heap.size, o, none⟩ = false) ∧ (∀ o : Nat, w'.cell? ⟨w3.heap.size, o, none⟩ = (#[.slice V0 D0.length k0, .slice V1 D1.length k1] : Array Value)[o]?) ∧ Past w3 w' ∧ w4.heap.size + 1 ≤ w'.heap.size) ⟨box_new rfl, free_alloc (free_new (Nat.le_refl _)), box_old b9 (by omega), p4.alloc _, by simp⟩ ?_); rintro w5 ⟨bz, fz, b95, p5, z5⟩) | ((refine wpList_store_box rfl 28 (.tmp 11) (.tmp 50) rfl w4.heap.size #[.int .i64 6, .slice none 0 0, .int .i64 0, .int .i64 0, .int .i64 0, .int .i64 0, .int .i64 (1 + M0), .int .i64 S0, .int .i64 z, .int .i64 0, .int .i64 0, .int .i64 0, .slice none 0 0, .slice none 0 0] #[.int .i64 0, .slice none 0 0, .int .i64 0, .int .i64 0, .int .i64 0, .int .i64 0, .int .i64 0, .int .i64 0, .int .i64 0, .int .i64 0, .int .i64 0, .int .i64 0, .slice none 0 0, .slice none 0 0] rfl rfl bz fz rfl N14 (by simp [Value.oneCell']) (fun w' => (∀ o : Nat, w'.cell? ⟨w4.heap.size, o, none⟩ = (#[.int .i64 6, .slice none 0 0, .int .i64 0, .int .i64 0, .int .i64 0, .int .i64 0, .int .i64 (1 + M0), .int .i64 S0, .int .i64 z, .int .i64 0, .int .i64 0, .int .i64 0, .slice none 0 0, .slice none 0 0] : Array Value)[o]?) ∧ (∀ o : Nat, w'.frozen? ⟨w4.heap.size, o, none⟩ = false) ∧ (∀ o : Nat, w'.cell? ⟨w3.heap.size, o, none⟩ = (#[.slice V0 D0.length k0, .slice V1 D1.length k1] : Array Value)[o]?) ∧ Past w3 w' ∧ w4.heap.size + 1 ≤ w'.heap.size) ⟨box_setAll bz rfl, free_setAll _ fz, box_setOther (by omega) _ _ _ b95, past_setAll (by omega) _ _ _ p5, size_setAll _ _ _ z5⟩ ?_); rintro w6 ⟨b11, f11, b96, p6, z6⟩))
  obtain ⟨P9, hP9⟩ : ∃ P9, w3.heap.size = P9 := ⟨_, rfl⟩
  obtain ⟨P11, hP11⟩ : ∃ P11, w4.heap.size = P11 := ⟨_, rfl⟩
  have n9 : tb < P9 := by omega
  have n11 : P9 + 1 ≤ P11 := by omega
  have n3 : w3.heap.size ≤ P9 := by omega
  rw [hP11] at b11 f11 z6
  rw [hP9] at b96
  simp only [hP9, hP11]
  clear bz fz b95 p5 z5 b9 p4 z4 ct4 htb4
  go_wp2_with (refine wpList_load_box rfl 28 (.tmp 11) rfl P11 #[.int .i64 6, .slice none 0 0, .int .i64 0, .int .i64 0, .int .i64 0, .int .i64 0, .int .i64 (1 + M0), .int .i64 S0, .int .i64 z, .int .i64 0, .int .i64 0, .int .i64 0, .slice none 0 0, .slice none 0 0] rfl b11 Try.underlying28 rfl N14 ?_)
  refine (CC.out _ _ _ HMA.out rfl rfl rfl _ _ _ _ (V3.out.grow p6) (N0.out.grow p6) (N1.out.grow p6)).mono ?_
  rintro e w7 ⟨va, rfl, oa, pa⟩
  rw [HA.out] at oa
  have OA := Lib.hid oa
  have ba : P11 + 1 ≤ w6.heap.size := z6
  have BA6 := Lib.hid z6
  have b97 := box_past pa b96 (by omega)
  have b117 := box_past pa b11 (by omega)
  have f117 := free_past pa f11 (by omega)
  have p7 := p6.trans pa
  have z7 : P11 + 1 ≤ w7.heap.size := by have := pa.2.2.1; omega
  obtain ⟨Aa, ka, rfl⟩ := oa.form
  clear b96 b11 f11 p6 pa oa z6
  go_wp2_with (refine wpList_load_box rfl 28 (.tmp 11) rfl P11 #[.int .i64 6, .slice none 0 0, .int .i64 0, .int .i64 0, .int .i64 0, .int .i64 0, .int .i64 (1 + M0), .int .i64 S0, .int .i64 z, .int .i64 0, .int .i64 0, .int .i64 0, .slice none 0 0, .slice none 0 0] rfl b117 Try.underlying28 rfl N14 ?_)
  refine (CC.out _ _ _ HMB.out rfl rfl rfl _ _ _ _ (V3.out.grow p7) (N1.out.grow p7) (N0.out.grow p7)).mono ?_
  rintro e w8 ⟨vb, rfl, ob, pb⟩
  rw [HB.out] at ob
  have OA8 := Lib.hid (OA.out.past pb)
  have OB := Lib.hid ob
  have b98 := box_past pb b97 (by omega)
  have b118 := box_past pb b117 (by omega)
  have f118 := free_past pb f117 (by omega)
  have p8 := p7.trans pb
  have z8 : P11 + 1 ≤ w8.heap.size := by have := pb.2.2.1; omega
  obtain ⟨Ab, kb, rfl⟩ := ob.form
  have BB7 := Lib.hid z7
  clear b97 b117 f117 p7 pb ob OA
  go_upto_region 9 with fail
  refine opq (fun w' => (∀ o : Nat, w'.cell? ⟨P9, o, none⟩ = (#[.slice V0 D0.length k0, .slice V1 D1.length k1] : Array Value)[o]?) ∧ (∀ o : Nat, w'.cell? ⟨P11, o, none⟩ = (#[.int .i64 7, .slice none 0 0, .int .i64 0, .int .i64 0, .int .i64 0, .int .i64 0, .int .i64 (1 + M0), .int .i64 S0, .int .i64 z, .int .i64 0, .int .i64 0, .int .i64 0, .slice none 0 0, .slice none 0 0] : Array Value)[o]?) ∧ Past w3 w' ∧ P11 + 1 ≤ w'.heap.size ∧ Hid (Own8 w' w6.heap.size (.slice Aa LA.length ka) LA) ∧ Hid (Own8 w' w7.heap.size (.slice Ab LA.length kb) LA)) ⟨by (((try dsimp only); (try go_split_ands); (repeat' with_reducible apply And.intro)) <;> ((repeat (first | (with_reducible (first | assumption | refine kbS ?_ | refine has_set ?_ | refine kcS ?_ | refine free_set ?_ | refine size_set ?_ | refine kgS ?_ | refine kpS ?_ | refine box_drewN ?_ | refine has_drewN ?_ | refine cell_drewN ?_ | refine free_drewN ?_ | refine size_drewN ?_ | refine Grown.drewN ?_ | refine Past.drewN ?_ | refine box_drew ?_ | refine has_drew ?_ | refine cell_drew ?_ | refine free_drew ?_ | refine size_drew ?_ | refine Grown.drew ?_ | refine Past.drew ?_ | exact kbN | refine kbO ?_ | refine khA ?_ | refine kcA ?_ | refine free_alloc ?_ | exact ksA | refine Grown.alloc ?_ _ _ | refine Past.alloc ?_ _ | exact kbG | exact khG | exact kcG | exact ksG | exact kfG | exact kgG | exact kbP | exact kfP | exact khP | exact kcP | exact ksP | exact kpP | exact kfN | refine Grown.past ?_ | exact Grown.refl _ | exact Past.refl _)) | omega)); done)), box14_c0 b118, by (((try dsimp only); (try go_split_ands); (repeat' with_reducible apply And.intro)) <;> ((repeat (first | (with_reducible (first | assumption | refine kbS ?_ | refine has_set ?_ | refine kcS ?_ | refine free_set ?_ | refine size_set ?_ | refine kgS ?_ | refine kpS ?_ | refine box_drewN ?_ | refine has_drewN ?_ | refine cell_drewN ?_ | refine free_drewN ?_ | refine size_drewN ?_ | refine Grown.drewN ?_ | refine Past.drewN ?_ | refine box_drew ?_ | refine has_drew ?_ | refine cell_drew ?_ | refine free_drew ?_ | refine size_drew ?_ | refine Grown.drew ?_ | refine Past.drew ?_ | exact kbN | refine kbO ?_ | refine khA ?_ | refine kcA ?_ | refine free_alloc ?_ | exact ksA | refine Grown.alloc ?_ _ _ | refine Past.alloc ?_ _ | exact kbG | exact khG | exact kcG | exact ksG | exact kfG | exact kgG | exact kbP | exact kfP | exact khP | exact kcP | exact ksP | exact kpP | exact kfN | refine Grown.past ?_ | exact Grown.refl _ | exact Past.refl _)) | omega)); done)), by (((try dsimp only); (try go_split_ands); (repeat' with_reducible apply And.intro)) <;> ((repeat (first | (with_reducible (first | assumption | refine kbS ?_ | refine has_set ?_ | refine kcS ?_ | refine free_set ?_ | refine size_set ?_ | refine kgS ?_ | refine kpS ?_ | refine box_drewN ?_ | refine has_drewN ?_ | refine cell_drewN ?_ | refine free_drewN ?_ | refine size_drewN ?_ | refine Grown.drewN ?_ | refine Past.drewN ?_ | refine box_drew ?_ | refine has_drew ?_ | refine cell_drew ?_ | refine free_drew ?_ | refine size_drew ?_ | refine Grown.drew ?_ | refine Past.drew ?_ | exact kbN | refine kbO ?_ | refine khA ?_ | refine kcA ?_ | refine free_alloc ?_ | exact ksA | refine Grown.alloc ?_ _ _ | refine Past.alloc ?_ _ | exact kbG | exact khG | exact kcG | exact ksG | exact kfG | exact kgG | exact kbP | exact kfP | exact khP | exact kcP | exact ksP | exact kpP | exact kfN | refine Grown.past ?_ | exact Grown.refl _ | exact Past.refl _)) | omega)); done)), Lib.hid (OA8.out.set (by have := BA6.out; omega)), Lib.hid (OB.out.set (by have := BB7.out; omega))⟩ ?_
  rintro w9 ⟨b9, b11, p9, z9, oa, ob⟩
  have NA := Lib.hid (oa.out.nums HBA.out)
  have NB := Lib.hid (ob.out.nums HBA.out)
  clear OA8 OB b98 b118 f118 p8 z8 oa ob BA6 BB7 z7 ba
  go_wp2_with (refine wpList_load_box rfl 28 (.tmp 11) rfl P11 #[.int .i64 7, .slice none 0 0, .int .i64 0, .int .i64 0, .int .i64 0, .int .i64 0, .int .i64 (1 + M0), .int .i64 S0, .int .i64 z, .int .i64 0, .int .i64 0, .int .i64 0, .slice none 0 0, .slice none 0 0] rfl b11 Try.underlying28 rfl N14 ?_)
  refine (CC.out _ _ _ HMP.out rfl rfl rfl _ _ _ _ (V3.out.grow p9) (N0.out.grow p9) (N1.out.grow p9)).mono ?_
  rintro e w10 ⟨vp, rfl, op, pp⟩
  rw [HP.out] at op
  obtain ⟨Ap, kp, rfl⟩ := op.form
  have NP := Lib.hid (op.nums HBP.out)
  have b910 := box_past pp b9 (by omega)
  have b1110 := box_past pp b11 (by omega)
  have p10 := p9.trans pp
  have q10 := pp
  have z10 : P11 + 1 ≤ w10.heap.size := by have := pp.2.2.1; omega
  clear b9 b11 p9 z9 op pp
  go_wp2_with (refine wpList_load_box rfl 28 (.tmp 11) rfl P11 #[.int .i64 7, .slice none 0 0, .int .i64 0, .int .i64 0, .int .i64 0, .int .i64 0, .int .i64 (1 + M0), .int .i64 S0, .int .i64 z, .int .i64 0, .int .i64 0, .int .i64 0, .slice none 0 0, .slice none 0 0] rfl b1110 Try.underlying28 rfl N14 ?_)
  refine (CC.out _ _ _ HMQ.out rfl rfl rfl _ _ _ _ (V3.out.grow p10) (N1.out.grow p10) (N0.out.grow p10)).mono ?_
  rintro e w11 ⟨vq, rfl, oq, pq⟩
  rw [HQ.out] at oq
  obtain ⟨Aq, kq, rfl⟩ := oq.form
  have NQ := Lib.hid (oq.nums HBP.out)
  have b911 := box_past pq b910 (by omega)
  have b1111 := box_past pq b1110 (by omega)
  have p11 := p10.trans pq
  have q11 := q10.trans pq
  have r11 := pq
  have z11 : P11 + 1 ≤ w11.heap.size := by have := pq.2.2.1; omega
  clear b910 b1110 p10 q10 z10 oq pq
  go_upto_region 14 with fail
  refine opq (fun w' => Own8 w' w11.heap.size (.slice (some ⟨w11.heap.size, 0, none⟩) 0 0) [] ∧ Past w11 w') ⟨own8_new (Nat.le_refl _), (Past.refl _).alloc _⟩ ?_
  rintro w12 ⟨own, p12⟩
  have htb11 : tb < w11.heap.size := by omega
  have ct11 := cell_past p11 ct htb
  have il0 : (0 : Nat) < 2 := by decide
  go_wp2_with fail
  go_loopw [20, 21] (fun zv i wr => ∃ k : Nat, k ≤ N ∧ i = .int .i64 k ∧ Hid (Own8 wr w11.heap.size zv (List.replicate k z)) ∧ Past w11 wr) (fun _ i _ => N - (intOf i).toNat)
  case atStart => exact ⟨0, by omega, rfl, Lib.hid own, p12⟩
  case round =>
    obtain ⟨k, hk, rfl, hown, pr⟩ := hrel
    have b9r := box_past pr b911 (by omega)
    have ctr := cell_past pr ct11 htb11
    have htbr : tb < wr.heap.size := Nat.lt_of_lt_of_le htb11 pr.2.2.1
    have zz : w11.heap.size ≤ wr.heap.size := pr.2.2.1
    by_cases hkl : k < N
    · have d1 : decide ((k : Int) < (D0.length : Int)) = true := decide_eq_true (by have := HL0.out; omega)
      have hkd : k < D0.length := by have := HL0.out; omega
      have OW := Lib.hid hown.out
      go_wp2_with (at_builtin; refine wpList_append_own _ rfl (.tmp 110) (.tmp 116) 25 rfl w11.heap.size 52 i0 _ 1 1 Try.underlying25 I1.out I2.out I3.out I4.out rfl (by decide) _ _ _ rfl (World.ownsRow.alloc OW.out _) ⟨wr.heap.size, 0, none⟩ 1 1 [.int .i8 z] rfl rfl (fun j u hu => cells_new1 wr _ 52 j u hu) (by intro u hu; simp at hu; subst hu; rfl) ?c4 ?c5 ?c6 ?_)
      case c4 => unfold maxLen; rw [List.length_replicate]; omega
      case c5 => rw [List.length_replicate]; omega
      case c6 => simp; omega
      intro v4 w4' hown4 hgrow _
      have hown5 : World.ownsRow w4' w11.heap.size 52 1 v4 ((List.replicate k z).length + 1) ((List.replicate k z).map (Value.int .i8) ++ [.int .i8 z]) := by
        rw [List.length_replicate, List.map_replicate]
        exact hown4
      have ho4 := Lib.hid (own8_add hown5)
      have P4 := (pr.alloc (.cells #[.int .i8 z] 52)).grownBy hgrow (fun j hj => (OW.out.lt j hj).1)
      clear hown4 hown5 hgrow OW hown pr
      go_wp2_with fail
      go_roundw
      case rel => exact ⟨k + 1, by omega, by go_num, Lib.hid (by rw [RS.out]; exact ho4.out), P4⟩
      case measure => simp [intOf]; omega
    · obtain rfl : k = N := by omega
      have d1 : decide ((k : Int) < (D0.length : Int)) = false := decide_eq_false (by have := HL0.out; omega)
      have hkd : ¬ k < D0.length := by have := HL0.out; omega
      have b11r := box_past pr b1111 (by omega)
      have NZ0 := Lib.hid (hown.out.nums HBZ.out)
      obtain ⟨Az, kz, hzv⟩ := hown.out.form
      rw [List.length_replicate] at hzv
      subst hzv
      have p13 := p11.trans pr
      have q13 := q11.trans pr
      have zr : P11 + 1 ≤ wr.heap.size := by have := pr.2.2.1; omega
      have NP13 := Lib.hid (NP.out.grow (r11.trans pr))
      have NQ13 := Lib.hid (NQ.out.grow pr)
      have NA13 := Lib.hid (NA.out.grow q13)
      have NB13 := Lib.hid (NB.out.grow q13)
      clear hown pr zz ctr htbr ct11 htb11 NP NQ NA NB q13 own p12 b911 b1111
      go_wp2_with (refine wpList_load_box rfl 28 (.tmp 11) rfl P11 #[.int .i64 7, .slice none 0 0, .int .i64 0, .int .i64 0, .int .i64 0, .int .i64 0, .int .i64 (1 + M0), .int .i64 S0, .int .i64 z, .int .i64 0, .int .i64 0, .int .i64 0, .slice none 0 0, .slice none 0 0] rfl b11r Try.underlying28 rfl N14 ?_)
      refine (CC.out _ _ _ HMZ.out rfl rfl rfl _ _ _ _ (V3.out.grow p13) (N0.out.grow p13) NZ0.out).mono ?_
      rintro e w14 ⟨vz, rfl, oz, pz⟩
      rw [HZ.out] at oz
      obtain ⟨Ay, ky, hzy⟩ := oz.form
      rw [List.length_replicate] at hzy
      subst hzy
      have NY := Lib.hid (oz.nums HBZ.out)
      have b914 := box_past pz b9r (by omega)
      have b1114 := box_past pz b11r (by omega)
      have p14 := p13.trans pz
      have z14 : P11 + 1 ≤ w14.heap.size := by have := pz.2.2.1; omega
      clear oz b9r b11r
      go_upto_region 23 with (first | (refine wpList_load_box rfl 28 (.tmp 11) rfl P11 #[.int .i64 7, .slice none 0 0, .int .i64 0, .int .i64 0, .int .i64 0, .int .i64 0, .int .i64 (1 + M0), .int .i64 S0, .int .i64 z, .int .i64 0, .int .i64 0, .int .i64 0, .slice none 0 0, .slice none 0 0] rfl b1114 Try.underlying28 rfl N14 ?_) | ((refine wpList_alloc_box rfl 28 rfl NZ ZN14 (fun w' => (∀ o : Nat, w'.cell? ⟨w14.heap.size, o, none⟩ = (#[.int .i64 0, .slice none 0 0, .int .i64 0, .int .i64 0, .int .i64 0, .int .i64 0, .int .i64 0, .int .i64 0, .int .i64 0, .int .i64 0, .int .i64 0, .int .i64 0, .slice none 0 0, .slice none 0 0] : Array Value)[o]?) ∧ (∀ o : Nat, w'.frozen? ⟨w14.heap.size, o, none⟩ = false) ∧ (∀ o : Nat, w'.cell? ⟨P9, o, none⟩ = (#[.slice V0 D0.length k0, .slice V1 D1.length k1] : Array Value)[o]?) ∧ Past w14 w' ∧ w14.heap.size + 1 ≤ w'.heap.size) ⟨box_new rfl, free_alloc (free_new (Nat.le_refl _)), box_old b914 (by omega), (Past.refl _).alloc _, by simp⟩ ?_); rintro w15 ⟨bz, fz, b95, p15, z15⟩) | ((refine wpList_store_box rfl 28 (.tmp 24) (.tmp 128) rfl w14.heap.size #[.int .i64 7, .slice none 0 0, .int .i64 0, .int .i64 0, .int .i64 0, .int .i64 0, .int .i64 (1 + M0), .int .i64 S0, .int .i64 z, .int .i64 0, .int .i64 0, .int .i64 0, .slice none 0 0, .slice none 0 0] #[.int .i64 0, .slice none 0 0, .int .i64 0, .int .i64 0, .int .i64 0, .int .i64 0, .int .i64 0, .int .i64 0, .int .i64 0, .int .i64 0, .int .i64 0, .int .i64 0, .slice none 0 0, .slice none 0 0] rfl rfl bz fz rfl N14 (by simp [Value.oneCell']) (fun w' => (∀ o : Nat, w'.cell? ⟨w14.heap.size, o, none⟩ = (#[.int .i64 7, .slice none 0 0, .int .i64 0, .int .i64 0, .int .i64 0, .int .i64 0, .int .i64 (1 + M0), .int .i64 S0, .int .i64 z, .int .i64 0, .int .i64 0, .int .i64 0, .slice none 0 0, .slice none 0 0] : Array Value)[o]?) ∧ (∀ o : Nat, w'.frozen? ⟨w14.heap.size, o, none⟩ = false) ∧ (∀ o : Nat, w'.cell? ⟨P9, o, none⟩ = (#[.slice V0 D0.length k0, .slice V1 D1.length k1] : Array Value)[o]?) ∧ Past w14 w' ∧ w14.heap.size + 1 ≤ w'.heap.size) ⟨box_setAll bz rfl, free_setAll _ fz, box_setOther (by omega) _ _ _ b95, past_setAll (Nat.le_refl _) _ _ _ p15, size_setAll _ _ _ z15⟩ ?_); rintro w16 ⟨b24, f24, b96, p16, z16⟩))
      refine opq (fun w' => (∀ o : Nat, w'.cell? ⟨w14.heap.size, o, none⟩ = (#[.int .i64 6, .slice none 0 0, .int .i64 0, .int .i64 0, .int .i64 0, .int .i64 0, .int .i64 1, .int .i64 0, .int .i64 z, .int .i64 0, .int .i64 0, .int .i64 0, .slice none 0 0, .slice none 0 0] : Array Value)[o]?) ∧ (∀ o : Nat, w'.cell? ⟨P9, o, none⟩ = (#[.slice V0 D0.length k0, .slice V1 D1.length k1] : Array Value)[o]?) ∧ Past w14 w' ∧ w14.heap.size + 1 ≤ w'.heap.size) ⟨box14_c067 b24, by (((try dsimp only); (try go_split_ands); (repeat' with_reducible apply And.intro)) <;> ((repeat (first | (with_reducible (first | assumption | refine kbS ?_ | refine has_set ?_ | refine kcS ?_ | refine free_set ?_ | refine size_set ?_ | refine kgS ?_ | refine kpS ?_ | refine box_drewN ?_ | refine has_drewN ?_ | refine cell_drewN ?_ | refine free_drewN ?_ | refine size_drewN ?_ | refine Grown.drewN ?_ | refine Past.drewN ?_ | refine box_drew ?_ | refine has_drew ?_ | refine cell_drew ?_ | refine free_drew ?_ | refine size_drew ?_ | refine Grown.drew ?_ | refine Past.drew ?_ | exact kbN | refine kbO ?_ | refine khA ?_ | refine kcA ?_ | refine free_alloc ?_ | exact ksA | refine Grown.alloc ?_ _ _ | refine Past.alloc ?_ _ | exact kbG | exact khG | exact kcG | exact ksG | exact kfG | exact kgG | exact kbP | exact kfP | exact khP | exact kcP | exact ksP | exact kpP | exact kfN | refine Grown.past ?_ | exact Grown.refl _ | exact Past.refl _)) | omega)); done)), by (((try dsimp only); (try go_split_ands); (repeat' with_reducible apply And.intro)) <;> ((repeat (first | (with_reducible (first | assumption | refine kbS ?_ | refine has_set ?_ | refine kcS ?_ | refine free_set ?_ | refine size_set ?_ | refine kgS ?_ | refine kpS ?_ | refine box_drewN ?_ | refine has_drewN ?_ | refine cell_drewN ?_ | refine free_drewN ?_ | refine size_drewN ?_ | refine Grown.drewN ?_ | refine Past.drewN ?_ | refine box_drew ?_ | refine has_drew ?_ | refine cell_drew ?_ | refine free_drew ?_ | refine size_drew ?_ | refine Grown.drew ?_ | refine Past.drew ?_ | exact kbN | refine kbO ?_ | refine khA ?_ | refine kcA ?_ | refine free_alloc ?_ | exact ksA | refine Grown.alloc ?_ _ _ | refine Past.alloc ?_ _ | exact kbG | exact khG | exact kcG | exact ksG | exact kfG | exact kgG | exact kbP | exact kfP | exact khP | exact kcP | exact ksP | exact kpP | exact kfN | refine Grown.past ?_ | exact Grown.refl _ | exact Past.refl _)) | omega)); done)), by (((try dsimp only); (try go_split_ands); (repeat' with_reducible apply And.intro)) <;> ((repeat (first | (with_reducible (first | assumption | refine kbS ?_ | refine has_set ?_ | refine kcS ?_ | refine free_set ?_ | refine size_set ?_ | refine kgS ?_ | refine kpS ?_ | refine box_drewN ?_ | refine has_drewN ?_ | refine cell_drewN ?_ | refine free_drewN ?_ | refine size_drewN ?_ | refine Grown.drewN ?_ | refine Past.drewN ?_ | refine box_drew ?_ | refine has_drew ?_ | refine cell_drew ?_ | refine free_drew ?_ | refine size_drew ?_ | refine Grown.drew ?_ | refine Past.drew ?_ | exact kbN | refine kbO ?_ | refine khA ?_ | refine kcA ?_ | refine free_alloc ?_ | exact ksA | refine Grown.alloc ?_ _ _ | refine Past.alloc ?_ _ | exact kbG | exact khG | exact kcG | exact ksG | exact kfG | exact kgG | exact kbP | exact kfP | exact khP | exact kcP | exact ksP | exact kpP | exact kfN | refine Grown.past ?_ | exact Grown.refl _ | exact Past.refl _)) | omega)); done))⟩ ?_
      rintro w17 ⟨b2417, b917, p17, z17⟩
      clear bz fz b95 p15 z15 b24 f24 b96 p16 z16 b914 b1114
      have p17' := p14.trans p17
      go_wp2_with (refine wpList_load_box rfl 28 (.tmp 24) rfl w14.heap.size #[.int .i64 6, .slice none 0 0, .int .i64 0, .int .i64 0, .int .i64 0, .int .i64 0, .int .i64 1, .int .i64 0, .int .i64 z, .int .i64 0, .int .i64 0, .int .i64 0, .slice none 0 0, .slice none 0 0] rfl b2417 Try.underlying28 rfl N14 ?_)
      refine (CC.out _ _ _ HMS.out rfl rfl rfl _ _ _ _ (V3.out.grow p17') (N0.out.grow p17') (NZ0.out.grow (pz.trans p17))).mono ?_
      rintro e w18 ⟨vs, rfl, os, ps⟩
      rw [HS2.out] at os
      obtain ⟨As, ks, rfl⟩ := os.form
      have NS := Lib.hid (os.nums HB0.out)
      have q18 : Past wr w18 := (pz.trans p17).trans ps
      have NY18 := Lib.hid (NY.out.grow (p17.trans ps))
      have b918 := box_past ps b917 (by omega)
      have p18 := p17'.trans ps
      have n918 : P9 < w18.heap.size := by have := q18.2.2.1; omega
      clear os b917 b2417 p17 p17' ps z17 pz p14 z14 NY
      have SA := Lib.hid (fun w (g : Past w18 w) => same_eq _ _ LA w (NA13.out.grow (q18.trans g)) (NB13.out.grow (q18.trans g)))
      have SP := Lib.hid (fun w (g : Past w18 w) => same_eq _ _ LP w (NP13.out.grow (q18.trans g)) (NQ13.out.grow (q18.trans g)))
      have SZ := Lib.hid (fun w (g : Past w18 w) => same_eq _ _ (List.replicate k z) w (NY18.out.grow g) (NZ0.out.grow (q18.trans g)))
      have SS := Lib.hid (fun w (g : Past w18 w) => same_eq _ _ D0 w (NS.out.grow g) (N0.out.grow (p18.trans g)))
      go_wp2_with fail
      refine (SA.out _ (Past.refl _)).mono ?_
      rintro e w19 ⟨rfl, g19⟩
      have r19 := Grown.past g19
      clear g19
      go_wp2_with fail
      refine (SP.out _ r19).mono ?_
      rintro e w20 ⟨rfl, g20⟩
      have r20 := past_trans3 r19 g20
      clear g20 r19
      go_wp2_with fail
      refine (SZ.out _ r20).mono ?_
      rintro e w21 ⟨rfl, g21⟩
      have r21 := past_trans3 r20 g21
      have b921 := box_past r21 b918 n918
      clear g21 r20
      go_wp2_with fail
      refine (SS.out _ r21).mono ?_
      rintro e w22 ⟨rfl, g22⟩
      have r22 := past_trans3 r21 g22
      have rW := pX.trans (p18.trans r22)
      clear g22 r21
      go_wp2_with fail
      go_ret
      exact ⟨rfl, rW⟩
end Go.Proofs.Ytbkigldffcgodaa
