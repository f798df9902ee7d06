/- The walk of KernKeeps. -/
import Derived.Test.YtbkigldffcgodaaMQa
import Derived.Test.YtbkigldffcgodaaMDa
import Derived.Test.YtbkigldffcgodaaMLg
namespace Go.Proofs.Ytbkigldffcgodaa
open Go.ChangeShapes Go.WideShapes Go.ChangeAt Go.RowKit
set_option maxRecDepth 20000
set_option linter.unusedVariables false
set_option linter.unusedSimpArgs false

theorem two_cellsq {w : World} {b : Nat} {u y : ValD} (h : IsVals w (.slice (some ⟨b, 0, none⟩) 2 2) [u, y]) : b < w.heap.size ∧ w.cell? ⟨b, 0, none⟩ = some (.int .i64 u.h) ∧ w.cell? ⟨b, 1, none⟩ = some (.int .i64 u.w) ∧ w.cell? ⟨b, 2, none⟩ = some (.int .i64 u.c) ∧ w.cell? ⟨b, 3, none⟩ = some (.int .i64 u.z) := by
  obtain ⟨_, _, e, _, _, _, _, h⟩ := h
  simp only [Value.slice.injEq] at e
  obtain ⟨rfl, _, rfl⟩ := e
  obtain ⟨b', o', e, hb, hc⟩ := h (by simp)
  simp only [Option.some.injEq, Addr.mk.injEq, and_true] at e
  obtain ⟨rfl, rfl⟩ := e
  exact ⟨hb, hc 0 (by simp)⟩
theorem vals_one_ofq {w : World} {b : Nat} {u y : ValD} (h : IsVals w (.slice (some ⟨b, 0, none⟩) 2 2) [u, y]) : IsVals w (.slice (some ⟨b, 0, none⟩) 1 2) [u] := vals_few (xs := [u, y]) 1 h (by simp)
theorem past_cellq {w w' : World} {p : Addr} {v : Value} (g : Past w w') (hb : p.block < w.heap.size) (h : w.cell? p = some v) : w'.cell? p = some v := cell_past g h hb

theorem cntN_z {z : Int} {f : Nat → Int} {k s : Nat} (hs : cntN z f k = s) (h : f k = z) : cntN z f (k + 1) = s := by simp only [cntN]; rw [if_pos h, hs]; rfl
theorem cntN_n {z : Int} {f : Nat → Int} {k s : Nat} (hs : cntN z f k = s) (h : ¬ f k = z) : cntN z f (k + 1) = s + 1 := by simp only [cntN]; rw [if_neg h, hs]

set_option maxHeartbeats 4000000 in
theorem keeps_no (W : World) (dv : Value) (x : DataD) (hx : IsData W dv x) (hp : ¬ pairOk x.l) :
    Calls Try.prog 6 #[dv] W fun e w' => e = .returned (.bool true) ∧ Past W w' := by
  obtain ⟨lv, s0, s1, rfl, hl, h0, h1⟩ := hx
  have PN := Lib.hid (fun w (g : Past W w) => qpair_no lv s0 s1 x.l x.xs x.ys w (hl.grow g) (h0.grow g) (h1.grow g) hp)
  obtain ⟨A0, c0, rfl, _⟩ := h0
  obtain ⟨A1, c1, rfl, _⟩ := h1
  obtain ⟨A, cap, rfl, _⟩ := hl
  go_enter Try.func6, Try.ntmps6
  go_upto_region 1 with fail
  refine opq (fun w' => (∀ o : Nat, w'.cell? ⟨W.heap.size, o, none⟩ = (#[.slice A x.l.length cap, .slice A0 x.xs.length c0, .slice A1 x.ys.length c1] : Array Value)[o]?) ∧ Past W w' ∧ W.heap.size + 1 ≤ w'.heap.size) (by (((try dsimp only); (try go_split_ands); (repeat' with_reducible apply And.intro)) <;> ((repeat (first | (with_reducible (first | assumption | refine kbS ?_ | refine has_set ?_ | refine kcS ?_ | refine free_set ?_ | refine size_set ?_ | refine kgS ?_ | refine kpS ?_ | refine box_drewN ?_ | refine has_drewN ?_ | refine cell_drewN ?_ | refine free_drewN ?_ | refine size_drewN ?_ | refine Grown.drewN ?_ | refine Past.drewN ?_ | refine box_drew ?_ | refine has_drew ?_ | refine cell_drew ?_ | refine free_drew ?_ | refine size_drew ?_ | refine Grown.drew ?_ | refine Past.drew ?_ | exact kbN | refine kbO ?_ | refine khA ?_ | refine kcA ?_ | refine free_alloc ?_ | exact ksA | refine Grown.alloc ?_ _ _ | refine Past.alloc ?_ _ | exact kbG | exact khG | exact kcG | exact ksG | exact kfG | exact kgG | exact kbP | exact kfP | exact khP | exact kcP | exact ksP | exact kpP | exact kfN | refine Grown.past ?_ | exact Grown.refl _ | exact Past.refl _)) | omega)); done))) ?_
  rintro w1 ⟨b3, p1, z1⟩
  go_wp2_with fail
  refine (shown_any _).mono ?_
  rintro e w2 ⟨rfl, p2⟩
  have b32 := box_past p2 b3 (by omega)
  have pW := p1.trans p2
  clear b3 p1 p2 z1
  go_wp2_with fail
  refine (PN.out _ pW).mono ?_
  rintro e w3 ⟨rfl, p3⟩
  have pX := pW.trans p3
  clear b32 pW p3
  go_wp2_with fail
  go_ret
  exact ⟨rfl, by (((try dsimp only); (try go_split_ands); (repeat' with_reducible apply And.intro)) <;> ((repeat (first | (with_reducible (first | assumption | refine kbS ?_ | refine has_set ?_ | refine kcS ?_ | refine free_set ?_ | refine size_set ?_ | refine kgS ?_ | refine kpS ?_ | refine box_drewN ?_ | refine has_drewN ?_ | refine cell_drewN ?_ | refine free_drewN ?_ | refine size_drewN ?_ | refine Grown.drewN ?_ | refine Past.drewN ?_ | refine box_drew ?_ | refine has_drew ?_ | refine cell_drew ?_ | refine free_drew ?_ | refine size_drew ?_ | refine Grown.drew ?_ | refine Past.drew ?_ | exact kbN | refine kbO ?_ | refine khA ?_ | refine kcA ?_ | refine free_alloc ?_ | exact ksA | refine Grown.alloc ?_ _ _ | refine Past.alloc ?_ _ | exact kbG | exact khG | exact kcG | exact ksG | exact kfG | exact kgG | exact kbP | exact kfP | exact khP | exact kcP | exact ksP | exact kpP | exact kfN | refine Grown.past ?_ | exact Grown.refl _ | exact Past.refl _)) | omega)); done))⟩

set_option maxHeartbeats 60000000 in
theorem keeps_yes (W : World) (dv : Value) (x : DataD) (hx : IsData W dv x) (hp : pairOk x.l) :
    Calls Try.prog 6 #[dv] W fun e w' => e = .returned (.bool true) ∧ Past W w' := by
  obtain ⟨lv, s0, s1, rfl, hl, h0, h1⟩ := hx
  obtain ⟨v, hv⟩ : ∃ v, x.l.getD 0 default = v := ⟨_, rfl⟩
  have PY := Lib.hid (fun w (g : Past W w) => qpair_yes lv s0 s1 x.l v x.xs x.ys w (hl.grow g) (h0.grow g) (h1.grow g) hp hv)
  have hm : mayV (heldV v) := by have := hp.2; rw [hv] at this; exact this
  have hz : -128 ≤ (heldV v).z ∧ (heldV v).z ≤ 127 := by show -128 ≤ fx.held (-128) 127 v.z ∧ fx.held (-128) 127 v.z ≤ 127; unfold fx.held; omega
  obtain ⟨D0, hD0⟩ : ∃ D, dataL (heldV v) x.xs = D := ⟨_, rfl⟩
  obtain ⟨D1, hD1⟩ : ∃ D, dataL (heldV v) x.ys = D := ⟨_, rfl⟩
  have B0 : ∀ q ∈ D0, -128 ≤ q ∧ q ≤ 127 := by rw [← hD0]; exact fillL_bd (nums_bd8 h0) _
  have F0 : FullV (viewOf (heldV v) D0) := viewOf_full hm hz (by rw [← hD0]; exact dataL_len hm) B0
  simp only [hD0, hD1] at PY
  obtain ⟨u, hu⟩ : ∃ u, heldV v = u := ⟨_, rfl⟩
  simp only [hu] at PY hm hz F0
  obtain ⟨H, Wd, C, eh, ew, ec, es, hH, hW, hC, H1, W1, C1⟩ := size_nat hm
  obtain ⟨N, hN⟩ : ∃ N, H * (Wd * C) = N := ⟨_, rfl⟩
  have sz : sizeI u.h u.w u.c = (N : Int) := by rw [es, hN]
  have N2 : N ≤ 2048 := by have := (idx_lt_size hm).2; omega
  have l0 : D0.length = N := by have := F0.2.2.2.2.1; have e : ((viewOf u D0).xs.length : Int) = D0.length := rfl; rw [e] at this; have : (D0.length : Int) = N := this.trans sz; omega
  have hl0 : D0.length = H * (Wd * C) := by rw [l0, hN]
  have ch : u.h.toNat = H := by omega
  have cw : u.w.toNat = Wd := by omega
  have cc : u.c.toNat = C := by omega
  have ch2 : (u.h + 2).toNat = H + 2 := by omega
  have cw2 : (u.w + 2).toNat = Wd + 2 := by omega
  have CC : ∀ (n : NodeD) (a : ViewD) (m : Int × Int × Int), MakeOk n [u] a noView m → n.ins = [] → n.ws = [] → n.bs = [] → ∀ (tv sa sb : Value) (w : World), IsVals w tv [u] → IsNums .i8 w sa a.xs →
      Calls Try.prog 19 #[.agg #[.int .i64 n.op, .slice none 0 0, .int .i64 n.k, .int .i64 n.stride, .int .i64 n.pad, .int .i64 n.out, .int .i64 n.mul, .int .i64 n.shift, .int .i64 n.zero, .int .i64 n.th, .int .i64 n.tw, .int .i64 n.tc, .slice none 0 0, .slice none 0 0], tv, .agg #[sa, sb]] w fun e w' => ∃ v, e = .returned (.tuple #[v, .int .i64 0]) ∧ Own8 w' w.heap.size v (allL n a noView m (m.2.1.toNat * m.2.2.toNat) (m.1.toNat * (m.2.1.toNat * m.2.2.toNat))) ∧ Past w w' := by
    intro n a m hk e1 e2 e3 tv sa sb w hv ha
    exact All_1 n (.slice none 0 0) (.slice none 0 0) (.slice none 0 0) tv m a sa sb [u] w hk rfl ⟨by rw [e1]; exact nums_nil _ _, by rw [e2]; exact nums_nil _ _, by rw [e3]; exact nums_nil _ _⟩ hv ha
  obtain ⟨R, hR⟩ : ∃ L, allL (pairK 8 1 0 u.z) (viewOf u D0) noView (u.h, u.w, u.c) (Wd * C) (H * (Wd * C)) = L := ⟨_, rfl⟩
  have MR := reluZ_make hm hz F0 noView
  have BR : ∀ q ∈ R, -128 ≤ q ∧ q ≤ 127 := by have := allL_bd MR (no_ws rfl); simp only [ch, cw, cc, hR] at this; exact this
  have lR : R.length = N := by rw [← hR, allL_len, hN]
  have FR : FullV (viewOf u R) := viewOf_full hm hz (by rw [lR]; exact sz.symm) BR
  have KR := CC _ _ _ MR rfl rfl rfl
  have KT := CC _ _ _ (reluZ_make hm hz FR noView) rfl rfl rfl
  have KP := CC _ _ _ (resh_make hm hz F0 noView) rfl rfl rfl
  have WM := fun op ho => win_make (op := op) (k := 1) (s := 1) ho hm hz (by decide) (by decide) (by decide) (by decide) (by omega) (by omega) F0 noView
  have oo1 : outI u.h 1 1 0 = u.h := one_out (by omega) (by omega)
  have oo2 : outI u.w 1 1 0 = u.w := one_out (by omega) (by omega)
  simp only [oo1, oo2] at WM
  have KM := CC _ _ _ (WM 4 (Or.inl rfl)) rfl rfl rfl
  have KA := CC _ _ _ (WM 5 (Or.inr rfl)) rfl rfl rfl
  simp only [ch, cw, cc, hR] at KR
  simp only [ch, cw, cc, reluZ_twice D0 noView hm eh ew ec hR] at KT
  simp only [ch, cw, cc, resh_is noView hm eh ew ec hl0] at KP
  simp only [ch, cw, cc, most_one noView hm eh ew ec hl0 B0] at KM
  simp only [ch, cw, cc, mean_one noView hm eh ew ec hl0] at KA
  have RA := fun i (hi : i < N) => reluZ_at D0 noView hm eh ew ec (i := i) (by rw [hN]; exact hi)
  simp only [hR] at RA
  have PD : (H : Int) ≤ 14 → (Wd : Int) ≤ 14 → ∃ Q : List Int, Q.length = (H + 2) * ((Wd + 2) * C) ∧ (∀ q ∈ Q, -128 ≤ q ∧ q ≤ 127) ∧ cntN u.z (fun i => Q.getD i 0) Q.length ≤ N ∧
      (∀ y j, y < H → j < Wd * C → Q.getD ((y + 1) * ((Wd + 2) * C) + C + j) 0 = D0.getD (y * (Wd * C) + j) 0 ∧ (y + 1) * ((Wd + 2) * C) + C + j < Q.length ∧ y * (Wd * C) + j < N) ∧
      sizeI ((H : Int) + 2) ((Wd : Int) + 2) C = (Q.length : Int) ∧
      (∀ (tv sa sb : Value) (w : World), IsVals w tv [u] → IsNums .i8 w sa D0 → Calls Try.prog 19 #[.agg #[.int .i64 (padK u.z).op, .slice none 0 0, .int .i64 (padK u.z).k, .int .i64 (padK u.z).stride, .int .i64 (padK u.z).pad, .int .i64 (padK u.z).out, .int .i64 (padK u.z).mul, .int .i64 (padK u.z).shift, .int .i64 (padK u.z).zero, .int .i64 (padK u.z).th, .int .i64 (padK u.z).tw, .int .i64 (padK u.z).tc, .slice none 0 0, .slice none 0 0], tv, .agg #[sa, sb]] w fun e w' => ∃ v, e = .returned (.tuple #[v, .int .i64 0]) ∧ Own8 w' w.heap.size v Q ∧ Past w w') := by
    intro h14 w14
    have MQ := pad_make hm hz (by omega) (by omega) F0 noView
    obtain ⟨Q, hQ⟩ : ∃ L, allL (padK u.z) (viewOf u D0) noView (u.h + 2, u.w + 2, u.c) ((Wd + 2) * C) ((H + 2) * ((Wd + 2) * C)) = L := ⟨_, rfl⟩
    have lQ : Q.length = (H + 2) * ((Wd + 2) * C) := by rw [← hQ, allL_len]
    refine ⟨Q, lQ, ?_, ?_, fun y j hy hj => ?_, ?_, ?_⟩
    · have := allL_bd MQ (no_ws rfl); simp only [ch2, cw2, cc, hQ] at this; exact this
    · rw [lQ, ← hN]; exact pad_count D0 noView hm eh ew ec hQ
    · have := pad_mid D0 noView hm eh ew ec hy hj hQ
      rw [lQ, ← hN]
      exact this
    · unfold sizeI
      rw [if_pos ⟨by omega, by omega, by omega, by omega, by omega, by omega⟩, lQ, ← Nat.mul_assoc, Int.natCast_mul, Int.natCast_mul, Int.natCast_add, Int.natCast_add]
      rfl
    · have := CC _ _ _ MQ rfl rfl rfl
      simp only [ch2, cw2, cc, hQ] at this
      exact this
  obtain ⟨z, hzz⟩ : ∃ z, u.z = z := ⟨_, rfl⟩
  simp only [hzz, ew, eh, ec] at KR KT KP KM KA RA PD
  rw [hzz] at hz
  have KR := Lib.hid KR
  have KT := Lib.hid KT
  have KP := Lib.hid KP
  have KM := Lib.hid KM
  have KA := Lib.hid KA
  have RA := Lib.hid RA
  have PD := Lib.hid PD
  have HB0 := Lib.hid B0
  have HBR := Lib.hid BR
  have HL0 := Lib.hid l0
  have HLR := Lib.hid lR
  have HN := Lib.hid hN
  have EH := Lib.hid eh
  have EW := Lib.hid ew
  have EC := Lib.hid ec
  have HZZ := Lib.hid hzz
  obtain ⟨A0, c0, rfl, _⟩ := h0
  obtain ⟨A1, c1, rfl, _⟩ := h1
  obtain ⟨A, cap, rfl, _⟩ := hl
  clear B0 F0 hm hp hv hu hD0 hD1 hN sz l0 hl0 ch cw cc ch2 cw2 CC hR MR BR lR FR WM oo1 oo2 es eh ew ec hzz
  go_enter Try.func6, Try.ntmps6
  go_upto_region 1 with fail
  refine opq (fun w' => (∀ o : Nat, w'.cell? ⟨W.heap.size, o, none⟩ = (#[.slice A x.l.length cap, .slice A0 x.xs.length c0, .slice A1 x.ys.length c1] : Array Value)[o]?) ∧ Past W w' ∧ W.heap.size + 1 ≤ w'.heap.size) (by (((try dsimp only); (try go_split_ands); (repeat' with_reducible apply And.intro)) <;> ((repeat (first | (with_reducible (first | assumption | refine kbS ?_ | refine has_set ?_ | refine kcS ?_ | refine free_set ?_ | refine size_set ?_ | refine kgS ?_ | refine kpS ?_ | refine box_drewN ?_ | refine has_drewN ?_ | refine cell_drewN ?_ | refine free_drewN ?_ | refine size_drewN ?_ | refine Grown.drewN ?_ | refine Past.drewN ?_ | refine box_drew ?_ | refine has_drew ?_ | refine cell_drew ?_ | refine free_drew ?_ | refine size_drew ?_ | refine Grown.drew ?_ | refine Past.drew ?_ | exact kbN | refine kbO ?_ | refine khA ?_ | refine kcA ?_ | refine free_alloc ?_ | exact ksA | refine Grown.alloc ?_ _ _ | refine Past.alloc ?_ _ | exact kbG | exact khG | exact kcG | exact ksG | exact kfG | exact kgG | exact kbP | exact kfP | exact khP | exact kcP | exact ksP | exact kpP | exact kfN | refine Grown.past ?_ | exact Grown.refl _ | exact Past.refl _)) | omega)); done))) ?_
  rintro w1 ⟨b3, p1, z1⟩
  go_wp2_with fail
  refine (shown_any _).mono ?_
  rintro e w2 ⟨rfl, p2⟩
  have b32 := box_past p2 b3 (by omega)
  have pW := p1.trans p2
  clear b3 p1 p2 z1
  go_wp2_with fail
  refine (PY.out _ pW).mono ?_
  rintro e w3 ⟨tb, u0', u1', rfl, hv3, o0, o1, p3⟩
  obtain ⟨V0, k0, rfl⟩ := o0.form
  obtain ⟨V1, k1, rfl⟩ := o1.form
  have pX := pW.trans p3
  have V3 := Lib.hid hv3
  have N0 := Lib.hid (o0.nums HB0.out)
  obtain ⟨htb, ct0, ct1, ct2, ct3⟩ := two_cellsq hv3
  rw [HZZ.out] at ct3
  rw [EH.out] at ct0
  rw [EW.out] at ct1
  rw [EC.out] at ct2
  clear b32 pW p3 hv3 o0 o1 PY
  have n2 : (1 : Int) ≤ 2 := by decide
  go_upto_region 5 with fail
  refine opq (fun w' => (∀ o : Nat, w'.cell? ⟨w3.heap.size, o, none⟩ = (#[.slice V0 D0.length k0, .slice V1 D1.length k1] : Array Value)[o]?) ∧ Past w3 w' ∧ w3.heap.size + 1 ≤ w'.heap.size) (by (((try dsimp only); (try go_split_ands); (repeat' with_reducible apply And.intro)) <;> ((repeat (first | (with_reducible (first | assumption | refine kbS ?_ | refine has_set ?_ | refine kcS ?_ | refine free_set ?_ | refine size_set ?_ | refine kgS ?_ | refine kpS ?_ | refine box_drewN ?_ | refine has_drewN ?_ | refine cell_drewN ?_ | refine free_drewN ?_ | refine size_drewN ?_ | refine Grown.drewN ?_ | refine Past.drewN ?_ | refine box_drew ?_ | refine has_drew ?_ | refine cell_drew ?_ | refine free_drew ?_ | refine size_drew ?_ | refine Grown.drew ?_ | refine Past.drew ?_ | exact kbN | refine kbO ?_ | refine khA ?_ | refine kcA ?_ | refine free_alloc ?_ | exact ksA | refine Grown.alloc ?_ _ _ | refine Past.alloc ?_ _ | exact kbG | exact khG | exact kcG | exact ksG | exact kfG | exact kgG | exact kbP | exact kfP | exact khP | exact kcP | exact ksP | exact kpP | exact kfN | refine Grown.past ?_ | exact Grown.refl _ | exact Past.refl _)) | omega)); done))) ?_
  rintro w4 ⟨b5, p4, z4⟩
  have ct04 := cell_past p4 ct0 htb
  have ct14 := cell_past p4 ct1 htb
  have ct24 := cell_past p4 ct2 htb
  have ct34 := cell_past p4 ct3 htb
  have htb4 : tb < w4.heap.size := by omega
  go_upto_region 8 with fail
  refine opq (fun w' => (∀ o : Nat, w'.cell? ⟨w3.heap.size, o, none⟩ = (#[.slice V0 D0.length k0, .slice V1 D1.length k1] : Array Value)[o]?) ∧ (∀ o : Nat, w'.cell? ⟨w4.heap.size, o, none⟩ = (#[.int .i64 H, .int .i64 Wd, .int .i64 C] : Array Value)[o]?) ∧ Past w3 w' ∧ w4.heap.size + 1 ≤ w'.heap.size) (by (((try dsimp only); (try go_split_ands); (repeat' with_reducible apply And.intro)) <;> ((repeat (first | (with_reducible (first | assumption | refine kbS ?_ | refine has_set ?_ | refine kcS ?_ | refine free_set ?_ | refine size_set ?_ | refine kgS ?_ | refine kpS ?_ | refine box_drewN ?_ | refine has_drewN ?_ | refine cell_drewN ?_ | refine free_drewN ?_ | refine size_drewN ?_ | refine Grown.drewN ?_ | refine Past.drewN ?_ | refine box_drew ?_ | refine has_drew ?_ | refine cell_drew ?_ | refine free_drew ?_ | refine size_drew ?_ | refine Grown.drew ?_ | refine Past.drew ?_ | exact kbN | refine kbO ?_ | refine khA ?_ | refine kcA ?_ | refine free_alloc ?_ | exact ksA | refine Grown.alloc ?_ _ _ | refine Past.alloc ?_ _ | exact kbG | exact khG | exact kcG | exact ksG | exact kfG | exact kgG | exact kbP | exact kfP | exact khP | exact kcP | exact ksP | exact kpP | exact kfN | refine Grown.past ?_ | exact Grown.refl _ | exact Past.refl _)) | omega)); done))) ?_
  rintro w4' ⟨b5', b9', p4', z4'⟩
  clear b5
  go_upto_region 9 with fail
  refine opq (fun w' => (∀ o : Nat, w'.cell? ⟨w3.heap.size, o, none⟩ = (#[.slice V0 D0.length k0, .slice V1 D1.length k1] : Array Value)[o]?) ∧ (∀ o : Nat, w'.cell? ⟨w4.heap.size, o, none⟩ = (#[.int .i64 H, .int .i64 Wd, .int .i64 C] : Array Value)[o]?) ∧ (∀ o : Nat, w'.cell? ⟨w4'.heap.size, o, none⟩ = (#[.slice V0 D0.length k0, .slice none 0 0] : Array Value)[o]?) ∧ Past w3 w' ∧ w4'.heap.size + 1 ≤ w'.heap.size) (by (((try dsimp only); (try go_split_ands); (repeat' with_reducible apply And.intro)) <;> ((repeat (first | (with_reducible (first | assumption | refine kbS ?_ | refine has_set ?_ | refine kcS ?_ | refine free_set ?_ | refine size_set ?_ | refine kgS ?_ | refine kpS ?_ | refine box_drewN ?_ | refine has_drewN ?_ | refine cell_drewN ?_ | refine free_drewN ?_ | refine size_drewN ?_ | refine Grown.drewN ?_ | refine Past.drewN ?_ | refine box_drew ?_ | refine has_drew ?_ | refine cell_drew ?_ | refine free_drew ?_ | refine size_drew ?_ | refine Grown.drew ?_ | refine Past.drew ?_ | exact kbN | refine kbO ?_ | refine khA ?_ | refine kcA ?_ | refine free_alloc ?_ | exact ksA | refine Grown.alloc ?_ _ _ | refine Past.alloc ?_ _ | exact kbG | exact khG | exact kcG | exact ksG | exact kfG | exact kgG | exact kbP | exact kfP | exact khP | exact kcP | exact ksP | exact kpP | exact kfN | refine Grown.past ?_ | exact Grown.refl _ | exact Past.refl _)) | omega)); done))) ?_
  rintro w5 ⟨b55, b9, b10, p5, z5⟩
  obtain ⟨P10, hP10⟩ : ∃ P10, w4'.heap.size = P10 := ⟨_, rfl⟩
  obtain ⟨P5, hP5⟩ : ∃ P5, w3.heap.size = P5 := ⟨_, rfl⟩
  obtain ⟨P9, hP9⟩ : ∃ P9, w4.heap.size = P9 := ⟨_, rfl⟩
  have n5 : P5 < w5.heap.size := by omega
  have n9 : P9 < w5.heap.size := by omega
  have n10 : P10 < w5.heap.size := by omega
  rw [hP5] at b55
  rw [hP9] at b9
  rw [hP10] at b10
  simp only [hP5, hP9, hP10]
  have V5 := Lib.hid (vals_one_ofq (V3.out.grow p5))
  have N05 := Lib.hid (N0.out.grow p5)
  have pX := pX.trans p5
  clear p4 z4 ct04 ct14 ct24 ct34 htb4 hP5 hP9 hP10 b5' b9' p4' z4' ct0 ct1 ct2 ct3 htb z5 p5
  have b5 := b55
  clear b55
  go_wp2_with fail
  refine (KR.out _ _ _ _ V5.out N05.out).mono ?_
  rintro e w6 ⟨vr, rfl, or, pr⟩
  obtain ⟨Ar, kr, rfl⟩ := or.form
  have NR6 := Lib.hid (or.nums HBR.out)
  have b106 := box_past pr b10 (by omega)
  clear or
  go_wp2_with fail
  refine (KT.out _ _ _ _ (V5.out.grow pr) NR6.out).mono ?_
  rintro e w7 ⟨vt, rfl, ot, pt⟩
  obtain ⟨At, kt, rfl⟩ := ot.form
  have NT7 := Lib.hid (ot.nums HBR.out)
  have p7 := pr.trans pt
  have b97 := box_past p7 b9 (by omega)
  have b107 := box_past p7 b10 (by omega)
  clear ot b106
  go_wp2_with fail
  refine (KP.out _ _ _ _ (V5.out.grow p7) (N05.out.grow p7)).mono ?_
  rintro e w8 ⟨vp, rfl, op, pp⟩
  obtain ⟨Ap, kp, rfl⟩ := op.form
  have NP8 := Lib.hid (op.nums HB0.out)
  have p8 := p7.trans pp
  have b108 := box_past p8 b10 (by omega)
  clear op b97 b107
  go_wp2_with fail
  refine (KM.out _ _ _ _ (V5.out.grow p8) (N05.out.grow p8)).mono ?_
  rintro e w9 ⟨vm, rfl, om, pm⟩
  obtain ⟨Am, km, rfl⟩ := om.form
  have NM9 := Lib.hid (om.nums HB0.out)
  have p9 := p8.trans pm
  have b109 := box_past p9 b10 (by omega)
  clear om b108
  go_wp2_with fail
  refine (KA.out _ _ _ _ (V5.out.grow p9) (N05.out.grow p9)).mono ?_
  rintro e wB ⟨va, rfl, oa, pa⟩
  obtain ⟨Aa, ka, rfl⟩ := oa.form
  have NA := Lib.hid (oa.nums HB0.out)
  have pB := p9.trans pa
  have NM := Lib.hid (NM9.out.grow pa)
  have NP := Lib.hid (NP8.out.grow (pm.trans pa))
  have NT := Lib.hid (NT7.out.grow (pp.trans (pm.trans pa)))
  have NR := Lib.hid (NR6.out.grow (pt.trans (pp.trans (pm.trans pa))))
  have b5B := box_past pB b5 (by omega)
  have b9B := box_past pB b9 (by omega)
  have b10B := box_past pB b10 (by omega)
  have N0B := Lib.hid (N05.out.grow pB)
  have VB := Lib.hid (V5.out.grow pB)
  have nB : P5 < wB.heap.size ∧ P9 < wB.heap.size ∧ P10 < wB.heap.size := by have := pB.2.2.1; omega
  have pX2 := pX.trans pB
  clear oa b109 NM9 NP8 NT7 NR6 b5 b9 b10 pr pt pp pm pa p7 p8 p9 n5 n9 n10 V5 N05 pB pX V3 N0
  have N05 := N0B
  have b5 := b5B
  have b9 := b9B
  have b10 := b10B
  have n5 := nB.1
  have n9 := nB.2.1
  have n10 := nB.2.2
  have pX := pX2
  clear N0B b5B b9B b10B nB pX2
  have q1 : ((R.length : Int) == (D0.length : Int)) = true := by rw [beq_iff_eq]; have := HLR.out; have := HL0.out; omega
  have q1' : ((R.length : Int) != (D0.length : Int)) = false := by simp only [bne, q1]; rfl
  have lim : R.length ≤ 2048 := by have := HLR.out; omega
  go_wp2_with fail
  go_loopw [2, 21] (fun s2 i wq => ∃ k : Nat, s2 = .bool false ∧ k ≤ R.length ∧ i = .int .i64 k ∧ Past wB wq) (fun _ i _ => R.length - (intOf i).toNat)
  case atStart => exact ⟨0, rfl, by omega, rfl, Past.refl _⟩
  case round =>
    obtain ⟨k, rfl, hk, rfl, pr⟩ := hrel
    have b5r := box_past pr b5 n5
    by_cases hkl : k < R.length
    · have HKL := Lib.hid hkl
      have kd : k < D0.length := by have := HLR.out; have := HL0.out; omega
      have ra := RA.out k (by have := HLR.out; omega)
      obtain ⟨r, hr⟩ : ∃ r, R.getD k 0 = r := ⟨_, rfl⟩
      obtain ⟨d, hd⟩ : ∃ d, D0.getD k 0 = d := ⟨_, rfl⟩
      have xr := getD_i8 HBR.out k
      have xd := getD_i8 HB0.out k
      rw [hr, hd] at ra
      rw [hr] at xr
      rw [hd] at xd
      obtain ⟨rb, ro, e1, n1, n2', n3, ha1, ha2⟩ := nums_parts NR.out (by omega)
      obtain ⟨db, dO, e2, n4, n5', n6, hb1, hb2⟩ := nums_parts N05.out (by omega)
      clear n1 n2' n3 n4 n5' n6
      subst e1 e2
      have kk1 := past_cellq (p := ⟨rb, ro + k, none⟩) pr ha1 (ha2 k hkl).1
      have kk2 := past_cellq (p := ⟨db, dO + k, none⟩) pr hb1 (hb2 k kd).1
      rw [hr] at kk1
      rw [hd] at kk2
      have em : (if d < z then z else d) = r := by rw [ra]; omega
      have wr8 : IntKind.i64.wrap r = r := IntWalk.i64_in _ (by omega)
      have wd8 : IntKind.i64.wrap d = d := IntWalk.i64_in _ (by omega)
      have d2 : decide ((k : Int) < (R.length : Int)) = true := decide_eq_true (by omega)
      have i1 : (k : Int) < (R.length : Int) := by omega
      have i2 : (k : Int) < (D0.length : Int) := by omega
      clear ha2 hb2 hr hd
      (try clear KR); (try clear KT); (try clear KP); (try clear KM); (try clear KA); (try clear RA); (try clear PD); (try clear HB0); (try clear HBR); (try clear HL0); (try clear HLR); (try clear HN); (try clear EH); (try clear EW); (try clear EC); (try clear HZZ); (try clear V5); (try clear VB); (try clear NR); (try clear NT); (try clear NP); (try clear NM); (try clear NA); (try clear N05); (try clear pX); (try clear b5); (try clear b9); (try clear b10); (try clear n5); (try clear n9); (try clear n10); (try clear H1); (try clear W1); (try clear C1); (try clear N2); (try clear nB); (try clear hk); (try clear ha1); (try clear hb1); (try clear q1); (try clear q1'); (try clear ra); (try clear kd); skip
      go_upto_region 19 with fail
      refine wp_region_fill (fun w' => w'.cell? ⟨rb, ro + k, none⟩ = some (.int .i8 r) ∧ w'.cell? ⟨db, dO + k, none⟩ = some (.int .i8 d) ∧ (∀ o : Nat, w'.cell? ⟨P5, o, none⟩ = (#[.slice (some ⟨db, dO, none⟩) D0.length k0, .slice V1 D1.length k1] : Array Value)[o]?) ∧ Past wB w') [(136, ?va136), (137, ?va137), (138, ?va138), (139, ?va139), (140, ?va140), (141, ?va141), (142, ?va142), (143, ?va143), (144, ?va144), (145, ?va145), (146, ?va146), (147, ?va147), (148, ?va148), (149, ?va149)] [136, 137, 138, 139, 140, 141, 142, 143, 144, 145, 146, 147, 148, 149] (by kernel_rfl) (by kernel_rfl) rfl (by kernel_rfl) ⟨kk1, kk2, b5r, pr⟩ (fun w h => h) ?alla ?fina
      case alla =>
        simp only [fillA, Act.put, List.setIfInBounds_toArray, List.set_cons_zero, List.set_cons_succ]
        iterate 14 (refine owes_cons (fun w hw K hK => ?_) ?_; focus ((have hS := Lib.hid hw); go_split_ands; go_simp; (try simp only [Act.put, List.setIfInBounds_toArray, List.set_cons_zero, List.set_cons_succ]); first | exact hK _ hS.out))
        exact True.intro
      case fina =>
        rintro we ⟨kk1, kk2, b5r, pr⟩
        simp only [fillA, Act.put, List.setIfInBounds_toArray, List.set_cons_zero, List.set_cons_succ]
        try simp only [em]
        go_wp2_with fail
        go_roundw
        case rel => exact ⟨k + 1, rfl, by have := HKL.out; omega, by go_num, pr⟩
        case measure => have := HKL.out; simp [intOf]; omega
    · obtain rfl : k = R.length := by omega
      have d2 : decide ((R.length : Int) < (R.length : Int)) = false := by simp
      obtain ⟨wL, hwL⟩ : ∃ wL, wL = wr := ⟨wr, rfl⟩
      subst hwL
      have b9r := box_past pr b9 n9
      by_cases h14 : (H : Int) ≤ 14
      · have g1 : decide ((H : Int) ≤ 14) = true := decide_eq_true h14
        by_cases w14 : (Wd : Int) ≤ 14
        · have g2 : decide ((Wd : Int) ≤ 14) = true := decide_eq_true w14
          obtain ⟨Q, lQ, BQ, cQ, midQ, szQ, KQ⟩ := PD.out h14 w14
          have LQ := Lib.hid lQ
          have HBQ := Lib.hid BQ
          have HCQ := Lib.hid cQ
          have MID := Lib.hid midQ
          have HSZ := Lib.hid szQ.symm
          have Qlim : Q.length ≤ 2048 := by
            have a := Nat.mul_le_mul (show Wd + 2 ≤ 16 by omega) hC
            have b := Nat.mul_le_mul (show H + 2 ≤ 16 by omega) a
            omega
          have b10r := box_past pr b10 n10
          clear lQ BQ cQ midQ szQ
          go_wp2_with fail
          refine (KQ _ _ _ _ (VB.out.grow pr) (N05.out.grow pr)).mono ?_
          rintro e wQ ⟨vq, rfl, oq, pq⟩
          obtain ⟨Aq, kq, rfl⟩ := oq.form
          have NQ := Lib.hid (oq.nums HBQ.out)
          have pQ := pr.trans pq
          have b9q := box_past pQ b9 n9
          have b5q := box_past pQ b5 n5
          have n5q : P5 < wQ.heap.size := by have := pQ.2.2.1; omega
          have n9q : P9 < wQ.heap.size := by have := pQ.2.2.1; omega
          clear oq b9r b10r b5r KQ
          go_upto_region 24 with fail
          refine opq (fun w' => (∀ o : Nat, w'.cell? ⟨wQ.heap.size, o, none⟩ = (#[.int .i64 ((H : Int) + 2), .int .i64 ((Wd : Int) + 2), .int .i64 C] : Array Value)[o]?) ∧ Past wQ w' ∧ wQ.heap.size + 1 ≤ w'.heap.size) (by (((try dsimp only); (try go_split_ands); (repeat' with_reducible apply And.intro)) <;> ((repeat (first | (with_reducible (first | assumption | refine kbS ?_ | refine has_set ?_ | refine kcS ?_ | refine free_set ?_ | refine size_set ?_ | refine kgS ?_ | refine kpS ?_ | refine box_drewN ?_ | refine has_drewN ?_ | refine cell_drewN ?_ | refine free_drewN ?_ | refine size_drewN ?_ | refine Grown.drewN ?_ | refine Past.drewN ?_ | refine box_drew ?_ | refine has_drew ?_ | refine cell_drew ?_ | refine free_drew ?_ | refine size_drew ?_ | refine Grown.drew ?_ | refine Past.drew ?_ | exact kbN | refine kbO ?_ | refine khA ?_ | refine kcA ?_ | refine free_alloc ?_ | exact ksA | refine Grown.alloc ?_ _ _ | refine Past.alloc ?_ _ | exact kbG | exact khG | exact kcG | exact ksG | exact kfG | exact kgG | exact kbP | exact kfP | exact khP | exact kcP | exact ksP | exact kpP | exact kfN | refine Grown.past ?_ | exact Grown.refl _ | exact Past.refl _)) | omega)); done))) ?_
          rintro wS ⟨b24, pS, zS⟩
          obtain ⟨P24, hP24⟩ : ∃ P24, wQ.heap.size = P24 := ⟨_, rfl⟩
          rw [hP24] at b24 zS
          simp only [hP24]
          have n24 : P24 < wS.heap.size := by omega
          have b9S := box_past pS b9q n9q
          have b5S := box_past pS b5q n5q
          have n5S : P5 < wS.heap.size := by have := pS.2.2.1; omega
          have n9S : P9 < wS.heap.size := by have := pS.2.2.1; omega
          have NQS := Lib.hid (NQ.out.grow pS)
          have N0S := Lib.hid (N05.out.grow (pQ.trans pS))
          have pBS := pQ.trans pS
          clear hP24 b9q b5q n5q n9q
          go_wp2_with fail
          refine (rsize_any ((H : Int) + 2) ((Wd : Int) + 2) C Q.length _ HSZ).mono ?_
          rintro e wT ⟨rfl, gT⟩
          have pT := Grown.past gT
          obtain ⟨WC, hWC⟩ : ∃ WC, Wd * C = WC := ⟨_, rfl⟩
          have eWC : (Wd : Int) * (C : Int) = (WC : Int) := by rw [← hWC, Int.natCast_mul]
          have WClim : WC ≤ 128 := by
            have a := Nat.mul_le_mul hW hC
            omega
          have HWC := Lib.hid hWC
          clear gT hWC
          go_wp2_with fail
          go_loopw [2, 26] (fun s2 yv wq => ∃ y : Nat, s2 = .bool false ∧ y ≤ H ∧ yv = .int .i64 y ∧ Past wS wq) (fun _ yv _ => H - (intOf yv).toNat)
          case atStart => exact ⟨0, rfl, by omega, rfl, pT⟩
          case round =>
            obtain ⟨y, rfl, hy, rfl, py⟩ := hrel
            obtain ⟨wy, hwy⟩ : ∃ wy, wy = wr := ⟨wr, rfl⟩
            subst hwy
            have b9y := box_past py b9S n9S
            by_cases hyl : y < H
            · have HYL := Lib.hid hyl
              have dy : decide ((y : Int) < (H : Int)) = true := decide_eq_true (by omega)
              go_wp2_with fail
              go_loopw [2, 27] (fun s2 cv wq => ∃ c : Nat, s2 = .bool false ∧ c ≤ WC ∧ cv = .int .i64 c ∧ Past wS wq) (fun _ cv _ => WC - (intOf cv).toNat)
              case atStart => exact ⟨0, rfl, by omega, rfl, py⟩
              case round =>
                obtain ⟨c, rfl, hc, rfl, pc⟩ := hrel
                have b9c := box_past pc b9S n9S
                have b24c := box_past pc b24 n24
                have b5c := box_past pc b5S n5S
                by_cases hcl : c < WC
                · have HCL := Lib.hid hcl
                  have dc : decide ((c : Int) < (WC : Int)) = true := decide_eq_true (by omega)
                  obtain ⟨f1, f2, f3⟩ := MID.out y c HYL.out (by rw [HWC.out]; exact hcl)
                  obtain ⟨m1, hm1⟩ : ∃ m1, (y + 1) * (Wd + 2) = m1 := ⟨_, rfl⟩
                  obtain ⟨m2, hm2⟩ : ∃ m2, m1 * C = m2 := ⟨_, rfl⟩
                  obtain ⟨m4, hm4⟩ : ∃ m4, y * Wd = m4 := ⟨_, rfl⟩
                  obtain ⟨m5, hm5⟩ : ∃ m5, m4 * C = m5 := ⟨_, rfl⟩
                  rw [← Nat.mul_assoc, hm1, hm2] at f1 f2
                  rw [← Nat.mul_assoc y, hm4, hm5] at f1 f3
                  obtain ⟨m3, hm3⟩ : ∃ m3, m2 + C = m3 := ⟨_, rfl⟩
                  rw [hm3] at f1 f2
                  obtain ⟨t, ht⟩ : ∃ t, m3 + c = t := ⟨_, rfl⟩
                  rw [ht] at f1 f2
                  obtain ⟨t', ht'⟩ : ∃ t', m5 + c = t' := ⟨_, rfl⟩
                  rw [ht'] at f1 f3
                  have e1 : ((y : Int) + 1) * ((Wd : Int) + 2) = (m1 : Int) := by rw [← hm1, Int.natCast_mul, Int.natCast_add, Int.natCast_add]; rfl
                  have e2 : (m1 : Int) * (C : Int) = (m2 : Int) := by rw [← hm2, Int.natCast_mul]
                  have e3 : (m2 : Int) + (C : Int) = (m3 : Int) := by rw [← hm3, Int.natCast_add]
                  have e4 : (m3 : Int) + (c : Int) = (t : Int) := by rw [← ht, Int.natCast_add]
                  have e5 : (y : Int) * (Wd : Int) = (m4 : Int) := by rw [← hm4, Int.natCast_mul]
                  have e6 : (m4 : Int) * (C : Int) = (m5 : Int) := by rw [← hm5, Int.natCast_mul]
                  have e7 : (m5 : Int) + (c : Int) = (t' : Int) := by rw [← ht', Int.natCast_add]
                  have m1b : m1 ≤ m2 := by rw [← hm2]; exact Nat.le_mul_of_pos_right _ (by omega)
                  have m4b : m4 ≤ m5 := by rw [← hm5]; exact Nat.le_mul_of_pos_right _ (by omega)
                  have tb1 : m1 ≤ 2048 ∧ m2 ≤ 2048 ∧ m3 ≤ 2048 ∧ t ≤ 2048 ∧ m4 ≤ 2048 ∧ m5 ≤ 2048 ∧ t' ≤ 2048 := by omega
                  have v0 : IntKind.i64.wrap ((y : Int) + 1) = (y : Int) + 1 := IntWalk.i64_in _ (by omega)
                  have v1 : IntKind.i64.wrap (m1 : Int) = (m1 : Int) := IntWalk.i64_in _ (by omega)
                  have v2 : IntKind.i64.wrap (m2 : Int) = (m2 : Int) := IntWalk.i64_in _ (by omega)
                  have v3 : IntKind.i64.wrap (m3 : Int) = (m3 : Int) := IntWalk.i64_in _ (by omega)
                  have v4 : IntKind.i64.wrap (t : Int) = (t : Int) := IntWalk.i64_in _ (by omega)
                  have v5 : IntKind.i64.wrap (m4 : Int) = (m4 : Int) := IntWalk.i64_in _ (by omega)
                  have v6 : IntKind.i64.wrap (m5 : Int) = (m5 : Int) := IntWalk.i64_in _ (by omega)
                  have v7 : IntKind.i64.wrap (t' : Int) = (t' : Int) := IntWalk.i64_in _ (by omega)
                  obtain ⟨q, hq⟩ : ∃ q, D0.getD t' 0 = q := ⟨_, rfl⟩
                  rw [hq] at f1
                  have td : t' < D0.length := by have := HL0.out; omega
                  obtain ⟨qb, qo, a1, n1, n2', n3, ha1, ha2⟩ := nums_parts NQS.out (by omega)
                  obtain ⟨db, dO, a2, n4, n5', n6, hb1, hb2⟩ := nums_parts N0S.out (by omega)
                  clear n1 n2' n3 n4 n5' n6
                  subst a1 a2
                  have kk1 := past_cellq (p := ⟨qb, qo + t, none⟩) pc ha1 (ha2 t f2).1
                  have kk2 := past_cellq (p := ⟨db, dO + t', none⟩) pc hb1 (hb2 t' td).1
                  rw [f1] at kk1
                  rw [hq] at kk2
                  have i1 : (t : Int) < (Q.length : Int) := by omega
                  have i2 : (t' : Int) < (D0.length : Int) := by omega
                  clear ha2 hb2 hq f1 hm1 hm2 hm3 hm4 hm5 ht ht'
                  (try clear HBQ); (try clear HCQ); (try clear MID); (try clear HSZ); (try clear LQ); (try clear NQ); (try clear NQS); (try clear N0S); (try clear KR); (try clear KT); (try clear KP); (try clear KM); (try clear KA); (try clear RA); (try clear PD); (try clear HB0); (try clear HBR); (try clear HL0); (try clear HLR); (try clear HN); (try clear EH); (try clear EW); (try clear EC); (try clear HZZ); (try clear V5); (try clear VB); (try clear NR); (try clear NT); (try clear NP); (try clear NM); (try clear NA); (try clear N05); (try clear pX); (try clear q1); (try clear q1'); (try clear pr); (try clear pq); (try clear pQ); (try clear pS); (try clear pT); (try clear pBS); (try clear b5); (try clear b9); (try clear b10); (try clear b5S); (try clear b9S); (try clear b24); (try clear n5); (try clear n9); (try clear n10); (try clear n5S); (try clear n9S); (try clear n24); (try clear lim); (try clear hz); (try clear H1); (try clear W1); (try clear C1); (try clear N2); (try clear nB); (try clear h14); (try clear w14); (try clear d2); (try clear hk); (try clear ha1); (try clear hb1); (try clear hm1); (try clear py); (try clear b9y); (try clear KQ); (try clear zS); (try clear g1); (try clear g2); (try clear Qlim); (try clear f2); (try clear f3); (try clear td); skip
                  go_upto_region 33 with fail
                  refine wp_region_fill (fun w' => w'.cell? ⟨qb, qo + t, none⟩ = some (.int .i8 q) ∧ w'.cell? ⟨db, dO + t', none⟩ = some (.int .i8 q) ∧ (∀ o : Nat, w'.cell? ⟨P9, o, none⟩ = (#[.int .i64 H, .int .i64 Wd, .int .i64 C] : Array Value)[o]?) ∧ (∀ o : Nat, w'.cell? ⟨P24, o, none⟩ = (#[.int .i64 ((H : Int) + 2), .int .i64 ((Wd : Int) + 2), .int .i64 C] : Array Value)[o]?) ∧ (∀ o : Nat, w'.cell? ⟨P5, o, none⟩ = (#[.slice (some ⟨db, dO, none⟩) D0.length k0, .slice V1 D1.length k1] : Array Value)[o]?) ∧ Past wS w') [(199, ?vb199), (200, ?vb200), (201, ?vb201), (202, ?vb202), (203, ?vb203), (204, ?vb204), (205, ?vb205), (206, ?vb206), (207, ?vb207), (208, ?vb208), (209, ?vb209), (210, ?vb210), (211, ?vb211), (212, ?vb212), (213, ?vb213), (214, ?vb214), (215, ?vb215), (216, ?vb216), (217, ?vb217), (218, ?vb218), (219, ?vb219), (220, ?vb220), (221, ?vb221), (222, ?vb222), (223, ?vb223), (224, ?vb224), (225, ?vb225), (226, ?vb226), (227, ?vb227), (228, ?vb228)] [199, 200, 201, 202, 203, 204, 205, 206, 207, 208, 209, 210, 211, 212, 213, 214, 215, 216, 217, 218, 219, 220, 221, 222, 223, 224, 225, 226, 227, 228] (by kernel_rfl) (by kernel_rfl) rfl (by kernel_rfl) ⟨kk1, kk2, b9c, b24c, b5c, pc⟩ (fun w h => h) ?allb ?finb
                  case allb =>
                    simp only [fillA, Act.put, List.setIfInBounds_toArray, List.set_cons_zero, List.set_cons_succ]
                    iterate 30 (refine owes_cons (fun w hw K hK => ?_) ?_; focus ((have hS := Lib.hid hw); go_split_ands; go_simp; (try simp only [Act.put, List.setIfInBounds_toArray, List.set_cons_zero, List.set_cons_succ]); first | exact hK _ hS.out))
                    exact True.intro
                  case finb =>
                    rintro we ⟨kk1, kk2, b9c, b24c, b5c, pc⟩
                    simp only [fillA, Act.put, List.setIfInBounds_toArray, List.set_cons_zero, List.set_cons_succ]
                    go_wp2_with fail
                    go_roundw
                    case rel => exact ⟨c + 1, rfl, by have := HCL.out; omega, by go_num, pc⟩
                    case measure => have := HCL.out; simp [intOf]; omega
                · obtain rfl : c = WC := by omega
                  have dc : decide ((c : Int) < (c : Int)) = false := by simp
                  go_wp2_with fail
                  go_roundw
                  case rel => exact ⟨y + 1, rfl, by have := HYL.out; omega, by go_num, pc⟩
                  case measure => have := HYL.out; simp [intOf]; omega
            · obtain rfl : y = H := by omega
              have dy : decide ((y : Int) < (y : Int)) = false := by simp
              go_wp2_with fail
              go_loopw [25, 28] (fun sv i wq => ∃ (k s : Nat), k ≤ Q.length ∧ i = .int .i64 k ∧ sv = .int .i64 s ∧ Hid (cntN z (fun i => Q.getD i 0) k = s) ∧ Past wS wq) (fun _ i _ => Q.length - (intOf i).toNat)
              case atStart => exact ⟨0, 0, by omega, rfl, rfl, Lib.hid rfl, py⟩
              case round =>
                obtain ⟨k, s, hk, rfl, rfl, hs, pk⟩ := hrel
                have sk : s ≤ k := by rw [← hs.out]; exact cntN_le _ _ _
                by_cases hkl : k < Q.length
                · have HKL := Lib.hid hkl
                  obtain ⟨q, hq⟩ : ∃ q, Q.getD k 0 = q := ⟨_, rfl⟩
                  have xq := getD_i8 HBQ.out k
                  rw [hq] at xq
                  obtain ⟨qb, qo, a1, n1, n2', n3, ha1, ha2⟩ := nums_parts NQS.out (by omega)
                  clear n1 n2' n3
                  subst a1
                  have kk1 := past_cellq (p := ⟨qb, qo + k, none⟩) pk ha1 (ha2 k hkl).1
                  rw [hq] at kk1
                  have dk : decide ((k : Int) < (Q.length : Int)) = true := decide_eq_true (by omega)
                  have i1 : (k : Int) < (Q.length : Int) := by omega
                  by_cases qz : q = z
                  · have HS := Lib.hid (cntN_z hs.out (show (fun i => Q.getD i 0) k = z from hq.trans qz))
                    have qq : (q == z) = true := by rw [beq_iff_eq]; exact qz
                    clear ha2 hq hs qz
                    go_wp2_with fail
                    go_roundw
                    case rel => exact ⟨k + 1, s, by have := HKL.out; omega, by go_num, rfl, HS, pk⟩
                    case measure => have := HKL.out; simp [intOf]; omega
                  · have HS := Lib.hid (cntN_n hs.out (show ¬ (fun i => Q.getD i 0) k = z from fun e => qz (hq.symm.trans e)))
                    have qq : (q == z) = false := by rw [beq_eq_false_iff_ne]; exact qz
                    clear ha2 hq hs
                    go_wp2_with fail
                    go_roundw
                    case rel => exact ⟨k + 1, s + 1, by have := HKL.out; omega, by go_num, by go_num, HS, pk⟩
                    case measure => have := HKL.out; simp [intOf]; omega
                · obtain rfl : k = Q.length := by omega
                  have dk : decide ((Q.length : Int) < (Q.length : Int)) = false := by simp
                  have sN : s ≤ D0.length := by have := HCQ.out; have := hs.out; have := HL0.out; omega
                  have ds : decide ((s : Int) > (D0.length : Int)) = false := decide_eq_false (by omega)
                  have ds' : decide ((D0.length : Int) < (s : Int)) = false := decide_eq_false (by omega)
                  have b5k := box_past pk b5S n5S
                  obtain ⟨wK, hwK⟩ : ∃ wK, wK = wr := ⟨wr, rfl⟩
                  subst hwK
                  have pBK := pBS.trans pk
                  have SA := Lib.hid (fun w (g : Past wK w) => same_eq _ _ R w (NR.out.grow (pBK.trans g)) (NT.out.grow (pBK.trans g)))
                  have SB := Lib.hid (fun w (g : Past wK w) => same_eq _ _ D0 w (NP.out.grow (pBK.trans g)) (N05.out.grow (pBK.trans g)))
                  have SC := Lib.hid (fun w (g : Past wK w) => same_eq _ _ D0 w (NM.out.grow (pBK.trans g)) (N05.out.grow (pBK.trans g)))
                  have SD := Lib.hid (fun w (g : Past wK w) => same_eq _ _ D0 w (NA.out.grow (pBK.trans g)) (N05.out.grow (pBK.trans g)))
                  have b5z := box_past pBK b5 n5
                  have n5z : P5 < wK.heap.size := by have := pBK.2.2.1; omega
                  go_wp2_with fail
                  refine (SA.out _ (Past.refl _)).mono ?_
                  rintro e y1 ⟨rfl, g1⟩
                  have r1 := Grown.past g1
                  have b51 := box_past r1 b5z n5z
                  clear g1
                  go_wp2_with fail
                  refine (SB.out _ r1).mono ?_
                  rintro e y2 ⟨rfl, g2⟩
                  have r2 := past_trans3 r1 g2
                  have b52 := box_past r2 b5z n5z
                  clear g2 b51
                  go_wp2_with fail
                  refine (SC.out _ r2).mono ?_
                  rintro e y3 ⟨rfl, g3⟩
                  have r3 := past_trans3 r2 g3
                  have b53 := box_past r3 b5z n5z
                  clear g3 b52
                  go_wp2_with fail
                  refine (SD.out _ r3).mono ?_
                  rintro e y4 ⟨rfl, g4⟩
                  have r4 := past_trans3 r3 g4
                  have rW := pX.trans (pBK.trans r4)
                  clear g4 b53
                  go_wp2_with fail
                  go_ret
                  exact ⟨rfl, rW⟩
        · have g2 : decide ((Wd : Int) ≤ 14) = false := decide_eq_false w14
          have SA := Lib.hid (fun w (g : Past wL w) => same_eq _ _ R w (NR.out.grow (pr.trans g)) (NT.out.grow (pr.trans g)))
          have SB := Lib.hid (fun w (g : Past wL w) => same_eq _ _ D0 w (NP.out.grow (pr.trans g)) (N05.out.grow (pr.trans g)))
          have SC := Lib.hid (fun w (g : Past wL w) => same_eq _ _ D0 w (NM.out.grow (pr.trans g)) (N05.out.grow (pr.trans g)))
          have SD := Lib.hid (fun w (g : Past wL w) => same_eq _ _ D0 w (NA.out.grow (pr.trans g)) (N05.out.grow (pr.trans g)))
          have b5z := box_past pr b5 n5
          have n5z : P5 < wL.heap.size := by have := pr.2.2.1; omega
          go_wp2_with fail
          refine (SA.out _ (Past.refl _)).mono ?_
          rintro e y1 ⟨rfl, g1⟩
          have r1 := Grown.past g1
          have b51 := box_past r1 b5z n5z
          clear g1
          go_wp2_with fail
          refine (SB.out _ r1).mono ?_
          rintro e y2 ⟨rfl, g2⟩
          have r2 := past_trans3 r1 g2
          have b52 := box_past r2 b5z n5z
          clear g2 b51
          go_wp2_with fail
          refine (SC.out _ r2).mono ?_
          rintro e y3 ⟨rfl, g3⟩
          have r3 := past_trans3 r2 g3
          have b53 := box_past r3 b5z n5z
          clear g3 b52
          go_wp2_with fail
          refine (SD.out _ r3).mono ?_
          rintro e y4 ⟨rfl, g4⟩
          have r4 := past_trans3 r3 g4
          have rW := pX.trans (pr.trans r4)
          clear g4 b53
          go_wp2_with fail
          go_ret
          exact ⟨rfl, rW⟩
      · have g1 : decide ((H : Int) ≤ 14) = false := decide_eq_false h14
        have SA := Lib.hid (fun w (g : Past wL w) => same_eq _ _ R w (NR.out.grow (pr.trans g)) (NT.out.grow (pr.trans g)))
        have SB := Lib.hid (fun w (g : Past wL w) => same_eq _ _ D0 w (NP.out.grow (pr.trans g)) (N05.out.grow (pr.trans g)))
        have SC := Lib.hid (fun w (g : Past wL w) => same_eq _ _ D0 w (NM.out.grow (pr.trans g)) (N05.out.grow (pr.trans g)))
        have SD := Lib.hid (fun w (g : Past wL w) => same_eq _ _ D0 w (NA.out.grow (pr.trans g)) (N05.out.grow (pr.trans g)))
        have b5z := box_past pr b5 n5
        have n5z : P5 < wL.heap.size := by have := pr.2.2.1; omega
        go_wp2_with fail
        refine (SA.out _ (Past.refl _)).mono ?_
        rintro e y1 ⟨rfl, g1⟩
        have r1 := Grown.past g1
        have b51 := box_past r1 b5z n5z
        clear g1
        go_wp2_with fail
        refine (SB.out _ r1).mono ?_
        rintro e y2 ⟨rfl, g2⟩
        have r2 := past_trans3 r1 g2
        have b52 := box_past r2 b5z n5z
        clear g2 b51
        go_wp2_with fail
        refine (SC.out _ r2).mono ?_
        rintro e y3 ⟨rfl, g3⟩
        have r3 := past_trans3 r2 g3
        have b53 := box_past r3 b5z n5z
        clear g3 b52
        go_wp2_with fail
        refine (SD.out _ r3).mono ?_
        rintro e y4 ⟨rfl, g4⟩
        have r4 := past_trans3 r3 g4
        have rW := pX.trans (pr.trans r4)
        clear g4 b53
        go_wp2_with fail
        go_ret
        exact ⟨rfl, rW⟩
end Go.Proofs.Ytbkigldffcgodaa
