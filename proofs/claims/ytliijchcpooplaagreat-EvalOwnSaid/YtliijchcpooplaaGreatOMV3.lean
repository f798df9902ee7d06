/- begins. kern: a row. The reference's sums and greatest under a window. -/
import Derived.Test.YtliijchcpooplaaGreatOMG12
import Derived.Test.YtliijchcpooplaaGreatOMG8
import Derived.Deep.DeepCutAuto
import Derived.OwnWalk
import Derived.Test.YtliijchcpooplaaGreatOMKOA
import Derived.Test.YtliijchcpooplaaGreatOMKOB
import Derived.Test.YtliijchcpooplaaGreatOMKG
import Derived.Test.YtliijchcpooplaaGreatOMG6C
import Derived.Test.YtliijchcpooplaaGreatOMKS1
namespace Go.Proofs.YtliijchcpooplaaGreat
open Go.ChangeShapes Go.WideShapes Go.ChangeAt Go.RowKit
set_option maxRecDepth 20000
set_option linter.unusedVariables false
open Classical in
noncomputable def beginsE (g : GraphD) : Int :=
  if 4 < g.ins.length ∨ 12 < g.nodes.length ∨ 4 < g.outs.length then 3 else
  if g.ins.length = 0 ∨ g.outs.length = 0 then 13 else
  if ¬ (∀ j, j < g.ins.length -> mayV (g.ins.getD j default)) then 10 else
  if ¬ (∀ j, j < g.ins.length -> -128 <= (g.ins.getD j default).z /\ (g.ins.getD j default).z <= 127) then 11 else 0
theorem enters_may : ∀ (xs : Array Value) (w : World), (callFunc 48 xs).run Tryz.prog w = .ok (.enter 48 xs) w := fun xs w => by kernel_rfl
theorem enters_badZero : ∀ (xs : Array Value) (w : World), (callFunc 49 xs).run Tryz.prog w = .ok (.enter 49 xs) w := fun xs w => by kernel_rfl
set_option maxHeartbeats 4000000 in
theorem begins_any (g : GraphD) (A1 A2 A3 : Option Addr) (c1 c2 c3 : Nat) (W : World) (q : Int) (hq : Hid (q = beginsE g)) (hi : IsVals W (.slice A1 g.ins.length c1) g.ins) (l2 : g.nodes.length <= maxLen) (l3 : g.outs.length <= maxLen) :
    Calls Tryz.prog 34 #[.agg #[.slice A1 g.ins.length c1, .slice A2 g.nodes.length c2, .slice A3 g.outs.length c3]] W fun e w' => e = .returned (.int .i64 q) /\ Grown W w' := by
  have l1 : g.ins.length <= maxLen := by
    obtain ⟨A, c, e, h1, h2, _⟩ := hi
    omega
  have HI := Lib.hid hi
  have m1 : g.ins.length <= 9223372036854775807 := by unfold maxLen at l1; omega
  have m2 : g.nodes.length <= 9223372036854775807 := by unfold maxLen at l2; omega
  have m3 : g.outs.length <= 9223372036854775807 := by unfold maxLen at l3; omega
  clear hi l1 l2 l3
  have hq' := hq.out
  unfold beginsE at hq'
  by_cases k1 : 4 < g.ins.length
  . rw [if_pos (.inl k1)] at hq'
    subst hq'
    have d1 : decide ((4 : Int) < (g.ins.length : Int)) = true := by simp; omega
    clear hq
    go_enter Tryz.func34, Tryz.ntmps34
    go_wp2_with fail
    go_ret
    exact ⟨rfl, by go_grown⟩
  have d1 : decide ((4 : Int) < (g.ins.length : Int)) = false := by simp; omega
  by_cases k2 : 12 < g.nodes.length
  . rw [if_pos (.inr (.inl k2))] at hq'
    subst hq'
    have d2 : decide ((12 : Int) < (g.nodes.length : Int)) = true := by simp; omega
    clear hq
    go_enter Tryz.func34, Tryz.ntmps34
    go_wp2_with fail
    go_ret
    exact ⟨rfl, by go_grown⟩
  have d2 : decide ((12 : Int) < (g.nodes.length : Int)) = false := by simp; omega
  by_cases k3 : 4 < g.outs.length
  . rw [if_pos (.inr (.inr k3))] at hq'
    subst hq'
    have d3 : decide ((4 : Int) < (g.outs.length : Int)) = true := by simp; omega
    clear hq
    go_enter Tryz.func34, Tryz.ntmps34
    go_wp2_with fail
    go_ret
    exact ⟨rfl, by go_grown⟩
  have d3 : decide ((4 : Int) < (g.outs.length : Int)) = false := by simp; omega
  rw [if_neg (by omega)] at hq'
  by_cases k4 : g.ins.length = 0
  . rw [if_pos (.inl k4)] at hq'
    subst hq'
    have d4 : ((g.ins.length : Int) == 0) = true := by simp [k4]
    have k4' := Lib.hid k4
    clear hq k4
    go_enter Tryz.func34, Tryz.ntmps34
    go_wp2_with fail
    go_ret
    exact ⟨rfl, by go_grown⟩
  have d4 : ((g.ins.length : Int) == 0) = false := by simp only [beq_eq_false_iff_ne, ne_eq]; omega
  by_cases k5 : g.outs.length = 0
  . rw [if_pos (.inr k5)] at hq'
    subst hq'
    have d5 : ((g.outs.length : Int) == 0) = true := by simp [k5]
    have k5' := Lib.hid k5
    clear hq k5
    go_enter Tryz.func34, Tryz.ntmps34
    go_wp2_with fail
    go_ret
    exact ⟨rfl, by go_grown⟩
  have d5 : ((g.outs.length : Int) == 0) = false := by simp only [beq_eq_false_iff_ne, ne_eq]; omega
  rw [if_neg (by omega)] at hq'
  have F1 : Hid (∀ x ∈ g.ins, ∀ w, Calls Tryz.prog 48 #[.agg #[.int .i64 x.h, .int .i64 x.w, .int .i64 x.c, .int .i64 x.z]] w fun e w' => e = .returned (.bool (!mayB (shD x))) /\ Grown w w') := Lib.hid (fun x _ w => mayNotBe_any x.h x.w x.c x.z w)
  have F2 : Hid (∀ x ∈ g.ins, ∀ w, Calls Tryz.prog 49 #[.agg #[.int .i64 x.h, .int .i64 x.w, .int .i64 x.c, .int .i64 x.z]] w fun e w' => e = .returned (.bool (!holdB (-128) 127 x.z)) /\ Grown w w') := Lib.hid (fun x _ w => badZero_any x.h x.w x.c x.z w)
  by_cases k6 : ∀ j, j < g.ins.length -> mayV (g.ins.getD j default)
  . rw [if_neg (fun h => h k6)] at hq'
    have t1 : Hid (false = true ↔ ∃ j, j < g.ins.length /\ (!mayB (shD (g.ins.getD j default))) = true) := Lib.hid ⟨fun j => Bool.noConfusion j, fun ⟨j, h1, h2⟩ => by
      rw [show mayB (shD (g.ins.getD j default)) = true from mayB_t (k6 j h1)] at h2
      cases h2⟩
    have C1 := Lib.hid (fun w (p : Grown W w) => containsVals_any _ (fun x => !mayB (shD x)) g.ins _ w false (HI.out.grow (Grown.past p)) enters_may F1.out t1)
    by_cases k7 : ∀ j, j < g.ins.length -> -128 <= (g.ins.getD j default).z /\ (g.ins.getD j default).z <= 127
    . rw [if_neg (fun h => h k7)] at hq'
      subst hq'
      have t2 : Hid (false = true ↔ ∃ j, j < g.ins.length /\ (!holdB (-128) 127 (g.ins.getD j default).z) = true) := Lib.hid ⟨fun j => Bool.noConfusion j, fun ⟨j, h1, h2⟩ => by
        rw [holdB_t.mpr (k7 j h1)] at h2
        cases h2⟩
      have C2 := Lib.hid (fun w (p : Grown W w) => containsVals_any _ (fun x => !holdB (-128) 127 x.z) g.ins _ w false (HI.out.grow (Grown.past p)) enters_badZero F2.out t2)
      clear hq k6 k7 k4 k5
      go_enter Tryz.func34, Tryz.ntmps34
      go_upto_region 1 with fail
      refine opq (fun w' => (Bx w' (W.heap.size) #[.slice A1 g.ins.length c1, .slice A2 g.nodes.length c2, .slice A3 g.outs.length c3]) /\ Grown W w' /\ W.heap.size + 1 <= w'.heap.size) kKeep ?_
      rintro w1 ⟨b1, g1, s1⟩
      go_wp2_with fail
      refine (C1.out _ g1).mono ?_
      rintro e w2 ⟨rfl, p2⟩
      obtain ⟨b2, g2, s2⟩ : (Bx w2 (W.heap.size) #[.slice A1 g.ins.length c1, .slice A2 g.nodes.length c2, .slice A3 g.outs.length c3]) /\ Grown W w2 /\ W.heap.size + 1 <= w2.heap.size := by (exact kKeep)
      clear b1 g1 s1 p2
      go_wp2_with fail
      refine (C2.out _ g2).mono ?_
      rintro e w3 ⟨rfl, p3⟩
      go_wp2_with fail
      go_ret
      exact ⟨rfl, grown_trans g2 p3⟩
    . rw [if_pos k7] at hq'
      subst hq'
      have t2 : Hid (true = true ↔ ∃ j, j < g.ins.length /\ (!holdB (-128) 127 (g.ins.getD j default).z) = true) := Lib.hid ⟨fun _ => by
        apply Classical.byContradiction
        intro c
        apply k7
        intro j hj
        apply Classical.byContradiction
        intro d
        apply c
        refine ⟨j, hj, ?_⟩
        rw [holdB_f.mpr d]
        rfl, fun _ => rfl⟩
      have C2 := Lib.hid (fun w (p : Grown W w) => containsVals_any _ (fun x => !holdB (-128) 127 x.z) g.ins _ w true (HI.out.grow (Grown.past p)) enters_badZero F2.out t2)
      clear hq k6 k7 k4 k5
      go_enter Tryz.func34, Tryz.ntmps34
      go_upto_region 1 with fail
      refine opq (fun w' => (Bx w' (W.heap.size) #[.slice A1 g.ins.length c1, .slice A2 g.nodes.length c2, .slice A3 g.outs.length c3]) /\ Grown W w' /\ W.heap.size + 1 <= w'.heap.size) kKeep ?_
      rintro w1 ⟨b1, g1, s1⟩
      go_wp2_with fail
      refine (C1.out _ g1).mono ?_
      rintro e w2 ⟨rfl, p2⟩
      obtain ⟨b2, g2, s2⟩ : (Bx w2 (W.heap.size) #[.slice A1 g.ins.length c1, .slice A2 g.nodes.length c2, .slice A3 g.outs.length c3]) /\ Grown W w2 /\ W.heap.size + 1 <= w2.heap.size := by (exact kKeep)
      clear b1 g1 s1 p2
      go_wp2_with fail
      refine (C2.out _ g2).mono ?_
      rintro e w3 ⟨rfl, p3⟩
      go_wp2_with fail
      go_ret
      exact ⟨rfl, grown_trans g2 p3⟩
  . rw [if_pos k6] at hq'
    subst hq'
    have t1 : Hid (true = true ↔ ∃ j, j < g.ins.length /\ (!mayB (shD (g.ins.getD j default))) = true) := Lib.hid ⟨fun _ => by
      apply Classical.byContradiction
      intro c
      apply k6
      intro j hj
      apply Classical.byContradiction
      intro d
      apply c
      refine ⟨j, hj, ?_⟩
      rw [show mayB (shD (g.ins.getD j default)) = false from mayB_f d]
      rfl, fun _ => rfl⟩
    have C1 := Lib.hid (fun w (p : Grown W w) => containsVals_any _ (fun x => !mayB (shD x)) g.ins _ w true (HI.out.grow (Grown.past p)) enters_may F1.out t1)
    clear hq k6 k4 k5
    go_enter Tryz.func34, Tryz.ntmps34
    go_upto_region 1 with fail
    refine opq (fun w' => (Bx w' (W.heap.size) #[.slice A1 g.ins.length c1, .slice A2 g.nodes.length c2, .slice A3 g.outs.length c3]) /\ Grown W w' /\ W.heap.size + 1 <= w'.heap.size) kKeep ?_
    rintro w1 ⟨b1, g1, s1⟩
    go_wp2_with fail
    refine (C1.out _ g1).mono ?_
    rintro e w2 ⟨rfl, p2⟩
    go_wp2_with fail
    go_ret
    exact ⟨rfl, grown_trans g1 p2⟩
end Go.Proofs.YtliijchcpooplaaGreat
namespace Go.Proofs.YtliijchcpooplaaGreat
open Go.ChangeShapes Go.WideShapes Go.ChangeAt Go.RowKit
set_option maxRecDepth 20000
set_option linter.unusedVariables false
theorem maker_any {n : NodeD} {vs : List ValD} {a b : ViewD} {m : Int × Int × Int} {y : Int} {vi vw vb lv sa sb : Value} {W : World} (h : MakeOk n vs a b m) (y0 : 0 <= y) (y1 : y < m.1) (hin : NodeIn W n vi vw vb) (na : IsNums .i8 W sa a.xs) (nb : IsNums .i8 W sb b.xs) :
    Calls Tryz.prog 86 #[.agg #[.int .i64 n.op, vi, .int .i64 n.k, .int .i64 n.stride, .int .i64 n.pad, .int .i64 n.out, .int .i64 n.mul, .int .i64 n.shift, .int .i64 n.zero, .int .i64 n.th, .int .i64 n.tw, .int .i64 n.tc, vw, vb, lv, .int .i64 m.1, .int .i64 m.2.1, .int .i64 m.2.2], .agg #[.int .i64 a.v.h, .int .i64 a.v.w, .int .i64 a.v.c, .int .i64 a.v.z, .int .i64 a.base, .int .i64 a.many, sa], .agg #[.int .i64 b.v.h, .int .i64 b.v.w, .int .i64 b.v.c, .int .i64 b.v.z, .int .i64 b.base, .int .i64 b.many, sb]] W (MakerPost n a b m y W) := by
  obtain ⟨o1, o2⟩ := (value_parts h.1).1.1
  rcases (show n.op = 1 ∨ n.op = 2 ∨ n.op = 3 ∨ n.op = 4 ∨ n.op = 5 ∨ n.op = 6 ∨ n.op = 7 ∨ n.op = 8 ∨ n.op = 9 ∨ n.op = 10 ∨ n.op = 11 ∨ n.op = 12 by omega) with c | c | c | c | c | c | c | c | c | c | c | c
  . exact maker_1 h c y0 y1 hin na nb
  . exact maker_2 h c y0 y1 hin na nb
  . exact maker_3 h c y0 y1 hin na nb
  . exact maker_4 h c y0 y1 hin na nb
  . exact maker_5 h c y0 y1 hin na nb
  . exact maker_6 h c y0 y1 hin na nb
  . exact maker_7 h c y0 y1 hin na nb
  . exact maker_8 h c y0 y1 hin na nb
  . exact maker_9 h c y0 y1 hin na nb
  . exact maker_10 h c y0 y1 hin na nb
  . exact maker_11 h c y0 y1 hin na nb
  . exact maker_12 h c y0 y1 hin na nb
noncomputable def rowF (n : NodeD) (a b : ViewD) (m : Int × Int × Int) (y : Int) (i : Nat) : Int := numD n a b m y ((i / m.2.2.toNat : Nat) : Int) ((i % m.2.2.toNat : Nat) : Int)
noncomputable def rowL (n : NodeD) (a b : ViewD) (m : Int × Int × Int) (y : Int) (k : Nat) : List Int := (List.range k).map (rowF n a b m y)
theorem rowL_succ (n : NodeD) (a b : ViewD) (m : Int × Int × Int) (y : Int) (k : Nat) : rowL n a b m y (k + 1) = rowL n a b m y k ++ [rowF n a b m y k] := by
  unfold rowL
  rw [List.range_succ, List.map_append]
  rfl
theorem rowF_at (n : NodeD) (a b : ViewD) (m : Int × Int × Int) (y : Int) (x c : Nat) (hc : c < m.2.2.toNat) : rowF n a b m y (x * m.2.2.toNat + c) = numD n a b m y x c := by
  unfold rowF
  rw [Nat.mul_comm x, Nat.mul_add_div (by omega), Nat.div_eq_of_lt hc, Nat.add_zero, Nat.mul_add_mod, Nat.mod_eq_of_lt hc]
theorem sumN_mid {f : Nat -> Int} {lo hi : Int} {k : Nat} (h : ∀ i, i < k -> lo <= f i /\ f i <= hi) : lo * k <= sumN f k /\ sumN f k <= hi * k := by
  induction k with
  | zero => simp [sumN]
  | succ k ih =>
    have a := ih (fun i hi => h i (by omega))
    have b := h k (by omega)
    have e1 : lo * ((k + 1 : Nat) : Int) = lo * k + lo := by rw [Int.natCast_add, Int.mul_add]; simp
    have e2 : hi * ((k + 1 : Nat) : Int) = hi * k + hi := by rw [Int.natCast_add, Int.mul_add]; simp
    simp only [sumN]
    rw [e1, e2]
    omega
theorem numD_bd {n : NodeD} {vs : List ValD} {a b : ViewD} {m : Int × Int × Int} (h : MakeOk n vs a b m) (hw : ∀ k, -128 <= n.ws.getD k 0 /\ n.ws.getD k 0 <= 127) {y x : Int} (y0 : 0 <= y) (y1 : y < m.1) (x0 : 0 <= x) (x1 : x < m.2.1) (d : Int) : -128 <= numD n a b m y x d /\ numD n a b m y x d <= 127 := by
  have A := fun y x c => atD_bd h.2.2.1.ok y x c
  obtain ⟨o1, o2⟩ := (value_parts h.1).1.1
  rcases (show n.op = 1 ∨ n.op = 2 ∨ n.op = 3 ∨ n.op = 4 ∨ n.op = 5 ∨ n.op = 6 ∨ n.op = 7 ∨ n.op = 8 ∨ n.op = 9 ∨ n.op = 10 ∨ n.op = 11 ∨ n.op = 12 by omega) with c | c | c | c | c | c | c | c | c | c | c | c
  . rw [num1 c]; exact scaleD_bd _ _ _ _
  . rw [num2 c]; exact scaleD_bd _ _ _ _
  . rw [num3 c]; exact scaleD_bd _ _ _ _
  . rw [num4 c]; exact mostN_bd (fun i _ => A _ _ _)
  . rw [num5 c]
    obtain ⟨⟨k1, k3⟩, _⟩ := h.win (by omega) y0 y1 x0 x1
    have s := sumN_mid (f := underN n a y x d) (lo := -128) (hi := 127) (k := n.k.toNat * n.k.toNat) (fun i _ => A _ _ _)
    have e : ((n.k.toNat * n.k.toNat : Nat) : Int) = n.k * n.k := by rw [Int.natCast_mul, Int.toNat_of_nonneg (by omega)]
    rw [e] at s
    have kk := (mul_bd k1 k3 k1 k3).1
    have e1 := fx.rd_mul (-128) (n.k * n.k) (by omega)
    have e2 := fx.rd_mul 127 (n.k * n.k) (by omega)
    have m1 := fx.rd_mono (-128 * (n.k * n.k)) _ (n.k * n.k) (by omega) s.1
    have m2 := fx.rd_mono _ (127 * (n.k * n.k)) (n.k * n.k) (by omega) s.2
    rw [e1] at m1
    rw [e2] at m2
    exact ⟨m1, m2⟩
  . rw [num6 c]; exact scaleD_bd _ _ _ _
  . rw [num7 c]; exact scaleD_bd _ _ _ _
  . rw [num8 c]; have := A y x d; have := h.scaled; omega
  . rw [num9 c]; exact A _ _ _
  . rw [num10 c]; have fb := (h.2.2.2.2 (by omega)).1; split
    . exact A _ _ _
    . exact atD_bd fb.ok _ _ _
  . rw [num11 c]; exact getD_i8 h.2.2.1.2.2.2.2.2 _
  . rw [num12 c]; exact hw _
theorem infoI8 : (Tryz.prog.info? 35).map (fun i => (i.zero, i.size, i.bytes)) = some (some (.int .i8 0), 1, 1) := by kernel_rfl
def Own8 (w : World) (base : Nat) (v : Value) (xs : List Int) : Prop := w.ownsRow base 35 1 v xs.length (xs.map (Value.int .i8))
theorem Own8.nil (w : World) (base : Nat) : Own8 w base (.slice none 0 0) [] := World.ownsRow_nil _ _ _ _
theorem own8_add {w : World} {base : Nat} {v : Value} {xs : List Int} {u : Int} (h : w.ownsRow base 35 1 v (xs.length + 1) (xs.map (Value.int .i8) ++ [.int .i8 u])) : Own8 w base v (xs ++ [u]) := by
  unfold Own8
  simpa using h
theorem Own8.past {w w' : World} {base : Nat} {v : Value} {xs : List Int} (h : Own8 w base v xs) (g : Past w w') : Own8 w' base v xs := by
  obtain ⟨hl, h⟩ := h
  refine ⟨hl, ?_⟩
  rcases h with ⟨rfl, h0⟩ | ⟨b, cap, cur, rfl, hb, hg, hn, hm, hs, ht⟩
  . exact .inl ⟨rfl, h0⟩
  . exact .inr ⟨b, cap, cur, rfl, hb, (g.2.2.2 b (Array.getElem?_eq_some_iff.1 hg).1).trans hg, hn, hm, hs, ht⟩
theorem Own8.nums {w : World} {base : Nat} {v : Value} {xs : List Int} (ho : Own8 w base v xs) (wf : ∀ x ∈ xs, -128 <= x /\ x <= 127) : IsNums .i8 w v xs := by
  obtain ⟨hl, h⟩ := ho
  have wf' : ∀ x ∈ xs, (Lit.int .i8 x).wf = true := fun x hx => by have := wf x hx; simp [Lit.wf, IntKind.min, IntKind.max, IntKind.bits, IntKind.signed]; omega
  rcases h with ⟨rfl, h0⟩ | ⟨b, cap, cur, rfl, hb, hg, hn, hm, hs, ht⟩
  . have : xs = [] := List.eq_nil_of_length_eq_zero h0
    subst this
    exact ⟨none, 0, rfl, Nat.le_refl _, Nat.zero_le _, fun _ => rfl, by simp, by simp⟩
  . refine ⟨some ⟨b, 0, none⟩, cap, rfl, hn, hm, (fun h => by cases h), wf', fun hp => ⟨b, 0, rfl, (Array.getElem?_eq_some_iff.1 hg).1, fun i hi => ?_⟩⟩
    have key : w.cell? ⟨b, 0 + i, none⟩ = (xs.map (Value.int .i8))[i]? := by
      rw [<- ht, List.getElem?_take_of_lt (by omega)]
      simp [World.cell?, hg]
    rw [key]
    simp [List.getD, hi]
theorem Own8.lt {w : World} {base : Nat} {v : Value} {xs : List Int} (h : Own8 w base v xs) : ∀ k, v.ownBlock = some k -> base <= k /\ k < w.heap.size := World.ownsRow.lt h
theorem cells_new1 (w : World) (l : List Value) (t : TypeId) (j : Nat) (u : Value) (h : l[j]? = some u) : (w.alloc (.cells ⟨l⟩ t)).cell? ((⟨w.heap.size, 0, none⟩ : Addr).add j) = some u := by
  rw [Addr.add_mid]
  have := box_new (w := w) (cs := ⟨l⟩) (t := t) (b := w.heap.size) rfl (0 + j)
  rw [this]
  simpa using h
set_option maxHeartbeats 8000000 in
theorem row_made (n : NodeD) (vi vw vb lv : Value) (m : Int × Int × Int) (a b : ViewD) (sa sb : Value) (vs : List ValD) (y : Int) (W : World) (h : MakeOk n vs a b m) (y0 : 0 <= y) (y1 : y < m.1) (hin : NodeIn W n vi vw vb) (na : IsNums .i8 W sa a.xs) (nb : IsNums .i8 W sb b.xs) :
    Calls Tryz.prog 59 #[.agg #[.int .i64 n.op, vi, .int .i64 n.k, .int .i64 n.stride, .int .i64 n.pad, .int .i64 n.out, .int .i64 n.mul, .int .i64 n.shift, .int .i64 n.zero, .int .i64 n.th, .int .i64 n.tw, .int .i64 n.tc, vw, vb, lv, .int .i64 m.1, .int .i64 m.2.1, .int .i64 m.2.2], .agg #[.int .i64 a.v.h, .int .i64 a.v.w, .int .i64 a.v.c, .int .i64 a.v.z, .int .i64 a.base, .int .i64 a.many, sa, .int .i64 b.v.h, .int .i64 b.v.w, .int .i64 b.v.c, .int .i64 b.v.z, .int .i64 b.base, .int .i64 b.many, sb], .int .i64 y] W fun e w' => ∃ v, e = .returned v /\ IsNums .i8 w' v (rowL n a b m y (m.2.1.toNat * m.2.2.toNat)) /\ Past W w' := by
  have MK := Lib.hid (fun w (g : Past W w) => maker_any (vi := vi) (vw := vw) (vb := vb) (lv := lv) (sa := sa) (sb := sb) h y0 y1 (hin.grow g) (na.grow g) (nb.grow g))
  have HW := Lib.hid (fun k => nums_i8 hin.2.1 k)
  have H := Lib.hid h
  obtain ⟨m1, m2, m3, m4, m5, m6⟩ := h.m16
  obtain ⟨X, hX⟩ : ∃ X : Nat, m.2.1 = X := ⟨m.2.1.toNat, by omega⟩
  obtain ⟨C, hC⟩ : ∃ C : Nat, m.2.2 = C := ⟨m.2.2.toNat, by omega⟩
  have hXn : m.2.1.toNat = X := by rw [hX]; rfl
  have hCn : m.2.2.toNat = C := by rw [hC]; rfl
  have X16 : X <= 16 := by omega
  have C8 : C <= 8 := by omega
  rw [hXn, hCn]
  have HX := Lib.hid hX
  have HC := Lib.hid hC
  have HCN := Lib.hid hCn
  obtain ⟨i0, hi0, hz0, hz1, hz2⟩ := info_parts infoI8
  have I1 := Lib.hid hi0
  have I2 := Lib.hid hz0
  have I3 := Lib.hid hz1
  have I4 := Lib.hid hz2
  clear hi0 hz0 hz1 hz2 h hin na nb hX hC hXn hCn m1 m2 m3 m4 m5 m6
  go_enter Tryz.func59, Tryz.ntmps59
  go_upto_region 1 with fail
  refine opq (fun w' => (Bx w' (W.heap.size) #[.int .i64 n.op, vi, .int .i64 n.k, .int .i64 n.stride, .int .i64 n.pad, .int .i64 n.out, .int .i64 n.mul, .int .i64 n.shift, .int .i64 n.zero, .int .i64 n.th, .int .i64 n.tw, .int .i64 n.tc, vw, vb, lv, .int .i64 m.1, .int .i64 m.2.1, .int .i64 m.2.2]) /\ (Bx w' (W.heap.size + 1) #[.int .i64 a.v.h, .int .i64 a.v.w, .int .i64 a.v.c, .int .i64 a.v.z, .int .i64 a.base, .int .i64 a.many, sa, .int .i64 b.v.h, .int .i64 b.v.w, .int .i64 b.v.c, .int .i64 b.v.z, .int .i64 b.base, .int .i64 b.many, sb]) /\ Past W w' /\ W.heap.size + 2 <= w'.heap.size) kKeep ?_
  rintro W1 ⟨bt, b4, p1, z1⟩
  go_wp2_with (refine wpList_load_box rfl 77 (.tmp 3) rfl W.heap.size #[.int .i64 n.op, vi, .int .i64 n.k, .int .i64 n.stride, .int .i64 n.pad, .int .i64 n.out, .int .i64 n.mul, .int .i64 n.shift, .int .i64 n.zero, .int .i64 n.th, .int .i64 n.tw, .int .i64 n.tc, vw, vb, lv, .int .i64 m.1, .int .i64 m.2.1, .int .i64 m.2.2] rfl bt Tryz.underlying77 rfl T18 ?_)
  refine (MK.out _ p1).mono ?_
  rintro e w2 ⟨v, rfl, hmk, g2⟩
  obtain ⟨fid, q0, q1, rfl, hE, hF⟩ := hmk
  have hE := fun xs w => hE xs w
  have HF := Lib.hid hF
  have bt2 := box_grown g2 bt (by omega)
  have z2 : W.heap.size + 2 <= w2.heap.size := by have := g2.2.2; omega
  have p2 := p1.trans (Grown.past g2)
  clear hF bt b4 p1 g2 MK
  go_wp2_with fail
  go_loopw [8, 20] (fun v i wr => ∃ k : Nat, k <= X /\ i = .int .i64 k /\ Hid (Own8 wr w2.heap.size v (rowL n a b m y (k * C))) /\ Past w2 wr /\ w2.heap.size <= wr.heap.size) (fun _ i _ => X - (intOf i).toNat)
  case atStart => exact ⟨0, by omega, rfl, Lib.hid (by rw [Nat.zero_mul]; exact Own8.nil _ _), Past.refl _, Nat.le_refl _⟩
  case round =>
    obtain ⟨x, hx, rfl, hown, pp, zz⟩ := hrel
    have btr := box_past pp bt2 (by omega)
    by_cases hlt : x < X
    . have d1 : decide ((x : Int) < m.2.1) = true := by have := HX.out; simp; omega
      go_wp2_with fail
      go_loopw [8, 26] (fun v i wr => ∃ k : Nat, k <= C /\ i = .int .i64 k /\ Hid (Own8 wr w2.heap.size v (rowL n a b m y (x * C + k))) /\ Past w2 wr /\ w2.heap.size <= wr.heap.size) (fun _ i _ => C - (intOf i).toNat)
      case atStart => exact ⟨0, by omega, rfl, hown, pp, zz⟩
      case round =>
        clear hown pp zz btr
        obtain ⟨c, hc, rfl, hown, pp, zz⟩ := hrel
        have btr := box_past pp bt2 (by omega)
        by_cases hlc : c < C
        . have d2 : decide ((c : Int) < m.2.2) = true := by have := HC.out; simp; omega
          obtain ⟨q, hq⟩ : ∃ q, numD n a b m y x c = q := ⟨_, rfl⟩
          have qb := numD_bd H.out HW.out y0 y1 (show (0 : Int) <= (x : Int) by omega) (by have := HX.out; omega) (c : Int)
          rw [hq] at qb
          have FC := Lib.hid (HF.out wr pp x c (by omega) (by have := HX.out; omega) (by omega) (by have := HC.out; omega))
          rw [hq] at FC
          have RS := Lib.hid (rowL_succ n a b m y (x * C + c))
          have RF := rowF_at n a b m y x c (by rw [HCN.out]; exact hlc)
          rw [HCN.out, hq] at RF
          have RF' := Lib.hid RF
          have e8 : IntKind.i8.wrap q = q := IntWalk.i8_in _ (by omega)
          have lb : x * C + c <= 200 := by
            have := Nat.mul_le_mul (show x <= 16 by omega) C8
            omega
          clear RF hq
          go_wp2_with fail
          refine FC.out.mono ?_
          rintro e w5 ⟨rfl, p5⟩
          have OW := Lib.hid (hown.out.past p5)
          have P5 := pp.trans p5
          have Z5 : w2.heap.size <= w5.heap.size := P5.2.2.1
          clear hown pp zz btr p5 FC
          go_wp2_with (at_builtin; refine wpList_append_own _ rfl (.tmp 29) (.tmp 36) 27 rfl w2.heap.size 35 i0 _ 1 1 Tryz.underlying27 I1.out I2.out I3.out I4.out rfl (by decide) _ _ _ rfl (World.ownsRow.alloc OW.out _) ⟨w5.heap.size, 0, none⟩ 1 1 [.int .i8 q] rfl rfl (fun j u hu => cells_new1 w5 _ 35 j u hu) (by intro u hu; simp at hu; subst hu; rfl) ?c4 ?c5 ?c6 ?_)
          case c4 => unfold maxLen; simp only [rowL, List.length_map, List.length_range]; omega
          case c5 => simp only [rowL, List.length_map, List.length_range]; omega
          case c6 => simp; omega
          intro v4 w4 hown4 hgrow _
          have ho4 := Lib.hid (own8_add hown4)
          have P4 := (P5.alloc (.cells #[.int .i8 q] 35)).grownBy hgrow (fun j hj => (OW.out.lt j hj).1)
          have Z4 : w2.heap.size <= w4.heap.size := P4.2.2.1
          clear hown4 hgrow OW P5 Z5
          go_wp2_with fail
          go_roundw
          case rel => exact ⟨c + 1, by omega, by go_num, Lib.hid (by rw [<- Nat.add_assoc, RS.out, RF'.out]; exact ho4.out), P4, Z4⟩
          case measure => simp [intOf]; omega
        . obtain rfl : c = C := by omega
          have d2 : decide ((c : Int) < m.2.2) = false := by have := HC.out; simp; omega
          go_wp2_with fail
          go_roundw
          case rel => exact ⟨x + 1, by omega, by go_num, Lib.hid (by rw [Nat.add_mul, Nat.one_mul]; exact hown.out), pp, zz⟩
          case measure => simp [intOf]; omega
    . obtain rfl : x = X := by omega
      have d1 : decide ((x : Int) < m.2.1) = false := by have := HX.out; simp; omega
      go_wp2_with fail
      go_ret
      refine ⟨_, rfl, hown.out.nums (fun u hu => ?_), p2.trans pp⟩
      simp only [rowL, List.mem_map, List.mem_range] at hu
      obtain ⟨i, hi, rfl⟩ := hu
      have c0 : 0 < C := by rcases Nat.eq_zero_or_pos C with e | e
                            . subst e; simp at hi
                            . exact e
      have hxi : i / C < x := Nat.div_lt_of_lt_mul (by rw [Nat.mul_comm]; exact hi)
      unfold rowF
      rw [HCN.out]
      obtain ⟨j, hj⟩ : ∃ j, i / C = j := ⟨_, rfl⟩
      rw [hj] at hxi ⊢
      exact numD_bd H.out HW.out y0 y1 (by omega) (by have := HX.out; omega) _
end Go.Proofs.YtliijchcpooplaaGreat
namespace Go.Proofs.YtliijchcpooplaaGreat
open Go.ChangeShapes Go.WideShapes Go.ChangeAt Go.RowKit
set_option maxRecDepth 20000
set_option linter.unusedVariables false
theorem place_in {kn i j : Nat} (hi : i < kn) (hj : j < kn) : i * kn + j < kn * kn := by
  have := Nat.mul_le_mul_right kn (show i + 1 <= kn by omega)
  rw [Nat.add_mul, Nat.one_mul] at this
  omega
theorem under_bd {n : NodeD} {u : ViewD} (ok : ViewOk u) (y x c : Int) (p : Nat) : -128 <= underN n u y x c p /\ underN n u y x c p <= 127 := atD_bd ok _ _ _
theorem under_ij {n : NodeD} {u : ViewD} {kn i j : Nat} (hk : n.k.toNat = kn) (y x c : Int) (hj : j < kn) : underN n u y x c (i * kn + j) = atD u (y * n.stride - n.pad + i) (x * n.stride - n.pad + j) c := by
  unfold underN; rw [hk, look_ij _ hj, side_ij _ hj]
theorem sum_bd9 {f : Nat -> Int} (h : ∀ p, -128 <= f p /\ f p <= 127) {k : Nat} (hk : k <= 9) : -1152 <= sumN f k /\ sumN f k <= 1152 := by
  have := sumN_bd (f := f) (B := 128) (k := k) (fun i _ => ⟨(h i).1, by have := (h i).2; omega⟩)
  omega
set_option maxHeartbeats 4000000 in
theorem rpool_any (n : NodeD) (vi vw vb : Value) (u : ViewD) (s : Value) (y x c q : Int) (W : World) (hs : IsNums .i8 W s u.xs) (F : FullV u) (ok : WinOk n y x) (hp : n.pad = 0) (t : Bool) (ht : (n.op == 4) = t)
    (hq : Hid (q = if t = true then mostN (underN n u y x c) (n.k.toNat * n.k.toNat) else fx.rd (sumN (underN n u y x c) (n.k.toNat * n.k.toNat)) (n.k * n.k))) :
    Calls Tryz.prog 65 #[.agg (nC n vi vw vb), .agg #[.int .i64 u.v.h, .int .i64 u.v.w, .int .i64 u.v.c, .int .i64 u.v.z], .agg #[.int .i64 0, .int .i64 u.v.h, s], .int .i64 y, .int .i64 x, .int .i64 c] W fun e w' => e = .returned (.int .i64 q) /\ Grown W w' := by
  obtain ⟨⟨k1, k3⟩, ⟨t1, t2⟩, _, ⟨y0, y1⟩, ⟨x0, x1⟩⟩ := ok
  obtain ⟨kn, hk⟩ : ∃ kn : Nat, n.k = kn := ⟨n.k.toNat, by omega⟩
  have hkt : n.k.toNat = kn := by rw [hk]; rfl
  rw [hkt] at hq
  have HK := Lib.hid hk
  have kn1 : 1 <= kn := by omega
  have kn3 : kn <= 3 := by omega
  have kk9 : kn * kn <= 9 := Nat.mul_le_mul kn3 kn3
  have FE := Lib.hid (fun (i j : Nat) (hj : j < kn) => under_ij (n := n) (u := u) (i := i) hkt y x c hj)
  have FB := Lib.hid (under_bd (n := n) F.ok y x c)
  have HF := Lib.hid F
  have NA := Lib.hid hs
  obtain ⟨f, hf⟩ : ∃ f, underN n u y x c = f := ⟨_, rfl⟩
  rw [hf] at FE FB hq
  obtain ⟨ys, hys⟩ : ∃ ys, y * n.stride = ys := ⟨_, rfl⟩
  obtain ⟨xs, hxs⟩ : ∃ xs, x * n.stride = xs := ⟨_, rfl⟩
  have by1 : 0 <= ys /\ ys <= 32 := by
    rw [<- hys]; exact ⟨Int.mul_nonneg y0 (by omega), Int.le_trans (Int.mul_le_mul y1 t2 (by omega) (by omega)) (by omega)⟩
  have bx1 : 0 <= xs /\ xs <= 32 := by
    rw [<- hxs]; exact ⟨Int.mul_nonneg x0 (by omega), Int.le_trans (Int.mul_le_mul x1 t2 (by omega) (by omega)) (by omega)⟩
  have ey : IntKind.i64.wrap (y * n.stride) = ys := by rw [hys]; exact IntWalk.i64_in _ (by omega)
  have ex : IntKind.i64.wrap (x * n.stride) = xs := by rw [hxs]; exact IntWalk.i64_in _ (by omega)
  rw [hys, hxs, hp] at FE
  simp only [Int.sub_zero] at FE
  obtain ⟨M0, hM0⟩ : ∃ M, mostN f = M := ⟨_, rfl⟩
  obtain ⟨S0, hS0⟩ : ∃ S, sumN f = S := ⟨_, rfl⟩
  have MS := Lib.hid (fun (p : Nat) => show M0 (p + 1) = max (M0 p) (f p) by rw [<- hM0]; rfl)
  have SS := Lib.hid (fun (p : Nat) => show S0 (p + 1) = S0 p + f p by rw [<- hS0]; rfl)
  have SB := Lib.hid (fun (p : Nat) (hp : p <= 9) => show -1152 <= S0 p /\ S0 p <= 1152 by rw [<- hS0]; exact sum_bd9 FB.out hp)
  have M00 : M0 0 = -128 := by rw [<- hM0]; rfl
  have S00 : S0 0 = 0 := by rw [<- hS0]; rfl
  rw [hM0, hS0] at hq
  clear hs hk hkt hf hys hxs hM0 hS0 F hp
  go_enter Tryz.func65, Tryz.ntmps65
  go_upto_region 1 with fail
  refine opq (fun w' => (Bx w' (W.heap.size) (nC n vi vw vb)) /\ (Bx w' (W.heap.size + 1) #[.int .i64 u.v.h, .int .i64 u.v.w, .int .i64 u.v.c, .int .i64 u.v.z]) /\ (Bx w' (W.heap.size + 2) #[.int .i64 0, .int .i64 u.v.h, s]) /\ Grown W w' /\ W.heap.size + 3 <= w'.heap.size) kLaid ?_
  rintro W1 ⟨bn, bv, bw, g1, z1⟩
  go_wp2_with fail
  go_loopw [13, 14, 15] (fun mv av iv wr => ∃ i : Nat, i <= kn /\ iv = .int .i64 i /\ mv = .int .i64 (M0 (i * kn)) /\ av = .int .i64 (S0 (i * kn)) /\ ((Bx wr (W.heap.size) (nC n vi vw vb)) /\ (Bx wr (W.heap.size + 1) #[.int .i64 u.v.h, .int .i64 u.v.w, .int .i64 u.v.c, .int .i64 u.v.z]) /\ (Bx wr (W.heap.size + 2) #[.int .i64 0, .int .i64 u.v.h, s]) /\ Grown W wr /\ W.heap.size + 3 <= wr.heap.size)) (fun _ _ iv _ => kn - (intOf iv).toNat)
  case atStart => exact ⟨0, by omega, rfl, by rw [Nat.zero_mul, M00], by rw [Nat.zero_mul, S00], bn, bv, bw, g1, z1⟩
  case round =>
    obtain ⟨i, hi, rfl, rfl, rfl, rn, rv, rw_, rg, rz⟩ := hrel
    clear bn bv bw g1 z1 M00 S00
    by_cases h : i < kn
    . have d1 : decide ((i : Int) < n.k) = true := decide_eq_true (by have := HK.out; omega)
      obtain ⟨w8, hw8⟩ : ∃ w8, w8 = wr := ⟨_, rfl⟩
      subst hw8
      go_wp2_with fail
      go_loopw [13, 14, 16] (fun mv av jv wr => ∃ j : Nat, j <= kn /\ jv = .int .i64 j /\ mv = .int .i64 (M0 (i * kn + j)) /\ av = .int .i64 (S0 (i * kn + j)) /\ ((Bx wr (W.heap.size) (nC n vi vw vb)) /\ (Bx wr (W.heap.size + 1) #[.int .i64 u.v.h, .int .i64 u.v.w, .int .i64 u.v.c, .int .i64 u.v.z]) /\ (Bx wr (W.heap.size + 2) #[.int .i64 0, .int .i64 u.v.h, s]) /\ Grown W wr /\ W.heap.size + 3 <= wr.heap.size)) (fun _ _ jv _ => kn - (intOf jv).toNat)
      case atStart => exact ⟨0, by omega, rfl, rfl, rfl, rn, rv, rw_, rg, rz⟩
      case round =>
        obtain ⟨j, hj, rfl, rfl, rfl, sn, sv, sw, sg, sz⟩ := hrel
        clear rn rv rw_ rg rz
        by_cases h2 : j < kn
        . have d2 : decide ((j : Int) < n.k) = true := decide_eq_true (by have := HK.out; omega)
          have pl := place_in h h2
          obtain ⟨p, hpp⟩ : ∃ p, i * kn + j = p := ⟨_, rfl⟩
          have fe := FE.out i j h2
          have ms := MS.out p
          have ss := SS.out p
          have sb := SB.out p (by omega)
          have sb1 := SB.out (p + 1) (by omega)
          have fb := FB.out p
          rw [hpp] at fe pl
          rw [hpp]
          obtain ⟨v, hv⟩ : ∃ v, f p = v := ⟨_, rfl⟩
          rw [hv] at fe ms ss fb
          have RN := Lib.hid (rnum_any u s (ys + i) (xs + j) c v wr (NA.out.grow (Grown.past sg)) HF.out (Lib.hid fe))
          clear fe
          go_wp2_with fail
          refine RN.out.mono ?_
          rintro e w1 ⟨rfl, g2⟩
          obtain ⟨tn, tv, tw, tg, tz⟩ : (Bx w1 (W.heap.size) (nC n vi vw vb)) /\ (Bx w1 (W.heap.size + 1) #[.int .i64 u.v.h, .int .i64 u.v.w, .int .i64 u.v.c, .int .i64 u.v.z]) /\ (Bx w1 (W.heap.size + 2) #[.int .i64 0, .int .i64 u.v.h, s]) /\ Grown W w1 /\ W.heap.size + 3 <= w1.heap.size := by (exact kKeep)
          clear sn sv sw sg sz g2 RN
          go_wp2_with fail
          all_goals
            go_roundw
            case rel => exact ⟨j + 1, by omega, by go_num, by rw [<- Nat.add_assoc, hpp, ms]; congr 1; omega, by rw [<- Nat.add_assoc, hpp, ss], tn, tv, tw, tg, tz⟩
            case measure => simp [intOf]; omega
        . obtain rfl : j = kn := by omega
          have d2 : decide ((j : Int) < n.k) = false := decide_eq_false (by have := HK.out; omega)
          go_wp2_with fail
          go_roundw
          case rel => exact ⟨i + 1, by omega, by go_num, by rw [Nat.add_mul, Nat.one_mul], by rw [Nat.add_mul, Nat.one_mul], sn, sv, sw, sg, sz⟩
          case measure => simp [intOf]; omega
    . obtain rfl : i = kn := by omega
      have d1 : decide ((i : Int) < n.k) = false := decide_eq_false (by have := HK.out; omega)
      have sb := SB.out (i * i) kk9
      have e2 : n.k * n.k = ((i * i : Nat) : Int) := by rw [HK.out]; simp
      have q1 : 1 <= i * i := Nat.mul_le_mul kn1 kn1
      have e3 : IntKind.i64.wrap (n.k * n.k) = ((i * i : Nat) : Int) := by rw [e2]; exact IntWalk.i64_in _ (by omega)
      cases t with
      | true =>
        obtain rfl : q = M0 (i * i) := hq.out
        clear hq
        go_wp2_with fail
        go_ret
        exact ⟨rfl, rg⟩
      | false =>
        have Q : Hid (q = fx.rd (S0 (i * i)) ((i * i : Nat) : Int)) := Lib.hid (by rw [<- e2]; exact hq.out)
        clear hq e2
        go_wp2_with fail
        refine (qdiv_any (S0 (i * i)) ((i * i : Nat) : Int) q _ Q (by omega) (by omega) (by omega) (by omega)).mono ?_
        rintro e w1 ⟨rfl, g2⟩
        go_wp2_with fail
        go_ret
        exact ⟨rfl, grown_trans rg g2⟩
end Go.Proofs.YtliijchcpooplaaGreat
