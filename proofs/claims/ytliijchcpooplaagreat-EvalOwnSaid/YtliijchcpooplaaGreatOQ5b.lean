/- The reference's number of a node, op by op. -/
import Derived.Test.YtliijchcpooplaaGreatOMKOA
import Derived.Test.YtliijchcpooplaaGreatOMG6C
import Derived.Test.YtliijchcpooplaaGreatOMKS1
namespace Go.Proofs.YtliijchcpooplaaGreat
open Go.ChangeShapes Go.WideShapes Go.ChangeAt Go.RowKit
set_option maxRecDepth 20000
set_option linter.unusedVariables false
theorem resh_len {n : NodeD} {vs : List ValD} {a b : ViewD} {m : Int × Int × Int} (h : MakeOk n vs a b m) (ho : n.op = 11) : (a.xs.length : Int) = sizeI m.1 m.2.1 m.2.2 := by
  have hm := h.2.1
  have m16 := h.m16
  have e : madeS n vs = if sizeI n.th n.tw n.tc = sizeI (vs.getD 0 default).h (vs.getD 0 default).w (vs.getD 0 default).c then (n.th, n.tw, n.tc) else (0, 0, 0) := by unfold madeS; simp [ho]
  rw [h.2.2.1.2.2.2.2.1, h.2.2.2.1]
  rw [e] at hm
  by_cases c : sizeI n.th n.tw n.tc = sizeI (vs.getD 0 default).h (vs.getD 0 default).w (vs.getD 0 default).c
  . rw [if_pos c] at hm
    rw [hm]
    exact c.symm
  . rw [if_neg c] at hm
    rw [hm] at m16
    obtain ⟨m1, _⟩ := m16
    exact absurd m1 (by decide)
set_option maxHeartbeats 8000000 in
theorem rone_6 (n : NodeD) (vi vw vb : Value) (lb lo lc : Nat) (vs : List ValD) (a b : ViewD) (sa sb : Value) (m : Int × Int × Int) (y x q : Int) (c : Nat) (W : World) (h : MakeOk n vs a b m) (hin : NodeIn W n vi vw vb) (hlb : lb < W.heap.size) (hlen : 0 < vs.length) (V0 : ValAt W lb lo a.v) (na : IsNums .i8 W sa a.xs) (y0 : 0 <= y) (y1 : y < m.1) (x0 : 0 <= x) (x1 : x < m.2.1) (c1 : (c : Int) < m.2.2) (hq : Hid (q = numD n a b m y x c)) (hl2 : vs.length = 2) (V1 : ValAt W lb (lo + 4) b.v) (nb : IsNums .i8 W sb b.xs) (ho : n.op = 6) : Calls Tryz.prog 43 #[.agg #[.int .i64 n.op, vi, .int .i64 n.k, .int .i64 n.stride, .int .i64 n.pad, .int .i64 n.out, .int .i64 n.mul, .int .i64 n.shift, .int .i64 n.zero, .int .i64 n.th, .int .i64 n.tw, .int .i64 n.tc, vw, vb], .slice (some ⟨lb, lo, none⟩) vs.length lc, .agg #[.int .i64 0, .int .i64 a.v.h, sa, .int .i64 0, .int .i64 b.v.h, sb], .agg #[.int .i64 m.1, .int .i64 m.2.1, .int .i64 m.2.2], .int .i64 y, .int .i64 x, .int .i64 c] W fun e w' => e = .returned (.int .i64 q) /\ Grown W w' := by
  obtain ⟨r1, r2, r3, r4, r5, r6⟩ := h.m16
  have FA := Lib.hid h.2.2.1
  have NA := Lib.hid na
  have SC := h.scaled
  obtain ⟨v, hv⟩ : ∃ v, v = atD a y x c := ⟨_, rfl⟩
  have vB : -128 <= v /\ v <= 127 := by rw [hv]; exact atD_bd h.2.2.1.ok _ _ _
  have RN := Lib.hid (fun w (g : Grown W w) => rnum_any a sa y x (c : Int) v w (NA.out.grow (Grown.past g)) FA.out (Lib.hid hv))
  obtain ⟨FB', hbv⟩ := h.2.2.2.2 (Or.inl ho)
  have FB := Lib.hid FB'
  have NBB := Lib.hid nb
  have za := h.2.2.1.2.2.2.1
  have zb := FB'.2.2.2.1
  obtain ⟨za1, za2⟩ := za
  obtain ⟨zb1, zb2⟩ := zb
  obtain ⟨u, hu⟩ : ∃ u, u = atD b y x c := ⟨_, rfl⟩
  have uB : -128 <= u /\ u <= 127 := by rw [hu]; exact atD_bd FB'.ok _ _ _
  have RM := Lib.hid (fun w (g : Grown W w) => rnum_any b sb y x (c : Int) u w (NBB.out.grow (Grown.past g)) FB.out (Lib.hid hu))
  have QS : Hid (q = scaleQ (v - a.v.z + u - b.v.z) n.mul n.shift n.zero) := Lib.hid (by rw [hq.out, num6 ho, hv, hu]; unfold overD; congr 1; omega)
  obtain ⟨vB1, vB2⟩ := vB
  obtain ⟨uB1, uB2⟩ := uB
  have pb := prod_bd (a := v - a.v.z) (b := u - b.v.z) (A := 255) (B := 255) (by omega) (by omega) (by omega) (by omega)
  have l1 : (1 : Int) < (vs.length : Int) := by omega
  have v0 : IntKind.i64.wrap (v - a.v.z) = v - a.v.z := IntWalk.i64_in _ (by omega)
  have v1 : IntKind.i64.wrap (v - a.v.z + u) = v - a.v.z + u := IntWalk.i64_in _ (by omega)
  have v2 : IntKind.i64.wrap (v - a.v.z + u - b.v.z) = v - a.v.z + u - b.v.z := IntWalk.i64_in _ (by omega)
  have SQ := Lib.hid (fun w => qscale_any (v - a.v.z + u - b.v.z) n.mul n.shift n.zero q w QS)
  have k1 : (n.op == 1) = false := by rw [ho]; decide
  have k2 : (n.op == 2) = false := by rw [ho]; decide
  have k3 : (n.op == 3) = false := by rw [ho]; decide
  have k4 : (n.op == 4) = false := by rw [ho]; decide
  have k5 : (n.op == 5) = false := by rw [ho]; decide
  have k6 : (n.op == 6) = true := by rw [ho]; decide
  have j1 : decide ((6 : Int) <= n.op) = true := by rw [ho]; decide
  have j4 : decide (n.op <= 8) = true := by rw [ho]; decide
  clear hq hv hu SC na nb hin FB' hbv pb
  go_enter Tryz.func43, Tryz.ntmps43
  go_upto_region 1 with fail
  refine opq (fun w' => (∀ o : Nat, w'.cell? ⟨W.heap.size, o, none⟩ = (#[.int .i64 n.op, vi, .int .i64 n.k, .int .i64 n.stride, .int .i64 n.pad, .int .i64 n.out, .int .i64 n.mul, .int .i64 n.shift, .int .i64 n.zero, .int .i64 n.th, .int .i64 n.tw, .int .i64 n.tc, vw, vb] : Array Value)[o]?) /\ (∀ o : Nat, w'.cell? ⟨W.heap.size + 1, o, none⟩ = (#[.int .i64 0, .int .i64 a.v.h, sa, .int .i64 0, .int .i64 b.v.h, sb] : Array Value)[o]?) /\ (∀ o : Nat, w'.cell? ⟨W.heap.size + 2, o, none⟩ = (#[.int .i64 m.1, .int .i64 m.2.1, .int .i64 m.2.2] : Array Value)[o]?) /\ Grown W w' /\ W.heap.size + 3 <= w'.heap.size) kLaid ?_
  rintro W1 ⟨a1, a2, a3, g1, z1'⟩
  have e0 := cell_past (Grown.past g1) V0.1 hlb
  have e1 := cell_past (Grown.past g1) V0.2.1 hlb
  have e2 := cell_past (Grown.past g1) V0.2.2.1 hlb
  have e3 := cell_past (Grown.past g1) V0.2.2.2 hlb
  have l0 : (0 : Int) < (vs.length : Int) := by omega
  go_upto_region 2 with fail
  refine opq (fun w' => (∀ o : Nat, w'.cell? ⟨W.heap.size, o, none⟩ = (#[.int .i64 n.op, vi, .int .i64 n.k, .int .i64 n.stride, .int .i64 n.pad, .int .i64 n.out, .int .i64 n.mul, .int .i64 n.shift, .int .i64 n.zero, .int .i64 n.th, .int .i64 n.tw, .int .i64 n.tc, vw, vb] : Array Value)[o]?) /\ (∀ o : Nat, w'.cell? ⟨W.heap.size + 1, o, none⟩ = (#[.int .i64 0, .int .i64 a.v.h, sa, .int .i64 0, .int .i64 b.v.h, sb] : Array Value)[o]?) /\ (∀ o : Nat, w'.cell? ⟨W.heap.size + 2, o, none⟩ = (#[.int .i64 m.1, .int .i64 m.2.1, .int .i64 m.2.2] : Array Value)[o]?) /\ (∀ o : Nat, w'.cell? ⟨W1.heap.size, o, none⟩ = (#[.int .i64 a.v.h, .int .i64 a.v.w, .int .i64 a.v.c, .int .i64 a.v.z] : Array Value)[o]?) /\ Grown W w' /\ W1.heap.size + 1 <= w'.heap.size) kKeep ?_
  rintro W2 ⟨b1, b2, b3, b4, g2, z2⟩
  obtain ⟨P, hP⟩ : ∃ P, W1.heap.size = P := ⟨_, rfl⟩
  rw [hP] at b4 z2 z1'
  rw [hP]
  clear a1 a2 a3 g1 e0 e1 e2 e3 hP
  go_wp2_with fail
  refine (RN.out _ g2).mono ?_
  rintro e w3 ⟨rfl, g3⟩
  obtain ⟨t1, t2, t3, t4, tg, tz⟩ : (∀ o : Nat, w3.cell? ⟨W.heap.size, o, none⟩ = (#[.int .i64 n.op, vi, .int .i64 n.k, .int .i64 n.stride, .int .i64 n.pad, .int .i64 n.out, .int .i64 n.mul, .int .i64 n.shift, .int .i64 n.zero, .int .i64 n.th, .int .i64 n.tw, .int .i64 n.tc, vw, vb] : Array Value)[o]?) /\ (∀ o : Nat, w3.cell? ⟨W.heap.size + 1, o, none⟩ = (#[.int .i64 0, .int .i64 a.v.h, sa, .int .i64 0, .int .i64 b.v.h, sb] : Array Value)[o]?) /\ (∀ o : Nat, w3.cell? ⟨W.heap.size + 2, o, none⟩ = (#[.int .i64 m.1, .int .i64 m.2.1, .int .i64 m.2.2] : Array Value)[o]?) /\ (∀ o : Nat, w3.cell? ⟨P, o, none⟩ = (#[.int .i64 a.v.h, .int .i64 a.v.w, .int .i64 a.v.c, .int .i64 a.v.z] : Array Value)[o]?) /\ Grown W w3 /\ P + 1 <= w3.heap.size := by (exact kKeep)
  clear b1 b2 b3 b4 g2 z2 g3
  have f0 := cell_past (Grown.past tg) V1.1 hlb
  have f1 := cell_past (Grown.past tg) V1.2.1 hlb
  have f2 := cell_past (Grown.past tg) V1.2.2.1 hlb
  have f3 := cell_past (Grown.past tg) V1.2.2.2 hlb
  have hlb3 : lb + 1 <= w3.heap.size := by have := tg.2.2; omega
  go_upto_region 14 with fail
  refine wp_region_fill (fun w' => (∀ o : Nat, w'.cell? ⟨W.heap.size, o, none⟩ = (#[.int .i64 n.op, vi, .int .i64 n.k, .int .i64 n.stride, .int .i64 n.pad, .int .i64 n.out, .int .i64 n.mul, .int .i64 n.shift, .int .i64 n.zero, .int .i64 n.th, .int .i64 n.tw, .int .i64 n.tc, vw, vb] : Array Value)[o]?) /\ (∀ o : Nat, w'.cell? ⟨W.heap.size + 1, o, none⟩ = (#[.int .i64 0, .int .i64 a.v.h, sa, .int .i64 0, .int .i64 b.v.h, sb] : Array Value)[o]?) /\ (∀ o : Nat, w'.cell? ⟨W.heap.size + 2, o, none⟩ = (#[.int .i64 m.1, .int .i64 m.2.1, .int .i64 m.2.2] : Array Value)[o]?) /\ (∀ o : Nat, w'.cell? ⟨P, o, none⟩ = (#[.int .i64 a.v.h, .int .i64 a.v.w, .int .i64 a.v.c, .int .i64 a.v.z] : Array Value)[o]?) /\ Grown W w' /\ P + 1 <= w'.heap.size /\ w'.cell? ⟨lb, lo + 4, none⟩ = some (.int .i64 b.v.h) /\ w'.cell? ⟨lb, lo + 4 + 1, none⟩ = some (.int .i64 b.v.w) /\ w'.cell? ⟨lb, lo + 4 + 2, none⟩ = some (.int .i64 b.v.c) /\ w'.cell? ⟨lb, lo + 4 + 3, none⟩ = some (.int .i64 b.v.z) /\ lb + 1 <= w'.heap.size) [(79, ?va79), (80, ?va80), (81, ?va81), (82, ?va82), (83, ?va83), (84, ?va84), (85, ?va85), (86, ?va86), (87, ?va87), (88, ?va88), (89, ?va89), (90, ?va90), (91, ?va91), (92, ?va92), (93, ?va93), (94, ?va94), (95, ?va95), (96, ?va96), (97, ?va97), (98, ?va98), (99, ?va99), (100, ?va100), (101, ?va101), (102, ?va102), (103, ?va103), (104, ?va104), (14, ?va14)] [79, 80, 81, 82, 83, 84, 85, 86, 87, 88, 89, 90, 91, 92, 93, 94, 95, 96, 97, 98, 99, 100, 101, 102, 103, 104, 14] (by kernel_rfl) (by kernel_rfl) rfl (by kernel_rfl) ⟨t1, t2, t3, t4, tg, tz, f0, f1, f2, f3, hlb3⟩ (fun w h => h) ?alla ?fina
  case alla =>
    simp only [fillA, Act.put, fU1, fU2, fU3]
    iterate 27 (refine owes_cons (fun w hw K hK => ?_) ?_; focus ((have hS := Lib.hid hw); go_split_ands; go_simp; (try simp only [Act.put, List.setIfInBounds_toArray, List.set_cons_zero, List.set_cons_succ]); first | exact hK _ hS.out | ((first | (go_at_call 62; with_reducible refine (RM.out _ (by with_reducible assumption)).mono ?_; rintro e w1 ⟨rfl, g1⟩) | (go_at_call 63; with_reducible refine (SQ.out _).mono ?_; rintro e w1 ⟨rfl, g1⟩)); refine hK _ ?_; (exact kKeep))))
    exact True.intro
  case fina =>
    rintro w9 ⟨_, _, _, _, qg, _⟩
    simp only [fillA, Act.put, fU1, fU2, fU3]
    clear t1 t2 t3 t4 tg f0 f1 f2 f3
    go_wp2_with fail
    go_ret
    exact ⟨rfl, qg⟩
set_option maxHeartbeats 8000000 in
theorem rone_7 (n : NodeD) (vi vw vb : Value) (lb lo lc : Nat) (vs : List ValD) (a b : ViewD) (sa sb : Value) (m : Int × Int × Int) (y x q : Int) (c : Nat) (W : World) (h : MakeOk n vs a b m) (hin : NodeIn W n vi vw vb) (hlb : lb < W.heap.size) (hlen : 0 < vs.length) (V0 : ValAt W lb lo a.v) (na : IsNums .i8 W sa a.xs) (y0 : 0 <= y) (y1 : y < m.1) (x0 : 0 <= x) (x1 : x < m.2.1) (c1 : (c : Int) < m.2.2) (hq : Hid (q = numD n a b m y x c)) (hl2 : vs.length = 2) (V1 : ValAt W lb (lo + 4) b.v) (nb : IsNums .i8 W sb b.xs) (ho : n.op = 7) : Calls Tryz.prog 43 #[.agg #[.int .i64 n.op, vi, .int .i64 n.k, .int .i64 n.stride, .int .i64 n.pad, .int .i64 n.out, .int .i64 n.mul, .int .i64 n.shift, .int .i64 n.zero, .int .i64 n.th, .int .i64 n.tw, .int .i64 n.tc, vw, vb], .slice (some ⟨lb, lo, none⟩) vs.length lc, .agg #[.int .i64 0, .int .i64 a.v.h, sa, .int .i64 0, .int .i64 b.v.h, sb], .agg #[.int .i64 m.1, .int .i64 m.2.1, .int .i64 m.2.2], .int .i64 y, .int .i64 x, .int .i64 c] W fun e w' => e = .returned (.int .i64 q) /\ Grown W w' := by
  obtain ⟨r1, r2, r3, r4, r5, r6⟩ := h.m16
  have FA := Lib.hid h.2.2.1
  have NA := Lib.hid na
  have SC := h.scaled
  obtain ⟨v, hv⟩ : ∃ v, v = atD a y x c := ⟨_, rfl⟩
  have vB : -128 <= v /\ v <= 127 := by rw [hv]; exact atD_bd h.2.2.1.ok _ _ _
  have RN := Lib.hid (fun w (g : Grown W w) => rnum_any a sa y x (c : Int) v w (NA.out.grow (Grown.past g)) FA.out (Lib.hid hv))
  obtain ⟨FB', hbv⟩ := h.2.2.2.2 (Or.inr (Or.inl ho))
  have FB := Lib.hid FB'
  have NBB := Lib.hid nb
  have za := h.2.2.1.2.2.2.1
  have zb := FB'.2.2.2.1
  obtain ⟨za1, za2⟩ := za
  obtain ⟨zb1, zb2⟩ := zb
  obtain ⟨u, hu⟩ : ∃ u, u = atD b y x c := ⟨_, rfl⟩
  have uB : -128 <= u /\ u <= 127 := by rw [hu]; exact atD_bd FB'.ok _ _ _
  have RM := Lib.hid (fun w (g : Grown W w) => rnum_any b sb y x (c : Int) u w (NBB.out.grow (Grown.past g)) FB.out (Lib.hid hu))
  have QS : Hid (q = scaleQ ((v - a.v.z) * (u - b.v.z)) n.mul n.shift n.zero) := Lib.hid (by rw [hq.out, num7 ho, hv, hu]; rfl)
  obtain ⟨vB1, vB2⟩ := vB
  obtain ⟨uB1, uB2⟩ := uB
  have pb := prod_bd (a := v - a.v.z) (b := u - b.v.z) (A := 255) (B := 255) (by omega) (by omega) (by omega) (by omega)
  have l1 : (1 : Int) < (vs.length : Int) := by omega
  have v0 : IntKind.i64.wrap (v - a.v.z) = v - a.v.z := IntWalk.i64_in _ (by omega)
  have v1 : IntKind.i64.wrap (u - b.v.z) = u - b.v.z := IntWalk.i64_in _ (by omega)
  have v2 : IntKind.i64.wrap ((v - a.v.z) * (u - b.v.z)) = (v - a.v.z) * (u - b.v.z) := IntWalk.i64_in _ (by omega)
  have SQ := Lib.hid (fun w => qscale_any ((v - a.v.z) * (u - b.v.z)) n.mul n.shift n.zero q w QS)
  have k1 : (n.op == 1) = false := by rw [ho]; decide
  have k2 : (n.op == 2) = false := by rw [ho]; decide
  have k3 : (n.op == 3) = false := by rw [ho]; decide
  have k4 : (n.op == 4) = false := by rw [ho]; decide
  have k5 : (n.op == 5) = false := by rw [ho]; decide
  have k6 : (n.op == 6) = false := by rw [ho]; decide
  have k7 : (n.op == 7) = true := by rw [ho]; decide
  have j1 : decide ((6 : Int) <= n.op) = true := by rw [ho]; decide
  have j4 : decide (n.op <= 8) = true := by rw [ho]; decide
  clear hq hv hu SC na nb hin FB' hbv pb
  go_enter Tryz.func43, Tryz.ntmps43
  go_upto_region 1 with fail
  refine opq (fun w' => (∀ o : Nat, w'.cell? ⟨W.heap.size, o, none⟩ = (#[.int .i64 n.op, vi, .int .i64 n.k, .int .i64 n.stride, .int .i64 n.pad, .int .i64 n.out, .int .i64 n.mul, .int .i64 n.shift, .int .i64 n.zero, .int .i64 n.th, .int .i64 n.tw, .int .i64 n.tc, vw, vb] : Array Value)[o]?) /\ (∀ o : Nat, w'.cell? ⟨W.heap.size + 1, o, none⟩ = (#[.int .i64 0, .int .i64 a.v.h, sa, .int .i64 0, .int .i64 b.v.h, sb] : Array Value)[o]?) /\ (∀ o : Nat, w'.cell? ⟨W.heap.size + 2, o, none⟩ = (#[.int .i64 m.1, .int .i64 m.2.1, .int .i64 m.2.2] : Array Value)[o]?) /\ Grown W w' /\ W.heap.size + 3 <= w'.heap.size) kLaid ?_
  rintro W1 ⟨a1, a2, a3, g1, z1'⟩
  have e0 := cell_past (Grown.past g1) V0.1 hlb
  have e1 := cell_past (Grown.past g1) V0.2.1 hlb
  have e2 := cell_past (Grown.past g1) V0.2.2.1 hlb
  have e3 := cell_past (Grown.past g1) V0.2.2.2 hlb
  have l0 : (0 : Int) < (vs.length : Int) := by omega
  go_upto_region 2 with fail
  refine opq (fun w' => (∀ o : Nat, w'.cell? ⟨W.heap.size, o, none⟩ = (#[.int .i64 n.op, vi, .int .i64 n.k, .int .i64 n.stride, .int .i64 n.pad, .int .i64 n.out, .int .i64 n.mul, .int .i64 n.shift, .int .i64 n.zero, .int .i64 n.th, .int .i64 n.tw, .int .i64 n.tc, vw, vb] : Array Value)[o]?) /\ (∀ o : Nat, w'.cell? ⟨W.heap.size + 1, o, none⟩ = (#[.int .i64 0, .int .i64 a.v.h, sa, .int .i64 0, .int .i64 b.v.h, sb] : Array Value)[o]?) /\ (∀ o : Nat, w'.cell? ⟨W.heap.size + 2, o, none⟩ = (#[.int .i64 m.1, .int .i64 m.2.1, .int .i64 m.2.2] : Array Value)[o]?) /\ (∀ o : Nat, w'.cell? ⟨W1.heap.size, o, none⟩ = (#[.int .i64 a.v.h, .int .i64 a.v.w, .int .i64 a.v.c, .int .i64 a.v.z] : Array Value)[o]?) /\ Grown W w' /\ W1.heap.size + 1 <= w'.heap.size) kKeep ?_
  rintro W2 ⟨b1, b2, b3, b4, g2, z2⟩
  obtain ⟨P, hP⟩ : ∃ P, W1.heap.size = P := ⟨_, rfl⟩
  rw [hP] at b4 z2 z1'
  rw [hP]
  clear a1 a2 a3 g1 e0 e1 e2 e3 hP
  go_wp2_with fail
  refine (RN.out _ g2).mono ?_
  rintro e w3 ⟨rfl, g3⟩
  obtain ⟨t1, t2, t3, t4, tg, tz⟩ : (∀ o : Nat, w3.cell? ⟨W.heap.size, o, none⟩ = (#[.int .i64 n.op, vi, .int .i64 n.k, .int .i64 n.stride, .int .i64 n.pad, .int .i64 n.out, .int .i64 n.mul, .int .i64 n.shift, .int .i64 n.zero, .int .i64 n.th, .int .i64 n.tw, .int .i64 n.tc, vw, vb] : Array Value)[o]?) /\ (∀ o : Nat, w3.cell? ⟨W.heap.size + 1, o, none⟩ = (#[.int .i64 0, .int .i64 a.v.h, sa, .int .i64 0, .int .i64 b.v.h, sb] : Array Value)[o]?) /\ (∀ o : Nat, w3.cell? ⟨W.heap.size + 2, o, none⟩ = (#[.int .i64 m.1, .int .i64 m.2.1, .int .i64 m.2.2] : Array Value)[o]?) /\ (∀ o : Nat, w3.cell? ⟨P, o, none⟩ = (#[.int .i64 a.v.h, .int .i64 a.v.w, .int .i64 a.v.c, .int .i64 a.v.z] : Array Value)[o]?) /\ Grown W w3 /\ P + 1 <= w3.heap.size := by (exact kKeep)
  clear b1 b2 b3 b4 g2 z2 g3
  have f0 := cell_past (Grown.past tg) V1.1 hlb
  have f1 := cell_past (Grown.past tg) V1.2.1 hlb
  have f2 := cell_past (Grown.past tg) V1.2.2.1 hlb
  have f3 := cell_past (Grown.past tg) V1.2.2.2 hlb
  have hlb3 : lb + 1 <= w3.heap.size := by have := tg.2.2; omega
  go_upto_region 16 with fail
  refine wp_region_fill (fun w' => (∀ o : Nat, w'.cell? ⟨W.heap.size, o, none⟩ = (#[.int .i64 n.op, vi, .int .i64 n.k, .int .i64 n.stride, .int .i64 n.pad, .int .i64 n.out, .int .i64 n.mul, .int .i64 n.shift, .int .i64 n.zero, .int .i64 n.th, .int .i64 n.tw, .int .i64 n.tc, vw, vb] : Array Value)[o]?) /\ (∀ o : Nat, w'.cell? ⟨W.heap.size + 1, o, none⟩ = (#[.int .i64 0, .int .i64 a.v.h, sa, .int .i64 0, .int .i64 b.v.h, sb] : Array Value)[o]?) /\ (∀ o : Nat, w'.cell? ⟨W.heap.size + 2, o, none⟩ = (#[.int .i64 m.1, .int .i64 m.2.1, .int .i64 m.2.2] : Array Value)[o]?) /\ (∀ o : Nat, w'.cell? ⟨P, o, none⟩ = (#[.int .i64 a.v.h, .int .i64 a.v.w, .int .i64 a.v.c, .int .i64 a.v.z] : Array Value)[o]?) /\ Grown W w' /\ P + 1 <= w'.heap.size /\ w'.cell? ⟨lb, lo + 4, none⟩ = some (.int .i64 b.v.h) /\ w'.cell? ⟨lb, lo + 4 + 1, none⟩ = some (.int .i64 b.v.w) /\ w'.cell? ⟨lb, lo + 4 + 2, none⟩ = some (.int .i64 b.v.c) /\ w'.cell? ⟨lb, lo + 4 + 3, none⟩ = some (.int .i64 b.v.z) /\ lb + 1 <= w'.heap.size) [(107, ?va107), (108, ?va108), (109, ?va109), (110, ?va110), (111, ?va111), (112, ?va112), (113, ?va113), (114, ?va114), (115, ?va115), (116, ?va116), (117, ?va117), (118, ?va118), (119, ?va119), (120, ?va120), (121, ?va121), (122, ?va122), (123, ?va123), (124, ?va124), (125, ?va125), (126, ?va126), (127, ?va127), (128, ?va128), (129, ?va129), (130, ?va130), (131, ?va131), (132, ?va132), (14, ?va14)] [107, 108, 109, 110, 111, 112, 113, 114, 115, 116, 117, 118, 119, 120, 121, 122, 123, 124, 125, 126, 127, 128, 129, 130, 131, 132, 14] (by kernel_rfl) (by kernel_rfl) rfl (by kernel_rfl) ⟨t1, t2, t3, t4, tg, tz, f0, f1, f2, f3, hlb3⟩ (fun w h => h) ?alla ?fina
  case alla =>
    simp only [fillA, Act.put, fU1, fU2, fU3]
    iterate 27 (refine owes_cons (fun w hw K hK => ?_) ?_; focus ((have hS := Lib.hid hw); go_split_ands; go_simp; (try simp only [Act.put, List.setIfInBounds_toArray, List.set_cons_zero, List.set_cons_succ]); first | exact hK _ hS.out | ((first | (go_at_call 62; with_reducible refine (RM.out _ (by with_reducible assumption)).mono ?_; rintro e w1 ⟨rfl, g1⟩) | (go_at_call 63; with_reducible refine (SQ.out _).mono ?_; rintro e w1 ⟨rfl, g1⟩)); refine hK _ ?_; (exact kKeep))))
    exact True.intro
  case fina =>
    rintro w9 ⟨_, _, _, _, qg, _⟩
    simp only [fillA, Act.put, fU1, fU2, fU3]
    clear t1 t2 t3 t4 tg f0 f1 f2 f3
    go_wp2_with fail
    go_ret
    exact ⟨rfl, qg⟩
set_option maxHeartbeats 8000000 in
theorem rone_8 (n : NodeD) (vi vw vb : Value) (lb lo lc : Nat) (vs : List ValD) (a b : ViewD) (sa sb : Value) (z1 : Int) (m : Int × Int × Int) (y x q : Int) (c : Nat) (W : World) (h : MakeOk n vs a b m) (hin : NodeIn W n vi vw vb) (hlb : lb < W.heap.size) (hlen : 0 < vs.length) (V0 : ValAt W lb lo a.v) (na : IsNums .i8 W sa a.xs) (y0 : 0 <= y) (y1 : y < m.1) (x0 : 0 <= x) (x1 : x < m.2.1) (c1 : (c : Int) < m.2.2) (hq : Hid (q = numD n a b m y x c)) (ho : n.op = 8) : Calls Tryz.prog 43 #[.agg #[.int .i64 n.op, vi, .int .i64 n.k, .int .i64 n.stride, .int .i64 n.pad, .int .i64 n.out, .int .i64 n.mul, .int .i64 n.shift, .int .i64 n.zero, .int .i64 n.th, .int .i64 n.tw, .int .i64 n.tc, vw, vb], .slice (some ⟨lb, lo, none⟩) vs.length lc, .agg #[.int .i64 0, .int .i64 a.v.h, sa, .int .i64 0, .int .i64 z1, sb], .agg #[.int .i64 m.1, .int .i64 m.2.1, .int .i64 m.2.2], .int .i64 y, .int .i64 x, .int .i64 c] W fun e w' => e = .returned (.int .i64 q) /\ Grown W w' := by
  obtain ⟨r1, r2, r3, r4, r5, r6⟩ := h.m16
  have FA := Lib.hid h.2.2.1
  have NA := Lib.hid na
  have SC := h.scaled
  obtain ⟨v, hv⟩ : ∃ v, v = atD a y x c := ⟨_, rfl⟩
  have vB : -128 <= v /\ v <= 127 := by rw [hv]; exact atD_bd h.2.2.1.ok _ _ _
  have RN := Lib.hid (fun w (g : Grown W w) => rnum_any a sa y x (c : Int) v w (NA.out.grow (Grown.past g)) FA.out (Lib.hid hv))
  have Q : q = max v n.zero := by rw [hq.out, num8 ho, hv]
  obtain ⟨vB1, vB2⟩ := vB
  have k1 : (n.op == 1) = false := by rw [ho]; decide
  have k2 : (n.op == 2) = false := by rw [ho]; decide
  have k3 : (n.op == 3) = false := by rw [ho]; decide
  have k4 : (n.op == 4) = false := by rw [ho]; decide
  have k5 : (n.op == 5) = false := by rw [ho]; decide
  have k6 : (n.op == 6) = false := by rw [ho]; decide
  have k7 : (n.op == 7) = false := by rw [ho]; decide
  have k8 : (n.op == 8) = true := by rw [ho]; decide
  have j1 : decide ((6 : Int) <= n.op) = true := by rw [ho]; decide
  have j4 : decide (n.op <= 8) = true := by rw [ho]; decide
  clear hq hv SC na hin
  go_enter Tryz.func43, Tryz.ntmps43
  go_upto_region 1 with fail
  refine opq (fun w' => (∀ o : Nat, w'.cell? ⟨W.heap.size, o, none⟩ = (#[.int .i64 n.op, vi, .int .i64 n.k, .int .i64 n.stride, .int .i64 n.pad, .int .i64 n.out, .int .i64 n.mul, .int .i64 n.shift, .int .i64 n.zero, .int .i64 n.th, .int .i64 n.tw, .int .i64 n.tc, vw, vb] : Array Value)[o]?) /\ (∀ o : Nat, w'.cell? ⟨W.heap.size + 1, o, none⟩ = (#[.int .i64 0, .int .i64 a.v.h, sa, .int .i64 0, .int .i64 z1, sb] : Array Value)[o]?) /\ (∀ o : Nat, w'.cell? ⟨W.heap.size + 2, o, none⟩ = (#[.int .i64 m.1, .int .i64 m.2.1, .int .i64 m.2.2] : Array Value)[o]?) /\ Grown W w' /\ W.heap.size + 3 <= w'.heap.size) kLaid ?_
  rintro W1 ⟨a1, a2, a3, g1, z1'⟩
  have e0 := cell_past (Grown.past g1) V0.1 hlb
  have e1 := cell_past (Grown.past g1) V0.2.1 hlb
  have e2 := cell_past (Grown.past g1) V0.2.2.1 hlb
  have e3 := cell_past (Grown.past g1) V0.2.2.2 hlb
  have l0 : (0 : Int) < (vs.length : Int) := by omega
  go_upto_region 2 with fail
  refine opq (fun w' => (∀ o : Nat, w'.cell? ⟨W.heap.size, o, none⟩ = (#[.int .i64 n.op, vi, .int .i64 n.k, .int .i64 n.stride, .int .i64 n.pad, .int .i64 n.out, .int .i64 n.mul, .int .i64 n.shift, .int .i64 n.zero, .int .i64 n.th, .int .i64 n.tw, .int .i64 n.tc, vw, vb] : Array Value)[o]?) /\ (∀ o : Nat, w'.cell? ⟨W.heap.size + 1, o, none⟩ = (#[.int .i64 0, .int .i64 a.v.h, sa, .int .i64 0, .int .i64 z1, sb] : Array Value)[o]?) /\ (∀ o : Nat, w'.cell? ⟨W.heap.size + 2, o, none⟩ = (#[.int .i64 m.1, .int .i64 m.2.1, .int .i64 m.2.2] : Array Value)[o]?) /\ (∀ o : Nat, w'.cell? ⟨W1.heap.size, o, none⟩ = (#[.int .i64 a.v.h, .int .i64 a.v.w, .int .i64 a.v.c, .int .i64 a.v.z] : Array Value)[o]?) /\ Grown W w' /\ W1.heap.size + 1 <= w'.heap.size) kKeep ?_
  rintro W2 ⟨b1, b2, b3, b4, g2, z2⟩
  obtain ⟨P, hP⟩ : ∃ P, W1.heap.size = P := ⟨_, rfl⟩
  rw [hP] at b4 z2 z1'
  rw [hP]
  clear a1 a2 a3 g1 e0 e1 e2 e3 hP
  go_wp2_with fail
  refine (RN.out _ g2).mono ?_
  rintro e w3 ⟨rfl, g3⟩
  obtain ⟨t1, t2, t3, t4, tg, tz⟩ : (∀ o : Nat, w3.cell? ⟨W.heap.size, o, none⟩ = (#[.int .i64 n.op, vi, .int .i64 n.k, .int .i64 n.stride, .int .i64 n.pad, .int .i64 n.out, .int .i64 n.mul, .int .i64 n.shift, .int .i64 n.zero, .int .i64 n.th, .int .i64 n.tw, .int .i64 n.tc, vw, vb] : Array Value)[o]?) /\ (∀ o : Nat, w3.cell? ⟨W.heap.size + 1, o, none⟩ = (#[.int .i64 0, .int .i64 a.v.h, sa, .int .i64 0, .int .i64 z1, sb] : Array Value)[o]?) /\ (∀ o : Nat, w3.cell? ⟨W.heap.size + 2, o, none⟩ = (#[.int .i64 m.1, .int .i64 m.2.1, .int .i64 m.2.2] : Array Value)[o]?) /\ (∀ o : Nat, w3.cell? ⟨P, o, none⟩ = (#[.int .i64 a.v.h, .int .i64 a.v.w, .int .i64 a.v.c, .int .i64 a.v.z] : Array Value)[o]?) /\ Grown W w3 /\ P + 1 <= w3.heap.size := by (exact kKeep)
  clear b1 b2 b3 b4 g2 z2 g3
  go_wp2_with fail
  all_goals
    go_ret
    exact ⟨fx.ret_int (by omega), tg⟩
set_option maxHeartbeats 8000000 in
theorem rone_9 (n : NodeD) (vi vw vb : Value) (lb lo lc : Nat) (vs : List ValD) (a b : ViewD) (sa sb : Value) (z1 : Int) (m : Int × Int × Int) (y x q : Int) (c : Nat) (W : World) (h : MakeOk n vs a b m) (hin : NodeIn W n vi vw vb) (hlb : lb < W.heap.size) (hlen : 0 < vs.length) (V0 : ValAt W lb lo a.v) (na : IsNums .i8 W sa a.xs) (y0 : 0 <= y) (y1 : y < m.1) (x0 : 0 <= x) (x1 : x < m.2.1) (c1 : (c : Int) < m.2.2) (hq : Hid (q = numD n a b m y x c)) (ho : n.op = 9) : Calls Tryz.prog 43 #[.agg #[.int .i64 n.op, vi, .int .i64 n.k, .int .i64 n.stride, .int .i64 n.pad, .int .i64 n.out, .int .i64 n.mul, .int .i64 n.shift, .int .i64 n.zero, .int .i64 n.th, .int .i64 n.tw, .int .i64 n.tc, vw, vb], .slice (some ⟨lb, lo, none⟩) vs.length lc, .agg #[.int .i64 0, .int .i64 a.v.h, sa, .int .i64 0, .int .i64 z1, sb], .agg #[.int .i64 m.1, .int .i64 m.2.1, .int .i64 m.2.2], .int .i64 y, .int .i64 x, .int .i64 c] W fun e w' => e = .returned (.int .i64 q) /\ Grown W w' := by
  obtain ⟨r1, r2, r3, r4, r5, r6⟩ := h.m16
  have FA := Lib.hid h.2.2.1
  have NA := Lib.hid na
  have SC := h.scaled
  have hp : n.pad = 1 := by
    have s := (value_parts h.1).1.2.2.2.2
    obtain ⟨⟨_, _, ⟨p1, p2⟩, _⟩, _⟩ := s
    rw [ho] at p1 p2
    have d1 : (opD 9).p1 = 1 := by decide
    have d2 : (opD 9).p2 = 1 := by decide
    omega
  have hv : q = atD a (y - 1) (x - 1) c := by rw [hq.out, num9 ho, hp]
  have RN := Lib.hid (fun w (g : Grown W w) => rnum_any a sa (y - 1) (x - 1) (c : Int) q w (NA.out.grow (Grown.past g)) FA.out (Lib.hid hv))
  have k1 : (n.op == 1) = false := by rw [ho]; decide
  have k2 : (n.op == 2) = false := by rw [ho]; decide
  have k3 : (n.op == 3) = false := by rw [ho]; decide
  have k4 : (n.op == 4) = false := by rw [ho]; decide
  have k5 : (n.op == 5) = false := by rw [ho]; decide
  have k6 : (n.op == 6) = false := by rw [ho]; decide
  have k7 : (n.op == 7) = false := by rw [ho]; decide
  have k8 : (n.op == 8) = false := by rw [ho]; decide
  have k9 : (n.op == 9) = true := by rw [ho]; decide
  have j1 : decide ((6 : Int) <= n.op) = true := by rw [ho]; decide
  have j4 : decide (n.op <= 8) = false := by rw [ho]; decide
  have j2 : (n.op == 10) = false := by rw [ho]; decide
  have j3 : (n.op == 12) = false := by rw [ho]; decide
  clear hq hv SC na hin hp
  go_enter Tryz.func43, Tryz.ntmps43
  go_upto_region 1 with fail
  refine opq (fun w' => (∀ o : Nat, w'.cell? ⟨W.heap.size, o, none⟩ = (#[.int .i64 n.op, vi, .int .i64 n.k, .int .i64 n.stride, .int .i64 n.pad, .int .i64 n.out, .int .i64 n.mul, .int .i64 n.shift, .int .i64 n.zero, .int .i64 n.th, .int .i64 n.tw, .int .i64 n.tc, vw, vb] : Array Value)[o]?) /\ (∀ o : Nat, w'.cell? ⟨W.heap.size + 1, o, none⟩ = (#[.int .i64 0, .int .i64 a.v.h, sa, .int .i64 0, .int .i64 z1, sb] : Array Value)[o]?) /\ (∀ o : Nat, w'.cell? ⟨W.heap.size + 2, o, none⟩ = (#[.int .i64 m.1, .int .i64 m.2.1, .int .i64 m.2.2] : Array Value)[o]?) /\ Grown W w' /\ W.heap.size + 3 <= w'.heap.size) kLaid ?_
  rintro W1 ⟨a1, a2, a3, g1, z1'⟩
  have e0 := cell_past (Grown.past g1) V0.1 hlb
  have e1 := cell_past (Grown.past g1) V0.2.1 hlb
  have e2 := cell_past (Grown.past g1) V0.2.2.1 hlb
  have e3 := cell_past (Grown.past g1) V0.2.2.2 hlb
  have l0 : (0 : Int) < (vs.length : Int) := by omega
  go_upto_region 2 with fail
  refine opq (fun w' => (∀ o : Nat, w'.cell? ⟨W.heap.size, o, none⟩ = (#[.int .i64 n.op, vi, .int .i64 n.k, .int .i64 n.stride, .int .i64 n.pad, .int .i64 n.out, .int .i64 n.mul, .int .i64 n.shift, .int .i64 n.zero, .int .i64 n.th, .int .i64 n.tw, .int .i64 n.tc, vw, vb] : Array Value)[o]?) /\ (∀ o : Nat, w'.cell? ⟨W.heap.size + 1, o, none⟩ = (#[.int .i64 0, .int .i64 a.v.h, sa, .int .i64 0, .int .i64 z1, sb] : Array Value)[o]?) /\ (∀ o : Nat, w'.cell? ⟨W.heap.size + 2, o, none⟩ = (#[.int .i64 m.1, .int .i64 m.2.1, .int .i64 m.2.2] : Array Value)[o]?) /\ (∀ o : Nat, w'.cell? ⟨W1.heap.size, o, none⟩ = (#[.int .i64 a.v.h, .int .i64 a.v.w, .int .i64 a.v.c, .int .i64 a.v.z] : Array Value)[o]?) /\ Grown W w' /\ W1.heap.size + 1 <= w'.heap.size) kKeep ?_
  rintro W2 ⟨b1, b2, b3, b4, g2, z2⟩
  obtain ⟨P, hP⟩ : ∃ P, W1.heap.size = P := ⟨_, rfl⟩
  rw [hP] at b4 z2 z1'
  rw [hP]
  clear a1 a2 a3 g1 e0 e1 e2 e3 hP
  go_wp2_with fail
  refine (RN.out _ g2).mono ?_
  rintro e w9 ⟨rfl, g9⟩
  go_wp2_with fail
  go_ret
  exact ⟨rfl, grown_trans g2 g9⟩
set_option maxHeartbeats 8000000 in
theorem rone_10h (n : NodeD) (vi vw vb : Value) (lb lo lc : Nat) (vs : List ValD) (a b : ViewD) (sa sb : Value) (m : Int × Int × Int) (y x q : Int) (c : Nat) (W : World) (h : MakeOk n vs a b m) (hin : NodeIn W n vi vw vb) (hlb : lb < W.heap.size) (hlen : 0 < vs.length) (V0 : ValAt W lb lo a.v) (na : IsNums .i8 W sa a.xs) (y0 : 0 <= y) (y1 : y < m.1) (x0 : 0 <= x) (x1 : x < m.2.1) (c1 : (c : Int) < m.2.2) (hq : Hid (q = numD n a b m y x c)) (hl2 : vs.length = 2) (V1 : ValAt W lb (lo + 4) b.v) (nb : IsNums .i8 W sb b.xs) (ho : n.op = 10) (hc : a.v.c <= (c : Int)) : Calls Tryz.prog 43 #[.agg #[.int .i64 n.op, vi, .int .i64 n.k, .int .i64 n.stride, .int .i64 n.pad, .int .i64 n.out, .int .i64 n.mul, .int .i64 n.shift, .int .i64 n.zero, .int .i64 n.th, .int .i64 n.tw, .int .i64 n.tc, vw, vb], .slice (some ⟨lb, lo, none⟩) vs.length lc, .agg #[.int .i64 0, .int .i64 a.v.h, sa, .int .i64 0, .int .i64 b.v.h, sb], .agg #[.int .i64 m.1, .int .i64 m.2.1, .int .i64 m.2.2], .int .i64 y, .int .i64 x, .int .i64 c] W fun e w' => e = .returned (.int .i64 q) /\ Grown W w' := by
  obtain ⟨r1, r2, r3, r4, r5, r6⟩ := h.m16
  have FA := Lib.hid h.2.2.1
  have NA := Lib.hid na
  have SC := h.scaled
  obtain ⟨v, hv⟩ : ∃ v, v = atD a y x c := ⟨_, rfl⟩
  have vB : -128 <= v /\ v <= 127 := by rw [hv]; exact atD_bd h.2.2.1.ok _ _ _
  have RN := Lib.hid (fun w (g : Grown W w) => rnum_any a sa y x (c : Int) v w (NA.out.grow (Grown.past g)) FA.out (Lib.hid hv))
  obtain ⟨FB', hbv⟩ := h.2.2.2.2 (Or.inr (Or.inr ho))
  have FB := Lib.hid FB'
  have NBB := Lib.hid nb
  have l1 : (1 : Int) < (vs.length : Int) := by omega
  obtain ⟨_, _, _, _, ac1, ac2⟩ := h.2.2.1.1
  have k1 : (n.op == 1) = false := by rw [ho]; decide
  have k2 : (n.op == 2) = false := by rw [ho]; decide
  have k3 : (n.op == 3) = false := by rw [ho]; decide
  have k4 : (n.op == 4) = false := by rw [ho]; decide
  have k5 : (n.op == 5) = false := by rw [ho]; decide
  have k6 : (n.op == 6) = false := by rw [ho]; decide
  have k7 : (n.op == 7) = false := by rw [ho]; decide
  have k8 : (n.op == 8) = false := by rw [ho]; decide
  have k9 : (n.op == 9) = false := by rw [ho]; decide
  have k10 : (n.op == 10) = true := by rw [ho]; decide
  have j1 : decide ((6 : Int) <= n.op) = true := by rw [ho]; decide
  have j4 : decide (n.op <= 8) = false := by rw [ho]; decide
  have j2 : (n.op == 10) = true := by rw [ho]; decide
  have j3 : (n.op == 12) = false := by rw [ho]; decide
  have d9 : decide (a.v.c <= (c : Int)) = true := decide_eq_true hc
  have hu : q = atD b y x ((c : Int) - a.v.c) := by rw [hq.out, num10 ho, if_neg (by omega)]
  have RM := Lib.hid (fun w (g : Grown W w) => rnum_any b sb y x ((c : Int) - a.v.c) q w (NBB.out.grow (Grown.past g)) FB.out (Lib.hid hu))
  have v0 : IntKind.i64.wrap ((c : Int) - a.v.c) = (c : Int) - a.v.c := IntWalk.i64_in _ (by omega)
  clear hu
  clear hq hv SC na nb hin FB' hbv
  go_enter Tryz.func43, Tryz.ntmps43
  go_upto_region 1 with fail
  refine opq (fun w' => (∀ o : Nat, w'.cell? ⟨W.heap.size, o, none⟩ = (#[.int .i64 n.op, vi, .int .i64 n.k, .int .i64 n.stride, .int .i64 n.pad, .int .i64 n.out, .int .i64 n.mul, .int .i64 n.shift, .int .i64 n.zero, .int .i64 n.th, .int .i64 n.tw, .int .i64 n.tc, vw, vb] : Array Value)[o]?) /\ (∀ o : Nat, w'.cell? ⟨W.heap.size + 1, o, none⟩ = (#[.int .i64 0, .int .i64 a.v.h, sa, .int .i64 0, .int .i64 b.v.h, sb] : Array Value)[o]?) /\ (∀ o : Nat, w'.cell? ⟨W.heap.size + 2, o, none⟩ = (#[.int .i64 m.1, .int .i64 m.2.1, .int .i64 m.2.2] : Array Value)[o]?) /\ Grown W w' /\ W.heap.size + 3 <= w'.heap.size) kLaid ?_
  rintro W1 ⟨a1, a2, a3, g1, z1'⟩
  have e0 := cell_past (Grown.past g1) V0.1 hlb
  have e1 := cell_past (Grown.past g1) V0.2.1 hlb
  have e2 := cell_past (Grown.past g1) V0.2.2.1 hlb
  have e3 := cell_past (Grown.past g1) V0.2.2.2 hlb
  have l0 : (0 : Int) < (vs.length : Int) := by omega
  go_upto_region 2 with fail
  refine opq (fun w' => (∀ o : Nat, w'.cell? ⟨W.heap.size, o, none⟩ = (#[.int .i64 n.op, vi, .int .i64 n.k, .int .i64 n.stride, .int .i64 n.pad, .int .i64 n.out, .int .i64 n.mul, .int .i64 n.shift, .int .i64 n.zero, .int .i64 n.th, .int .i64 n.tw, .int .i64 n.tc, vw, vb] : Array Value)[o]?) /\ (∀ o : Nat, w'.cell? ⟨W.heap.size + 1, o, none⟩ = (#[.int .i64 0, .int .i64 a.v.h, sa, .int .i64 0, .int .i64 b.v.h, sb] : Array Value)[o]?) /\ (∀ o : Nat, w'.cell? ⟨W.heap.size + 2, o, none⟩ = (#[.int .i64 m.1, .int .i64 m.2.1, .int .i64 m.2.2] : Array Value)[o]?) /\ (∀ o : Nat, w'.cell? ⟨W1.heap.size, o, none⟩ = (#[.int .i64 a.v.h, .int .i64 a.v.w, .int .i64 a.v.c, .int .i64 a.v.z] : Array Value)[o]?) /\ Grown W w' /\ W1.heap.size + 1 <= w'.heap.size) kKeep ?_
  rintro W2 ⟨b1, b2, b3, b4, g2, z2⟩
  obtain ⟨P, hP⟩ : ∃ P, W1.heap.size = P := ⟨_, rfl⟩
  rw [hP] at b4 z2 z1'
  rw [hP]
  clear a1 a2 a3 g1 e0 e1 e2 e3 hP
  go_wp2_with fail
  refine (RN.out _ g2).mono ?_
  rintro e w3 ⟨rfl, g3⟩
  obtain ⟨t1, t2, t3, t4, tg, tz⟩ : (∀ o : Nat, w3.cell? ⟨W.heap.size, o, none⟩ = (#[.int .i64 n.op, vi, .int .i64 n.k, .int .i64 n.stride, .int .i64 n.pad, .int .i64 n.out, .int .i64 n.mul, .int .i64 n.shift, .int .i64 n.zero, .int .i64 n.th, .int .i64 n.tw, .int .i64 n.tc, vw, vb] : Array Value)[o]?) /\ (∀ o : Nat, w3.cell? ⟨W.heap.size + 1, o, none⟩ = (#[.int .i64 0, .int .i64 a.v.h, sa, .int .i64 0, .int .i64 b.v.h, sb] : Array Value)[o]?) /\ (∀ o : Nat, w3.cell? ⟨W.heap.size + 2, o, none⟩ = (#[.int .i64 m.1, .int .i64 m.2.1, .int .i64 m.2.2] : Array Value)[o]?) /\ (∀ o : Nat, w3.cell? ⟨P, o, none⟩ = (#[.int .i64 a.v.h, .int .i64 a.v.w, .int .i64 a.v.c, .int .i64 a.v.z] : Array Value)[o]?) /\ Grown W w3 /\ P + 1 <= w3.heap.size := by (exact kKeep)
  clear b1 b2 b3 b4 g2 z2 g3
  have f0 := cell_past (Grown.past tg) V1.1 hlb
  have f1 := cell_past (Grown.past tg) V1.2.1 hlb
  have f2 := cell_past (Grown.past tg) V1.2.2.1 hlb
  have f3 := cell_past (Grown.past tg) V1.2.2.2 hlb
  have hlb3 : lb + 1 <= w3.heap.size := by have := tg.2.2; omega
  go_upto_region 23 with fail
  refine wp_region_fill (fun w' => (∀ o : Nat, w'.cell? ⟨W.heap.size, o, none⟩ = (#[.int .i64 n.op, vi, .int .i64 n.k, .int .i64 n.stride, .int .i64 n.pad, .int .i64 n.out, .int .i64 n.mul, .int .i64 n.shift, .int .i64 n.zero, .int .i64 n.th, .int .i64 n.tw, .int .i64 n.tc, vw, vb] : Array Value)[o]?) /\ (∀ o : Nat, w'.cell? ⟨W.heap.size + 1, o, none⟩ = (#[.int .i64 0, .int .i64 a.v.h, sa, .int .i64 0, .int .i64 b.v.h, sb] : Array Value)[o]?) /\ (∀ o : Nat, w'.cell? ⟨W.heap.size + 2, o, none⟩ = (#[.int .i64 m.1, .int .i64 m.2.1, .int .i64 m.2.2] : Array Value)[o]?) /\ (∀ o : Nat, w'.cell? ⟨P, o, none⟩ = (#[.int .i64 a.v.h, .int .i64 a.v.w, .int .i64 a.v.c, .int .i64 a.v.z] : Array Value)[o]?) /\ Grown W w' /\ P + 1 <= w'.heap.size /\ w'.cell? ⟨lb, lo + 4, none⟩ = some (.int .i64 b.v.h) /\ w'.cell? ⟨lb, lo + 4 + 1, none⟩ = some (.int .i64 b.v.w) /\ w'.cell? ⟨lb, lo + 4 + 2, none⟩ = some (.int .i64 b.v.c) /\ w'.cell? ⟨lb, lo + 4 + 3, none⟩ = some (.int .i64 b.v.z) /\ lb + 1 <= w'.heap.size) [(157, ?va157), (158, ?va158), (159, ?va159), (160, ?va160), (161, ?va161), (162, ?va162), (163, ?va163), (164, ?va164), (165, ?va165), (166, ?va166), (167, ?va167), (168, ?va168), (169, ?va169), (14, ?va14)] [157, 158, 159, 160, 161, 162, 163, 164, 165, 166, 167, 168, 169, 14] (by kernel_rfl) (by kernel_rfl) rfl (by kernel_rfl) ⟨t1, t2, t3, t4, tg, tz, f0, f1, f2, f3, hlb3⟩ (fun w h => h) ?alla ?fina
  case alla =>
    simp only [fillA, Act.put, fU1, fU2, fU3]
    iterate 14 (refine owes_cons (fun w hw K hK => ?_) ?_; focus ((have hS := Lib.hid hw); go_split_ands; go_simp; (try simp only [Act.put, List.setIfInBounds_toArray, List.set_cons_zero, List.set_cons_succ]); first | exact hK _ hS.out | (((go_at_call 62; with_reducible refine (RM.out _ (by with_reducible assumption)).mono ?_; rintro e w1 ⟨rfl, g1⟩)); refine hK _ ?_; (exact kKeep))))
    exact True.intro
  case fina =>
    rintro w9 ⟨_, _, _, _, qg, _⟩
    simp only [fillA, Act.put, fU1, fU2, fU3]
    clear t1 t2 t3 t4 tg f0 f1 f2 f3
    go_wp2_with fail
    go_ret
    exact ⟨rfl, qg⟩
set_option maxHeartbeats 8000000 in
theorem rone_10l (n : NodeD) (vi vw vb : Value) (lb lo lc : Nat) (vs : List ValD) (a b : ViewD) (sa sb : Value) (m : Int × Int × Int) (y x q : Int) (c : Nat) (W : World) (h : MakeOk n vs a b m) (hin : NodeIn W n vi vw vb) (hlb : lb < W.heap.size) (hlen : 0 < vs.length) (V0 : ValAt W lb lo a.v) (na : IsNums .i8 W sa a.xs) (y0 : 0 <= y) (y1 : y < m.1) (x0 : 0 <= x) (x1 : x < m.2.1) (c1 : (c : Int) < m.2.2) (hq : Hid (q = numD n a b m y x c)) (hl2 : vs.length = 2) (V1 : ValAt W lb (lo + 4) b.v) (nb : IsNums .i8 W sb b.xs) (ho : n.op = 10) (hc : ¬ a.v.c <= (c : Int)) : Calls Tryz.prog 43 #[.agg #[.int .i64 n.op, vi, .int .i64 n.k, .int .i64 n.stride, .int .i64 n.pad, .int .i64 n.out, .int .i64 n.mul, .int .i64 n.shift, .int .i64 n.zero, .int .i64 n.th, .int .i64 n.tw, .int .i64 n.tc, vw, vb], .slice (some ⟨lb, lo, none⟩) vs.length lc, .agg #[.int .i64 0, .int .i64 a.v.h, sa, .int .i64 0, .int .i64 b.v.h, sb], .agg #[.int .i64 m.1, .int .i64 m.2.1, .int .i64 m.2.2], .int .i64 y, .int .i64 x, .int .i64 c] W fun e w' => e = .returned (.int .i64 q) /\ Grown W w' := by
  obtain ⟨r1, r2, r3, r4, r5, r6⟩ := h.m16
  have FA := Lib.hid h.2.2.1
  have NA := Lib.hid na
  have SC := h.scaled
  obtain ⟨v, hv⟩ : ∃ v, v = atD a y x c := ⟨_, rfl⟩
  have vB : -128 <= v /\ v <= 127 := by rw [hv]; exact atD_bd h.2.2.1.ok _ _ _
  have RN := Lib.hid (fun w (g : Grown W w) => rnum_any a sa y x (c : Int) v w (NA.out.grow (Grown.past g)) FA.out (Lib.hid hv))
  obtain ⟨FB', hbv⟩ := h.2.2.2.2 (Or.inr (Or.inr ho))
  have FB := Lib.hid FB'
  have NBB := Lib.hid nb
  have l1 : (1 : Int) < (vs.length : Int) := by omega
  obtain ⟨_, _, _, _, ac1, ac2⟩ := h.2.2.1.1
  have k1 : (n.op == 1) = false := by rw [ho]; decide
  have k2 : (n.op == 2) = false := by rw [ho]; decide
  have k3 : (n.op == 3) = false := by rw [ho]; decide
  have k4 : (n.op == 4) = false := by rw [ho]; decide
  have k5 : (n.op == 5) = false := by rw [ho]; decide
  have k6 : (n.op == 6) = false := by rw [ho]; decide
  have k7 : (n.op == 7) = false := by rw [ho]; decide
  have k8 : (n.op == 8) = false := by rw [ho]; decide
  have k9 : (n.op == 9) = false := by rw [ho]; decide
  have k10 : (n.op == 10) = true := by rw [ho]; decide
  have j1 : decide ((6 : Int) <= n.op) = true := by rw [ho]; decide
  have j4 : decide (n.op <= 8) = false := by rw [ho]; decide
  have j2 : (n.op == 10) = true := by rw [ho]; decide
  have j3 : (n.op == 12) = false := by rw [ho]; decide
  have d9 : decide (a.v.c <= (c : Int)) = false := decide_eq_false hc
  have Q : q = v := by rw [hq.out, num10 ho, if_pos (by omega), hv]
  clear hq hv SC na nb hin FB' hbv
  go_enter Tryz.func43, Tryz.ntmps43
  go_upto_region 1 with fail
  refine opq (fun w' => (∀ o : Nat, w'.cell? ⟨W.heap.size, o, none⟩ = (#[.int .i64 n.op, vi, .int .i64 n.k, .int .i64 n.stride, .int .i64 n.pad, .int .i64 n.out, .int .i64 n.mul, .int .i64 n.shift, .int .i64 n.zero, .int .i64 n.th, .int .i64 n.tw, .int .i64 n.tc, vw, vb] : Array Value)[o]?) /\ (∀ o : Nat, w'.cell? ⟨W.heap.size + 1, o, none⟩ = (#[.int .i64 0, .int .i64 a.v.h, sa, .int .i64 0, .int .i64 b.v.h, sb] : Array Value)[o]?) /\ (∀ o : Nat, w'.cell? ⟨W.heap.size + 2, o, none⟩ = (#[.int .i64 m.1, .int .i64 m.2.1, .int .i64 m.2.2] : Array Value)[o]?) /\ Grown W w' /\ W.heap.size + 3 <= w'.heap.size) kLaid ?_
  rintro W1 ⟨a1, a2, a3, g1, z1'⟩
  have e0 := cell_past (Grown.past g1) V0.1 hlb
  have e1 := cell_past (Grown.past g1) V0.2.1 hlb
  have e2 := cell_past (Grown.past g1) V0.2.2.1 hlb
  have e3 := cell_past (Grown.past g1) V0.2.2.2 hlb
  have l0 : (0 : Int) < (vs.length : Int) := by omega
  go_upto_region 2 with fail
  refine opq (fun w' => (∀ o : Nat, w'.cell? ⟨W.heap.size, o, none⟩ = (#[.int .i64 n.op, vi, .int .i64 n.k, .int .i64 n.stride, .int .i64 n.pad, .int .i64 n.out, .int .i64 n.mul, .int .i64 n.shift, .int .i64 n.zero, .int .i64 n.th, .int .i64 n.tw, .int .i64 n.tc, vw, vb] : Array Value)[o]?) /\ (∀ o : Nat, w'.cell? ⟨W.heap.size + 1, o, none⟩ = (#[.int .i64 0, .int .i64 a.v.h, sa, .int .i64 0, .int .i64 b.v.h, sb] : Array Value)[o]?) /\ (∀ o : Nat, w'.cell? ⟨W.heap.size + 2, o, none⟩ = (#[.int .i64 m.1, .int .i64 m.2.1, .int .i64 m.2.2] : Array Value)[o]?) /\ (∀ o : Nat, w'.cell? ⟨W1.heap.size, o, none⟩ = (#[.int .i64 a.v.h, .int .i64 a.v.w, .int .i64 a.v.c, .int .i64 a.v.z] : Array Value)[o]?) /\ Grown W w' /\ W1.heap.size + 1 <= w'.heap.size) kKeep ?_
  rintro W2 ⟨b1, b2, b3, b4, g2, z2⟩
  obtain ⟨P, hP⟩ : ∃ P, W1.heap.size = P := ⟨_, rfl⟩
  rw [hP] at b4 z2 z1'
  rw [hP]
  clear a1 a2 a3 g1 e0 e1 e2 e3 hP
  go_wp2_with fail
  refine (RN.out _ g2).mono ?_
  rintro e w3 ⟨rfl, g3⟩
  obtain ⟨t1, t2, t3, t4, tg, tz⟩ : (∀ o : Nat, w3.cell? ⟨W.heap.size, o, none⟩ = (#[.int .i64 n.op, vi, .int .i64 n.k, .int .i64 n.stride, .int .i64 n.pad, .int .i64 n.out, .int .i64 n.mul, .int .i64 n.shift, .int .i64 n.zero, .int .i64 n.th, .int .i64 n.tw, .int .i64 n.tc, vw, vb] : Array Value)[o]?) /\ (∀ o : Nat, w3.cell? ⟨W.heap.size + 1, o, none⟩ = (#[.int .i64 0, .int .i64 a.v.h, sa, .int .i64 0, .int .i64 b.v.h, sb] : Array Value)[o]?) /\ (∀ o : Nat, w3.cell? ⟨W.heap.size + 2, o, none⟩ = (#[.int .i64 m.1, .int .i64 m.2.1, .int .i64 m.2.2] : Array Value)[o]?) /\ (∀ o : Nat, w3.cell? ⟨P, o, none⟩ = (#[.int .i64 a.v.h, .int .i64 a.v.w, .int .i64 a.v.c, .int .i64 a.v.z] : Array Value)[o]?) /\ Grown W w3 /\ P + 1 <= w3.heap.size := by (exact kKeep)
  clear b1 b2 b3 b4 g2 z2 g3
  go_wp2_with fail
  go_ret
  exact ⟨fx.ret_int Q.symm, tg⟩
set_option maxHeartbeats 8000000 in
theorem rone_11 (n : NodeD) (vi vw vb : Value) (lb lo lc : Nat) (vs : List ValD) (a b : ViewD) (sa sb : Value) (z1 : Int) (m : Int × Int × Int) (y x q : Int) (c : Nat) (W : World) (h : MakeOk n vs a b m) (hin : NodeIn W n vi vw vb) (hlb : lb < W.heap.size) (hlen : 0 < vs.length) (V0 : ValAt W lb lo a.v) (na : IsNums .i8 W sa a.xs) (y0 : 0 <= y) (y1 : y < m.1) (x0 : 0 <= x) (x1 : x < m.2.1) (c1 : (c : Int) < m.2.2) (hq : Hid (q = numD n a b m y x c)) (ho : n.op = 11) : Calls Tryz.prog 43 #[.agg #[.int .i64 n.op, vi, .int .i64 n.k, .int .i64 n.stride, .int .i64 n.pad, .int .i64 n.out, .int .i64 n.mul, .int .i64 n.shift, .int .i64 n.zero, .int .i64 n.th, .int .i64 n.tw, .int .i64 n.tc, vw, vb], .slice (some ⟨lb, lo, none⟩) vs.length lc, .agg #[.int .i64 0, .int .i64 a.v.h, sa, .int .i64 0, .int .i64 z1, sb], .agg #[.int .i64 m.1, .int .i64 m.2.1, .int .i64 m.2.2], .int .i64 y, .int .i64 x, .int .i64 c] W fun e w' => e = .returned (.int .i64 q) /\ Grown W w' := by
  obtain ⟨r1, r2, r3, r4, r5, r6⟩ := h.m16
  have FA := Lib.hid h.2.2.1
  have NA := Lib.hid na
  have SC := h.scaled
  obtain ⟨k, hk⟩ : ∃ k : Nat, (y * m.2.1 + x) * m.2.2 + c = k := ⟨((y * m.2.1 + x) * m.2.2 + c).toNat, by
    have h1 : 0 <= y * m.2.1 := Int.mul_nonneg y0 (by omega)
    have h2 : 0 <= (y * m.2.1 + x) * m.2.2 := Int.mul_nonneg (by omega) (by omega)
    omega⟩
  have hi : indexI m.1 m.2.1 m.2.2 y x c = (k : Int) := by rw [indexI_yes ⟨h.m16, y0, y1, x0, x1, by omega, c1⟩]; exact hk
  have kl : k < a.xs.length := by
    have l := (idx_lt ⟨h.m16, y0, y1, x0, x1, by omega, c1⟩ : _)
    have e : (a.xs.length : Int) = sizeI m.1 m.2.1 m.2.2 := resh_len h ho
    have := l.2.1
    rw [hi] at this
    omega
  have Q : q = a.xs.getD k 0 := by rw [hq.out, num11 ho, hi, Int.toNat_natCast]
  have qb : -128 <= q /\ q <= 127 := by rw [Q]; exact getD_i8 h.2.2.1.2.2.2.2.2 k
  obtain ⟨qb1, qb2⟩ := qb
  obtain ⟨A, cap, rfl, a1, a2, _, a4, a5⟩ := na
  obtain ⟨sb', so, rfl, hsb, hc⟩ := a5 (by omega)
  have cq : W.cell? ⟨sb', so + k, none⟩ = some (.int .i8 q) := by rw [Q]; exact hc k kl
  obtain ⟨p1, hp1⟩ : ∃ p1, y * m.2.1 = p1 := ⟨_, rfl⟩
  have pb1 : 0 <= p1 /\ p1 <= 256 := by
    rw [<- hp1]
    exact ⟨Int.mul_nonneg y0 (by omega), Int.le_trans (Int.mul_le_mul (show y <= 16 by omega) r4 (by omega) (by omega)) (by omega)⟩
  rw [hp1] at hk
  obtain ⟨p3, hp3⟩ : ∃ p3, (p1 + x) * m.2.2 = p3 := ⟨_, rfl⟩
  rw [hp3] at hk
  have LL := h.2.2.1.len.2
  have v1 : IntKind.i64.wrap (y * m.2.1) = p1 := by rw [hp1]; exact IntWalk.i64_in _ (by omega)
  have v2 : IntKind.i64.wrap (p1 + x) = p1 + x := IntWalk.i64_in _ (by omega)
  have v3 : IntKind.i64.wrap ((p1 + x) * m.2.2) = p3 := by rw [hp3]; exact IntWalk.i64_in _ (by omega)
  have v4 : IntKind.i64.wrap (p3 + c) = (k : Int) := by rw [hk]; exact IntWalk.i64_in _ (by omega)
  have v5 : IntKind.i64.wrap q = q := IntWalk.i64_in _ (by omega)
  have i1 : (0 : Int) <= (k : Int) := by omega
  have i2 : (k : Int) < (a.xs.length : Int) := by omega
  have cc1 : a.xs.length <= cap := a1
  have k1 : (n.op == 1) = false := by rw [ho]; decide
  have k2 : (n.op == 2) = false := by rw [ho]; decide
  have k3 : (n.op == 3) = false := by rw [ho]; decide
  have k4 : (n.op == 4) = false := by rw [ho]; decide
  have k5 : (n.op == 5) = false := by rw [ho]; decide
  have k6 : (n.op == 6) = false := by rw [ho]; decide
  have k7 : (n.op == 7) = false := by rw [ho]; decide
  have k8 : (n.op == 8) = false := by rw [ho]; decide
  have k9 : (n.op == 9) = false := by rw [ho]; decide
  have k10 : (n.op == 10) = false := by rw [ho]; decide
  have k11 : (n.op == 11) = true := by rw [ho]; decide
  have j1 : decide ((6 : Int) <= n.op) = true := by rw [ho]; decide
  have j4 : decide (n.op <= 8) = false := by rw [ho]; decide
  have j2 : (n.op == 10) = false := by rw [ho]; decide
  have j3 : (n.op == 12) = false := by rw [ho]; decide
  clear hq SC hin hi hk hp1 hp3 Q a4 a5 hc a1 a2 pb1
  go_enter Tryz.func43, Tryz.ntmps43
  go_upto_region 1 with fail
  refine opq (fun w' => (∀ o : Nat, w'.cell? ⟨W.heap.size, o, none⟩ = (#[.int .i64 n.op, vi, .int .i64 n.k, .int .i64 n.stride, .int .i64 n.pad, .int .i64 n.out, .int .i64 n.mul, .int .i64 n.shift, .int .i64 n.zero, .int .i64 n.th, .int .i64 n.tw, .int .i64 n.tc, vw, vb] : Array Value)[o]?) /\ (∀ o : Nat, w'.cell? ⟨W.heap.size + 1, o, none⟩ = (#[.int .i64 0, .int .i64 a.v.h, .slice (some ⟨sb', so, none⟩) a.xs.length cap, .int .i64 0, .int .i64 z1, sb] : Array Value)[o]?) /\ (∀ o : Nat, w'.cell? ⟨W.heap.size + 2, o, none⟩ = (#[.int .i64 m.1, .int .i64 m.2.1, .int .i64 m.2.2] : Array Value)[o]?) /\ Grown W w' /\ W.heap.size + 3 <= w'.heap.size) kLaid ?_
  rintro W1 ⟨a1, a2, a3, g1, z1'⟩
  have e0 := cell_past (Grown.past g1) V0.1 hlb
  have e1 := cell_past (Grown.past g1) V0.2.1 hlb
  have e2 := cell_past (Grown.past g1) V0.2.2.1 hlb
  have e3 := cell_past (Grown.past g1) V0.2.2.2 hlb
  have l0 : (0 : Int) < (vs.length : Int) := by omega
  go_upto_region 2 with fail
  refine opq (fun w' => (∀ o : Nat, w'.cell? ⟨W.heap.size, o, none⟩ = (#[.int .i64 n.op, vi, .int .i64 n.k, .int .i64 n.stride, .int .i64 n.pad, .int .i64 n.out, .int .i64 n.mul, .int .i64 n.shift, .int .i64 n.zero, .int .i64 n.th, .int .i64 n.tw, .int .i64 n.tc, vw, vb] : Array Value)[o]?) /\ (∀ o : Nat, w'.cell? ⟨W.heap.size + 1, o, none⟩ = (#[.int .i64 0, .int .i64 a.v.h, .slice (some ⟨sb', so, none⟩) a.xs.length cap, .int .i64 0, .int .i64 z1, sb] : Array Value)[o]?) /\ (∀ o : Nat, w'.cell? ⟨W.heap.size + 2, o, none⟩ = (#[.int .i64 m.1, .int .i64 m.2.1, .int .i64 m.2.2] : Array Value)[o]?) /\ (∀ o : Nat, w'.cell? ⟨W1.heap.size, o, none⟩ = (#[.int .i64 a.v.h, .int .i64 a.v.w, .int .i64 a.v.c, .int .i64 a.v.z] : Array Value)[o]?) /\ Grown W w' /\ W1.heap.size + 1 <= w'.heap.size) kKeep ?_
  rintro W2 ⟨b1, b2, b3, b4, g2, z2⟩
  obtain ⟨P, hP⟩ : ∃ P, W1.heap.size = P := ⟨_, rfl⟩
  rw [hP] at b4 z2 z1'
  rw [hP]
  clear a1 a2 a3 g1 e0 e1 e2 e3 hP
  have cq2 := cell_past (Grown.past g2) cq hsb
  go_wp2_with fail
  go_ret
  exact ⟨rfl, g2⟩
set_option maxHeartbeats 8000000 in
theorem rone_12 (n : NodeD) (vi vw vb : Value) (lb lo lc : Nat) (vs : List ValD) (a b : ViewD) (sa sb : Value) (z1 : Int) (m : Int × Int × Int) (y x q : Int) (c : Nat) (W : World) (h : MakeOk n vs a b m) (hin : NodeIn W n vi vw vb) (hlb : lb < W.heap.size) (hlen : 0 < vs.length) (V0 : ValAt W lb lo a.v) (na : IsNums .i8 W sa a.xs) (y0 : 0 <= y) (y1 : y < m.1) (x0 : 0 <= x) (x1 : x < m.2.1) (c1 : (c : Int) < m.2.2) (hq : Hid (q = numD n a b m y x c)) (ho : n.op = 12) : Calls Tryz.prog 43 #[.agg #[.int .i64 n.op, vi, .int .i64 n.k, .int .i64 n.stride, .int .i64 n.pad, .int .i64 n.out, .int .i64 n.mul, .int .i64 n.shift, .int .i64 n.zero, .int .i64 n.th, .int .i64 n.tw, .int .i64 n.tc, vw, vb], .slice (some ⟨lb, lo, none⟩) vs.length lc, .agg #[.int .i64 0, .int .i64 a.v.h, sa, .int .i64 0, .int .i64 z1, sb], .agg #[.int .i64 m.1, .int .i64 m.2.1, .int .i64 m.2.2], .int .i64 y, .int .i64 x, .int .i64 c] W fun e w' => e = .returned (.int .i64 q) /\ Grown W w' := by
  obtain ⟨r1, r2, r3, r4, r5, r6⟩ := h.m16
  have FA := Lib.hid h.2.2.1
  have NA := Lib.hid na
  have SC := h.scaled
  obtain ⟨v, hv⟩ : ∃ v, v = atD a y x c := ⟨_, rfl⟩
  have vB : -128 <= v /\ v <= 127 := by rw [hv]; exact atD_bd h.2.2.1.ok _ _ _
  have RN := Lib.hid (fun w (g : Grown W w) => rnum_any a sa y x (c : Int) v w (NA.out.grow (Grown.past g)) FA.out (Lib.hid hv))
  have lw := lens12 h ho
  have nw := hin.2.1
  obtain ⟨Aw, wc, rfl, -⟩ := id nw
  obtain ⟨wb, wo, rfl, _, d1, d2, hwb, hwc⟩ := nums_parts nw (by omega)
  obtain ⟨k, hk⟩ : ∃ k : Nat, v + 128 = k := ⟨(v + 128).toNat, by omega⟩
  have kl : k < n.ws.length := by omega
  have Q : q = n.ws.getD k 0 := by rw [hq.out, num12 ho, <- hv, hk, Int.toNat_natCast]
  have qb : -128 <= q /\ q <= 127 := by rw [Q]; exact nums_i8 nw k
  obtain ⟨qb1, qb2⟩ := qb
  obtain ⟨vB1, vB2⟩ := vB
  have cq : W.cell? ⟨wb, wo + k, none⟩ = some (.int .i8 q) := by rw [Q]; exact (hwc k kl).1
  have v1 : IntKind.i64.wrap (v + 128) = (k : Int) := by rw [hk]; exact IntWalk.i64_in _ (by omega)
  have v5 : IntKind.i64.wrap q = q := IntWalk.i64_in _ (by omega)
  have i1 : (0 : Int) <= (k : Int) := by omega
  have i2 : (k : Int) < (n.ws.length : Int) := by omega
  have l9 : n.ws.length <= 9223372036854775807 := by omega
  have k1 : (n.op == 1) = false := by rw [ho]; decide
  have k2 : (n.op == 2) = false := by rw [ho]; decide
  have k3 : (n.op == 3) = false := by rw [ho]; decide
  have k4 : (n.op == 4) = false := by rw [ho]; decide
  have k5 : (n.op == 5) = false := by rw [ho]; decide
  have k6 : (n.op == 6) = false := by rw [ho]; decide
  have k7 : (n.op == 7) = false := by rw [ho]; decide
  have k8 : (n.op == 8) = false := by rw [ho]; decide
  have k9 : (n.op == 9) = false := by rw [ho]; decide
  have k10 : (n.op == 10) = false := by rw [ho]; decide
  have k11 : (n.op == 11) = false := by rw [ho]; decide
  have k12 : (n.op == 12) = true := by rw [ho]; decide
  have j1 : decide ((6 : Int) <= n.op) = true := by rw [ho]; decide
  have j4 : decide (n.op <= 8) = false := by rw [ho]; decide
  have j2 : (n.op == 10) = false := by rw [ho]; decide
  have j3 : (n.op == 12) = true := by rw [ho]; decide
  clear hq SC hin hv hk Q hwc nw na
  go_enter Tryz.func43, Tryz.ntmps43
  go_upto_region 1 with fail
  refine opq (fun w' => (∀ o : Nat, w'.cell? ⟨W.heap.size, o, none⟩ = (#[.int .i64 n.op, vi, .int .i64 n.k, .int .i64 n.stride, .int .i64 n.pad, .int .i64 n.out, .int .i64 n.mul, .int .i64 n.shift, .int .i64 n.zero, .int .i64 n.th, .int .i64 n.tw, .int .i64 n.tc, (.slice (some ⟨wb, wo, none⟩) n.ws.length wc), vb] : Array Value)[o]?) /\ (∀ o : Nat, w'.cell? ⟨W.heap.size + 1, o, none⟩ = (#[.int .i64 0, .int .i64 a.v.h, sa, .int .i64 0, .int .i64 z1, sb] : Array Value)[o]?) /\ (∀ o : Nat, w'.cell? ⟨W.heap.size + 2, o, none⟩ = (#[.int .i64 m.1, .int .i64 m.2.1, .int .i64 m.2.2] : Array Value)[o]?) /\ Grown W w' /\ W.heap.size + 3 <= w'.heap.size) kLaid ?_
  rintro W1 ⟨a1, a2, a3, g1, z1'⟩
  have e0 := cell_past (Grown.past g1) V0.1 hlb
  have e1 := cell_past (Grown.past g1) V0.2.1 hlb
  have e2 := cell_past (Grown.past g1) V0.2.2.1 hlb
  have e3 := cell_past (Grown.past g1) V0.2.2.2 hlb
  have l0 : (0 : Int) < (vs.length : Int) := by omega
  go_upto_region 2 with fail
  refine opq (fun w' => (∀ o : Nat, w'.cell? ⟨W.heap.size, o, none⟩ = (#[.int .i64 n.op, vi, .int .i64 n.k, .int .i64 n.stride, .int .i64 n.pad, .int .i64 n.out, .int .i64 n.mul, .int .i64 n.shift, .int .i64 n.zero, .int .i64 n.th, .int .i64 n.tw, .int .i64 n.tc, (.slice (some ⟨wb, wo, none⟩) n.ws.length wc), vb] : Array Value)[o]?) /\ (∀ o : Nat, w'.cell? ⟨W.heap.size + 1, o, none⟩ = (#[.int .i64 0, .int .i64 a.v.h, sa, .int .i64 0, .int .i64 z1, sb] : Array Value)[o]?) /\ (∀ o : Nat, w'.cell? ⟨W.heap.size + 2, o, none⟩ = (#[.int .i64 m.1, .int .i64 m.2.1, .int .i64 m.2.2] : Array Value)[o]?) /\ (∀ o : Nat, w'.cell? ⟨W1.heap.size, o, none⟩ = (#[.int .i64 a.v.h, .int .i64 a.v.w, .int .i64 a.v.c, .int .i64 a.v.z] : Array Value)[o]?) /\ Grown W w' /\ W1.heap.size + 1 <= w'.heap.size) kKeep ?_
  rintro W2 ⟨b1, b2, b3, b4, g2, z2⟩
  obtain ⟨P, hP⟩ : ∃ P, W1.heap.size = P := ⟨_, rfl⟩
  rw [hP] at b4 z2 z1'
  rw [hP]
  clear a1 a2 a3 g1 e0 e1 e2 e3 hP
  go_wp2_with fail
  refine (RN.out _ g2).mono ?_
  rintro e w3 ⟨rfl, g3⟩
  obtain ⟨t1, t2, t3, t4, tg, tz⟩ : (∀ o : Nat, w3.cell? ⟨W.heap.size, o, none⟩ = (#[.int .i64 n.op, vi, .int .i64 n.k, .int .i64 n.stride, .int .i64 n.pad, .int .i64 n.out, .int .i64 n.mul, .int .i64 n.shift, .int .i64 n.zero, .int .i64 n.th, .int .i64 n.tw, .int .i64 n.tc, (.slice (some ⟨wb, wo, none⟩) n.ws.length wc), vb] : Array Value)[o]?) /\ (∀ o : Nat, w3.cell? ⟨W.heap.size + 1, o, none⟩ = (#[.int .i64 0, .int .i64 a.v.h, sa, .int .i64 0, .int .i64 z1, sb] : Array Value)[o]?) /\ (∀ o : Nat, w3.cell? ⟨W.heap.size + 2, o, none⟩ = (#[.int .i64 m.1, .int .i64 m.2.1, .int .i64 m.2.2] : Array Value)[o]?) /\ (∀ o : Nat, w3.cell? ⟨P, o, none⟩ = (#[.int .i64 a.v.h, .int .i64 a.v.w, .int .i64 a.v.c, .int .i64 a.v.z] : Array Value)[o]?) /\ Grown W w3 /\ P + 1 <= w3.heap.size := by (exact kKeep)
  clear b1 b2 b3 b4 g2 z2 g3
  have cq2 := cell_past (Grown.past tg) cq hwb
  go_wp2_with fail
  go_ret
  exact ⟨rfl, tg⟩
end Go.Proofs.YtliijchcpooplaaGreat
