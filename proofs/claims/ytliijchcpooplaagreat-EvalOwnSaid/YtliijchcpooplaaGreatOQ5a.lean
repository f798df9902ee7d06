/- The reference's number of a node, op by op. -/
import Derived.Test.YtliijchcpooplaaGreatOMKOA
import Derived.Test.YtliijchcpooplaaGreatOMKU
import Derived.Test.YtliijchcpooplaaGreatOQ3
import Derived.Test.YtliijchcpooplaaGreatOQ4
namespace Go.Proofs.YtliijchcpooplaaGreat
open Go.ChangeShapes Go.WideShapes Go.ChangeAt Go.RowKit
set_option maxRecDepth 20000
set_option linter.unusedVariables false
set_option maxHeartbeats 8000000 in
theorem rone_1 (n : NodeD) (vi vw vb : Value) (lb lo lc : Nat) (vs : List ValD) (a b : ViewD) (sa sb : Value) (z1 : Int) (m : Int × Int × Int) (y x q : Int) (c : Nat) (W : World) (h : MakeOk n vs a b m) (hin : NodeIn W n vi vw vb) (hlb : lb < W.heap.size) (hlen : 0 < vs.length) (V0 : ValAt W lb lo a.v) (na : IsNums .i8 W sa a.xs) (y0 : 0 <= y) (y1 : y < m.1) (x0 : 0 <= x) (x1 : x < m.2.1) (c1 : (c : Int) < m.2.2) (hq : Hid (q = numD n a b m y x c)) (ho : n.op = 1) : Calls Tryz.prog 43 #[.agg (nC n vi vw vb), .slice (some ⟨lb, lo, none⟩) vs.length lc, .agg #[.int .i64 0, .int .i64 a.v.h, sa, .int .i64 0, .int .i64 z1, sb], .agg #[.int .i64 m.1, .int .i64 m.2.1, .int .i64 m.2.2], .int .i64 y, .int .i64 x, .int .i64 c] W fun e w' => e = .returned (.int .i64 q) /\ Grown W w' := by
  obtain ⟨r1, r2, r3, r4, r5, r6⟩ := h.m16
  have FA := Lib.hid h.2.2.1
  have NA := Lib.hid na
  have SC := h.scaled
  obtain ⟨mn, C, em, eC, lw, lbs, mn1, mn8⟩ := conv_len h ho
  have nbb := (lens1 h ho).2.2
  have kk := (h.win (Or.inl ho) y0 y1 x0 x1)
  have hcC : c < C := by omega
  have hkk : 1 <= n.k.toNat * n.k.toNat := Nat.mul_le_mul (show 1 <= n.k.toNat by have := kk.1; omega) (show 1 <= n.k.toNat by have := kk.1; omega)
  have hm2 : a.v.c.toNat = mn := by omega
  have hw : ∀ p, p < n.k.toNat * n.k.toNat -> (c * (n.k.toNat * n.k.toNat) + p) * a.v.c.toNat + a.v.c.toNat <= n.ws.length := fun p hp => by
    rw [hm2, lw]
    have h1 : c * (n.k.toNat * n.k.toNat) + p + 1 <= C * (n.k.toNat * n.k.toNat) := by
      have := Nat.mul_le_mul_right (n.k.toNat * n.k.toNat) (show c + 1 <= C by omega)
      rw [Nat.add_mul, Nat.one_mul] at this
      omega
    have h2 := Nat.mul_le_mul_right mn h1
    rw [Nat.add_mul, Nat.one_mul] at h2
    rw [Nat.mul_right_comm (n.k.toNat * n.k.toNat) mn C, Nat.mul_comm (n.k.toNat * n.k.toNat) C]
    exact h2
  have wpos : 0 < n.ws.length := by have := hw 0 (by omega); omega
  have hcb : c < n.bs.length := by omega
  have c8 : c < 8 := by omega
  have nb0 := nbb c hcb
  have nw := hin.2.1
  have nbs := hin.2.2
  obtain ⟨Aw, wc, rfl, -⟩ := id nw
  obtain ⟨wb, wo, rfl, -⟩ := nums_parts nw wpos
  obtain ⟨Ab, bc, rfl, -⟩ := id nbs
  obtain ⟨bb, bo, rfl, -⟩ := nums_parts nbs (by omega)
  obtain ⟨acc, hacc⟩ : ∃ acc, acc = weighN n a a.v.c.toNat 0 y x c := ⟨_, rfl⟩
  have SU := Lib.hid (fun w (g : Grown W w) => rsum_1 n vi wb wo wc bb bo bc a sa y x acc c w (na.grow (Grown.past g)) h.2.2.1 (nw.grow (Grown.past g)) (nbs.grow (Grown.past g)) hcb c8 wpos nb0 ho (h.win (Or.inl ho) y0 y1 x0 x1) hw (Lib.hid hacc))
  have QS : Hid (q = scaleQ acc n.mul n.shift n.zero) := Lib.hid (by rw [hq.out, num1 ho, hacc]; rfl)
  have SQ := Lib.hid (fun w => qscale_any acc n.mul n.shift n.zero q w QS)
  have k1 : (n.op == 1) = true := by rw [ho]; decide
  have j1 : decide ((6 : Int) <= n.op) = false := by rw [ho]; decide
  have j2 : (n.op == 10) = false := by rw [ho]; decide
  have j3 : (n.op == 12) = false := by rw [ho]; decide
  clear hq hacc nw nbs hw nbb SC na hin ho
  clear em eC lw lbs hm2 hcC
  go_enter Tryz.func43, Tryz.ntmps43
  go_upto_region 1 with fail
  refine opq (fun w' => (Bx w' (W.heap.size) (nC n vi (.slice (some ⟨wb, wo, none⟩) n.ws.length wc) (.slice (some ⟨bb, bo, none⟩) n.bs.length bc))) /\ (Bx w' (W.heap.size + 1) #[.int .i64 0, .int .i64 a.v.h, sa, .int .i64 0, .int .i64 z1, sb]) /\ (Bx w' (W.heap.size + 2) #[.int .i64 m.1, .int .i64 m.2.1, .int .i64 m.2.2]) /\ Grown W w' /\ W.heap.size + 3 <= w'.heap.size) kLaid ?_
  rintro W1 ⟨a1, a2, a3, g1, z1'⟩
  have e0 := cell_past (Grown.past g1) V0.1 hlb
  have e1 := cell_past (Grown.past g1) V0.2.1 hlb
  have e2 := cell_past (Grown.past g1) V0.2.2.1 hlb
  have e3 := cell_past (Grown.past g1) V0.2.2.2 hlb
  have l0 : (0 : Int) < (vs.length : Int) := by omega
  go_upto_region 2 with fail
  refine opq (fun w' => (Bx w' (W.heap.size) (nC n vi (.slice (some ⟨wb, wo, none⟩) n.ws.length wc) (.slice (some ⟨bb, bo, none⟩) n.bs.length bc))) /\ (Bx w' (W.heap.size + 1) #[.int .i64 0, .int .i64 a.v.h, sa, .int .i64 0, .int .i64 z1, sb]) /\ (Bx w' (W.heap.size + 2) #[.int .i64 m.1, .int .i64 m.2.1, .int .i64 m.2.2]) /\ (Bx w' (W1.heap.size) #[.int .i64 a.v.h, .int .i64 a.v.w, .int .i64 a.v.c, .int .i64 a.v.z]) /\ Grown W w' /\ W1.heap.size + 1 <= w'.heap.size) kKeep ?_
  rintro W2 ⟨b1, b2, b3, b4, g2, z2⟩
  obtain ⟨P, hP⟩ : ∃ P, W1.heap.size = P := ⟨_, rfl⟩
  rw [hP] at b4 z2 z1'
  rw [hP]
  clear a1 a2 a3 g1 e0 e1 e2 e3 hP
  go_upto_region 9 with fail
  refine wp_region_fill (fun w' => (Bx w' (W.heap.size) (nC n vi (.slice (some ⟨wb, wo, none⟩) n.ws.length wc) (.slice (some ⟨bb, bo, none⟩) n.bs.length bc))) /\ (Bx w' (W.heap.size + 1) #[.int .i64 0, .int .i64 a.v.h, sa, .int .i64 0, .int .i64 z1, sb]) /\ (Bx w' (W.heap.size + 2) #[.int .i64 m.1, .int .i64 m.2.1, .int .i64 m.2.2]) /\ (Bx w' P #[.int .i64 a.v.h, .int .i64 a.v.w, .int .i64 a.v.c, .int .i64 a.v.z]) /\ Grown W w' /\ P + 1 <= w'.heap.size) [(51, ?va51), (52, ?va52), (53, ?va53), (54, ?va54), (55, ?va55), (56, ?va56), (57, ?va57), (58, ?va58), (59, ?va59), (60, ?va60), (61, ?va61), (62, ?va62), (63, ?va63), (64, ?va64), (65, ?va65), (14, ?va14)] [51, 52, 53, 54, 55, 56, 57, 58, 59, 60, 61, 62, 63, 64, 65, 14] (by kernel_rfl) (by kernel_rfl) rfl (by kernel_rfl) ⟨b1, b2, b3, b4, g2, z2⟩ (fun w h => h) ?alla ?fina
  case alla =>
    simp only [fillA, Act.put, fU1, fU2, fU3]
    iterate 16 (first | (refine owes_load rfl 44 (.tmp 7) rfl (W.heap.size) (nC n vi (.slice (some ⟨wb, wo, none⟩) n.ws.length wc) (.slice (some ⟨bb, bo, none⟩) n.bs.length bc)) rfl (fun w h => by (try go_split_ands); assumption) Tryz.underlying44 rfl N14 (by simp only [Act.put, List.setIfInBounds_toArray, List.set_cons_zero, List.set_cons_succ] <;> rfl) ?_) | (refine owes_cons (fun w hw K hK => ?_) ?_; focus ((have hS := Lib.hid hw); go_split_ands; go_simp; (try simp only [Act.put, List.setIfInBounds_toArray, List.set_cons_zero, List.set_cons_succ]); first | exact hK _ hS.out | ((first | (go_at_call 64; with_reducible refine (SU.out _ (by with_reducible assumption)).mono ?_; rintro e w1 ⟨rfl, g1⟩) | (go_at_call 63; with_reducible refine (SQ.out _).mono ?_; rintro e w1 ⟨rfl, g1⟩)); refine hK _ ?_; (exact kKeep)))))
    exact True.intro
  case fina =>
    rintro w9 ⟨_, _, _, _, qg, _⟩
    simp only [fillA, Act.put, fU1, fU2, fU3]
    clear b1 b2 b3 b4 g2
    go_wp2_with fail
    go_ret
    exact ⟨rfl, qg⟩
set_option maxHeartbeats 8000000 in
theorem rone_2 (n : NodeD) (vi vw vb : Value) (lb lo lc : Nat) (vs : List ValD) (a b : ViewD) (sa sb : Value) (z1 : Int) (m : Int × Int × Int) (y x q : Int) (c : Nat) (W : World) (h : MakeOk n vs a b m) (hin : NodeIn W n vi vw vb) (hlb : lb < W.heap.size) (hlen : 0 < vs.length) (V0 : ValAt W lb lo a.v) (na : IsNums .i8 W sa a.xs) (y0 : 0 <= y) (y1 : y < m.1) (x0 : 0 <= x) (x1 : x < m.2.1) (c1 : (c : Int) < m.2.2) (hq : Hid (q = numD n a b m y x c)) (ho : n.op = 2) : Calls Tryz.prog 43 #[.agg (nC n vi vw vb), .slice (some ⟨lb, lo, none⟩) vs.length lc, .agg #[.int .i64 0, .int .i64 a.v.h, sa, .int .i64 0, .int .i64 z1, sb], .agg #[.int .i64 m.1, .int .i64 m.2.1, .int .i64 m.2.2], .int .i64 y, .int .i64 x, .int .i64 c] W fun e w' => e = .returned (.int .i64 q) /\ Grown W w' := by
  obtain ⟨r1, r2, r3, r4, r5, r6⟩ := h.m16
  have FA := Lib.hid h.2.2.1
  have NA := Lib.hid na
  have SC := h.scaled
  obtain ⟨C, eC, lw, lbs⟩ := depth_len h ho
  have nbb := (lens2 h ho).2.2
  have kk := (h.win (Or.inr (Or.inl ho)) y0 y1 x0 x1)
  have hcC : c < C := by omega
  have hkk : 1 <= n.k.toNat * n.k.toNat := Nat.mul_le_mul (show 1 <= n.k.toNat by have := kk.1; omega) (show 1 <= n.k.toNat by have := kk.1; omega)
  have hw : ∀ p, p < n.k.toNat * n.k.toNat -> c * (n.k.toNat * n.k.toNat) + p < n.ws.length := fun p hp => by
    rw [lw, Nat.mul_one]
    have := Nat.mul_le_mul_right (n.k.toNat * n.k.toNat) (show c + 1 <= C by omega)
    rw [Nat.add_mul, Nat.one_mul] at this
    rw [Nat.mul_comm (n.k.toNat * n.k.toNat) C]
    omega
  have wpos : 0 < n.ws.length := by have := hw 0 (by omega); omega
  have hcb : c < n.bs.length := by omega
  have c8 : c < 8 := by omega
  have nb0 := nbb c hcb
  have nw := hin.2.1
  have nbs := hin.2.2
  obtain ⟨Aw, wc, rfl, -⟩ := id nw
  obtain ⟨wb, wo, rfl, -⟩ := nums_parts nw wpos
  obtain ⟨Ab, bc, rfl, -⟩ := id nbs
  obtain ⟨bb, bo, rfl, -⟩ := nums_parts nbs (by omega)
  obtain ⟨acc, hacc⟩ : ∃ acc, acc = weighN n a 1 (c : Int) y x c := ⟨_, rfl⟩
  have SU := Lib.hid (fun w (g : Grown W w) => rsum_2 n vi wb wo wc bb bo bc a sa y x acc c w (na.grow (Grown.past g)) h.2.2.1 (nw.grow (Grown.past g)) (nbs.grow (Grown.past g)) hcb c8 wpos nb0 ho (h.win (Or.inr (Or.inl ho)) y0 y1 x0 x1) hw (Lib.hid hacc))
  have QS : Hid (q = scaleQ acc n.mul n.shift n.zero) := Lib.hid (by rw [hq.out, num2 ho, hacc]; rfl)
  have SQ := Lib.hid (fun w => qscale_any acc n.mul n.shift n.zero q w QS)
  have k1 : (n.op == 1) = false := by rw [ho]; decide
  have k2 : (n.op == 2) = true := by rw [ho]; decide
  have j1 : decide ((6 : Int) <= n.op) = false := by rw [ho]; decide
  have j2 : (n.op == 10) = false := by rw [ho]; decide
  have j3 : (n.op == 12) = false := by rw [ho]; decide
  clear hq hacc nw nbs hw nbb SC na hin ho
  clear eC lw lbs hcC
  go_enter Tryz.func43, Tryz.ntmps43
  go_upto_region 1 with fail
  refine opq (fun w' => (Bx w' (W.heap.size) (nC n vi (.slice (some ⟨wb, wo, none⟩) n.ws.length wc) (.slice (some ⟨bb, bo, none⟩) n.bs.length bc))) /\ (Bx w' (W.heap.size + 1) #[.int .i64 0, .int .i64 a.v.h, sa, .int .i64 0, .int .i64 z1, sb]) /\ (Bx w' (W.heap.size + 2) #[.int .i64 m.1, .int .i64 m.2.1, .int .i64 m.2.2]) /\ Grown W w' /\ W.heap.size + 3 <= w'.heap.size) kLaid ?_
  rintro W1 ⟨a1, a2, a3, g1, z1'⟩
  have e0 := cell_past (Grown.past g1) V0.1 hlb
  have e1 := cell_past (Grown.past g1) V0.2.1 hlb
  have e2 := cell_past (Grown.past g1) V0.2.2.1 hlb
  have e3 := cell_past (Grown.past g1) V0.2.2.2 hlb
  have l0 : (0 : Int) < (vs.length : Int) := by omega
  go_upto_region 2 with fail
  refine opq (fun w' => (Bx w' (W.heap.size) (nC n vi (.slice (some ⟨wb, wo, none⟩) n.ws.length wc) (.slice (some ⟨bb, bo, none⟩) n.bs.length bc))) /\ (Bx w' (W.heap.size + 1) #[.int .i64 0, .int .i64 a.v.h, sa, .int .i64 0, .int .i64 z1, sb]) /\ (Bx w' (W.heap.size + 2) #[.int .i64 m.1, .int .i64 m.2.1, .int .i64 m.2.2]) /\ (Bx w' (W1.heap.size) #[.int .i64 a.v.h, .int .i64 a.v.w, .int .i64 a.v.c, .int .i64 a.v.z]) /\ Grown W w' /\ W1.heap.size + 1 <= w'.heap.size) kKeep ?_
  rintro W2 ⟨b1, b2, b3, b4, g2, z2⟩
  obtain ⟨P, hP⟩ : ∃ P, W1.heap.size = P := ⟨_, rfl⟩
  rw [hP] at b4 z2 z1'
  rw [hP]
  clear a1 a2 a3 g1 e0 e1 e2 e3 hP
  go_upto_region 9 with fail
  refine wp_region_fill (fun w' => (Bx w' (W.heap.size) (nC n vi (.slice (some ⟨wb, wo, none⟩) n.ws.length wc) (.slice (some ⟨bb, bo, none⟩) n.bs.length bc))) /\ (Bx w' (W.heap.size + 1) #[.int .i64 0, .int .i64 a.v.h, sa, .int .i64 0, .int .i64 z1, sb]) /\ (Bx w' (W.heap.size + 2) #[.int .i64 m.1, .int .i64 m.2.1, .int .i64 m.2.2]) /\ (Bx w' P #[.int .i64 a.v.h, .int .i64 a.v.w, .int .i64 a.v.c, .int .i64 a.v.z]) /\ Grown W w' /\ P + 1 <= w'.heap.size) [(51, ?va51), (52, ?va52), (53, ?va53), (54, ?va54), (55, ?va55), (56, ?va56), (57, ?va57), (58, ?va58), (59, ?va59), (60, ?va60), (61, ?va61), (62, ?va62), (63, ?va63), (64, ?va64), (65, ?va65), (14, ?va14)] [51, 52, 53, 54, 55, 56, 57, 58, 59, 60, 61, 62, 63, 64, 65, 14] (by kernel_rfl) (by kernel_rfl) rfl (by kernel_rfl) ⟨b1, b2, b3, b4, g2, z2⟩ (fun w h => h) ?alla ?fina
  case alla =>
    simp only [fillA, Act.put, fU1, fU2, fU3]
    iterate 16 (first | (refine owes_load rfl 44 (.tmp 7) rfl (W.heap.size) (nC n vi (.slice (some ⟨wb, wo, none⟩) n.ws.length wc) (.slice (some ⟨bb, bo, none⟩) n.bs.length bc)) rfl (fun w h => by (try go_split_ands); assumption) Tryz.underlying44 rfl N14 (by simp only [Act.put, List.setIfInBounds_toArray, List.set_cons_zero, List.set_cons_succ] <;> rfl) ?_) | (refine owes_cons (fun w hw K hK => ?_) ?_; focus ((have hS := Lib.hid hw); go_split_ands; go_simp; (try simp only [Act.put, List.setIfInBounds_toArray, List.set_cons_zero, List.set_cons_succ]); first | exact hK _ hS.out | ((first | (go_at_call 64; with_reducible refine (SU.out _ (by with_reducible assumption)).mono ?_; rintro e w1 ⟨rfl, g1⟩) | (go_at_call 63; with_reducible refine (SQ.out _).mono ?_; rintro e w1 ⟨rfl, g1⟩)); refine hK _ ?_; (exact kKeep)))))
    exact True.intro
  case fina =>
    rintro w9 ⟨_, _, _, _, qg, _⟩
    simp only [fillA, Act.put, fU1, fU2, fU3]
    clear b1 b2 b3 b4 g2
    go_wp2_with fail
    go_ret
    exact ⟨rfl, qg⟩
set_option maxHeartbeats 8000000 in
theorem rone_3 (n : NodeD) (vi vw vb : Value) (lb lo lc : Nat) (vs : List ValD) (a b : ViewD) (sa sb : Value) (z1 : Int) (m : Int × Int × Int) (y x q : Int) (c : Nat) (W : World) (h : MakeOk n vs a b m) (hin : NodeIn W n vi vw vb) (hlb : lb < W.heap.size) (hlen : 0 < vs.length) (V0 : ValAt W lb lo a.v) (na : IsNums .i8 W sa a.xs) (y0 : 0 <= y) (y1 : y < m.1) (x0 : 0 <= x) (x1 : x < m.2.1) (c1 : (c : Int) < m.2.2) (hq : Hid (q = numD n a b m y x c)) (ho : n.op = 3) : Calls Tryz.prog 43 #[.agg (nC n vi vw vb), .slice (some ⟨lb, lo, none⟩) vs.length lc, .agg #[.int .i64 0, .int .i64 a.v.h, sa, .int .i64 0, .int .i64 z1, sb], .agg #[.int .i64 m.1, .int .i64 m.2.1, .int .i64 m.2.2], .int .i64 y, .int .i64 x, .int .i64 c] W fun e w' => e = .returned (.int .i64 q) /\ Grown W w' := by
  obtain ⟨r1, r2, r3, r4, r5, r6⟩ := h.m16
  have FA := Lib.hid h.2.2.1
  have NA := Lib.hid na
  have SC := h.scaled
  obtain ⟨l1, l2, nbb⟩ := lens3 h ho
  have FL := h.2.2.1.len
  obtain ⟨C, eC⟩ : ∃ C : Nat, m.2.2 = C := ⟨m.2.2.toNat, by omega⟩
  have lbs : n.bs.length = C := by omega
  have hcC : c < C := by omega
  have lw : n.ws.length = a.xs.length * C := by
    rw [<- h.2.2.1.2.2.2.2.1, eC] at l1
    exact_mod_cast l1
  have hw : (c + 1) * a.xs.length <= n.ws.length := by
    rw [lw, Nat.mul_comm a.xs.length C]
    exact Nat.mul_le_mul_right _ (by omega)
  have wpos : 0 < n.ws.length := by rw [lw]; exact Nat.mul_pos FL.1 (by omega)
  have lw2 : n.ws.length <= 100000 := by
    rw [lw]
    exact Nat.le_trans (Nat.mul_le_mul FL.2 (show C <= 8 by omega)) (by omega)
  have hcb : c < n.bs.length := by omega
  have c8 : c < 8 := by omega
  have nb0 := nbb c hcb
  have nw := hin.2.1
  have nbs := hin.2.2
  obtain ⟨Aw, wc, rfl, -⟩ := id nw
  obtain ⟨wb, wo, rfl, -⟩ := nums_parts nw wpos
  obtain ⟨Ab, bc, rfl, -⟩ := id nbs
  obtain ⟨bb, bo, rfl, -⟩ := nums_parts nbs (by omega)
  obtain ⟨acc, hacc⟩ : ∃ acc, acc = wholeN n a c := ⟨_, rfl⟩
  have SU := Lib.hid (fun w (g : Grown W w) => rsum_3 n vi wb wo wc bb bo bc a sa y x acc c w (na.grow (Grown.past g)) h.2.2.1 (nw.grow (Grown.past g)) (nbs.grow (Grown.past g)) hcb c8 wpos nb0 ho hw lw2 (Lib.hid hacc))
  have QS : Hid (q = scaleQ acc n.mul n.shift n.zero) := Lib.hid (by rw [hq.out, num3 ho, hacc]; rfl)
  have SQ := Lib.hid (fun w => qscale_any acc n.mul n.shift n.zero q w QS)
  have k1 : (n.op == 1) = false := by rw [ho]; decide
  have k2 : (n.op == 2) = false := by rw [ho]; decide
  have k3 : (n.op == 3) = true := by rw [ho]; decide
  have j1 : decide ((6 : Int) <= n.op) = false := by rw [ho]; decide
  have j2 : (n.op == 10) = false := by rw [ho]; decide
  have j3 : (n.op == 12) = false := by rw [ho]; decide
  clear hq hacc nw nbs hw nbb SC na hin ho
  clear l1 l2 eC lbs lw hcC
  go_enter Tryz.func43, Tryz.ntmps43
  go_upto_region 1 with fail
  refine opq (fun w' => (Bx w' (W.heap.size) (nC n vi (.slice (some ⟨wb, wo, none⟩) n.ws.length wc) (.slice (some ⟨bb, bo, none⟩) n.bs.length bc))) /\ (Bx w' (W.heap.size + 1) #[.int .i64 0, .int .i64 a.v.h, sa, .int .i64 0, .int .i64 z1, sb]) /\ (Bx w' (W.heap.size + 2) #[.int .i64 m.1, .int .i64 m.2.1, .int .i64 m.2.2]) /\ Grown W w' /\ W.heap.size + 3 <= w'.heap.size) kLaid ?_
  rintro W1 ⟨a1, a2, a3, g1, z1'⟩
  have e0 := cell_past (Grown.past g1) V0.1 hlb
  have e1 := cell_past (Grown.past g1) V0.2.1 hlb
  have e2 := cell_past (Grown.past g1) V0.2.2.1 hlb
  have e3 := cell_past (Grown.past g1) V0.2.2.2 hlb
  have l0 : (0 : Int) < (vs.length : Int) := by omega
  go_upto_region 2 with fail
  refine opq (fun w' => (Bx w' (W.heap.size) (nC n vi (.slice (some ⟨wb, wo, none⟩) n.ws.length wc) (.slice (some ⟨bb, bo, none⟩) n.bs.length bc))) /\ (Bx w' (W.heap.size + 1) #[.int .i64 0, .int .i64 a.v.h, sa, .int .i64 0, .int .i64 z1, sb]) /\ (Bx w' (W.heap.size + 2) #[.int .i64 m.1, .int .i64 m.2.1, .int .i64 m.2.2]) /\ (Bx w' (W1.heap.size) #[.int .i64 a.v.h, .int .i64 a.v.w, .int .i64 a.v.c, .int .i64 a.v.z]) /\ Grown W w' /\ W1.heap.size + 1 <= w'.heap.size) kKeep ?_
  rintro W2 ⟨b1, b2, b3, b4, g2, z2⟩
  obtain ⟨P, hP⟩ : ∃ P, W1.heap.size = P := ⟨_, rfl⟩
  rw [hP] at b4 z2 z1'
  rw [hP]
  clear a1 a2 a3 g1 e0 e1 e2 e3 hP
  go_upto_region 9 with fail
  refine wp_region_fill (fun w' => (Bx w' (W.heap.size) (nC n vi (.slice (some ⟨wb, wo, none⟩) n.ws.length wc) (.slice (some ⟨bb, bo, none⟩) n.bs.length bc))) /\ (Bx w' (W.heap.size + 1) #[.int .i64 0, .int .i64 a.v.h, sa, .int .i64 0, .int .i64 z1, sb]) /\ (Bx w' (W.heap.size + 2) #[.int .i64 m.1, .int .i64 m.2.1, .int .i64 m.2.2]) /\ (Bx w' P #[.int .i64 a.v.h, .int .i64 a.v.w, .int .i64 a.v.c, .int .i64 a.v.z]) /\ Grown W w' /\ P + 1 <= w'.heap.size) [(51, ?va51), (52, ?va52), (53, ?va53), (54, ?va54), (55, ?va55), (56, ?va56), (57, ?va57), (58, ?va58), (59, ?va59), (60, ?va60), (61, ?va61), (62, ?va62), (63, ?va63), (64, ?va64), (65, ?va65), (14, ?va14)] [51, 52, 53, 54, 55, 56, 57, 58, 59, 60, 61, 62, 63, 64, 65, 14] (by kernel_rfl) (by kernel_rfl) rfl (by kernel_rfl) ⟨b1, b2, b3, b4, g2, z2⟩ (fun w h => h) ?alla ?fina
  case alla =>
    simp only [fillA, Act.put, fU1, fU2, fU3]
    iterate 16 (first | (refine owes_load rfl 44 (.tmp 7) rfl (W.heap.size) (nC n vi (.slice (some ⟨wb, wo, none⟩) n.ws.length wc) (.slice (some ⟨bb, bo, none⟩) n.bs.length bc)) rfl (fun w h => by (try go_split_ands); assumption) Tryz.underlying44 rfl N14 (by simp only [Act.put, List.setIfInBounds_toArray, List.set_cons_zero, List.set_cons_succ] <;> rfl) ?_) | (refine owes_cons (fun w hw K hK => ?_) ?_; focus ((have hS := Lib.hid hw); go_split_ands; go_simp; (try simp only [Act.put, List.setIfInBounds_toArray, List.set_cons_zero, List.set_cons_succ]); first | exact hK _ hS.out | ((first | (go_at_call 64; with_reducible refine (SU.out _ (by with_reducible assumption)).mono ?_; rintro e w1 ⟨rfl, g1⟩) | (go_at_call 63; with_reducible refine (SQ.out _).mono ?_; rintro e w1 ⟨rfl, g1⟩)); refine hK _ ?_; (exact kKeep)))))
    exact True.intro
  case fina =>
    rintro w9 ⟨_, _, _, _, qg, _⟩
    simp only [fillA, Act.put, fU1, fU2, fU3]
    clear b1 b2 b3 b4 g2
    go_wp2_with fail
    go_ret
    exact ⟨rfl, qg⟩
set_option maxHeartbeats 8000000 in
theorem rone_4 (n : NodeD) (vi vw vb : Value) (lb lo lc : Nat) (vs : List ValD) (a b : ViewD) (sa sb : Value) (z1 : Int) (m : Int × Int × Int) (y x q : Int) (c : Nat) (W : World) (h : MakeOk n vs a b m) (hin : NodeIn W n vi vw vb) (hlb : lb < W.heap.size) (hlen : 0 < vs.length) (V0 : ValAt W lb lo a.v) (na : IsNums .i8 W sa a.xs) (y0 : 0 <= y) (y1 : y < m.1) (x0 : 0 <= x) (x1 : x < m.2.1) (c1 : (c : Int) < m.2.2) (hq : Hid (q = numD n a b m y x c)) (ho : n.op = 4) : Calls Tryz.prog 43 #[.agg (nC n vi vw vb), .slice (some ⟨lb, lo, none⟩) vs.length lc, .agg #[.int .i64 0, .int .i64 a.v.h, sa, .int .i64 0, .int .i64 z1, sb], .agg #[.int .i64 m.1, .int .i64 m.2.1, .int .i64 m.2.2], .int .i64 y, .int .i64 x, .int .i64 c] W fun e w' => e = .returned (.int .i64 q) /\ Grown W w' := by
  obtain ⟨r1, r2, r3, r4, r5, r6⟩ := h.m16
  have FA := Lib.hid h.2.2.1
  have NA := Lib.hid na
  have SC := h.scaled
  have kk := (h.win (Or.inr (Or.inr (Or.inl ho))) y0 y1 x0 x1)
  have hp : n.pad = 0 := by
    have s := (value_parts h.1).1.2.2.2.2
    obtain ⟨⟨_, _, ⟨p1, p2⟩, _⟩, _⟩ := s
    rw [ho] at p1 p2
    have d1 : (opD 4).p1 = 0 := by decide
    have d2 : (opD 4).p2 = 0 := by decide
    omega
  have PO := Lib.hid (fun w (g : Grown W w) => rpool_any n vi vw vb a sa y x c q w (NA.out.grow (Grown.past g)) FA.out kk hp true (by rw [ho]; decide) (Lib.hid (by rw [hq.out, num4 ho]; rfl)))
  have k1 : (n.op == 1) = false := by rw [ho]; decide
  have k2 : (n.op == 2) = false := by rw [ho]; decide
  have k3 : (n.op == 3) = false := by rw [ho]; decide
  have k4 : (n.op == 4) = true := by rw [ho]; decide
  have j1 : decide ((6 : Int) <= n.op) = false := by rw [ho]; decide
  have j2 : (n.op == 10) = false := by rw [ho]; decide
  have j3 : (n.op == 12) = false := by rw [ho]; decide
  clear hq SC na hin kk hp ho
  go_enter Tryz.func43, Tryz.ntmps43
  go_upto_region 1 with fail
  refine opq (fun w' => (Bx w' (W.heap.size) (nC n vi vw vb)) /\ (Bx w' (W.heap.size + 1) #[.int .i64 0, .int .i64 a.v.h, sa, .int .i64 0, .int .i64 z1, sb]) /\ (Bx w' (W.heap.size + 2) #[.int .i64 m.1, .int .i64 m.2.1, .int .i64 m.2.2]) /\ Grown W w' /\ W.heap.size + 3 <= w'.heap.size) kLaid ?_
  rintro W1 ⟨a1, a2, a3, g1, z1'⟩
  have e0 := cell_past (Grown.past g1) V0.1 hlb
  have e1 := cell_past (Grown.past g1) V0.2.1 hlb
  have e2 := cell_past (Grown.past g1) V0.2.2.1 hlb
  have e3 := cell_past (Grown.past g1) V0.2.2.2 hlb
  have l0 : (0 : Int) < (vs.length : Int) := by omega
  go_upto_region 2 with fail
  refine opq (fun w' => (Bx w' (W.heap.size) (nC n vi vw vb)) /\ (Bx w' (W.heap.size + 1) #[.int .i64 0, .int .i64 a.v.h, sa, .int .i64 0, .int .i64 z1, sb]) /\ (Bx w' (W.heap.size + 2) #[.int .i64 m.1, .int .i64 m.2.1, .int .i64 m.2.2]) /\ (Bx w' (W1.heap.size) #[.int .i64 a.v.h, .int .i64 a.v.w, .int .i64 a.v.c, .int .i64 a.v.z]) /\ Grown W w' /\ W1.heap.size + 1 <= w'.heap.size) kKeep ?_
  rintro W2 ⟨b1, b2, b3, b4, g2, z2⟩
  obtain ⟨P, hP⟩ : ∃ P, W1.heap.size = P := ⟨_, rfl⟩
  rw [hP] at b4 z2 z1'
  rw [hP]
  clear a1 a2 a3 g1 e0 e1 e2 e3 hP
  go_wp2_with fail
  refine (PO.out _ g2).mono ?_
  rintro e w9 ⟨rfl, g9⟩
  go_wp2_with fail
  go_ret
  exact ⟨rfl, grown_trans g2 g9⟩
set_option maxHeartbeats 8000000 in
theorem rone_5 (n : NodeD) (vi vw vb : Value) (lb lo lc : Nat) (vs : List ValD) (a b : ViewD) (sa sb : Value) (z1 : Int) (m : Int × Int × Int) (y x q : Int) (c : Nat) (W : World) (h : MakeOk n vs a b m) (hin : NodeIn W n vi vw vb) (hlb : lb < W.heap.size) (hlen : 0 < vs.length) (V0 : ValAt W lb lo a.v) (na : IsNums .i8 W sa a.xs) (y0 : 0 <= y) (y1 : y < m.1) (x0 : 0 <= x) (x1 : x < m.2.1) (c1 : (c : Int) < m.2.2) (hq : Hid (q = numD n a b m y x c)) (ho : n.op = 5) : Calls Tryz.prog 43 #[.agg (nC n vi vw vb), .slice (some ⟨lb, lo, none⟩) vs.length lc, .agg #[.int .i64 0, .int .i64 a.v.h, sa, .int .i64 0, .int .i64 z1, sb], .agg #[.int .i64 m.1, .int .i64 m.2.1, .int .i64 m.2.2], .int .i64 y, .int .i64 x, .int .i64 c] W fun e w' => e = .returned (.int .i64 q) /\ Grown W w' := by
  obtain ⟨r1, r2, r3, r4, r5, r6⟩ := h.m16
  have FA := Lib.hid h.2.2.1
  have NA := Lib.hid na
  have SC := h.scaled
  have kk := (h.win (Or.inr (Or.inr (Or.inr ho))) y0 y1 x0 x1)
  have hp : n.pad = 0 := by
    have s := (value_parts h.1).1.2.2.2.2
    obtain ⟨⟨_, _, ⟨p1, p2⟩, _⟩, _⟩ := s
    rw [ho] at p1 p2
    have d1 : (opD 5).p1 = 0 := by decide
    have d2 : (opD 5).p2 = 0 := by decide
    omega
  have PO := Lib.hid (fun w (g : Grown W w) => rpool_any n vi vw vb a sa y x c q w (NA.out.grow (Grown.past g)) FA.out kk hp false (by rw [ho]; decide) (Lib.hid (by rw [hq.out, num5 ho]; rfl)))
  have k1 : (n.op == 1) = false := by rw [ho]; decide
  have k2 : (n.op == 2) = false := by rw [ho]; decide
  have k3 : (n.op == 3) = false := by rw [ho]; decide
  have k4 : (n.op == 4) = false := by rw [ho]; decide
  have k5 : (n.op == 5) = true := by rw [ho]; decide
  have j1 : decide ((6 : Int) <= n.op) = false := by rw [ho]; decide
  have j2 : (n.op == 10) = false := by rw [ho]; decide
  have j3 : (n.op == 12) = false := by rw [ho]; decide
  clear hq SC na hin kk hp ho
  go_enter Tryz.func43, Tryz.ntmps43
  go_upto_region 1 with fail
  refine opq (fun w' => (Bx w' (W.heap.size) (nC n vi vw vb)) /\ (Bx w' (W.heap.size + 1) #[.int .i64 0, .int .i64 a.v.h, sa, .int .i64 0, .int .i64 z1, sb]) /\ (Bx w' (W.heap.size + 2) #[.int .i64 m.1, .int .i64 m.2.1, .int .i64 m.2.2]) /\ Grown W w' /\ W.heap.size + 3 <= w'.heap.size) kLaid ?_
  rintro W1 ⟨a1, a2, a3, g1, z1'⟩
  have e0 := cell_past (Grown.past g1) V0.1 hlb
  have e1 := cell_past (Grown.past g1) V0.2.1 hlb
  have e2 := cell_past (Grown.past g1) V0.2.2.1 hlb
  have e3 := cell_past (Grown.past g1) V0.2.2.2 hlb
  have l0 : (0 : Int) < (vs.length : Int) := by omega
  go_upto_region 2 with fail
  refine opq (fun w' => (Bx w' (W.heap.size) (nC n vi vw vb)) /\ (Bx w' (W.heap.size + 1) #[.int .i64 0, .int .i64 a.v.h, sa, .int .i64 0, .int .i64 z1, sb]) /\ (Bx w' (W.heap.size + 2) #[.int .i64 m.1, .int .i64 m.2.1, .int .i64 m.2.2]) /\ (Bx w' (W1.heap.size) #[.int .i64 a.v.h, .int .i64 a.v.w, .int .i64 a.v.c, .int .i64 a.v.z]) /\ Grown W w' /\ W1.heap.size + 1 <= w'.heap.size) kKeep ?_
  rintro W2 ⟨b1, b2, b3, b4, g2, z2⟩
  obtain ⟨P, hP⟩ : ∃ P, W1.heap.size = P := ⟨_, rfl⟩
  rw [hP] at b4 z2 z1'
  rw [hP]
  clear a1 a2 a3 g1 e0 e1 e2 e3 hP
  go_wp2_with fail
  refine (PO.out _ g2).mono ?_
  rintro e w9 ⟨rfl, g9⟩
  go_wp2_with fail
  go_ret
  exact ⟨rfl, grown_trans g2 g9⟩
end Go.Proofs.YtliijchcpooplaaGreat
