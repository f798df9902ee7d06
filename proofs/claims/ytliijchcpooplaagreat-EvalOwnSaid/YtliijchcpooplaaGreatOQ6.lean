/- The reference's number of any op, and a row. -/
import Derived.Test.YtliijchcpooplaaGreatOMKV1
import Derived.Test.YtliijchcpooplaaGreatOMKZ
import Derived.Test.YtliijchcpooplaaGreatOMR3D
import Derived.Test.YtliijchcpooplaaGreatOQ5a
import Derived.Test.YtliijchcpooplaaGreatOQ5b
namespace Go.Proofs.YtliijchcpooplaaGreat
open Go.ChangeShapes Go.WideShapes Go.ChangeAt Go.RowKit
set_option maxRecDepth 20000
set_option linter.unusedVariables false
set_option linter.unusedSimpArgs false
theorem rone_any (n : NodeD) (vi vw vb : Value) (lb lo lc : Nat) (vs : List ValD) (a b : ViewD) (sa sb : Value) (z1 : Int) (m : Int × Int × Int) (y x q : Int) (c : Nat) (W : World) (h : MakeOk n vs a b m) (hin : NodeIn W n vi vw vb) (hlb : lb < W.heap.size) (hlen : 0 < vs.length) (V0 : ValAt W lb lo a.v) (na : IsNums .i8 W sa a.xs) (y0 : 0 <= y) (y1 : y < m.1) (x0 : 0 <= x) (x1 : x < m.2.1) (c1 : (c : Int) < m.2.2) (hq : Hid (q = numD n a b m y x c)) (hp : (n.op = 6 ∨ n.op = 7 ∨ n.op = 10) -> vs.length = 2 /\ ValAt W lb (lo + 4) b.v /\ IsNums .i8 W sb b.xs /\ z1 = b.v.h) : Calls Tryz.prog 43 #[.agg (nC n vi vw vb), .slice (some ⟨lb, lo, none⟩) vs.length lc, .agg #[.int .i64 0, .int .i64 a.v.h, sa, .int .i64 0, .int .i64 z1, sb], .agg #[.int .i64 m.1, .int .i64 m.2.1, .int .i64 m.2.2], .int .i64 y, .int .i64 x, .int .i64 c] W fun e w' => e = .returned (.int .i64 q) /\ Grown W w' := by
  have ho := (value_parts h.1).1.1
  unfold hasOp at ho
  rcases (show n.op = 1 ∨ n.op = 2 ∨ n.op = 3 ∨ n.op = 4 ∨ n.op = 5 ∨ n.op = 6 ∨ n.op = 7 ∨ n.op = 8 ∨ n.op = 9 ∨ n.op = 10 ∨ n.op = 11 ∨ n.op = 12 by omega) with o | o | o | o | o | o | o | o | o | o | o | o
  . exact rone_1 n vi vw vb lb lo lc vs a b sa sb z1 m y x q c W h hin hlb hlen V0 na y0 y1 x0 x1 c1 hq o
  . exact rone_2 n vi vw vb lb lo lc vs a b sa sb z1 m y x q c W h hin hlb hlen V0 na y0 y1 x0 x1 c1 hq o
  . exact rone_3 n vi vw vb lb lo lc vs a b sa sb z1 m y x q c W h hin hlb hlen V0 na y0 y1 x0 x1 c1 hq o
  . exact rone_4 n vi vw vb lb lo lc vs a b sa sb z1 m y x q c W h hin hlb hlen V0 na y0 y1 x0 x1 c1 hq o
  . exact rone_5 n vi vw vb lb lo lc vs a b sa sb z1 m y x q c W h hin hlb hlen V0 na y0 y1 x0 x1 c1 hq o
  . obtain ⟨l2, V1, nb, rfl⟩ := hp (Or.inl o)
    exact rone_6 n vi vw vb lb lo lc vs a b sa sb m y x q c W h hin hlb hlen V0 na y0 y1 x0 x1 c1 hq l2 V1 nb o
  . obtain ⟨l2, V1, nb, rfl⟩ := hp (Or.inr (Or.inl o))
    exact rone_7 n vi vw vb lb lo lc vs a b sa sb m y x q c W h hin hlb hlen V0 na y0 y1 x0 x1 c1 hq l2 V1 nb o
  . exact rone_8 n vi vw vb lb lo lc vs a b sa sb z1 m y x q c W h hin hlb hlen V0 na y0 y1 x0 x1 c1 hq o
  . exact rone_9 n vi vw vb lb lo lc vs a b sa sb z1 m y x q c W h hin hlb hlen V0 na y0 y1 x0 x1 c1 hq o
  . obtain ⟨l2, V1, nb, rfl⟩ := hp (Or.inr (Or.inr o))
    by_cases hc : a.v.c <= (c : Int)
    . exact rone_10h n vi vw vb lb lo lc vs a b sa sb m y x q c W h hin hlb hlen V0 na y0 y1 x0 x1 c1 hq l2 V1 nb o hc
    . exact rone_10l n vi vw vb lb lo lc vs a b sa sb m y x q c W h hin hlb hlen V0 na y0 y1 x0 x1 c1 hq l2 V1 nb o hc
  . exact rone_11 n vi vw vb lb lo lc vs a b sa sb z1 m y x q c W h hin hlb hlen V0 na y0 y1 x0 x1 c1 hq o
  . exact rone_12 n vi vw vb lb lo lc vs a b sa sb z1 m y x q c W h hin hlb hlen V0 na y0 y1 x0 x1 c1 hq o
theorem own8_new {w : World} {base : Nat} (hb : base <= w.heap.size) : Own8 (w.alloc (.cells #[] 35)) base (.slice (some ⟨w.heap.size, 0, none⟩) 0 0) [] := World.ownsRow_lit w #[] 0 hb (by decide) (by simp)
theorem rvalue_is {n : NodeD} {vi vw vb lv : Value} {vs : List ValD} {m : Int × Int × Int} {W : World} (hin : NodeIn W n vi vw vb) (hv : IsVals W lv vs) (h0 : valueE n vs = 0) (hm : m = madeS n vs) :
    Calls Tryz.prog 22 #[.agg (nC n vi vw vb), lv] W fun e w' => e = .returned (.tuple #[.agg #[.int .i64 m.1, .int .i64 m.2.1, .int .i64 m.2.2, .int .i64 n.zero], .int .i64 0]) /\ Grown W w' := by
  have k := rvalue_any n vi vw vb lv vs W hin hv
  unfold ValuePost at k
  rw [valueV_mk h0, h0, <- hm] at k
  exact k
theorem needs_is {n : NodeD} {vs : List ValD} {y : Int} (h0 : valueE n vs = 0) (y0 : 0 <= y) (y1 : y < (madeS n vs).1) : needsD n vs y 1 = (looksD n (vs.getD 0 default).h y 1, (if vs.length = 2 then looksD n (vs.getD 1 default).h y 1 else (0, 0)), 0) := by
  unfold needsD
  rw [if_neg (fun f => f h0), if_neg (fun f => f ⟨y0, by omega, by omega⟩)]
theorem rowL_bd {n : NodeD} {vs : List ValD} {a b : ViewD} {m : Int × Int × Int} (h : MakeOk n vs a b m) (hw : ∀ k, -128 <= n.ws.getD k 0 /\ n.ws.getD k 0 <= 127) {y : Int} (y0 : 0 <= y) (y1 : y < m.1) {X C : Nat} (hX : m.2.1 = X) (hC : m.2.2 = C) : ∀ u ∈ rowL n a b m y (X * C), -128 <= u /\ u <= 127 := by
  intro u hu
  have hCN : m.2.2.toNat = C := by rw [hC]; rfl
  simp only [rowL, List.mem_map, List.mem_range] at hu
  obtain ⟨i, hi, rfl⟩ := hu
  have hxi : i / C < X := Nat.div_lt_of_lt_mul (by rw [Nat.mul_comm]; exact hi)
  unfold rowF
  rw [hCN]
  obtain ⟨j, hj⟩ : ∃ j, i / C = j := ⟨_, rfl⟩
  rw [hj] at hxi ⊢
  exact numD_bd h hw y0 y1 (by omega) (by omega) _
set_option maxHeartbeats 8000000 in
theorem rRow_1 (n : NodeD) (vi vw vb lv : Value) (m : Int × Int × Int) (a : ViewD) (sa : Value) (vs : List ValD) (y : Int) (W : World) (h : MakeOk n vs a (⟨⟨0, 0, 0, 0⟩, 0, 0, []⟩ : ViewD) m) (hlen : vs.length = 1) (y0 : 0 <= y) (y1 : y < m.1) (hin : NodeIn W n vi vw vb) (hl : IsVals W lv vs) (na : IsNums .i8 W sa a.xs) :
    Calls Tryz.prog 28 #[.agg (nC n vi vw vb), lv, .agg #[.int .i64 0, .int .i64 a.v.h, sa, .int .i64 0, .int .i64 0, .slice none 0 0], .int .i64 y] W fun e w' => ∃ v, e = .returned (.tuple #[v, .int .i64 0]) /\ IsNums .i8 w' v (rowL n a (⟨⟨0, 0, 0, 0⟩, 0, 0, []⟩ : ViewD) m y (m.2.1.toNat * m.2.2.toNat)) /\ Past W w' := by
  have HW := Lib.hid (fun k => nums_i8 hin.2.1 k)
  have H := Lib.hid h
  obtain ⟨m1, m2, m3, m4, m5, m6⟩ := h.m16
  obtain ⟨X, hX⟩ : ∃ X : Nat, m.2.1 = X := ⟨m.2.1.toNat, by omega⟩
  obtain ⟨C, hC⟩ : ∃ C : Nat, m.2.2 = C := ⟨m.2.2.toNat, by omega⟩
  have hXn : m.2.1.toNat = X := by rw [hX]; rfl
  have hCn : m.2.2.toNat = C := by rw [hC]; rfl
  have X16 : X <= 16 := by omega
  have C8 : C <= 8 := by omega
  rw [hXn, hCn]
  have HX := Lib.hid hX
  have HC := Lib.hid hC
  have HCN := Lib.hid hCn
  have yb : y <= 16 := by omega
  have ND := Lib.hid (fun w (g : Past W w) => rneeds_any n vi vw vb lv vs y 1 w (hin.grow g) (hl.grow g) (by omega))
  have VV := Lib.hid (fun w (g : Past W w) => rvalue_is (hin.grow g) (hl.grow g) h.1 h.2.1)
  have hym : y < (madeS n vs).1 := by rw [<- h.2.1]; exact y1
  have L0 := looks_in h.1 y0 hym (j := 0) (by omega)
  have ne := needs_is h.1 y0 hym
  obtain ⟨s0, hs0⟩ : ∃ z, (looksD n (vs.getD 0 default).h y 1).1 = z := ⟨_, rfl⟩
  obtain ⟨t0, ht0⟩ : ∃ z, (looksD n (vs.getD 0 default).h y 1).2 = z := ⟨_, rfl⟩
  rw [hs0, ht0] at L0
  have e0 : looksD n (vs.getD 0 default).h y 1 = (s0, t0) := by rw [<- hs0, <- ht0]
  rw [e0] at ne
  rw [<- h.2.2.2.1] at L0
  obtain ⟨s1, hs1⟩ : ∃ z : Int, (0 : Int) = z := ⟨_, rfl⟩
  obtain ⟨t1, ht1⟩ : ∃ z : Int, (0 : Int) = z := ⟨_, rfl⟩
  rw [if_neg (by omega)] at ne
  replace ne : needsD n vs y 1 = ((s0, t0), (s1, t1), 0) := by rw [ne, <- hs1, <- ht1]
  have NE := Lib.hid ne
  have F0 := Lib.hid (fun w (g : Past W w) => rfits_any a sa s0 t0 w (na.grow g) h.2.2.1 L0)
  have EA := Lib.hid h.2.2.2.1
  have HL := Lib.hid hlen
  have NA := Lib.hid na
  have IN := Lib.hid hin
  obtain ⟨Ai, ci, rfl, -⟩ := hin.1
  obtain ⟨Aw, cw, rfl, -⟩ := hin.2.1
  obtain ⟨Ab, cb, rfl, -⟩ := hin.2.2
  obtain ⟨A2, c2, rfl, -⟩ := na
  obtain ⟨A1, lc, rfl, a1, a2, _, _, a5⟩ := hl
  obtain ⟨lb, lo, rfl, hlb, hlc⟩ := a5 (by omega)
  have HLC := Lib.hid hlc
  have k1 : vs.length <= 9223372036854775807 := by omega
  obtain ⟨i0, hi0, hz0, hz1, hz2⟩ := info_parts infoI8
  have I1 := Lib.hid hi0
  have I2 := Lib.hid hz0
  have I3 := Lib.hid hz1
  have I4 := Lib.hid hz2
  clear hi0 hz0 hz1 hz2 h hlen hin hX hC hXn hCn m1 m2 m3 m4 m5 m6 hym ne L0 hs0 ht0 e0 a5 hlc a2 hs1 ht1
  go_enter Tryz.func28, Tryz.ntmps28
  go_upto_region 1 with fail
  refine opq (fun w' => (Bx w' (W.heap.size) (nC n (.slice Ai n.ins.length ci) (.slice Aw n.ws.length cw) (.slice Ab n.bs.length cb))) /\ (Bx w' (W.heap.size + 1) #[.int .i64 0, .int .i64 a.v.h, (.slice A2 a.xs.length c2), .int .i64 0, .int .i64 0, .slice none 0 0]) /\ Past W w' /\ W.heap.size + 2 <= w'.heap.size) kKeep ?_
  rintro W1 ⟨b4, b6, p1, z1⟩
  go_wp2_with (refine wpList_load_box rfl 44 (.tmp 4) rfl W.heap.size (nC n (.slice Ai n.ins.length ci) (.slice Aw n.ws.length cw) (.slice Ab n.bs.length cb)) rfl b4 Tryz.underlying44 rfl N14 ?_)
  refine (ND.out _ p1).mono ?_
  rintro e w2 ⟨rfl, g2⟩
  simp only [NE.out]
  obtain ⟨c4, c6, p2, z2⟩ : (Bx w2 (W.heap.size) (nC n (.slice Ai n.ins.length ci) (.slice Aw n.ws.length cw) (.slice Ab n.bs.length cb))) /\ (Bx w2 (W.heap.size + 1) #[.int .i64 0, .int .i64 a.v.h, (.slice A2 a.xs.length c2), .int .i64 0, .int .i64 0, .slice none 0 0]) /\ Past W w2 /\ W.heap.size + 2 <= w2.heap.size := ⟨box_grown g2 b4 (by omega), box_grown g2 b6 (by omega), p1.trans (Grown.past g2), by have := g2.2.2; omega⟩
  clear b4 b6 p1 z1 g2 ND
  go_upto_region 2 with fail
  refine opq (fun w' => (Bx w' (W.heap.size) (nC n (.slice Ai n.ins.length ci) (.slice Aw n.ws.length cw) (.slice Ab n.bs.length cb))) /\ (Bx w' (W.heap.size + 1) #[.int .i64 0, .int .i64 a.v.h, (.slice A2 a.xs.length c2), .int .i64 0, .int .i64 0, .slice none 0 0]) /\ (Bx w' (w2.heap.size) #[.int .i64 s0, .int .i64 t0, .int .i64 s1, .int .i64 t1]) /\ Past W w' /\ w2.heap.size + 1 <= w'.heap.size) kKeep ?_
  rintro w3 ⟨b4, b6, b10, p3, z3⟩
  obtain ⟨P, hP⟩ : ∃ P, w2.heap.size = P := ⟨_, rfl⟩
  rw [hP] at b10 z3 z2
  rw [hP]
  clear c4 c6 p2 hP
  go_wp2_with fail
  go_loopw [12] (fun iv wr => (iv = .int .i64 0 /\ (Bx wr (W.heap.size) (nC n (.slice Ai n.ins.length ci) (.slice Aw n.ws.length cw) (.slice Ab n.bs.length cb))) /\ (Bx wr (W.heap.size + 1) #[.int .i64 0, .int .i64 a.v.h, (.slice A2 a.xs.length c2), .int .i64 0, .int .i64 0, .slice none 0 0]) /\ (Bx wr P #[.int .i64 s0, .int .i64 t0, .int .i64 s1, .int .i64 t1]) /\ Past W wr /\ P + 1 <= wr.heap.size) ∨ (iv = .int .i64 1 /\ (Bx wr (W.heap.size) (nC n (.slice Ai n.ins.length ci) (.slice Aw n.ws.length cw) (.slice Ab n.bs.length cb))) /\ (Bx wr (W.heap.size + 1) #[.int .i64 0, .int .i64 a.v.h, (.slice A2 a.xs.length c2), .int .i64 0, .int .i64 0, .slice none 0 0]) /\ (Bx wr P #[.int .i64 s0, .int .i64 t0, .int .i64 s1, .int .i64 t1]) /\ Past W wr /\ P + 1 <= wr.heap.size)) (fun iv _ => 1 - (intOf iv).toNat)
  case atStart => exact Or.inl ⟨by first | rfl | go_num, b4, b6, b10, p3, z3⟩
  case round =>
    clear b4 b6 b10 p3 z3
    rcases hrel with ⟨rfl, b4, b6, b10, p3, z3⟩ | ⟨rfl, b4, b6, b10, p3, z3⟩
    . have dl : decide ((0 : Int) < (vs.length : Int)) = true := by rw [HL.out]; decide
      have vv := (HLC.out 0 (by rw [HL.out]; decide)).grow hlb p3
      rw [<- EA.out] at vv
      obtain ⟨y0', y1', y2', y3'⟩ := vv
      simp only [Nat.zero_mul, Nat.one_mul, Nat.add_zero] at y0' y1' y2' y3'
      have hlb2 : lb + 1 <= wr.heap.size := Nat.lt_of_lt_of_le hlb p3.2.2.1
      have il : (0 : Nat) < vs.length := by rw [HL.out]; decide
      have il2 : (0 : Int) < (vs.length : Int) := by rw [HL.out]; decide
      go_upto_region 7 with fail
      refine wp_region_fill (fun w' => (Bx w' (W.heap.size) (nC n (.slice Ai n.ins.length ci) (.slice Aw n.ws.length cw) (.slice Ab n.bs.length cb))) /\ (Bx w' (W.heap.size + 1) #[.int .i64 0, .int .i64 a.v.h, (.slice A2 a.xs.length c2), .int .i64 0, .int .i64 0, .slice none 0 0]) /\ (Bx w' P #[.int .i64 s0, .int .i64 t0, .int .i64 s1, .int .i64 t1]) /\ Past W w' /\ P + 1 <= w'.heap.size /\ w'.cell? ⟨lb, lo, none⟩ = some (.int .i64 a.v.h) /\ w'.cell? ⟨lb, lo + 1, none⟩ = some (.int .i64 a.v.w) /\ w'.cell? ⟨lb, lo + 2, none⟩ = some (.int .i64 a.v.c) /\ w'.cell? ⟨lb, lo + 3, none⟩ = some (.int .i64 a.v.z) /\ lb + 1 <= w'.heap.size) [(34, ?va034), (35, ?va035), (36, ?va036), (37, ?va037), (38, ?va038), (39, ?va039), (40, ?va040), (41, ?va041), (42, ?va042), (43, ?va043), (44, ?va044), (45, ?va045), (46, ?va046), (47, ?va047), (48, ?va048), (49, ?va049), (50, ?va050)] [34, 35, 36, 37, 38, 39, 40, 41, 42, 43, 44, 45, 46, 47, 48, 49, 50] (by kernel_rfl) (by kernel_rfl) rfl (by kernel_rfl) ⟨b4, b6, b10, p3, z3, y0', y1', y2', y3', hlb2⟩ (fun w h => h) ?alla0 ?fina0
      case alla0 =>
        simp only [fillA, Act.put, fU1, fU2, fU3]
        iterate 17 (refine owes_cons (fun w hw K hK => ?_) ?_; focus ((have hS := Lib.hid hw); go_split_ands; go_simp; (try simp only [Act.put, List.setIfInBounds_toArray, List.set_cons_zero, List.set_cons_succ]); first | exact hK _ hS.out | (((go_at_call 42; with_reducible refine (F0.out _ (by with_reducible assumption)).mono ?_; rintro e w1 ⟨rfl, g1⟩; replace g1 := Grown.past g1)); refine hK _ ?_; (exact kKeep))))
        exact True.intro
      case fina0 =>
        rintro w9 ⟨q4, q6, q10, q3, qz, _, _, _, _, _⟩
        simp only [fillA, Act.put, fU1, fU2, fU3]
        clear b4 b6 b10 p3 y0' y1' y2' y3'
        go_wp2_with fail
        go_roundw
        case rel => exact Or.inr ⟨by first | rfl | go_num, q4, q6, q10, q3, qz⟩
        case measure => first | (simp [intOf]; done) | decide | (simp [intOf]; omega)
    . have dl : decide ((1 : Int) < (vs.length : Int)) = false := by rw [HL.out]; decide
      go_wp2_with (refine wpList_load_box rfl 44 (.tmp 4) rfl W.heap.size (nC n (.slice Ai n.ins.length ci) (.slice Aw n.ws.length cw) (.slice Ab n.bs.length cb)) rfl b4 Tryz.underlying44 rfl N14 ?_)
      refine (VV.out _ p3).mono ?_
      rintro e w4 ⟨rfl, g4⟩
      obtain ⟨c4, c6, p4, z4⟩ : (Bx w4 (W.heap.size) (nC n (.slice Ai n.ins.length ci) (.slice Aw n.ws.length cw) (.slice Ab n.bs.length cb))) /\ (Bx w4 (W.heap.size + 1) #[.int .i64 0, .int .i64 a.v.h, (.slice A2 a.xs.length c2), .int .i64 0, .int .i64 0, .slice none 0 0]) /\ Past W w4 /\ W.heap.size + 2 <= w4.heap.size := ⟨box_grown g4 b4 (by omega), box_grown g4 b6 (by omega), p3.trans (Grown.past g4), by have := g4.2.2; omega⟩
      clear b4 b6 b10 p3 z3 g4 VV
      go_upto_region 10 with fail
      refine opq (fun w' => (Bx w' (W.heap.size) (nC n (.slice Ai n.ins.length ci) (.slice Aw n.ws.length cw) (.slice Ab n.bs.length cb))) /\ (Bx w' (W.heap.size + 1) #[.int .i64 0, .int .i64 a.v.h, (.slice A2 a.xs.length c2), .int .i64 0, .int .i64 0, .slice none 0 0]) /\ (Bx w' (w4.heap.size) #[.int .i64 m.1, .int .i64 m.2.1, .int .i64 m.2.2, .int .i64 n.zero]) /\ Past W w' /\ w4.heap.size + 1 <= w'.heap.size) kKeep ?_
      rintro w5 ⟨b4, b6, b13, p5, z5⟩
      obtain ⟨P13, hP13⟩ : ∃ P13, w4.heap.size = P13 := ⟨_, rfl⟩
      rw [hP13] at b13 z5 z4
      rw [hP13]
      clear c4 c6 p4 hP13
      go_upto_region 11 with fail
      refine opq (fun w' => Past w5 w' /\ Hid (Own8 w' w5.heap.size (.slice (some ⟨w5.heap.size, 0, none⟩) 0 0) []) /\ w5.heap.size <= w'.heap.size) ⟨(Past.refl _).alloc _, Lib.hid (own8_new (Nat.le_refl _)), by simp⟩ ?_
      rintro w6 ⟨p6, OW0, zB⟩
      obtain ⟨B, hB⟩ : ∃ B, w5.heap.size = B := ⟨_, rfl⟩
      have HB := Lib.hid hB
      have WB : W.heap.size <= B := by have := p5.2.2.1; omega
      rw [hB] at OW0 zB z5
      rw [hB]
      clear hB
      go_wp2_with fail
      go_loopw [15, 16] (fun v i wr => ∃ k : Nat, k <= X /\ i = .int .i64 k /\ Hid (Own8 wr B v (rowL n a (⟨⟨0, 0, 0, 0⟩, 0, 0, []⟩ : ViewD) m y (k * C))) /\ Past w5 wr /\ B <= wr.heap.size) (fun _ i _ => X - (intOf i).toNat)
      case atStart => exact ⟨0, by omega, rfl, Lib.hid (by rw [Nat.zero_mul]; exact OW0.out), p6, zB⟩
      case round =>
        obtain ⟨x, hx, rfl, hown, pp, zz⟩ := hrel
        have d13 := box_past pp b13 (by have := HB.out; omega)
        by_cases hlt : x < X
        . have d1 : decide ((x : Int) < m.2.1) = true := by have := HX.out; simp; omega
          go_wp2_with fail
          go_loopw [15, 17] (fun v i wr => ∃ k : Nat, k <= C /\ i = .int .i64 k /\ Hid (Own8 wr B v (rowL n a (⟨⟨0, 0, 0, 0⟩, 0, 0, []⟩ : ViewD) m y (x * C + k))) /\ Past w5 wr /\ B <= wr.heap.size) (fun _ i _ => C - (intOf i).toNat)
          case atStart => exact ⟨0, by omega, rfl, hown, pp, zz⟩
          case round =>
            clear hown pp zz d13
            obtain ⟨c, hc, rfl, hown, pp, zz⟩ := hrel
            have d13 := box_past pp b13 (by have := HB.out; omega)
            by_cases hlc : c < C
            . have d2 : decide ((c : Int) < m.2.2) = true := by have := HC.out; simp; omega
              have d4 := box_past pp b4 (by have := HB.out; omega)
              have d6 := box_past pp b6 (by have := HB.out; omega)
              have pW := p5.trans pp
              obtain ⟨q, hq⟩ : ∃ q, q = numD n a (⟨⟨0, 0, 0, 0⟩, 0, 0, []⟩ : ViewD) m y x c := ⟨_, rfl⟩
              have qb := numD_bd H.out HW.out y0 y1 (show (0 : Int) <= (x : Int) by omega) (by have := HX.out; omega) (c : Int)
              rw [<- hq] at qb
              have FC := Lib.hid (rone_any n _ _ _ lb lo lc vs a (⟨⟨0, 0, 0, 0⟩, 0, 0, []⟩ : ViewD) _ (.slice none 0 0) 0 m y x q c wr H.out (IN.out.grow pW) (by have := pW.2.2.1; omega) (by rw [HL.out]; decide) (by have := (HLC.out 0 (by rw [HL.out]; decide)).grow hlb pW; rw [<- EA.out, Nat.zero_mul, Nat.add_zero] at this; exact this) (NA.out.grow pW) y0 y1 (by omega) (by have := HX.out; omega) (by have := HC.out; omega) (Lib.hid hq) (fun f => by rcases vals_len H.out.1 with ⟨_, e⟩ | ⟨e, _⟩; (have := HL.out; omega); exact absurd f e))
              have RS := Lib.hid (rowL_succ n a (⟨⟨0, 0, 0, 0⟩, 0, 0, []⟩ : ViewD) m y (x * C + c))
              have RF := rowF_at n a (⟨⟨0, 0, 0, 0⟩, 0, 0, []⟩ : ViewD) m y x c (by rw [HCN.out]; exact hlc)
              rw [HCN.out, <- hq] at RF
              have RF' := Lib.hid RF
              have e8 : IntKind.i8.wrap q = q := IntWalk.i8_in _ (by omega)
              have lb2 : x * C + c <= 200 := by
                have := Nat.mul_le_mul (show x <= 16 by omega) C8
                omega
              clear RF hq
              go_wp2_with (refine wpList_load_box rfl 44 (.tmp 4) rfl W.heap.size (nC n (.slice Ai n.ins.length ci) (.slice Aw n.ws.length cw) (.slice Ab n.bs.length cb)) rfl d4 Tryz.underlying44 rfl N14 ?_)
              refine FC.out.mono ?_
              rintro e w7 ⟨rfl, g7⟩
              have p7 := Grown.past g7
              have OW := Lib.hid (hown.out.past p7)
              have P5 := pp.trans p7
              have Z5 : B <= w7.heap.size := by have := p7.2.2.1; omega
              clear hown pp zz d13 d4 d6 p7 g7 FC pW
              go_wp2_with (at_builtin; refine wpList_append_own _ rfl (.tmp 72) (.tmp 83) 27 rfl B 35 i0 _ 1 1 Tryz.underlying27 I1.out I2.out I3.out I4.out rfl (by decide) _ _ _ rfl (World.ownsRow.alloc OW.out _) ⟨w7.heap.size, 0, none⟩ 1 1 [.int .i8 q] rfl rfl (fun j u hu => cells_new1 w7 _ 35 j u hu) (by intro u hu; simp at hu; subst hu; rfl) ?c4 ?c5 ?c6 ?_)
              case c4 => unfold maxLen; simp only [rowL, List.length_map, List.length_range]; omega
              case c5 => simp only [rowL, List.length_map, List.length_range]; omega
              case c6 => simp; omega
              intro v4 w9 hown4 hgrow _
              have ho4 := Lib.hid (own8_add hown4)
              have P4 := (P5.alloc (.cells #[.int .i8 q] 35)).grownBy hgrow (fun j hj => by have := (OW.out.lt j hj).1; have := HB.out; omega)
              have Z4 : B <= w9.heap.size := by have := hgrow.size; simp at this; omega
              clear hown4 hgrow OW P5 Z5
              go_wp2_with fail
              go_roundw
              case rel => exact ⟨c + 1, by omega, by go_num, Lib.hid (by rw [<- Nat.add_assoc, RS.out, RF'.out]; exact ho4.out), P4, Z4⟩
              case measure => simp [intOf]; omega
            . obtain rfl : c = C := by omega
              have d2 : decide ((c : Int) < m.2.2) = false := by have := HC.out; simp; omega
              go_wp2_with fail
              go_roundw
              case rel => exact ⟨x + 1, by omega, by go_num, Lib.hid (by rw [Nat.add_mul, Nat.one_mul]; exact hown.out), pp, zz⟩
              case measure => simp [intOf]; omega
        . obtain rfl : x = X := by omega
          have d1 : decide ((x : Int) < m.2.1) = false := by have := HX.out; simp; omega
          go_wp2_with fail
          go_ret2
          exact ⟨_, rfl, hown.out.nums (rowL_bd H.out HW.out y0 y1 HX.out HC.out), p5.trans pp⟩
set_option maxHeartbeats 8000000 in
theorem rRow_2 (n : NodeD) (vi vw vb lv : Value) (m : Int × Int × Int) (a b : ViewD) (sa sb : Value) (vs : List ValD) (y : Int) (W : World) (h : MakeOk n vs a b m) (hlen : vs.length = 2) (y0 : 0 <= y) (y1 : y < m.1) (hin : NodeIn W n vi vw vb) (hl : IsVals W lv vs) (na : IsNums .i8 W sa a.xs) (nb : IsNums .i8 W sb b.xs) :
    Calls Tryz.prog 28 #[.agg (nC n vi vw vb), lv, .agg #[.int .i64 0, .int .i64 a.v.h, sa, .int .i64 0, .int .i64 b.v.h, sb], .int .i64 y] W fun e w' => ∃ v, e = .returned (.tuple #[v, .int .i64 0]) /\ IsNums .i8 w' v (rowL n a b m y (m.2.1.toNat * m.2.2.toNat)) /\ Past W w' := by
  have HW := Lib.hid (fun k => nums_i8 hin.2.1 k)
  have H := Lib.hid h
  obtain ⟨m1, m2, m3, m4, m5, m6⟩ := h.m16
  obtain ⟨X, hX⟩ : ∃ X : Nat, m.2.1 = X := ⟨m.2.1.toNat, by omega⟩
  obtain ⟨C, hC⟩ : ∃ C : Nat, m.2.2 = C := ⟨m.2.2.toNat, by omega⟩
  have hXn : m.2.1.toNat = X := by rw [hX]; rfl
  have hCn : m.2.2.toNat = C := by rw [hC]; rfl
  have X16 : X <= 16 := by omega
  have C8 : C <= 8 := by omega
  rw [hXn, hCn]
  have HX := Lib.hid hX
  have HC := Lib.hid hC
  have HCN := Lib.hid hCn
  have yb : y <= 16 := by omega
  have ND := Lib.hid (fun w (g : Past W w) => rneeds_any n vi vw vb lv vs y 1 w (hin.grow g) (hl.grow g) (by omega))
  have VV := Lib.hid (fun w (g : Past W w) => rvalue_is (hin.grow g) (hl.grow g) h.1 h.2.1)
  have hym : y < (madeS n vs).1 := by rw [<- h.2.1]; exact y1
  have L0 := looks_in h.1 y0 hym (j := 0) (by omega)
  have L1 := looks_in h.1 y0 hym (j := 1) (by omega)
  have ne := needs_is h.1 y0 hym
  obtain ⟨s0, hs0⟩ : ∃ z, (looksD n (vs.getD 0 default).h y 1).1 = z := ⟨_, rfl⟩
  obtain ⟨t0, ht0⟩ : ∃ z, (looksD n (vs.getD 0 default).h y 1).2 = z := ⟨_, rfl⟩
  rw [hs0, ht0] at L0
  have e0 : looksD n (vs.getD 0 default).h y 1 = (s0, t0) := by rw [<- hs0, <- ht0]
  rw [e0] at ne
  rw [<- h.2.2.2.1] at L0
  obtain ⟨s1, hs1⟩ : ∃ z, (looksD n (vs.getD 1 default).h y 1).1 = z := ⟨_, rfl⟩
  obtain ⟨t1, ht1⟩ : ∃ z, (looksD n (vs.getD 1 default).h y 1).2 = z := ⟨_, rfl⟩
  rw [hs1, ht1] at L1
  have e1 : looksD n (vs.getD 1 default).h y 1 = (s1, t1) := by rw [<- hs1, <- ht1]
  rw [if_pos hlen, e1] at ne
  have HBO : n.op = 6 ∨ n.op = 7 ∨ n.op = 10 := by
    rcases vals_len h.1 with ⟨c, _⟩ | ⟨_, c⟩
    . exact c
    . omega
  obtain ⟨FB, eB⟩ := h.2.2.2.2 HBO
  rw [<- eB] at L1
  have F1 := Lib.hid (fun w (g : Past W w) => rfits_any b sb s1 t1 w (nb.grow g) FB L1)
  have EB := Lib.hid eB
  have NE := Lib.hid ne
  have F0 := Lib.hid (fun w (g : Past W w) => rfits_any a sa s0 t0 w (na.grow g) h.2.2.1 L0)
  have EA := Lib.hid h.2.2.2.1
  have HL := Lib.hid hlen
  have NA := Lib.hid na
  have NBB := Lib.hid nb
  have HBO' := Lib.hid HBO
  have IN := Lib.hid hin
  obtain ⟨Ai, ci, rfl, -⟩ := hin.1
  obtain ⟨Aw, cw, rfl, -⟩ := hin.2.1
  obtain ⟨Ab, cb, rfl, -⟩ := hin.2.2
  obtain ⟨A2, c2, rfl, -⟩ := na
  obtain ⟨A3, c3, rfl, -⟩ := nb
  obtain ⟨A1, lc, rfl, a1, a2, _, _, a5⟩ := hl
  obtain ⟨lb, lo, rfl, hlb, hlc⟩ := a5 (by omega)
  have HLC := Lib.hid hlc
  have k1 : vs.length <= 9223372036854775807 := by omega
  obtain ⟨i0, hi0, hz0, hz1, hz2⟩ := info_parts infoI8
  have I1 := Lib.hid hi0
  have I2 := Lib.hid hz0
  have I3 := Lib.hid hz1
  have I4 := Lib.hid hz2
  clear hi0 hz0 hz1 hz2 h hlen hin hX hC hXn hCn m1 m2 m3 m4 m5 m6 hym ne L0 hs0 ht0 e0 a5 hlc a2 L1 hs1 ht1 e1 FB eB HBO
  go_enter Tryz.func28, Tryz.ntmps28
  go_upto_region 1 with fail
  refine opq (fun w' => (Bx w' (W.heap.size) (nC n (.slice Ai n.ins.length ci) (.slice Aw n.ws.length cw) (.slice Ab n.bs.length cb))) /\ (Bx w' (W.heap.size + 1) #[.int .i64 0, .int .i64 a.v.h, (.slice A2 a.xs.length c2), .int .i64 0, .int .i64 b.v.h, (.slice A3 b.xs.length c3)]) /\ Past W w' /\ W.heap.size + 2 <= w'.heap.size) kKeep ?_
  rintro W1 ⟨b4, b6, p1, z1⟩
  go_wp2_with (refine wpList_load_box rfl 44 (.tmp 4) rfl W.heap.size (nC n (.slice Ai n.ins.length ci) (.slice Aw n.ws.length cw) (.slice Ab n.bs.length cb)) rfl b4 Tryz.underlying44 rfl N14 ?_)
  refine (ND.out _ p1).mono ?_
  rintro e w2 ⟨rfl, g2⟩
  simp only [NE.out]
  obtain ⟨c4, c6, p2, z2⟩ : (Bx w2 (W.heap.size) (nC n (.slice Ai n.ins.length ci) (.slice Aw n.ws.length cw) (.slice Ab n.bs.length cb))) /\ (Bx w2 (W.heap.size + 1) #[.int .i64 0, .int .i64 a.v.h, (.slice A2 a.xs.length c2), .int .i64 0, .int .i64 b.v.h, (.slice A3 b.xs.length c3)]) /\ Past W w2 /\ W.heap.size + 2 <= w2.heap.size := ⟨box_grown g2 b4 (by omega), box_grown g2 b6 (by omega), p1.trans (Grown.past g2), by have := g2.2.2; omega⟩
  clear b4 b6 p1 z1 g2 ND
  go_upto_region 2 with fail
  refine opq (fun w' => (Bx w' (W.heap.size) (nC n (.slice Ai n.ins.length ci) (.slice Aw n.ws.length cw) (.slice Ab n.bs.length cb))) /\ (Bx w' (W.heap.size + 1) #[.int .i64 0, .int .i64 a.v.h, (.slice A2 a.xs.length c2), .int .i64 0, .int .i64 b.v.h, (.slice A3 b.xs.length c3)]) /\ (Bx w' (w2.heap.size) #[.int .i64 s0, .int .i64 t0, .int .i64 s1, .int .i64 t1]) /\ Past W w' /\ w2.heap.size + 1 <= w'.heap.size) kKeep ?_
  rintro w3 ⟨b4, b6, b10, p3, z3⟩
  obtain ⟨P, hP⟩ : ∃ P, w2.heap.size = P := ⟨_, rfl⟩
  rw [hP] at b10 z3 z2
  rw [hP]
  clear c4 c6 p2 hP
  go_wp2_with fail
  go_loopw [12] (fun iv wr => (iv = .int .i64 0 /\ (Bx wr (W.heap.size) (nC n (.slice Ai n.ins.length ci) (.slice Aw n.ws.length cw) (.slice Ab n.bs.length cb))) /\ (Bx wr (W.heap.size + 1) #[.int .i64 0, .int .i64 a.v.h, (.slice A2 a.xs.length c2), .int .i64 0, .int .i64 b.v.h, (.slice A3 b.xs.length c3)]) /\ (Bx wr P #[.int .i64 s0, .int .i64 t0, .int .i64 s1, .int .i64 t1]) /\ Past W wr /\ P + 1 <= wr.heap.size) ∨ (iv = .int .i64 1 /\ (Bx wr (W.heap.size) (nC n (.slice Ai n.ins.length ci) (.slice Aw n.ws.length cw) (.slice Ab n.bs.length cb))) /\ (Bx wr (W.heap.size + 1) #[.int .i64 0, .int .i64 a.v.h, (.slice A2 a.xs.length c2), .int .i64 0, .int .i64 b.v.h, (.slice A3 b.xs.length c3)]) /\ (Bx wr P #[.int .i64 s0, .int .i64 t0, .int .i64 s1, .int .i64 t1]) /\ Past W wr /\ P + 1 <= wr.heap.size) ∨ (iv = .int .i64 2 /\ (Bx wr (W.heap.size) (nC n (.slice Ai n.ins.length ci) (.slice Aw n.ws.length cw) (.slice Ab n.bs.length cb))) /\ (Bx wr (W.heap.size + 1) #[.int .i64 0, .int .i64 a.v.h, (.slice A2 a.xs.length c2), .int .i64 0, .int .i64 b.v.h, (.slice A3 b.xs.length c3)]) /\ (Bx wr P #[.int .i64 s0, .int .i64 t0, .int .i64 s1, .int .i64 t1]) /\ Past W wr /\ P + 1 <= wr.heap.size)) (fun iv _ => 2 - (intOf iv).toNat)
  case atStart => exact Or.inl ⟨by first | rfl | go_num, b4, b6, b10, p3, z3⟩
  case round =>
    clear b4 b6 b10 p3 z3
    rcases hrel with ⟨rfl, b4, b6, b10, p3, z3⟩ | ⟨rfl, b4, b6, b10, p3, z3⟩ | ⟨rfl, b4, b6, b10, p3, z3⟩
    . have dl : decide ((0 : Int) < (vs.length : Int)) = true := by rw [HL.out]; decide
      have vv := (HLC.out 0 (by rw [HL.out]; decide)).grow hlb p3
      rw [<- EA.out] at vv
      obtain ⟨y0', y1', y2', y3'⟩ := vv
      simp only [Nat.zero_mul, Nat.one_mul, Nat.add_zero] at y0' y1' y2' y3'
      have hlb2 : lb + 1 <= wr.heap.size := Nat.lt_of_lt_of_le hlb p3.2.2.1
      have il : (0 : Nat) < vs.length := by rw [HL.out]; decide
      have il2 : (0 : Int) < (vs.length : Int) := by rw [HL.out]; decide
      go_upto_region 7 with fail
      refine wp_region_fill (fun w' => (Bx w' (W.heap.size) (nC n (.slice Ai n.ins.length ci) (.slice Aw n.ws.length cw) (.slice Ab n.bs.length cb))) /\ (Bx w' (W.heap.size + 1) #[.int .i64 0, .int .i64 a.v.h, (.slice A2 a.xs.length c2), .int .i64 0, .int .i64 b.v.h, (.slice A3 b.xs.length c3)]) /\ (Bx w' P #[.int .i64 s0, .int .i64 t0, .int .i64 s1, .int .i64 t1]) /\ Past W w' /\ P + 1 <= w'.heap.size /\ w'.cell? ⟨lb, lo, none⟩ = some (.int .i64 a.v.h) /\ w'.cell? ⟨lb, lo + 1, none⟩ = some (.int .i64 a.v.w) /\ w'.cell? ⟨lb, lo + 2, none⟩ = some (.int .i64 a.v.c) /\ w'.cell? ⟨lb, lo + 3, none⟩ = some (.int .i64 a.v.z) /\ lb + 1 <= w'.heap.size) [(34, ?va034), (35, ?va035), (36, ?va036), (37, ?va037), (38, ?va038), (39, ?va039), (40, ?va040), (41, ?va041), (42, ?va042), (43, ?va043), (44, ?va044), (45, ?va045), (46, ?va046), (47, ?va047), (48, ?va048), (49, ?va049), (50, ?va050)] [34, 35, 36, 37, 38, 39, 40, 41, 42, 43, 44, 45, 46, 47, 48, 49, 50] (by kernel_rfl) (by kernel_rfl) rfl (by kernel_rfl) ⟨b4, b6, b10, p3, z3, y0', y1', y2', y3', hlb2⟩ (fun w h => h) ?alla0 ?fina0
      case alla0 =>
        simp only [fillA, Act.put, fU1, fU2, fU3]
        iterate 17 (refine owes_cons (fun w hw K hK => ?_) ?_; focus ((have hS := Lib.hid hw); go_split_ands; go_simp; (try simp only [Act.put, List.setIfInBounds_toArray, List.set_cons_zero, List.set_cons_succ]); first | exact hK _ hS.out | (((go_at_call 42; with_reducible refine (F0.out _ (by with_reducible assumption)).mono ?_; rintro e w1 ⟨rfl, g1⟩; replace g1 := Grown.past g1)); refine hK _ ?_; (exact kKeep))))
        exact True.intro
      case fina0 =>
        rintro w9 ⟨q4, q6, q10, q3, qz, _, _, _, _, _⟩
        simp only [fillA, Act.put, fU1, fU2, fU3]
        clear b4 b6 b10 p3 y0' y1' y2' y3'
        go_wp2_with fail
        go_roundw
        case rel => exact Or.inr (Or.inl ⟨by first | rfl | go_num, q4, q6, q10, q3, qz⟩)
        case measure => first | (simp [intOf]; done) | decide | (simp [intOf]; omega)
    . have dl : decide ((1 : Int) < (vs.length : Int)) = true := by rw [HL.out]; decide
      have vv := (HLC.out 1 (by rw [HL.out]; decide)).grow hlb p3
      rw [<- EB.out] at vv
      obtain ⟨y0', y1', y2', y3'⟩ := vv
      simp only [Nat.zero_mul, Nat.one_mul, Nat.add_zero] at y0' y1' y2' y3'
      have hlb2 : lb + 1 <= wr.heap.size := Nat.lt_of_lt_of_le hlb p3.2.2.1
      have il : (1 : Nat) < vs.length := by rw [HL.out]; decide
      have il2 : (1 : Int) < (vs.length : Int) := by rw [HL.out]; decide
      go_upto_region 7 with fail
      refine wp_region_fill (fun w' => (Bx w' (W.heap.size) (nC n (.slice Ai n.ins.length ci) (.slice Aw n.ws.length cw) (.slice Ab n.bs.length cb))) /\ (Bx w' (W.heap.size + 1) #[.int .i64 0, .int .i64 a.v.h, (.slice A2 a.xs.length c2), .int .i64 0, .int .i64 b.v.h, (.slice A3 b.xs.length c3)]) /\ (Bx w' P #[.int .i64 s0, .int .i64 t0, .int .i64 s1, .int .i64 t1]) /\ Past W w' /\ P + 1 <= w'.heap.size /\ w'.cell? ⟨lb, lo + 4, none⟩ = some (.int .i64 b.v.h) /\ w'.cell? ⟨lb, lo + 4 + 1, none⟩ = some (.int .i64 b.v.w) /\ w'.cell? ⟨lb, lo + 4 + 2, none⟩ = some (.int .i64 b.v.c) /\ w'.cell? ⟨lb, lo + 4 + 3, none⟩ = some (.int .i64 b.v.z) /\ lb + 1 <= w'.heap.size) [(34, ?va134), (35, ?va135), (36, ?va136), (37, ?va137), (38, ?va138), (39, ?va139), (40, ?va140), (41, ?va141), (42, ?va142), (43, ?va143), (44, ?va144), (45, ?va145), (46, ?va146), (47, ?va147), (48, ?va148), (49, ?va149), (50, ?va150)] [34, 35, 36, 37, 38, 39, 40, 41, 42, 43, 44, 45, 46, 47, 48, 49, 50] (by kernel_rfl) (by kernel_rfl) rfl (by kernel_rfl) ⟨b4, b6, b10, p3, z3, y0', y1', y2', y3', hlb2⟩ (fun w h => h) ?alla1 ?fina1
      case alla1 =>
        simp only [fillA, Act.put, fU1, fU2, fU3]
        iterate 17 (refine owes_cons (fun w hw K hK => ?_) ?_; focus ((have hS := Lib.hid hw); go_split_ands; go_simp; (try simp only [Act.put, List.setIfInBounds_toArray, List.set_cons_zero, List.set_cons_succ]); first | exact hK _ hS.out | (((go_at_call 42; with_reducible refine (F1.out _ (by with_reducible assumption)).mono ?_; rintro e w1 ⟨rfl, g1⟩; replace g1 := Grown.past g1)); refine hK _ ?_; (exact kKeep))))
        exact True.intro
      case fina1 =>
        rintro w9 ⟨q4, q6, q10, q3, qz, _, _, _, _, _⟩
        simp only [fillA, Act.put, fU1, fU2, fU3]
        clear b4 b6 b10 p3 y0' y1' y2' y3'
        go_wp2_with fail
        go_roundw
        case rel => exact Or.inr (Or.inr ⟨by first | rfl | go_num, q4, q6, q10, q3, qz⟩)
        case measure => first | (simp [intOf]; done) | decide | (simp [intOf]; omega)
    . have dl : decide ((2 : Int) < (vs.length : Int)) = false := by rw [HL.out]; decide
      go_wp2_with (refine wpList_load_box rfl 44 (.tmp 4) rfl W.heap.size (nC n (.slice Ai n.ins.length ci) (.slice Aw n.ws.length cw) (.slice Ab n.bs.length cb)) rfl b4 Tryz.underlying44 rfl N14 ?_)
      refine (VV.out _ p3).mono ?_
      rintro e w4 ⟨rfl, g4⟩
      obtain ⟨c4, c6, p4, z4⟩ : (Bx w4 (W.heap.size) (nC n (.slice Ai n.ins.length ci) (.slice Aw n.ws.length cw) (.slice Ab n.bs.length cb))) /\ (Bx w4 (W.heap.size + 1) #[.int .i64 0, .int .i64 a.v.h, (.slice A2 a.xs.length c2), .int .i64 0, .int .i64 b.v.h, (.slice A3 b.xs.length c3)]) /\ Past W w4 /\ W.heap.size + 2 <= w4.heap.size := ⟨box_grown g4 b4 (by omega), box_grown g4 b6 (by omega), p3.trans (Grown.past g4), by have := g4.2.2; omega⟩
      clear b4 b6 b10 p3 z3 g4 VV
      go_upto_region 10 with fail
      refine opq (fun w' => (Bx w' (W.heap.size) (nC n (.slice Ai n.ins.length ci) (.slice Aw n.ws.length cw) (.slice Ab n.bs.length cb))) /\ (Bx w' (W.heap.size + 1) #[.int .i64 0, .int .i64 a.v.h, (.slice A2 a.xs.length c2), .int .i64 0, .int .i64 b.v.h, (.slice A3 b.xs.length c3)]) /\ (Bx w' (w4.heap.size) #[.int .i64 m.1, .int .i64 m.2.1, .int .i64 m.2.2, .int .i64 n.zero]) /\ Past W w' /\ w4.heap.size + 1 <= w'.heap.size) kKeep ?_
      rintro w5 ⟨b4, b6, b13, p5, z5⟩
      obtain ⟨P13, hP13⟩ : ∃ P13, w4.heap.size = P13 := ⟨_, rfl⟩
      rw [hP13] at b13 z5 z4
      rw [hP13]
      clear c4 c6 p4 hP13
      go_upto_region 11 with fail
      refine opq (fun w' => Past w5 w' /\ Hid (Own8 w' w5.heap.size (.slice (some ⟨w5.heap.size, 0, none⟩) 0 0) []) /\ w5.heap.size <= w'.heap.size) ⟨(Past.refl _).alloc _, Lib.hid (own8_new (Nat.le_refl _)), by simp⟩ ?_
      rintro w6 ⟨p6, OW0, zB⟩
      obtain ⟨B, hB⟩ : ∃ B, w5.heap.size = B := ⟨_, rfl⟩
      have HB := Lib.hid hB
      have WB : W.heap.size <= B := by have := p5.2.2.1; omega
      rw [hB] at OW0 zB z5
      rw [hB]
      clear hB
      go_wp2_with fail
      go_loopw [15, 16] (fun v i wr => ∃ k : Nat, k <= X /\ i = .int .i64 k /\ Hid (Own8 wr B v (rowL n a b m y (k * C))) /\ Past w5 wr /\ B <= wr.heap.size) (fun _ i _ => X - (intOf i).toNat)
      case atStart => exact ⟨0, by omega, rfl, Lib.hid (by rw [Nat.zero_mul]; exact OW0.out), p6, zB⟩
      case round =>
        obtain ⟨x, hx, rfl, hown, pp, zz⟩ := hrel
        have d13 := box_past pp b13 (by have := HB.out; omega)
        by_cases hlt : x < X
        . have d1 : decide ((x : Int) < m.2.1) = true := by have := HX.out; simp; omega
          go_wp2_with fail
          go_loopw [15, 17] (fun v i wr => ∃ k : Nat, k <= C /\ i = .int .i64 k /\ Hid (Own8 wr B v (rowL n a b m y (x * C + k))) /\ Past w5 wr /\ B <= wr.heap.size) (fun _ i _ => C - (intOf i).toNat)
          case atStart => exact ⟨0, by omega, rfl, hown, pp, zz⟩
          case round =>
            clear hown pp zz d13
            obtain ⟨c, hc, rfl, hown, pp, zz⟩ := hrel
            have d13 := box_past pp b13 (by have := HB.out; omega)
            by_cases hlc : c < C
            . have d2 : decide ((c : Int) < m.2.2) = true := by have := HC.out; simp; omega
              have d4 := box_past pp b4 (by have := HB.out; omega)
              have d6 := box_past pp b6 (by have := HB.out; omega)
              have pW := p5.trans pp
              obtain ⟨q, hq⟩ : ∃ q, q = numD n a b m y x c := ⟨_, rfl⟩
              have qb := numD_bd H.out HW.out y0 y1 (show (0 : Int) <= (x : Int) by omega) (by have := HX.out; omega) (c : Int)
              rw [<- hq] at qb
              have FC := Lib.hid (rone_any n _ _ _ lb lo lc vs a b _ _ b.v.h m y x q c wr H.out (IN.out.grow pW) (by have := pW.2.2.1; omega) (by rw [HL.out]; decide) (by have := (HLC.out 0 (by rw [HL.out]; decide)).grow hlb pW; rw [<- EA.out, Nat.zero_mul, Nat.add_zero] at this; exact this) (NA.out.grow pW) y0 y1 (by omega) (by have := HX.out; omega) (by have := HC.out; omega) (Lib.hid hq) (fun _ => ⟨HL.out, (by have := (HLC.out 1 (by rw [HL.out]; decide)).grow hlb pW; rw [<- EB.out, Nat.one_mul] at this; exact this), NBB.out.grow pW, rfl⟩))
              have RS := Lib.hid (rowL_succ n a b m y (x * C + c))
              have RF := rowF_at n a b m y x c (by rw [HCN.out]; exact hlc)
              rw [HCN.out, <- hq] at RF
              have RF' := Lib.hid RF
              have e8 : IntKind.i8.wrap q = q := IntWalk.i8_in _ (by omega)
              have lb2 : x * C + c <= 200 := by
                have := Nat.mul_le_mul (show x <= 16 by omega) C8
                omega
              clear RF hq
              go_wp2_with (refine wpList_load_box rfl 44 (.tmp 4) rfl W.heap.size (nC n (.slice Ai n.ins.length ci) (.slice Aw n.ws.length cw) (.slice Ab n.bs.length cb)) rfl d4 Tryz.underlying44 rfl N14 ?_)
              refine FC.out.mono ?_
              rintro e w7 ⟨rfl, g7⟩
              have p7 := Grown.past g7
              have OW := Lib.hid (hown.out.past p7)
              have P5 := pp.trans p7
              have Z5 : B <= w7.heap.size := by have := p7.2.2.1; omega
              clear hown pp zz d13 d4 d6 p7 g7 FC pW
              go_wp2_with (at_builtin; refine wpList_append_own _ rfl (.tmp 72) (.tmp 83) 27 rfl B 35 i0 _ 1 1 Tryz.underlying27 I1.out I2.out I3.out I4.out rfl (by decide) _ _ _ rfl (World.ownsRow.alloc OW.out _) ⟨w7.heap.size, 0, none⟩ 1 1 [.int .i8 q] rfl rfl (fun j u hu => cells_new1 w7 _ 35 j u hu) (by intro u hu; simp at hu; subst hu; rfl) ?c4 ?c5 ?c6 ?_)
              case c4 => unfold maxLen; simp only [rowL, List.length_map, List.length_range]; omega
              case c5 => simp only [rowL, List.length_map, List.length_range]; omega
              case c6 => simp; omega
              intro v4 w9 hown4 hgrow _
              have ho4 := Lib.hid (own8_add hown4)
              have P4 := (P5.alloc (.cells #[.int .i8 q] 35)).grownBy hgrow (fun j hj => by have := (OW.out.lt j hj).1; have := HB.out; omega)
              have Z4 : B <= w9.heap.size := by have := hgrow.size; simp at this; omega
              clear hown4 hgrow OW P5 Z5
              go_wp2_with fail
              go_roundw
              case rel => exact ⟨c + 1, by omega, by go_num, Lib.hid (by rw [<- Nat.add_assoc, RS.out, RF'.out]; exact ho4.out), P4, Z4⟩
              case measure => simp [intOf]; omega
            . obtain rfl : c = C := by omega
              have d2 : decide ((c : Int) < m.2.2) = false := by have := HC.out; simp; omega
              go_wp2_with fail
              go_roundw
              case rel => exact ⟨x + 1, by omega, by go_num, Lib.hid (by rw [Nat.add_mul, Nat.one_mul]; exact hown.out), pp, zz⟩
              case measure => simp [intOf]; omega
        . obtain rfl : x = X := by omega
          have d1 : decide ((x : Int) < m.2.1) = false := by have := HX.out; simp; omega
          go_wp2_with fail
          go_ret2
          exact ⟨_, rfl, hown.out.nums (rowL_bd H.out HW.out y0 y1 HX.out HC.out), p5.trans pp⟩
end Go.Proofs.YtliijchcpooplaaGreat
