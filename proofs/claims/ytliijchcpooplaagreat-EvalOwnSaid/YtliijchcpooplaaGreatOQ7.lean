/- The reference's rows together. The reference's All, of whatever values: the numbers of a graph's node. -/
import Derived.Test.YtliijchcpooplaaGreatOMKV1
import Derived.Test.YtliijchcpooplaaGreatOMKV2
import Derived.Test.YtliijchcpooplaaGreatOQ6
import Derived.Test.YtliijchcpooplaaGreatOMLde
namespace Go.Proofs.YtliijchcpooplaaGreat
open Go.ChangeShapes Go.WideShapes Go.ChangeAt Go.RowKit
set_option maxRecDepth 20000
set_option linter.unusedVariables false
set_option linter.unusedSimpArgs false
set_option maxHeartbeats 8000000 in
theorem rAll_1 (n : NodeD) (vi vw vb lv : Value) (m : Int × Int × Int) (a : ViewD) (sa sb : Value) (vs : List ValD) (W : World) (h : MakeOk n vs a (⟨⟨0, 0, 0, 0⟩, 0, 0, []⟩ : ViewD) m) (hlen : vs.length = 1) (hin : NodeIn W n vi vw vb) (hl : IsVals W lv vs) (na : IsNums .i8 W sa a.xs) :
    Calls Tryz.prog 14 #[.agg (nC n vi vw vb), lv, .agg #[sa, sb]] W fun e w' => ∃ v, e = .returned (.tuple #[v, .int .i64 0]) /\ Own8 w' W.heap.size v (allL n a (⟨⟨0, 0, 0, 0⟩, 0, 0, []⟩ : ViewD) m (m.2.1.toNat * m.2.2.toNat) (m.1.toNat * (m.2.1.toNat * m.2.2.toNat))) /\ Past W w' := by
  obtain ⟨m1, m2, m3, m4, m5, m6⟩ := h.m16
  obtain ⟨H, hH⟩ : ∃ H : Nat, m.1 = H := ⟨m.1.toNat, by omega⟩
  have hHn : m.1.toNat = H := by rw [hH]; rfl
  obtain ⟨R, hR⟩ : ∃ R : Nat, m.2.1.toNat * m.2.2.toNat = R := ⟨_, rfl⟩
  have R1 : 1 <= R := by rw [<- hR]; exact Nat.mul_le_mul (show 1 <= m.2.1.toNat by omega) (show 1 <= m.2.2.toNat by omega)
  have R2 : R <= 128 := by rw [<- hR]; exact Nat.mul_le_mul (show m.2.1.toNat <= 16 by omega) (show m.2.2.toNat <= 8 by omega)
  have H16 : H <= 16 := by omega
  rw [hHn, hR]
  have HH := Lib.hid hH
  have VV := Lib.hid (fun w (g : Past W w) => rvalue_is (hin.grow g) (hl.grow g) h.1 h.2.1)
  have RW : Hid (∀ w, Past W w -> ∀ y : Nat, y < H -> Calls Tryz.prog 28 #[.agg (nC n vi vw vb), lv, .agg #[.int .i64 0, .int .i64 a.v.h, sa, .int .i64 0, .int .i64 0, .slice none 0 0], .int .i64 y] w fun e w' => ∃ v, e = .returned (.tuple #[v, .int .i64 0]) /\ IsNums .i8 w' v (rowL n a (⟨⟨0, 0, 0, 0⟩, 0, 0, []⟩ : ViewD) m y R) /\ Past w w') := Lib.hid (fun w g y hy => by
    have := rRow_1 n vi vw vb lv m a sa vs y w h hlen (by omega) (by omega) (hin.grow g) (hl.grow g) (na.grow g)
    rw [hR] at this
    exact this)
  have EA := Lib.hid h.2.2.2.1
  have HL := Lib.hid hlen
  obtain ⟨A1, lc, rfl, a1, a2, _, _, a5⟩ := hl
  obtain ⟨lb, lo, rfl, hlb, hlc⟩ := a5 (by omega)
  have HLC := Lib.hid hlc
  have k1 : vs.length <= 9223372036854775807 := by omega
  obtain ⟨A2, c2, rfl, -⟩ := na
  obtain ⟨Ai, ci, rfl, -⟩ := hin.1
  obtain ⟨Aw, cw, rfl, -⟩ := hin.2.1
  obtain ⟨Ab, cb, rfl, -⟩ := hin.2.2
  obtain ⟨i0, hi0, hz0, hz1, hz2⟩ := info_parts infoI8
  have I1 := Lib.hid hi0
  have I2 := Lib.hid hz0
  have I3 := Lib.hid hz1
  have I4 := Lib.hid hz2
  clear hi0 hz0 hz1 hz2 h hin hlen hH hHn hR m1 m2 m3 m4 m5 m6 a2 a5 hlc
  go_enter Tryz.func14, Tryz.ntmps14
  go_upto_region 1 with fail
  refine opq (fun w' => (Bx w' (W.heap.size) (nC n (.slice Ai n.ins.length ci) (.slice Aw n.ws.length cw) (.slice Ab n.bs.length cb))) /\ (Bx w' (W.heap.size + 1) #[(.slice A2 a.xs.length c2), sb]) /\ Past W w' /\ W.heap.size + 2 <= w'.heap.size) kKeep ?_
  rintro W1 ⟨b3, b5, p1, z1⟩
  go_wp2_with (refine wpList_load_box rfl 44 (.tmp 3) rfl W.heap.size (nC n (.slice Ai n.ins.length ci) (.slice Aw n.ws.length cw) (.slice Ab n.bs.length cb)) rfl b3 Tryz.underlying44 rfl N14 ?_)
  refine (VV.out _ p1).mono ?_
  rintro e w2 ⟨rfl, g2⟩
  obtain ⟨d3, d5, p2, z2⟩ : (Bx w2 (W.heap.size) (nC n (.slice Ai n.ins.length ci) (.slice Aw n.ws.length cw) (.slice Ab n.bs.length cb))) /\ (Bx w2 (W.heap.size + 1) #[(.slice A2 a.xs.length c2), sb]) /\ Past W w2 /\ W.heap.size + 2 <= w2.heap.size := ⟨box_grown g2 b3 (by omega), box_grown g2 b5 (by omega), p1.trans (Grown.past g2), by have := g2.2.2; omega⟩
  clear b3 b5 p1 z1 g2 VV
  go_upto_region 2 with fail
  refine opq (fun w' => (Bx w' (W.heap.size) (nC n (.slice Ai n.ins.length ci) (.slice Aw n.ws.length cw) (.slice Ab n.bs.length cb))) /\ (Bx w' (W.heap.size + 1) #[(.slice A2 a.xs.length c2), sb]) /\ (Bx w' (w2.heap.size) #[.int .i64 m.1, .int .i64 m.2.1, .int .i64 m.2.2, .int .i64 n.zero]) /\ Past W w' /\ w2.heap.size + 1 <= w'.heap.size) kKeep ?_
  rintro w3 ⟨b3, b5, b8, p3, z3⟩
  obtain ⟨P8, hP8⟩ : ∃ P8, w2.heap.size = P8 := ⟨_, rfl⟩
  rw [hP8] at b8 z3 z2
  rw [hP8]
  clear d3 d5 p2 hP8
  go_upto_region 5 with fail
  refine opq (fun w' => (Bx w' (W.heap.size) (nC n (.slice Ai n.ins.length ci) (.slice Aw n.ws.length cw) (.slice Ab n.bs.length cb))) /\ (Bx w' (W.heap.size + 1) #[(.slice A2 a.xs.length c2), sb]) /\ (Bx w' P8 #[.int .i64 m.1, .int .i64 m.2.1, .int .i64 m.2.2, .int .i64 n.zero]) /\ (Bx w' (w3.heap.size) #[.int .i64 0, .int .i64 0, .slice none 0 0, .int .i64 0, .int .i64 0, .slice none 0 0]) /\ (Fr w' (w3.heap.size)) /\ Past W w' /\ w3.heap.size + 1 <= w'.heap.size) kKeep ?_
  rintro w4 ⟨e3, e5, e8, b10, f10, p4, z4⟩
  obtain ⟨P10, hP10⟩ : ∃ P10, w3.heap.size = P10 := ⟨_, rfl⟩
  rw [hP10] at b10 f10 z4 z3
  rw [hP10]
  clear b3 b5 b8 p3 hP10
  go_wp2_with fail
  go_loopw [11] (fun iv wr => (iv = .int .i64 0 /\ (Bx wr (W.heap.size) (nC n (.slice Ai n.ins.length ci) (.slice Aw n.ws.length cw) (.slice Ab n.bs.length cb))) /\ (Bx wr (W.heap.size + 1) #[(.slice A2 a.xs.length c2), sb]) /\ (Bx wr P8 #[.int .i64 m.1, .int .i64 m.2.1, .int .i64 m.2.2, .int .i64 n.zero]) /\ (Bx wr P10 #[.int .i64 0, .int .i64 0, .slice none 0 0, .int .i64 0, .int .i64 0, .slice none 0 0]) /\ (Fr wr P10) /\ Past W wr /\ P10 + 1 <= wr.heap.size) ∨ (iv = .int .i64 1 /\ (Bx wr (W.heap.size) (nC n (.slice Ai n.ins.length ci) (.slice Aw n.ws.length cw) (.slice Ab n.bs.length cb))) /\ (Bx wr (W.heap.size + 1) #[(.slice A2 a.xs.length c2), sb]) /\ (Bx wr P8 #[.int .i64 m.1, .int .i64 m.2.1, .int .i64 m.2.2, .int .i64 n.zero]) /\ (Bx wr P10 #[.int .i64 0, .int .i64 a.v.h, (.slice A2 a.xs.length c2), .int .i64 0, .int .i64 0, .slice none 0 0]) /\ (Fr wr P10) /\ Past W wr /\ P10 + 1 <= wr.heap.size)) (fun iv _ => 1 - (intOf iv).toNat)
  case atStart => exact Or.inl ⟨by first | rfl | go_num, e3, e5, e8, b10, f10, p4, z4⟩
  case round =>
    clear e3 e5 e8 b10 f10 p4 z4
    rcases hrel with ⟨rfl, e3, e5, e8, b10, f10, p4, z4⟩ | ⟨rfl, e3, e5, e8, b10, f10, p4, z4⟩
    . have dl : decide ((0 : Int) < (vs.length : Int)) = true := by rw [HL.out]; decide
      have vv := ((HLC.out 0 (by rw [HL.out]; decide)).grow hlb p4).1
      rw [<- EA.out] at vv
      simp only [Nat.zero_mul, Nat.one_mul, Nat.add_zero] at vv
      have hlb2 : lb + 1 <= wr.heap.size := Nat.lt_of_lt_of_le hlb p4.2.2.1
      have il : (0 : Nat) < vs.length := by rw [HL.out]; decide
      have lbP : lb < P10 := by omega
      have il2 : (0 : Int) < (vs.length : Int) := by rw [HL.out]; decide
      go_upto_region 8 with fail
      refine wp_region_stage [12] [fun w' => (Bx w' (W.heap.size) (nC n (.slice Ai n.ins.length ci) (.slice Aw n.ws.length cw) (.slice Ab n.bs.length cb))) /\ (Bx w' (W.heap.size + 1) #[(.slice A2 a.xs.length c2), sb]) /\ (Bx w' P8 #[.int .i64 m.1, .int .i64 m.2.1, .int .i64 m.2.2, .int .i64 n.zero]) /\ (Bx w' P10 #[.int .i64 0, .int .i64 0, .slice none 0 0, .int .i64 0, .int .i64 0, .slice none 0 0]) /\ (Fr w' P10) /\ Past W w' /\ P10 + 1 <= w'.heap.size /\ w'.cell? ⟨lb, lo, none⟩ = some (.int .i64 a.v.h) /\ lb + 1 <= w'.heap.size, fun w' => (Bx w' (W.heap.size) (nC n (.slice Ai n.ins.length ci) (.slice Aw n.ws.length cw) (.slice Ab n.bs.length cb))) /\ (Bx w' (W.heap.size + 1) #[(.slice A2 a.xs.length c2), sb]) /\ (Bx w' P8 #[.int .i64 m.1, .int .i64 m.2.1, .int .i64 m.2.2, .int .i64 n.zero]) /\ (Bx w' P10 #[.int .i64 0, .int .i64 a.v.h, (.slice A2 a.xs.length c2), .int .i64 0, .int .i64 0, .slice none 0 0]) /\ (Fr w' P10) /\ Past W w' /\ P10 + 1 <= w'.heap.size /\ w'.cell? ⟨lb, lo, none⟩ = some (.int .i64 a.v.h) /\ lb + 1 <= w'.heap.size] [(32, ?vr032), (33, ?vr033), (34, ?vr034), (35, ?vr035), (36, ?vr036), (37, ?vr037), (38, ?vr038), (39, ?vr039), (40, ?vr040), (41, ?vr041), (42, ?vr042), (43, ?vr043)] [32, 33, 34, 35, 36, 37, 38, 39, 40, 41, 42, 43] (by kernel_rfl) (by kernel_rfl) rfl (by kernel_rfl) ⟨e3, e5, e8, b10, f10, p4, z4, vv, hlb2⟩ (fun w h => h) ?allr0 ?forr0 ?finr0
      case allr0 =>
        simp only [fillA, Act.put, fU1, fU2, fU3]
        refine ⟨?_, ?_, True.intro⟩
        all_goals (iterate 13 (first | refine pass rfl ?_ | (refine abides (fun w hw K hK => ?_) ?_; focus ((have hS := Lib.hid hw); go_split_ands; go_simp; (try simp only [Act.put, List.setIfInBounds_toArray, List.set_cons_zero, List.set_cons_succ]); first | exact hK _ hS.out))))
        all_goals exact True.intro
      case forr0 =>
        simp only [fillA, Act.put, fU1, fU2, fU3]
        refine turns rfl (fun w hw K hK => ?_) True.intro
        obtain ⟨q3, q5, q8, q10, qf, qp, qz, qv, qb⟩ := hw
        go_simp
        refine hK _ ?_
        exact ⟨by (exact kKeep), by (exact kKeep), by (exact kKeep), box6_lo q10, by (exact kKeep), by (exact kKeep), by (exact kKeep), by (exact kKeep), by (exact kKeep)⟩
      rintro w7 ⟨q3, q5, q8, q10, qf, qp, qz, _, _⟩
      simp only [fillA, Act.put, fU1, fU2, fU3]
      clear e3 e5 e8 b10 f10 p4 vv
      go_wp2_with fail
      go_roundw
      case rel => exact Or.inr ⟨by first | rfl | go_num, q3, q5, q8, q10, qf, qp, qz⟩
      case measure => first | (simp [intOf]; done) | decide | (simp [intOf]; omega)
    . have dl : decide ((1 : Int) < (vs.length : Int)) = false := by rw [HL.out]; decide
      go_upto_region 10 with fail
      refine opq (fun w' => Past wr w' /\ Hid (Own8 w' wr.heap.size (.slice (some ⟨wr.heap.size, 0, none⟩) 0 0) []) /\ wr.heap.size <= w'.heap.size) ⟨(Past.refl _).alloc _, Lib.hid (own8_new (Nat.le_refl _)), by simp⟩ ?_
      rintro w6 ⟨p6, OW0, zB⟩
      obtain ⟨w5, hw5⟩ : ∃ w5, w5 = wr := ⟨wr, rfl⟩
      subst hw5
      obtain ⟨B, hB⟩ : ∃ B, w5.heap.size = B := ⟨_, rfl⟩
      have HB := Lib.hid hB
      have WB : W.heap.size <= B := by have := p4.2.2.1; omega
      rw [hB] at OW0 zB z4
      rw [hB]
      clear hB
      go_wp2_with fail
      go_loopw [12, 13] (fun v i wr => ∃ k : Nat, k <= H /\ i = .int .i64 k /\ Hid (Own8 wr B v (allL n a (⟨⟨0, 0, 0, 0⟩, 0, 0, []⟩ : ViewD) m R (k * R))) /\ Past w5 wr /\ B <= wr.heap.size) (fun _ i _ => H - (intOf i).toNat)
      case atStart => exact ⟨0, by omega, rfl, Lib.hid (by rw [Nat.zero_mul]; exact OW0.out), p6, zB⟩
      case round =>
        obtain ⟨y, hy, rfl, hown, pp, zz⟩ := hrel
        have b8q := box_past pp e8 (by have := HB.out; omega)
        by_cases hly : y < H
        . have d1 : decide ((y : Int) < m.1) = true := by have := HH.out; simp; omega
          have b3q := box_past pp e3 (by have := HB.out; omega)
          have b10q := box_past pp b10 (by have := HB.out; omega)
          have RWy := Lib.hid (RW.out _ (p4.trans pp) y hly)
          go_wp2_with (refine wpList_load_box rfl 44 (.tmp 3) rfl W.heap.size (nC n (.slice Ai n.ins.length ci) (.slice Aw n.ws.length cw) (.slice Ab n.bs.length cb)) rfl b3q Tryz.underlying44 rfl N14 ?_)
          refine RWy.out.mono ?_
          rintro e w8 ⟨v5, rfl, hv5, pv⟩
          obtain ⟨rb, ro, rc, rfl⟩ := nums_some hv5 (by rw [rowL_len]; omega)
          have OW := Lib.hid (hown.out.past pv)
          have P5 := pp.trans pv
          have Z5 : B <= w8.heap.size := by have := pv.2.2.1; omega
          have AR := Lib.hid (allL_row n a (⟨⟨0, 0, 0, 0⟩, 0, 0, []⟩ : ViewD) m R y)
          have lk : y * R <= 2048 := Nat.mul_le_mul (show y <= 16 by omega) R2
          have HV := Lib.hid hv5
          have RL := Lib.hid (rowL_len n a (⟨⟨0, 0, 0, 0⟩, 0, 0, []⟩ : ViewD) m y R)
          clear hown pp zz b3q b10q b8q pv RWy hv5
          go_wp2_with (at_builtin; refine wpList_append_own _ rfl (.tmp 63) (.tmp 64) 27 rfl B 35 i0 _ 1 1 Tryz.underlying27 I1.out I2.out I3.out I4.out rfl (by decide) _ _ _ rfl OW.out ⟨rb, ro, none⟩ _ rc ((rowL n a (⟨⟨0, 0, 0, 0⟩, 0, 0, []⟩ : ViewD) m y R).map (Value.int .i8)) rfl (by simp) (nums_cells HV.out) (ints_oneCell _ _) ?c4 ?c5 ?c6 ?_)
          case c4 => unfold maxLen; rw [allL_len, rowL_len]; omega
          case c5 => rw [allL_len, rowL_len]; omega
          case c6 => omega
          intro v4 w9 hown4 hgrow _
          have ho4 := Lib.hid (own8_more rfl hown4)
          have P4 := P5.grownBy hgrow (fun j hj => by have := (OW.out.lt j hj).1; have := HB.out; omega)
          have Z4 : B <= w9.heap.size := by have := hgrow.size; omega
          clear hown4 hgrow OW P5 Z5 HV
          go_wp2_with fail
          go_roundw
          case rel => exact ⟨y + 1, by omega, by go_num, Lib.hid (by rw [Nat.add_mul, Nat.one_mul, AR.out]; exact ho4.out), P4, Z4⟩
          case measure => simp [intOf]; omega
        . obtain rfl : y = H := by omega
          have d1 : decide ((y : Int) < m.1) = false := by have := HH.out; simp; omega
          go_wp2_with fail
          go_ret2
          exact ⟨_, rfl, own8_base hown.out WB, p4.trans pp⟩
set_option maxHeartbeats 8000000 in
theorem rAll_2 (n : NodeD) (vi vw vb lv : Value) (m : Int × Int × Int) (a b : ViewD) (sa sb : Value) (vs : List ValD) (W : World) (h : MakeOk n vs a b m) (hlen : vs.length = 2) (hin : NodeIn W n vi vw vb) (hl : IsVals W lv vs) (na : IsNums .i8 W sa a.xs) (nb : IsNums .i8 W sb b.xs) :
    Calls Tryz.prog 14 #[.agg (nC n vi vw vb), lv, .agg #[sa, sb]] W fun e w' => ∃ v, e = .returned (.tuple #[v, .int .i64 0]) /\ Own8 w' W.heap.size v (allL n a b m (m.2.1.toNat * m.2.2.toNat) (m.1.toNat * (m.2.1.toNat * m.2.2.toNat))) /\ Past W w' := by
  obtain ⟨m1, m2, m3, m4, m5, m6⟩ := h.m16
  obtain ⟨H, hH⟩ : ∃ H : Nat, m.1 = H := ⟨m.1.toNat, by omega⟩
  have hHn : m.1.toNat = H := by rw [hH]; rfl
  obtain ⟨R, hR⟩ : ∃ R : Nat, m.2.1.toNat * m.2.2.toNat = R := ⟨_, rfl⟩
  have R1 : 1 <= R := by rw [<- hR]; exact Nat.mul_le_mul (show 1 <= m.2.1.toNat by omega) (show 1 <= m.2.2.toNat by omega)
  have R2 : R <= 128 := by rw [<- hR]; exact Nat.mul_le_mul (show m.2.1.toNat <= 16 by omega) (show m.2.2.toNat <= 8 by omega)
  have H16 : H <= 16 := by omega
  rw [hHn, hR]
  have HH := Lib.hid hH
  have VV := Lib.hid (fun w (g : Past W w) => rvalue_is (hin.grow g) (hl.grow g) h.1 h.2.1)
  have RW : Hid (∀ w, Past W w -> ∀ y : Nat, y < H -> Calls Tryz.prog 28 #[.agg (nC n vi vw vb), lv, .agg #[.int .i64 0, .int .i64 a.v.h, sa, .int .i64 0, .int .i64 b.v.h, sb], .int .i64 y] w fun e w' => ∃ v, e = .returned (.tuple #[v, .int .i64 0]) /\ IsNums .i8 w' v (rowL n a b m y R) /\ Past w w') := Lib.hid (fun w g y hy => by
    have := rRow_2 n vi vw vb lv m a b sa sb vs y w h hlen (by omega) (by omega) (hin.grow g) (hl.grow g) (na.grow g) (nb.grow g)
    rw [hR] at this
    exact this)
  have EA := Lib.hid h.2.2.2.1
  have HB : n.op = 6 ∨ n.op = 7 ∨ n.op = 10 := by
    rcases vals_len h.1 with ⟨c, _⟩ | ⟨_, c⟩
    . exact c
    . omega
  have EB := Lib.hid (h.2.2.2.2 HB).2
  clear HB
  have HL := Lib.hid hlen
  obtain ⟨A1, lc, rfl, a1, a2, _, _, a5⟩ := hl
  obtain ⟨lb, lo, rfl, hlb, hlc⟩ := a5 (by omega)
  have HLC := Lib.hid hlc
  have k1 : vs.length <= 9223372036854775807 := by omega
  obtain ⟨A2, c2, rfl, -⟩ := na
  obtain ⟨Ai, ci, rfl, -⟩ := hin.1
  obtain ⟨Aw, cw, rfl, -⟩ := hin.2.1
  obtain ⟨Ab, cb, rfl, -⟩ := hin.2.2
  obtain ⟨A3, c3, rfl, -⟩ := nb
  obtain ⟨i0, hi0, hz0, hz1, hz2⟩ := info_parts infoI8
  have I1 := Lib.hid hi0
  have I2 := Lib.hid hz0
  have I3 := Lib.hid hz1
  have I4 := Lib.hid hz2
  clear hi0 hz0 hz1 hz2 h hin hlen hH hHn hR m1 m2 m3 m4 m5 m6 a2 a5 hlc
  go_enter Tryz.func14, Tryz.ntmps14
  go_upto_region 1 with fail
  refine opq (fun w' => (Bx w' (W.heap.size) (nC n (.slice Ai n.ins.length ci) (.slice Aw n.ws.length cw) (.slice Ab n.bs.length cb))) /\ (Bx w' (W.heap.size + 1) #[(.slice A2 a.xs.length c2), (.slice A3 b.xs.length c3)]) /\ Past W w' /\ W.heap.size + 2 <= w'.heap.size) kKeep ?_
  rintro W1 ⟨b3, b5, p1, z1⟩
  go_wp2_with (refine wpList_load_box rfl 44 (.tmp 3) rfl W.heap.size (nC n (.slice Ai n.ins.length ci) (.slice Aw n.ws.length cw) (.slice Ab n.bs.length cb)) rfl b3 Tryz.underlying44 rfl N14 ?_)
  refine (VV.out _ p1).mono ?_
  rintro e w2 ⟨rfl, g2⟩
  obtain ⟨d3, d5, p2, z2⟩ : (Bx w2 (W.heap.size) (nC n (.slice Ai n.ins.length ci) (.slice Aw n.ws.length cw) (.slice Ab n.bs.length cb))) /\ (Bx w2 (W.heap.size + 1) #[(.slice A2 a.xs.length c2), (.slice A3 b.xs.length c3)]) /\ Past W w2 /\ W.heap.size + 2 <= w2.heap.size := ⟨box_grown g2 b3 (by omega), box_grown g2 b5 (by omega), p1.trans (Grown.past g2), by have := g2.2.2; omega⟩
  clear b3 b5 p1 z1 g2 VV
  go_upto_region 2 with fail
  refine opq (fun w' => (Bx w' (W.heap.size) (nC n (.slice Ai n.ins.length ci) (.slice Aw n.ws.length cw) (.slice Ab n.bs.length cb))) /\ (Bx w' (W.heap.size + 1) #[(.slice A2 a.xs.length c2), (.slice A3 b.xs.length c3)]) /\ (Bx w' (w2.heap.size) #[.int .i64 m.1, .int .i64 m.2.1, .int .i64 m.2.2, .int .i64 n.zero]) /\ Past W w' /\ w2.heap.size + 1 <= w'.heap.size) kKeep ?_
  rintro w3 ⟨b3, b5, b8, p3, z3⟩
  obtain ⟨P8, hP8⟩ : ∃ P8, w2.heap.size = P8 := ⟨_, rfl⟩
  rw [hP8] at b8 z3 z2
  rw [hP8]
  clear d3 d5 p2 hP8
  go_upto_region 5 with fail
  refine opq (fun w' => (Bx w' (W.heap.size) (nC n (.slice Ai n.ins.length ci) (.slice Aw n.ws.length cw) (.slice Ab n.bs.length cb))) /\ (Bx w' (W.heap.size + 1) #[(.slice A2 a.xs.length c2), (.slice A3 b.xs.length c3)]) /\ (Bx w' P8 #[.int .i64 m.1, .int .i64 m.2.1, .int .i64 m.2.2, .int .i64 n.zero]) /\ (Bx w' (w3.heap.size) #[.int .i64 0, .int .i64 0, .slice none 0 0, .int .i64 0, .int .i64 0, .slice none 0 0]) /\ (Fr w' (w3.heap.size)) /\ Past W w' /\ w3.heap.size + 1 <= w'.heap.size) kKeep ?_
  rintro w4 ⟨e3, e5, e8, b10, f10, p4, z4⟩
  obtain ⟨P10, hP10⟩ : ∃ P10, w3.heap.size = P10 := ⟨_, rfl⟩
  rw [hP10] at b10 f10 z4 z3
  rw [hP10]
  clear b3 b5 b8 p3 hP10
  go_wp2_with fail
  go_loopw [11] (fun iv wr => (iv = .int .i64 0 /\ (Bx wr (W.heap.size) (nC n (.slice Ai n.ins.length ci) (.slice Aw n.ws.length cw) (.slice Ab n.bs.length cb))) /\ (Bx wr (W.heap.size + 1) #[(.slice A2 a.xs.length c2), (.slice A3 b.xs.length c3)]) /\ (Bx wr P8 #[.int .i64 m.1, .int .i64 m.2.1, .int .i64 m.2.2, .int .i64 n.zero]) /\ (Bx wr P10 #[.int .i64 0, .int .i64 0, .slice none 0 0, .int .i64 0, .int .i64 0, .slice none 0 0]) /\ (Fr wr P10) /\ Past W wr /\ P10 + 1 <= wr.heap.size) ∨ (iv = .int .i64 1 /\ (Bx wr (W.heap.size) (nC n (.slice Ai n.ins.length ci) (.slice Aw n.ws.length cw) (.slice Ab n.bs.length cb))) /\ (Bx wr (W.heap.size + 1) #[(.slice A2 a.xs.length c2), (.slice A3 b.xs.length c3)]) /\ (Bx wr P8 #[.int .i64 m.1, .int .i64 m.2.1, .int .i64 m.2.2, .int .i64 n.zero]) /\ (Bx wr P10 #[.int .i64 0, .int .i64 a.v.h, (.slice A2 a.xs.length c2), .int .i64 0, .int .i64 0, .slice none 0 0]) /\ (Fr wr P10) /\ Past W wr /\ P10 + 1 <= wr.heap.size) ∨ (iv = .int .i64 2 /\ (Bx wr (W.heap.size) (nC n (.slice Ai n.ins.length ci) (.slice Aw n.ws.length cw) (.slice Ab n.bs.length cb))) /\ (Bx wr (W.heap.size + 1) #[(.slice A2 a.xs.length c2), (.slice A3 b.xs.length c3)]) /\ (Bx wr P8 #[.int .i64 m.1, .int .i64 m.2.1, .int .i64 m.2.2, .int .i64 n.zero]) /\ (Bx wr P10 #[.int .i64 0, .int .i64 a.v.h, (.slice A2 a.xs.length c2), .int .i64 0, .int .i64 b.v.h, (.slice A3 b.xs.length c3)]) /\ (Fr wr P10) /\ Past W wr /\ P10 + 1 <= wr.heap.size)) (fun iv _ => 2 - (intOf iv).toNat)
  case atStart => exact Or.inl ⟨by first | rfl | go_num, e3, e5, e8, b10, f10, p4, z4⟩
  case round =>
    clear e3 e5 e8 b10 f10 p4 z4
    rcases hrel with ⟨rfl, e3, e5, e8, b10, f10, p4, z4⟩ | ⟨rfl, e3, e5, e8, b10, f10, p4, z4⟩ | ⟨rfl, e3, e5, e8, b10, f10, p4, z4⟩
    . have dl : decide ((0 : Int) < (vs.length : Int)) = true := by rw [HL.out]; decide
      have vv := ((HLC.out 0 (by rw [HL.out]; decide)).grow hlb p4).1
      rw [<- EA.out] at vv
      simp only [Nat.zero_mul, Nat.one_mul, Nat.add_zero] at vv
      have hlb2 : lb + 1 <= wr.heap.size := Nat.lt_of_lt_of_le hlb p4.2.2.1
      have il : (0 : Nat) < vs.length := by rw [HL.out]; decide
      have lbP : lb < P10 := by omega
      have il2 : (0 : Int) < (vs.length : Int) := by rw [HL.out]; decide
      go_upto_region 8 with fail
      refine wp_region_stage [12] [fun w' => (Bx w' (W.heap.size) (nC n (.slice Ai n.ins.length ci) (.slice Aw n.ws.length cw) (.slice Ab n.bs.length cb))) /\ (Bx w' (W.heap.size + 1) #[(.slice A2 a.xs.length c2), (.slice A3 b.xs.length c3)]) /\ (Bx w' P8 #[.int .i64 m.1, .int .i64 m.2.1, .int .i64 m.2.2, .int .i64 n.zero]) /\ (Bx w' P10 #[.int .i64 0, .int .i64 0, .slice none 0 0, .int .i64 0, .int .i64 0, .slice none 0 0]) /\ (Fr w' P10) /\ Past W w' /\ P10 + 1 <= w'.heap.size /\ w'.cell? ⟨lb, lo, none⟩ = some (.int .i64 a.v.h) /\ lb + 1 <= w'.heap.size, fun w' => (Bx w' (W.heap.size) (nC n (.slice Ai n.ins.length ci) (.slice Aw n.ws.length cw) (.slice Ab n.bs.length cb))) /\ (Bx w' (W.heap.size + 1) #[(.slice A2 a.xs.length c2), (.slice A3 b.xs.length c3)]) /\ (Bx w' P8 #[.int .i64 m.1, .int .i64 m.2.1, .int .i64 m.2.2, .int .i64 n.zero]) /\ (Bx w' P10 #[.int .i64 0, .int .i64 a.v.h, (.slice A2 a.xs.length c2), .int .i64 0, .int .i64 0, .slice none 0 0]) /\ (Fr w' P10) /\ Past W w' /\ P10 + 1 <= w'.heap.size /\ w'.cell? ⟨lb, lo, none⟩ = some (.int .i64 a.v.h) /\ lb + 1 <= w'.heap.size] [(32, ?vr032), (33, ?vr033), (34, ?vr034), (35, ?vr035), (36, ?vr036), (37, ?vr037), (38, ?vr038), (39, ?vr039), (40, ?vr040), (41, ?vr041), (42, ?vr042), (43, ?vr043)] [32, 33, 34, 35, 36, 37, 38, 39, 40, 41, 42, 43] (by kernel_rfl) (by kernel_rfl) rfl (by kernel_rfl) ⟨e3, e5, e8, b10, f10, p4, z4, vv, hlb2⟩ (fun w h => h) ?allr0 ?forr0 ?finr0
      case allr0 =>
        simp only [fillA, Act.put, fU1, fU2, fU3]
        refine ⟨?_, ?_, True.intro⟩
        all_goals (iterate 13 (first | refine pass rfl ?_ | (refine abides (fun w hw K hK => ?_) ?_; focus ((have hS := Lib.hid hw); go_split_ands; go_simp; (try simp only [Act.put, List.setIfInBounds_toArray, List.set_cons_zero, List.set_cons_succ]); first | exact hK _ hS.out))))
        all_goals exact True.intro
      case forr0 =>
        simp only [fillA, Act.put, fU1, fU2, fU3]
        refine turns rfl (fun w hw K hK => ?_) True.intro
        obtain ⟨q3, q5, q8, q10, qf, qp, qz, qv, qb⟩ := hw
        go_simp
        refine hK _ ?_
        exact ⟨by (exact kKeep), by (exact kKeep), by (exact kKeep), box6_lo q10, by (exact kKeep), by (exact kKeep), by (exact kKeep), by (exact kKeep), by (exact kKeep)⟩
      rintro w7 ⟨q3, q5, q8, q10, qf, qp, qz, _, _⟩
      simp only [fillA, Act.put, fU1, fU2, fU3]
      clear e3 e5 e8 b10 f10 p4 vv
      go_wp2_with fail
      go_roundw
      case rel => exact Or.inr (Or.inl ⟨by first | rfl | go_num, q3, q5, q8, q10, qf, qp, qz⟩)
      case measure => first | (simp [intOf]; done) | decide | (simp [intOf]; omega)
    . have dl : decide ((1 : Int) < (vs.length : Int)) = true := by rw [HL.out]; decide
      have vv := ((HLC.out 1 (by rw [HL.out]; decide)).grow hlb p4).1
      rw [<- EB.out] at vv
      simp only [Nat.zero_mul, Nat.one_mul, Nat.add_zero] at vv
      have hlb2 : lb + 1 <= wr.heap.size := Nat.lt_of_lt_of_le hlb p4.2.2.1
      have il : (1 : Nat) < vs.length := by rw [HL.out]; decide
      have lbP : lb < P10 := by omega
      have il2 : (1 : Int) < (vs.length : Int) := by rw [HL.out]; decide
      go_upto_region 8 with fail
      refine wp_region_stage [12] [fun w' => (Bx w' (W.heap.size) (nC n (.slice Ai n.ins.length ci) (.slice Aw n.ws.length cw) (.slice Ab n.bs.length cb))) /\ (Bx w' (W.heap.size + 1) #[(.slice A2 a.xs.length c2), (.slice A3 b.xs.length c3)]) /\ (Bx w' P8 #[.int .i64 m.1, .int .i64 m.2.1, .int .i64 m.2.2, .int .i64 n.zero]) /\ (Bx w' P10 #[.int .i64 0, .int .i64 a.v.h, (.slice A2 a.xs.length c2), .int .i64 0, .int .i64 0, .slice none 0 0]) /\ (Fr w' P10) /\ Past W w' /\ P10 + 1 <= w'.heap.size /\ w'.cell? ⟨lb, lo + 4, none⟩ = some (.int .i64 b.v.h) /\ lb + 1 <= w'.heap.size, fun w' => (Bx w' (W.heap.size) (nC n (.slice Ai n.ins.length ci) (.slice Aw n.ws.length cw) (.slice Ab n.bs.length cb))) /\ (Bx w' (W.heap.size + 1) #[(.slice A2 a.xs.length c2), (.slice A3 b.xs.length c3)]) /\ (Bx w' P8 #[.int .i64 m.1, .int .i64 m.2.1, .int .i64 m.2.2, .int .i64 n.zero]) /\ (Bx w' P10 #[.int .i64 0, .int .i64 a.v.h, (.slice A2 a.xs.length c2), .int .i64 0, .int .i64 b.v.h, (.slice A3 b.xs.length c3)]) /\ (Fr w' P10) /\ Past W w' /\ P10 + 1 <= w'.heap.size /\ w'.cell? ⟨lb, lo + 4, none⟩ = some (.int .i64 b.v.h) /\ lb + 1 <= w'.heap.size] [(32, ?vr132), (33, ?vr133), (34, ?vr134), (35, ?vr135), (36, ?vr136), (37, ?vr137), (38, ?vr138), (39, ?vr139), (40, ?vr140), (41, ?vr141), (42, ?vr142), (43, ?vr143)] [32, 33, 34, 35, 36, 37, 38, 39, 40, 41, 42, 43] (by kernel_rfl) (by kernel_rfl) rfl (by kernel_rfl) ⟨e3, e5, e8, b10, f10, p4, z4, vv, hlb2⟩ (fun w h => h) ?allr1 ?forr1 ?finr1
      case allr1 =>
        simp only [fillA, Act.put, fU1, fU2, fU3]
        refine ⟨?_, ?_, True.intro⟩
        all_goals (iterate 13 (first | refine pass rfl ?_ | (refine abides (fun w hw K hK => ?_) ?_; focus ((have hS := Lib.hid hw); go_split_ands; go_simp; (try simp only [Act.put, List.setIfInBounds_toArray, List.set_cons_zero, List.set_cons_succ]); first | exact hK _ hS.out))))
        all_goals exact True.intro
      case forr1 =>
        simp only [fillA, Act.put, fU1, fU2, fU3]
        refine turns rfl (fun w hw K hK => ?_) True.intro
        obtain ⟨q3, q5, q8, q10, qf, qp, qz, qv, qb⟩ := hw
        go_simp
        refine hK _ ?_
        exact ⟨by (exact kKeep), by (exact kKeep), by (exact kKeep), box6_hi q10, by (exact kKeep), by (exact kKeep), by (exact kKeep), by (exact kKeep), by (exact kKeep)⟩
      rintro w7 ⟨q3, q5, q8, q10, qf, qp, qz, _, _⟩
      simp only [fillA, Act.put, fU1, fU2, fU3]
      clear e3 e5 e8 b10 f10 p4 vv
      go_wp2_with fail
      go_roundw
      case rel => exact Or.inr (Or.inr ⟨by first | rfl | go_num, q3, q5, q8, q10, qf, qp, qz⟩)
      case measure => first | (simp [intOf]; done) | decide | (simp [intOf]; omega)
    . have dl : decide ((2 : Int) < (vs.length : Int)) = false := by rw [HL.out]; decide
      go_upto_region 10 with fail
      refine opq (fun w' => Past wr w' /\ Hid (Own8 w' wr.heap.size (.slice (some ⟨wr.heap.size, 0, none⟩) 0 0) []) /\ wr.heap.size <= w'.heap.size) ⟨(Past.refl _).alloc _, Lib.hid (own8_new (Nat.le_refl _)), by simp⟩ ?_
      rintro w6 ⟨p6, OW0, zB⟩
      obtain ⟨w5, hw5⟩ : ∃ w5, w5 = wr := ⟨wr, rfl⟩
      subst hw5
      obtain ⟨B, hB⟩ : ∃ B, w5.heap.size = B := ⟨_, rfl⟩
      have HB := Lib.hid hB
      have WB : W.heap.size <= B := by have := p4.2.2.1; omega
      rw [hB] at OW0 zB z4
      rw [hB]
      clear hB
      go_wp2_with fail
      go_loopw [12, 13] (fun v i wr => ∃ k : Nat, k <= H /\ i = .int .i64 k /\ Hid (Own8 wr B v (allL n a b m R (k * R))) /\ Past w5 wr /\ B <= wr.heap.size) (fun _ i _ => H - (intOf i).toNat)
      case atStart => exact ⟨0, by omega, rfl, Lib.hid (by rw [Nat.zero_mul]; exact OW0.out), p6, zB⟩
      case round =>
        obtain ⟨y, hy, rfl, hown, pp, zz⟩ := hrel
        have b8q := box_past pp e8 (by have := HB.out; omega)
        by_cases hly : y < H
        . have d1 : decide ((y : Int) < m.1) = true := by have := HH.out; simp; omega
          have b3q := box_past pp e3 (by have := HB.out; omega)
          have b10q := box_past pp b10 (by have := HB.out; omega)
          have RWy := Lib.hid (RW.out _ (p4.trans pp) y hly)
          go_wp2_with (refine wpList_load_box rfl 44 (.tmp 3) rfl W.heap.size (nC n (.slice Ai n.ins.length ci) (.slice Aw n.ws.length cw) (.slice Ab n.bs.length cb)) rfl b3q Tryz.underlying44 rfl N14 ?_)
          refine RWy.out.mono ?_
          rintro e w8 ⟨v5, rfl, hv5, pv⟩
          obtain ⟨rb, ro, rc, rfl⟩ := nums_some hv5 (by rw [rowL_len]; omega)
          have OW := Lib.hid (hown.out.past pv)
          have P5 := pp.trans pv
          have Z5 : B <= w8.heap.size := by have := pv.2.2.1; omega
          have AR := Lib.hid (allL_row n a b m R y)
          have lk : y * R <= 2048 := Nat.mul_le_mul (show y <= 16 by omega) R2
          have HV := Lib.hid hv5
          have RL := Lib.hid (rowL_len n a b m y R)
          clear hown pp zz b3q b10q b8q pv RWy hv5
          go_wp2_with (at_builtin; refine wpList_append_own _ rfl (.tmp 63) (.tmp 64) 27 rfl B 35 i0 _ 1 1 Tryz.underlying27 I1.out I2.out I3.out I4.out rfl (by decide) _ _ _ rfl OW.out ⟨rb, ro, none⟩ _ rc ((rowL n a b m y R).map (Value.int .i8)) rfl (by simp) (nums_cells HV.out) (ints_oneCell _ _) ?c4 ?c5 ?c6 ?_)
          case c4 => unfold maxLen; rw [allL_len, rowL_len]; omega
          case c5 => rw [allL_len, rowL_len]; omega
          case c6 => omega
          intro v4 w9 hown4 hgrow _
          have ho4 := Lib.hid (own8_more rfl hown4)
          have P4 := P5.grownBy hgrow (fun j hj => by have := (OW.out.lt j hj).1; have := HB.out; omega)
          have Z4 : B <= w9.heap.size := by have := hgrow.size; omega
          clear hown4 hgrow OW P5 Z5 HV
          go_wp2_with fail
          go_roundw
          case rel => exact ⟨y + 1, by omega, by go_num, Lib.hid (by rw [Nat.add_mul, Nat.one_mul, AR.out]; exact ho4.out), P4, Z4⟩
          case measure => simp [intOf]; omega
        . obtain rfl : y = H := by omega
          have d1 : decide ((y : Int) < m.1) = false := by have := HH.out; simp; omega
          go_wp2_with fail
          go_ret2
          exact ⟨_, rfl, own8_base hown.out WB, p4.trans pp⟩
end Go.Proofs.YtliijchcpooplaaGreat
namespace Go.Proofs.YtliijchcpooplaaGreat
open Go.ChangeShapes Go.WideShapes Go.ChangeAt Go.RowKit
set_option maxRecDepth 20000
set_option linter.unusedVariables false
theorem rall_kern (n : NodeD) (vi vw vb lv sa sb : Value) (vs : List ValD) (ds : List (List Int)) (W : World) (h : valueE n vs = 0) (hf : ∀ j, j < vs.length -> Fits (vs.getD j default) (ds.getD j [])) (hz : ∀ j, j < vs.length -> -128 <= (vs.getD j default).z /\ (vs.getD j default).z <= 127)
    (hin : NodeIn W n vi vw vb) (hl : IsVals W lv vs) (na : IsNums .i8 W sa (ds.getD 0 [])) (nb : vs.length = 2 -> IsNums .i8 W sb (ds.getD 1 [])) :
    Calls Tryz.prog 14 #[.agg (nC n vi vw vb), lv, .agg #[sa, sb]] W fun e w' => ∃ v, e = .returned (.tuple #[v, .int .i64 0]) /\ Own8 w' W.heap.size v (kernL n vs ds) /\ Past W w' := by
  have mk := make_ok h hf hz
  rcases vals_len h with ⟨ho, hl2⟩ | ⟨ho, hl1⟩
  . have eb : vwB vs ds = vwOf (vs.getD 1 default) (ds.getD 1 []) := by unfold vwB; rw [if_pos hl2]
    have k := rAll_2 n vi vw vb lv (madeS n vs) (vwOf (vs.getD 0 default) (ds.getD 0 [])) (vwB vs ds) sa sb vs W mk hl2 hin hl na (by rw [eb]; exact nb hl2)
    unfold kernL
    exact k
  . have eb : vwB vs ds = ZV := by unfold vwB; rw [if_neg (by omega)]
    rw [eb] at mk
    have k := rAll_1 n vi vw vb lv (madeS n vs) (vwOf (vs.getD 0 default) (ds.getD 0 [])) sa sb vs W mk hl1 hin hl na
    unfold kernL
    rw [eb]
    exact k
end Go.Proofs.YtliijchcpooplaaGreat
