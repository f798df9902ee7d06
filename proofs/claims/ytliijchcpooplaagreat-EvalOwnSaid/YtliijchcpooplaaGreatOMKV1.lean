/- kern: All, of one value. -/
import Derived.Deep.DeepCutAuto
import Derived.Test.YtliijchcpooplaaGreatOMKU
namespace Go.Proofs.YtliijchcpooplaaGreat
open Go.ChangeShapes Go.WideShapes Go.ChangeAt Go.RowKit
set_option maxRecDepth 20000
set_option linter.unusedVariables false
set_option maxHeartbeats 8000000 in
theorem All_1 (n : NodeD) (vi vw vb lv : Value) (m : Int × Int × Int) (a  : ViewD) (sa sb : Value) (vs : List ValD) (W : World) (h : MakeOk n vs a (⟨⟨0, 0, 0, 0⟩, 0, 0, []⟩ : ViewD) m) (hlen : vs.length = 1) (hin : NodeIn W n vi vw vb) (hl : IsVals W lv vs) (na : IsNums .i8 W sa a.xs) :
    Calls Tryz.prog 26 #[.agg (nC n vi vw vb), lv, .agg #[sa, sb]] W fun e w' => ∃ v, e = .returned (.tuple #[v, .int .i64 0]) /\ Own8 w' W.heap.size v (allL n a (⟨⟨0, 0, 0, 0⟩, 0, 0, []⟩ : ViewD) m (m.2.1.toNat * m.2.2.toNat) (m.1.toNat * (m.2.1.toNat * m.2.2.toNat))) /\ Past W w' := by
  obtain ⟨m1, m2, m3, m4, m5, m6⟩ := h.m16
  obtain ⟨H, hH⟩ : ∃ H : Nat, m.1 = H := ⟨m.1.toNat, by omega⟩
  have hHn : m.1.toNat = H := by rw [hH]; rfl
  obtain ⟨R, hR⟩ : ∃ R : Nat, m.2.1.toNat * m.2.2.toNat = R := ⟨_, rfl⟩
  have R1 : 1 <= R := by rw [<- hR]; exact Nat.mul_le_mul (show 1 <= m.2.1.toNat by omega) (show 1 <= m.2.2.toNat by omega)
  have R2 : R <= 128 := by rw [<- hR]; exact Nat.mul_le_mul (show m.2.1.toNat <= 16 by omega) (show m.2.2.toNat <= 8 by omega)
  have H16 : H <= 16 := by omega
  rw [hHn, hR]
  have HH := Lib.hid hH
  have TK := Lib.hid (fun w (g : Past W w) => taskOf_ok n vi vw vb lv vs m w (hin.grow g) (hl.grow g) h.1 (Lib.hid h.2.1))
  have RW : Hid (∀ w, Past W w -> ∀ y : Nat, y < H -> Calls Tryz.prog 40 #[.agg (nC n vi vw vb), lv, .agg #[.int .i64 0, .int .i64 a.many, sa, .int .i64 0, .int .i64 0, .slice none 0 0], .int .i64 y] w fun e w' => ∃ v, e = .returned (.tuple #[v, .int .i64 0]) /\ IsNums .i8 w' v (rowL n a (⟨⟨0, 0, 0, 0⟩, 0, 0, []⟩ : ViewD) m y R) /\ Past w w') := Lib.hid (fun w g y hy => by
    have := Row_1 n vi vw vb lv m a  sa  vs y w h hlen (by omega) (by omega) (hin.grow g) (hl.grow g) (na.grow g)
    rw [hR] at this
    exact this)
  have EA := Lib.hid h.2.2.2.1
  have MA := Lib.hid h.2.2.1.2.2.1
  have HL := Lib.hid hlen
  obtain ⟨Ai, ci, rfl, _⟩ := hin.1
  obtain ⟨Aw, cw, rfl, _⟩ := hin.2.1
  obtain ⟨Ab, cb, rfl, _⟩ := hin.2.2
  obtain ⟨A1, c1, rfl, a1, a2, _, a4, a5⟩ := hl
  obtain ⟨lb, lo, rfl, hlb, hlc⟩ := a5 (by omega)
  have HC := Lib.hid hlc
  have k1 : vs.length <= 9223372036854775807 := by omega
  obtain ⟨A2, c2, rfl, _⟩ := na
  obtain ⟨i0, hi0, hz0, hz1, hz2⟩ := info_parts infoI8
  have I1 := Lib.hid hi0
  have I2 := Lib.hid hz0
  have I3 := Lib.hid hz1
  have I4 := Lib.hid hz2
  clear hi0 hz0 hz1 hz2 h hin hlen hH hHn hR m1 m2 m3 m4 m5 m6 a2 a4 a5 hlc
  go_enter Tryz.func26, Tryz.ntmps26
  go_upto_region 1 with fail
  refine opq (fun w' => (Bx w' (W.heap.size) (nC n (.slice Ai n.ins.length ci) (.slice Aw n.ws.length cw) (.slice Ab n.bs.length cb))) /\ (Bx w' (W.heap.size + 1) #[(.slice A2 a.xs.length c2), sb]) /\ Past W w' /\ W.heap.size + 2 <= w'.heap.size) kKeepS ?_
  rintro W1 ⟨b3, b5, p1, z1⟩
  go_wp2_with (refine wpList_load_box rfl 44 (.tmp 3) rfl W.heap.size (nC n (.slice Ai n.ins.length ci) (.slice Aw n.ws.length cw) (.slice Ab n.bs.length cb)) rfl b3 Tryz.underlying44 rfl N14 ?_)
  refine (TK.out _ p1).mono ?_
  rintro e w2 ⟨rfl, g2⟩
  have b32 := box_grown g2 b3 (by omega)
  have b52 := box_grown g2 b5 (by omega)
  have p2 := past_trans3 p1 g2
  have z2 : W.heap.size + 2 <= w2.heap.size := by have := g2.2.2; omega
  clear b3 b5 p1 z1 g2
  go_upto_region 5 with (first | ((refine wpList_alloc_box rfl 77 rfl (.agg #[.int .i64 0, .slice none 0 0, .int .i64 0, .int .i64 0, .int .i64 0, .int .i64 0, .int .i64 0, .int .i64 0, .int .i64 0, .int .i64 0, .int .i64 0, .int .i64 0, .slice none 0 0, .slice none 0 0, .slice none 0 0, .int .i64 0, .int .i64 0, .int .i64 0]) Z18 (fun w' => (Bx w' (w2.heap.size) #[.int .i64 0, .slice none 0 0, .int .i64 0, .int .i64 0, .int .i64 0, .int .i64 0, .int .i64 0, .int .i64 0, .int .i64 0, .int .i64 0, .int .i64 0, .int .i64 0, .slice none 0 0, .slice none 0 0, .slice none 0 0, .int .i64 0, .int .i64 0, .int .i64 0]) /\ (Fr w' (w2.heap.size)) /\ (Bx w' (W.heap.size) (nC n (.slice Ai n.ins.length ci) (.slice Aw n.ws.length cw) (.slice Ab n.bs.length cb))) /\ (Bx w' (W.heap.size + 1) #[(.slice A2 a.xs.length c2), sb]) /\ Past W w' /\ w2.heap.size + 1 <= w'.heap.size) ⟨box_new rfl, free_alloc (free_new (Nat.le_refl _)), box_old b32 (by omega), box_old b52 (by omega), p2.alloc _, by simp⟩ ?_); rintro w3 ⟨bz, fz, b33, b53, p3, z3⟩) | ((refine wpList_store_box rfl 77 (.tmp 8) (.tmp 21) rfl w2.heap.size #[.int .i64 n.op, (.slice Ai n.ins.length ci), .int .i64 n.k, .int .i64 n.stride, .int .i64 n.pad, .int .i64 n.out, .int .i64 n.mul, .int .i64 n.shift, .int .i64 n.zero, .int .i64 n.th, .int .i64 n.tw, .int .i64 n.tc, (.slice Aw n.ws.length cw), (.slice Ab n.bs.length cb), (.slice (some ⟨lb, lo, none⟩) vs.length c1), .int .i64 m.1, .int .i64 m.2.1, .int .i64 m.2.2] #[.int .i64 0, .slice none 0 0, .int .i64 0, .int .i64 0, .int .i64 0, .int .i64 0, .int .i64 0, .int .i64 0, .int .i64 0, .int .i64 0, .int .i64 0, .int .i64 0, .slice none 0 0, .slice none 0 0, .slice none 0 0, .int .i64 0, .int .i64 0, .int .i64 0] rfl rfl bz fz rfl T18 (by simp [Value.oneCell']) (fun w' => (Bx w' (w2.heap.size) #[.int .i64 n.op, (.slice Ai n.ins.length ci), .int .i64 n.k, .int .i64 n.stride, .int .i64 n.pad, .int .i64 n.out, .int .i64 n.mul, .int .i64 n.shift, .int .i64 n.zero, .int .i64 n.th, .int .i64 n.tw, .int .i64 n.tc, (.slice Aw n.ws.length cw), (.slice Ab n.bs.length cb), (.slice (some ⟨lb, lo, none⟩) vs.length c1), .int .i64 m.1, .int .i64 m.2.1, .int .i64 m.2.2]) /\ (Bx w' (W.heap.size) (nC n (.slice Ai n.ins.length ci) (.slice Aw n.ws.length cw) (.slice Ab n.bs.length cb))) /\ (Bx w' (W.heap.size + 1) #[(.slice A2 a.xs.length c2), sb]) /\ Past W w' /\ w2.heap.size + 1 <= w'.heap.size) ⟨box_setAll bz rfl, box_setOther (by omega) _ _ _ b33, box_setOther (by omega) _ _ _ b53, past_setAll (by omega) _ _ _ p3, size_setAll _ _ _ z3⟩ ?_); rintro w4 ⟨bt, b34, b54, p4, z4⟩))
  refine opq (fun w' => (Bx w' (w2.heap.size) #[.int .i64 n.op, (.slice Ai n.ins.length ci), .int .i64 n.k, .int .i64 n.stride, .int .i64 n.pad, .int .i64 n.out, .int .i64 n.mul, .int .i64 n.shift, .int .i64 n.zero, .int .i64 n.th, .int .i64 n.tw, .int .i64 n.tc, (.slice Aw n.ws.length cw), (.slice Ab n.bs.length cb), (.slice (some ⟨lb, lo, none⟩) vs.length c1), .int .i64 m.1, .int .i64 m.2.1, .int .i64 m.2.2]) /\ (Bx w' (W.heap.size) (nC n (.slice Ai n.ins.length ci) (.slice Aw n.ws.length cw) (.slice Ab n.bs.length cb))) /\ (Bx w' (W.heap.size + 1) #[(.slice A2 a.xs.length c2), sb]) /\ (Bx w' (w4.heap.size) #[.int .i64 0, .int .i64 0, .slice none 0 0, .int .i64 0, .int .i64 0, .slice none 0 0]) /\ (Fr w' (w4.heap.size)) /\ Past W w' /\ w4.heap.size + 1 <= w'.heap.size) kKeepS ?_
  rintro w5 ⟨bt, b3, b5, b10, f10, p5, z5⟩
  obtain ⟨P8, hP8⟩ : ∃ P8, w2.heap.size = P8 := ⟨_, rfl⟩
  obtain ⟨P10, hP10⟩ : ∃ P10, w4.heap.size = P10 := ⟨_, rfl⟩
  have n2 : W.heap.size + 2 <= P8 := by omega
  have n3 : P8 + 1 <= P10 := by omega
  simp only [hP8, hP10] at bt b10 f10 z5 ⊢
  clear bz fz b33 b53 p3 z3 b34 b54 p4 z4 b32 b52 p2 z2 hP8 hP10
  go_wp2_with fail
  go_loopw [29] (fun i wr => (i = .int .i64 0 /\ (Bx wr P8 #[.int .i64 n.op, (.slice Ai n.ins.length ci), .int .i64 n.k, .int .i64 n.stride, .int .i64 n.pad, .int .i64 n.out, .int .i64 n.mul, .int .i64 n.shift, .int .i64 n.zero, .int .i64 n.th, .int .i64 n.tw, .int .i64 n.tc, (.slice Aw n.ws.length cw), (.slice Ab n.bs.length cb), (.slice (some ⟨lb, lo, none⟩) vs.length c1), .int .i64 m.1, .int .i64 m.2.1, .int .i64 m.2.2]) /\ (Bx wr (W.heap.size) (nC n (.slice Ai n.ins.length ci) (.slice Aw n.ws.length cw) (.slice Ab n.bs.length cb))) /\ (Bx wr (W.heap.size + 1) #[(.slice A2 a.xs.length c2), sb]) /\ (Bx wr P10 #[.int .i64 0, .int .i64 0, .slice none 0 0, .int .i64 0, .int .i64 0, .slice none 0 0]) /\ (Fr wr P10) /\ Past W wr /\ P10 + 1 <= wr.heap.size) ∨ (i = .int .i64 1 /\ (Bx wr P8 #[.int .i64 n.op, (.slice Ai n.ins.length ci), .int .i64 n.k, .int .i64 n.stride, .int .i64 n.pad, .int .i64 n.out, .int .i64 n.mul, .int .i64 n.shift, .int .i64 n.zero, .int .i64 n.th, .int .i64 n.tw, .int .i64 n.tc, (.slice Aw n.ws.length cw), (.slice Ab n.bs.length cb), (.slice (some ⟨lb, lo, none⟩) vs.length c1), .int .i64 m.1, .int .i64 m.2.1, .int .i64 m.2.2]) /\ (Bx wr (W.heap.size) (nC n (.slice Ai n.ins.length ci) (.slice Aw n.ws.length cw) (.slice Ab n.bs.length cb))) /\ (Bx wr (W.heap.size + 1) #[(.slice A2 a.xs.length c2), sb]) /\ (Bx wr P10 #[.int .i64 0, .int .i64 a.many, (.slice A2 a.xs.length c2), .int .i64 0, .int .i64 0, .slice none 0 0]) /\ (Fr wr P10) /\ Past W wr /\ P10 + 1 <= wr.heap.size)) (fun i _ => 1 - (intOf i).toNat)
  case atStart => exact Or.inl ⟨by first | rfl | go_num, bt, b3, b5, b10, f10, p5, z5⟩
  case round =>
    clear bt b3 b5 b10 f10 p5 z5
    rcases hrel with ⟨rfl, bt, b3, b5, b10, f10, p5, z5⟩ | ⟨rfl, bt, b3, b5, b10, f10, p5, z5⟩
    . have dl : decide ((0 : Int) < (vs.length : Int)) = true := by rw [HL.out]; decide
      obtain ⟨y0, y1, y2, y3⟩ := (HC.out 0 (by rw [HL.out]; decide)).grow hlb p5
      rw [<- EA.out] at y0 y1 y2 y3
      simp only [Nat.zero_mul, Nat.add_zero] at y0 y1 y2 y3
      have hlb2 : lb < wr.heap.size := Nat.lt_of_lt_of_le hlb p5.2.2.1
      have il : (0 : Nat) < vs.length := by rw [HL.out]; decide
      go_upto_region 8 with fail
      refine opq (fun w' => (Bx w' P8 #[.int .i64 n.op, (.slice Ai n.ins.length ci), .int .i64 n.k, .int .i64 n.stride, .int .i64 n.pad, .int .i64 n.out, .int .i64 n.mul, .int .i64 n.shift, .int .i64 n.zero, .int .i64 n.th, .int .i64 n.tw, .int .i64 n.tc, (.slice Aw n.ws.length cw), (.slice Ab n.bs.length cb), (.slice (some ⟨lb, lo, none⟩) vs.length c1), .int .i64 m.1, .int .i64 m.2.1, .int .i64 m.2.2]) /\ (Bx w' (W.heap.size) (nC n (.slice Ai n.ins.length ci) (.slice Aw n.ws.length cw) (.slice Ab n.bs.length cb))) /\ (Bx w' (W.heap.size + 1) #[(.slice A2 a.xs.length c2), sb]) /\ (Bx w' P10 #[.int .i64 0, .int .i64 0, .slice none 0 0, .int .i64 0, .int .i64 0, .slice none 0 0]) /\ (Fr w' P10) /\ Past W w' /\ (Bx w' (wr.heap.size) #[.int .i64 a.v.h, .int .i64 a.v.w, .int .i64 a.v.c, .int .i64 a.v.z]) /\ wr.heap.size + 1 <= w'.heap.size) kKeepS ?_
      rintro w6 ⟨bt, b3, b5, b10, f10, p6, b12, z6⟩
      obtain ⟨P12, hP12⟩ : ∃ P12, wr.heap.size = P12 := ⟨_, rfl⟩
      rw [hP12] at b12 z6 z5
      rw [hP12]
      clear hP12 y0 y1 y2 y3 hlb2 p5
      refine wp_region_stage [9] [fun w' => (Bx w' P8 #[.int .i64 n.op, (.slice Ai n.ins.length ci), .int .i64 n.k, .int .i64 n.stride, .int .i64 n.pad, .int .i64 n.out, .int .i64 n.mul, .int .i64 n.shift, .int .i64 n.zero, .int .i64 n.th, .int .i64 n.tw, .int .i64 n.tc, (.slice Aw n.ws.length cw), (.slice Ab n.bs.length cb), (.slice (some ⟨lb, lo, none⟩) vs.length c1), .int .i64 m.1, .int .i64 m.2.1, .int .i64 m.2.2]) /\ (Bx w' (W.heap.size) (nC n (.slice Ai n.ins.length ci) (.slice Aw n.ws.length cw) (.slice Ab n.bs.length cb))) /\ (Bx w' (W.heap.size + 1) #[(.slice A2 a.xs.length c2), sb]) /\ (Bx w' P10 #[.int .i64 0, .int .i64 0, .slice none 0 0, .int .i64 0, .int .i64 0, .slice none 0 0]) /\ (Fr w' P10) /\ Past W w' /\ (Bx w' P12 #[.int .i64 a.v.h, .int .i64 a.v.w, .int .i64 a.v.c, .int .i64 a.v.z]) /\ P12 + 1 <= w'.heap.size, fun w' => (Bx w' P8 #[.int .i64 n.op, (.slice Ai n.ins.length ci), .int .i64 n.k, .int .i64 n.stride, .int .i64 n.pad, .int .i64 n.out, .int .i64 n.mul, .int .i64 n.shift, .int .i64 n.zero, .int .i64 n.th, .int .i64 n.tw, .int .i64 n.tc, (.slice Aw n.ws.length cw), (.slice Ab n.bs.length cb), (.slice (some ⟨lb, lo, none⟩) vs.length c1), .int .i64 m.1, .int .i64 m.2.1, .int .i64 m.2.2]) /\ (Bx w' (W.heap.size) (nC n (.slice Ai n.ins.length ci) (.slice Aw n.ws.length cw) (.slice Ab n.bs.length cb))) /\ (Bx w' (W.heap.size + 1) #[(.slice A2 a.xs.length c2), sb]) /\ (Bx w' P10 #[.int .i64 0, .int .i64 a.many, (.slice A2 a.xs.length c2), .int .i64 0, .int .i64 0, .slice none 0 0]) /\ (Fr w' P10) /\ Past W w' /\ (Bx w' P12 #[.int .i64 a.v.h, .int .i64 a.v.w, .int .i64 a.v.c, .int .i64 a.v.z]) /\ P12 + 1 <= w'.heap.size] [(34, ?vr034), (35, ?vr035), (36, ?vr036), (37, ?vr037), (38, ?vr038), (39, ?vr039), (40, ?vr040), (41, ?vr041), (42, ?vr042)] [34, 35, 36, 37, 38, 39, 40, 41, 42] (by kernel_rfl) (by kernel_rfl) rfl (by kernel_rfl) ⟨bt, b3, b5, b10, f10, p6, b12, z6⟩ (fun w h => h) ?allr0 ?forr0 ?finr0
      case allr0 =>
        simp only [fillA, Act.put, fU1, fU2, fU3]
        refine ⟨?_, ?_, True.intro⟩
        all_goals (iterate 10 (first | refine pass rfl ?_ | (refine abides (fun w hw K hK => ?_) ?_; focus ((have hS := Lib.hid hw); go_split_ands; go_simp; (try simp only [Act.put, List.setIfInBounds_toArray, List.set_cons_zero, List.set_cons_succ]); first | exact hK _ hS.out))))
        all_goals exact True.intro
      case forr0 =>
        simp only [fillA, Act.put, fU1, fU2, fU3]
        refine turns rfl (fun w hw K hK => ?_) True.intro
        obtain ⟨bt, b3, b5, b10, f10, p6, b12, z6⟩ := hw
        go_simp
        refine hK _ ?_
        rw [MA.out]
        exact ⟨by (exact kKeepS), by (exact kKeepS), by (exact kKeepS), box6_lo b10, by (exact kKeepS), by (exact kKeepS), by (exact kKeepS), by (exact kKeepS)⟩
      rintro w7 ⟨bt, b3, b5, b10, f10, p7, b12', z7⟩
      simp only [fillA, Act.put, fU1, fU2, fU3]
      clear b12 b12' z6 p6
      go_wp2_with fail
      go_roundw
      case rel => exact Or.inr ⟨by first | rfl | go_num, bt, b3, b5, b10, f10, p7, by omega⟩
      case measure => first | (simp [intOf]; done) | decide | (simp [intOf]; omega)
    . have dl : decide ((1 : Int) < (vs.length : Int)) = false := by rw [HL.out]; decide
      go_wp2_with fail
      obtain ⟨w8, hw8⟩ : ∃ w8, w8 = wr := ⟨wr, rfl⟩
      subst hw8
      go_loopw [13, 47] (fun v i wq => ∃ k : Nat, k <= H /\ i = .int .i64 k /\ Hid (Own8 wq w8.heap.size v (allL n a (⟨⟨0, 0, 0, 0⟩, 0, 0, []⟩ : ViewD) m R (k * R))) /\ Past w8 wq /\ w8.heap.size <= wq.heap.size) (fun _ i _ => H - (intOf i).toNat)
      case atStart => exact ⟨0, by omega, rfl, Lib.hid (by rw [Nat.zero_mul]; exact Own8.nil _ _), Past.refl _, Nat.le_refl _⟩
      case round =>
        obtain ⟨y, hy, rfl, hown, pp, zz⟩ := hrel
        have b3q := box_past pp b3 (by omega)
        have b10q := box_past pp b10 (by omega)
        have btq := box_past pp bt (by omega)
        by_cases hly : y < H
        . have d1 : decide ((y : Int) < m.1) = true := by have := HH.out; simp; omega
          have RWy := Lib.hid (RW.out _ (p5.trans pp) y hly)
          go_wp2_with (refine wpList_load_box rfl 44 (.tmp 3) rfl W.heap.size (nC n (.slice Ai n.ins.length ci) (.slice Aw n.ws.length cw) (.slice Ab n.bs.length cb)) rfl b3q Tryz.underlying44 rfl N14 ?_)
          refine RWy.out.mono ?_
          rintro e w5 ⟨v5, rfl, hv5, pv⟩
          obtain ⟨rb, ro, rc, rfl⟩ := nums_some hv5 (by rw [rowL_len]; omega)
          have OW := Lib.hid (hown.out.past pv)
          have P5 := pp.trans pv
          have Z5 : w8.heap.size <= w5.heap.size := P5.2.2.1
          have AR := Lib.hid (allL_row n a (⟨⟨0, 0, 0, 0⟩, 0, 0, []⟩ : ViewD) m R y)
          have lk : y * R <= 2048 := Nat.mul_le_mul (show y <= 16 by omega) R2
          have HV := Lib.hid hv5
          have RL := Lib.hid (rowL_len n a (⟨⟨0, 0, 0, 0⟩, 0, 0, []⟩ : ViewD) m y R)
          clear hown pp zz b3q b10q btq pv RWy hv5
          go_wp2_with (at_builtin; refine wpList_append_own _ rfl (.tmp 61) (.tmp 62) 27 rfl w8.heap.size 35 i0 _ 1 1 Tryz.underlying27 I1.out I2.out I3.out I4.out rfl (by decide) _ _ _ rfl OW.out ⟨rb, ro, none⟩ _ rc ((rowL n a (⟨⟨0, 0, 0, 0⟩, 0, 0, []⟩ : ViewD) m y R).map (Value.int .i8)) rfl (by simp) (nums_cells HV.out) (ints_oneCell _ _) ?c4 ?c5 ?c6 ?_)
          case c4 => unfold maxLen; rw [allL_len, rowL_len]; omega
          case c5 => rw [allL_len, rowL_len]; omega
          case c6 => omega
          intro v4 w4 hown4 hgrow _
          have ho4 := Lib.hid (own8_more rfl hown4)
          have P4 := P5.grownBy hgrow (fun j hj => (OW.out.lt j hj).1)
          have Z4 : w8.heap.size <= w4.heap.size := P4.2.2.1
          clear hown4 hgrow OW P5 Z5 HV
          go_wp2_with fail
          go_roundw
          case rel => exact ⟨y + 1, by omega, by go_num, Lib.hid (by rw [Nat.add_mul, Nat.one_mul, AR.out]; exact ho4.out), P4, Z4⟩
          case measure => simp [intOf]; omega
        . obtain rfl : y = H := by omega
          have d1 : decide ((y : Int) < m.1) = false := by have := HH.out; simp; omega
          go_wp2_with fail
          go_ret2
          exact ⟨_, rfl, own8_base hown.out p5.2.2.1, p5.trans pp⟩
end Go.Proofs.YtliijchcpooplaaGreat
