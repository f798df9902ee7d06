/- kern: what the closure of OpConv and OpDepth adds up; what is scaled. -/
import Derived.Test.YtliijchcpooplaaGreatOMKF
import Derived.Test.YtliijchcpooplaaGreatOMKG
namespace Go.Proofs.YtliijchcpooplaaGreat
open Go.ChangeShapes Go.WideShapes Go.ChangeAt Go.RowKit
set_option maxRecDepth 20000
set_option linter.unusedVariables false
theorem place_ij {n : NodeD} {a : ViewD} {mn : Nat} {fr y x : Int} {c kn i j : Nat} (hk : n.k.toNat = kn) (h : j < kn) :
    placeN n a mn fr y x c (i * kn + j) = sumN (fun d => overD a (y * n.stride - n.pad + i) (x * n.stride - n.pad + j) (fr + d) * n.ws.getD ((c * (kn * kn) + (i * kn + j)) * mn + d) 0) mn := by
  unfold placeN
  rw [hk, look_ij _ h, side_ij _ h]
theorem placeN_bd {n : NodeD} {a : ViewD} {mn : Nat} {fr y x : Int} {c p : Nat} (oa : ViewOk a) (m8 : mn <= 8) (hw : ∀ k, -128 <= n.ws.getD k 0 /\ n.ws.getD k 0 <= 127) : -261120 <= placeN n a mn fr y x c p /\ placeN n a mn fr y x c p <= 261120 := by
  have h := sumN_bd (f := fun d => overD a (lookD n.k.toNat (y * n.stride - n.pad) p) (sideD n.k.toNat (x * n.stride - n.pad) p) (fr + d) * n.ws.getD ((c * (n.k.toNat * n.k.toNat) + p) * mn + d) 0) (B := 255 * 128) (k := mn) (fun i hi => by
    have w2 := hw ((c * (n.k.toNat * n.k.toNat) + p) * mn + i)
    have w1 := overD_bd oa (lookD n.k.toNat (y * n.stride - n.pad) p) (sideD n.k.toNat (x * n.stride - n.pad) p) (fr + i)
    exact prod_bd w1.1 w1.2 (by omega) (by omega))
  have : (mn : Int) * (255 * 128) <= 8 * (255 * 128) := Int.mul_le_mul_of_nonneg_right (by omega) (by omega)
  unfold placeN
  omega
theorem nums_i8 {w : World} {v : Value} {xs : List Int} (h : IsNums .i8 w v xs) (k : Nat) : -128 <= xs.getD k 0 /\ xs.getD k 0 <= 127 := by
  obtain ⟨_, _, _, _, _, _, h5, _⟩ := h
  by_cases c : k < xs.length
  . exact wf_i8 (h5 _ (by simp [List.getD, c]))
  . simp [List.getD, List.getElem?_eq_none (Nat.le_of_not_lt c)]
set_option maxHeartbeats 8000000 in
theorem weighed_any (n : NodeD) (vi lv : Value) (sb so cap bb bo bcap : Nat) (m : Int × Int × Int) (pt : Nat) (a : ViewD) (sa : Value) (pa pn pf : Nat) (y x q fr : Int) (c mn : Nat) (fid : FuncId) (W : World)
    (ht : (Bx W pt #[.int .i64 n.op, vi, .int .i64 n.k, .int .i64 n.stride, .int .i64 n.pad, .int .i64 n.out, .int .i64 n.mul, .int .i64 n.shift, .int .i64 n.zero, .int .i64 n.th, .int .i64 n.tw, .int .i64 n.tc, .slice (some ⟨sb, so, none⟩) n.ws.length cap, .slice (some ⟨bb, bo, none⟩) n.bs.length bcap, lv, .int .i64 m.1, .int .i64 m.2.1, .int .i64 m.2.2])) (lt : pt < W.heap.size) (ha : (Bx W pa #[.int .i64 a.v.h, .int .i64 a.v.w, .int .i64 a.v.c, .int .i64 a.v.z, .int .i64 a.base, .int .i64 a.many, sa])) (la : pa < W.heap.size)
    (hn : (Bx W pn #[.int .i64 mn])) (ln : pn < W.heap.size) (hf : (Bx W pf #[.func (.func fid) #[] #[]])) (lf : pf < W.heap.size)
    (hE : Enters fid) (hF : ∀ w, Calls Tryz.prog fid #[.int .i64 c] w fun e w' => e = .returned (.int .i64 fr) /\ Grown w w')
    (na : IsNums .i8 W sa a.xs) (oa : ViewOk a) (nw : IsNums .i8 W (.slice (some ⟨sb, so, none⟩) n.ws.length cap) n.ws) (nb : IsNums .i32 W (.slice (some ⟨bb, bo, none⟩) n.bs.length bcap) n.bs)
    (ok : WinOk n y x) (ra : ∀ i : Nat, i < n.k.toNat -> RowOk a (y * n.stride - n.pad + i)) (f0 : 0 <= fr) (f8 : fr <= 8) (hcb : c < n.bs.length) (c8 : c < 8) (m1 : 1 <= mn) (m8 : mn <= 8)
    (hw : ∀ p, p < n.k.toNat * n.k.toNat -> (c * (n.k.toNat * n.k.toNat) + p) * mn + mn <= n.ws.length) (hb : ∀ j, j < n.bs.length -> nearB (n.bs.getD j 0)) (hq : Hid (q = weighN n a mn fr y x c)) :
    Calls Tryz.prog 120 #[.int .i64 y, .int .i64 x, .int .i64 c, .pointer (some ⟨pt, 0, none⟩), .pointer (some ⟨pn, 0, none⟩), .pointer (some ⟨pa, 0, none⟩), .pointer (some ⟨pf, 0, none⟩)] W fun e w' => e = .returned (.int .i64 q) /\ Past W w' := by
  obtain ⟨⟨k1, k3⟩, ⟨t1, t2⟩, ⟨p0, p1⟩, ⟨y0, y1⟩, ⟨x0, x1⟩⟩ := ok
  obtain ⟨kn, hk⟩ : ∃ kn : Nat, n.k = kn := ⟨n.k.toNat, by omega⟩
  have hkt : n.k.toNat = kn := by rw [hk]; rfl
  have WB := Lib.hid (fun k => nums_i8 nw k)
  rw [hkt] at ra hw
  have QQ : Hid (q = n.bs.getD c 0 + sumN (placeN n a mn fr y x c) (kn * kn)) := Lib.hid (by rw [hq.out]; unfold weighN; rw [hkt])
  have HK := Lib.hid hk
  have HKT := Lib.hid hkt
  have RA := Lib.hid ra
  have OA := Lib.hid oa
  have NA := Lib.hid na
  have NW := Lib.hid nw
  have HW := Lib.hid hw
  have HE := Lib.hid hE
  have HF := Lib.hid hF
  have kn1 : 1 <= kn := by omega
  have kn3 : kn <= 3 := by omega
  have kk9 : kn * kn <= 9 := Nat.mul_le_mul kn3 kn3
  have kk1 : 1 <= kn * kn := Nat.mul_le_mul kn1 kn1
  have wpos : 0 < n.ws.length := by have := hw 0 (by omega); omega
  obtain ⟨_, _, e, _, _, _, hsb, _⟩ := nums_parts nw wpos
  simp only [Option.some.injEq, Addr.mk.injEq, and_true] at e
  obtain ⟨rfl, rfl⟩ := e
  obtain ⟨_, _, e, _, d1, d2, hbb, hbc⟩ := nums_parts nb (by omega)
  simp only [Option.some.injEq, Addr.mk.injEq, and_true] at e
  obtain ⟨rfl, rfl⟩ := e
  have l2 : n.bs.length <= 9223372036854775807 := by unfold maxLen at d2; omega
  have nb0 := hb c hcb
  unfold nearB at nb0
  have bc0 := (hbc c hcb).1
  obtain ⟨b, hb0⟩ : ∃ b, n.bs.getD c 0 = b := ⟨_, rfl⟩
  rw [hb0] at nb0 bc0 QQ
  have eb : IntKind.i64.wrap b = b := IntWalk.i64_in _ (by omega)
  have i1 : (0 : Int) <= (c : Int) := by omega
  have i2 : (c : Int) < (n.bs.length : Int) := by omega
  have G0 := Past.refl W
  have S0 : W.heap.size <= W.heap.size := Nat.le_refl _
  have SB : Hid (∀ p, p <= 9 -> -100000000 <= b + sumN (placeN n a mn fr y x c) p /\ b + sumN (placeN n a mn fr y x c) p <= 100000000) := Lib.hid (fun p hp => by
    have h := sumN_bd (f := placeN n a mn fr y x c) (B := 261120) (k := p) (fun i _ => placeN_bd OA.out m8 WB.out)
    have : (p : Int) * 261120 <= 9 * 261120 := Int.mul_le_mul_of_nonneg_right (by omega) (by omega)
    omega)
  clear hk hkt ra oa na nw nb hw hE hF hbc d2 hb hb0 hq
  go_enter Tryz.func120, Tryz.ntmps120
  go_upto_region 2 with fail
  refine opq (fun w' => (Bx w' pt #[.int .i64 n.op, vi, .int .i64 n.k, .int .i64 n.stride, .int .i64 n.pad, .int .i64 n.out, .int .i64 n.mul, .int .i64 n.shift, .int .i64 n.zero, .int .i64 n.th, .int .i64 n.tw, .int .i64 n.tc, .slice (some ⟨sb, so, none⟩) n.ws.length cap, .slice (some ⟨bb, bo, none⟩) n.bs.length bcap, lv, .int .i64 m.1, .int .i64 m.2.1, .int .i64 m.2.2]) /\ (Bx w' pa #[.int .i64 a.v.h, .int .i64 a.v.w, .int .i64 a.v.c, .int .i64 a.v.z, .int .i64 a.base, .int .i64 a.many, sa]) /\ (Bx w' pn #[.int .i64 mn]) /\ (Bx w' pf #[.func (.func fid) #[] #[]]) /\ (Bx w' (W.heap.size) #[.int .i64 c]) /\ (Bx w' (W.heap.size + 1) #[.int .i64 b]) /\ (Fr w' (W.heap.size + 1)) /\ Past W w' /\ W.heap.size + 2 <= w'.heap.size) kKeep ?_
  rintro W1 ⟨bt, ba, bn, bf, bc, bm, fm, pp, z1⟩
  have n1 : W.heap.size ≠ W.heap.size + 1 := by omega
  have WN := Lib.hid (window_weigh n vi (.slice (some ⟨sb, so, none⟩) n.ws.length cap) (.slice (some ⟨bb, bo, none⟩) n.bs.length bcap) lv m pt W.heap.size pn (W.heap.size + 1) pa pf kn y x q (fun p => b + sumN (placeN n a mn fr y x c) p) W1 HK.out kn1 kn3 t1 t2 p0 p1 y0 y1 x0 x1 (by simpa [sumN, Bx] using bm) fm (by omega) QQ (fun i j hi hj w g hm hf => by
    have pw : Past W w := KeepK.past pp g (by omega)
    have hij : i * kn + j < kn * kn := by
      have := Nat.mul_le_mul_right kn (show i + 1 <= kn by omega)
      rw [Nat.add_mul, Nat.one_mul] at this
      omega
    have zz := g.2.2.1
    have sbd := SB.out (i * kn + j) (by omega)
    exact weigh_step n vi (.slice (some ⟨bb, bo, none⟩) n.bs.length bcap) lv sb so cap m pt a sa pa (W.heap.size + 1) W.heap.size pn pf _ fr _ _ _ c (i * kn + j) mn ((c * (kn * kn) + (i * kn + j)) * mn) fid w
      (box_keepK g bt (by omega) (by omega)) (by omega) (by omega) (NW.out.grow pw) (by omega) hm hf (by omega) (box_keepK g ba (by omega) (by omega)) (by omega) (by omega) (box_keepK g bc (by omega) n1) (by omega) n1 (box_keepK g bn (by omega) (by omega)) (by omega) (by omega) (box_keepK g bf (by omega) (by omega)) (by omega) (by omega)
      HE.out HF.out (fun w2 g2 => NA.out.grow (KeepK.past pw g2 (by omega))) OA.out (fun d hd => RA.out i hi _ _) f0 f8 k1 k3 c8 (by omega) m1 m8 (by rw [HKT.out]) (HW.out _ hij) sbd.1 sbd.2 (Lib.hid (by
        show b + (sumN (placeN n a mn fr y x c) (i * kn + j) + placeN n a mn fr y x c (i * kn + j)) = _
        rw [place_ij HKT.out hj, Int.add_assoc]))))
  clear ht ha hn hf SB
  go_wp2_with fail
  refine WN.out.mono ?_
  rintro e w2 ⟨⟨v2, rfl⟩, m2, f2, k2⟩
  have p2 := KeepK.past pp k2 (by omega)
  clear WN bt ba bn bf bc bm fm pp
  go_wp2_with fail
  go_ret
  exact ⟨rfl, p2⟩
theorem scaledOf2_any (n : NodeD) (vi vw vb lv : Value) (m : Int × Int × Int) (pt pf : Nat) (p0 p1 : Nat) (fid : FuncId) (y x c s q : Int) (W : World) (ht : (Bx W pt #[.int .i64 n.op, vi, .int .i64 n.k, .int .i64 n.stride, .int .i64 n.pad, .int .i64 n.out, .int .i64 n.mul, .int .i64 n.shift, .int .i64 n.zero, .int .i64 n.th, .int .i64 n.tw, .int .i64 n.tc, vw, vb, lv, .int .i64 m.1, .int .i64 m.2.1, .int .i64 m.2.2])) (lt : pt < W.heap.size)
    (hf : (Bx W pf #[.func (.func fid) #[] #[.pointer (some ⟨p0, 0, none⟩), .pointer (some ⟨p1, 0, none⟩)]])) (lf : pf < W.heap.size) (hE : Enters fid) (hF : ∀ w, Past W w -> Calls Tryz.prog fid #[.int .i64 y, .int .i64 x, .int .i64 c, .pointer (some ⟨p0, 0, none⟩), .pointer (some ⟨p1, 0, none⟩)] w fun e w' => e = .returned (.int .i64 s) /\ Past w w') (hq : Hid (q = scaleD s n.mul n.shift n.zero)) :
    Calls Tryz.prog 118 #[.int .i64 y, .int .i64 x, .int .i64 c, .pointer (some ⟨pf, 0, none⟩), .pointer (some ⟨pt, 0, none⟩)] W fun e w' => e = .returned (.int .i64 q) /\ Past W w' := by
  have HF := Lib.hid hF
  have hE := fun xs w => hE xs w
  have G0 := Past.refl W
  have S0 : W.heap.size <= W.heap.size := Nat.le_refl _
  clear hF
  go_enter Tryz.func118, Tryz.ntmps118
  go_upto_region 1 with fail
  refine wp_region_fill (fun w' => (Bx w' pt #[.int .i64 n.op, vi, .int .i64 n.k, .int .i64 n.stride, .int .i64 n.pad, .int .i64 n.out, .int .i64 n.mul, .int .i64 n.shift, .int .i64 n.zero, .int .i64 n.th, .int .i64 n.tw, .int .i64 n.tc, vw, vb, lv, .int .i64 m.1, .int .i64 m.2.1, .int .i64 m.2.2]) /\ (Bx w' pf #[.func (.func fid) #[] #[.pointer (some ⟨p0, 0, none⟩), .pointer (some ⟨p1, 0, none⟩)]]) /\ Past W w' /\ W.heap.size <= w'.heap.size) [(9, ?va9), (10, ?va10), (11, ?va11), (12, ?va12), (13, ?va13), (14, ?va14), (15, ?va15), (16, ?va16), (17, ?va17), (18, ?va18), (19, ?va19), (20, ?va20), (21, ?va21), (22, ?va22), (23, ?va23), (8, ?va8)] [9, 10, 11, 12, 13, 14, 15, 16, 17, 18, 19, 20, 21, 22, 23, 8] (by kernel_rfl) (by kernel_rfl) rfl (by kernel_rfl) ⟨ht, hf, G0, S0⟩ (fun w h => h) ?alla ?fina
  case alla =>
    simp only [fillA, Act.put, fU1, fU2, fU3]
    iterate 16 (refine owes_cons (fun w hw K hK => ?_) ?_; focus ((have hS := Lib.hid hw); go_split_ands; go_simp; (try simp only [Act.put, List.setIfInBounds_toArray, List.set_cons_zero, List.set_cons_succ]); first | exact hK _ hS.out | ((first | ((with_reducible refine (HF.out _ (by with_reducible assumption)).mono ?_); rintro e w6 ⟨rfl, gg⟩) | ((with_reducible refine (scaled_any _ _ _ _ q _ hq).mono ?_); rintro e w6 ⟨rfl, gg⟩; replace gg := Grown.past gg)); refine hK _ ?_; (exact kKeep))))
    exact True.intro
  case fina =>
    rintro w9 ⟨t9, f9, g9, z9⟩
    simp only [fillA, Act.put, fU1, fU2, fU3]
    go_wp2_with fail
    go_ret
    exact ⟨rfl, g9⟩
theorem scaledOf4_any (n : NodeD) (vi vw vb lv : Value) (m : Int × Int × Int) (pt pf : Nat) (p0 p1 p2 p3 : Nat) (fid : FuncId) (y x c s q : Int) (W : World) (ht : (Bx W pt #[.int .i64 n.op, vi, .int .i64 n.k, .int .i64 n.stride, .int .i64 n.pad, .int .i64 n.out, .int .i64 n.mul, .int .i64 n.shift, .int .i64 n.zero, .int .i64 n.th, .int .i64 n.tw, .int .i64 n.tc, vw, vb, lv, .int .i64 m.1, .int .i64 m.2.1, .int .i64 m.2.2])) (lt : pt < W.heap.size)
    (hf : (Bx W pf #[.func (.func fid) #[] #[.pointer (some ⟨p0, 0, none⟩), .pointer (some ⟨p1, 0, none⟩), .pointer (some ⟨p2, 0, none⟩), .pointer (some ⟨p3, 0, none⟩)]])) (lf : pf < W.heap.size) (hE : Enters fid) (hF : ∀ w, Past W w -> Calls Tryz.prog fid #[.int .i64 y, .int .i64 x, .int .i64 c, .pointer (some ⟨p0, 0, none⟩), .pointer (some ⟨p1, 0, none⟩), .pointer (some ⟨p2, 0, none⟩), .pointer (some ⟨p3, 0, none⟩)] w fun e w' => e = .returned (.int .i64 s) /\ Past w w') (hq : Hid (q = scaleD s n.mul n.shift n.zero)) :
    Calls Tryz.prog 118 #[.int .i64 y, .int .i64 x, .int .i64 c, .pointer (some ⟨pf, 0, none⟩), .pointer (some ⟨pt, 0, none⟩)] W fun e w' => e = .returned (.int .i64 q) /\ Past W w' := by
  have HF := Lib.hid hF
  have hE := fun xs w => hE xs w
  have G0 := Past.refl W
  have S0 : W.heap.size <= W.heap.size := Nat.le_refl _
  clear hF
  go_enter Tryz.func118, Tryz.ntmps118
  go_upto_region 1 with fail
  refine wp_region_fill (fun w' => (Bx w' pt #[.int .i64 n.op, vi, .int .i64 n.k, .int .i64 n.stride, .int .i64 n.pad, .int .i64 n.out, .int .i64 n.mul, .int .i64 n.shift, .int .i64 n.zero, .int .i64 n.th, .int .i64 n.tw, .int .i64 n.tc, vw, vb, lv, .int .i64 m.1, .int .i64 m.2.1, .int .i64 m.2.2]) /\ (Bx w' pf #[.func (.func fid) #[] #[.pointer (some ⟨p0, 0, none⟩), .pointer (some ⟨p1, 0, none⟩), .pointer (some ⟨p2, 0, none⟩), .pointer (some ⟨p3, 0, none⟩)]]) /\ Past W w' /\ W.heap.size <= w'.heap.size) [(9, ?va9), (10, ?va10), (11, ?va11), (12, ?va12), (13, ?va13), (14, ?va14), (15, ?va15), (16, ?va16), (17, ?va17), (18, ?va18), (19, ?va19), (20, ?va20), (21, ?va21), (22, ?va22), (23, ?va23), (8, ?va8)] [9, 10, 11, 12, 13, 14, 15, 16, 17, 18, 19, 20, 21, 22, 23, 8] (by kernel_rfl) (by kernel_rfl) rfl (by kernel_rfl) ⟨ht, hf, G0, S0⟩ (fun w h => h) ?alla ?fina
  case alla =>
    simp only [fillA, Act.put, fU1, fU2, fU3]
    iterate 16 (refine owes_cons (fun w hw K hK => ?_) ?_; focus ((have hS := Lib.hid hw); go_split_ands; go_simp; (try simp only [Act.put, List.setIfInBounds_toArray, List.set_cons_zero, List.set_cons_succ]); first | exact hK _ hS.out | ((first | ((with_reducible refine (HF.out _ (by with_reducible assumption)).mono ?_); rintro e w6 ⟨rfl, gg⟩) | ((with_reducible refine (scaled_any _ _ _ _ q _ hq).mono ?_); rintro e w6 ⟨rfl, gg⟩; replace gg := Grown.past gg)); refine hK _ ?_; (exact kKeep))))
    exact True.intro
  case fina =>
    rintro w9 ⟨t9, f9, g9, z9⟩
    simp only [fillA, Act.put, fU1, fU2, fU3]
    go_wp2_with fail
    go_ret
    exact ⟨rfl, g9⟩
theorem from0_any (c : Int) (w : World) : Calls Tryz.prog 101 #[.int .i64 c] w fun e w' => e = .returned (.int .i64 0) /\ Grown w w' := by
  go_enter Tryz.func101, Tryz.ntmps101
  go_wp2
  go_ret
  exact ⟨rfl, Grown.refl _⟩
theorem fromC_any (c : Int) (w : World) : Calls Tryz.prog 102 #[.int .i64 c] w fun e w' => e = .returned (.int .i64 c) /\ Grown w w' := by
  go_enter Tryz.func102, Tryz.ntmps102
  go_wp2
  go_ret
  exact ⟨rfl, Grown.refl _⟩
theorem enters_from0 : Enters 101 := fun xs w => by kernel_rfl
theorem enters_fromC : Enters 102 := fun xs w => by kernel_rfl
theorem enters_weighed : Enters 120 := fun xs w => by kernel_rfl
theorem enters_whole : Enters 123 := fun xs w => by kernel_rfl
theorem enters_add : Enters 106 := fun xs w => by kernel_rfl
theorem enters_mul : Enters 108 := fun xs w => by kernel_rfl
theorem enters_scaled : Enters 118 := fun xs w => by kernel_rfl
theorem enters_greatest : Enters 124 := fun xs w => by kernel_rfl
theorem enters_mean : Enters 126 := fun xs w => by kernel_rfl
theorem enters_relu : Enters 109 := fun xs w => by kernel_rfl
theorem enters_pad : Enters 111 := fun xs w => by kernel_rfl
theorem enters_concat : Enters 129 := fun xs w => by kernel_rfl
theorem enters_reshape : Enters 113 := fun xs w => by kernel_rfl
theorem enters_table : Enters 115 := fun xs w => by kernel_rfl
end Go.Proofs.YtliijchcpooplaaGreat
