/- kern: what the closures of OpMax, OpAvg, OpConv, OpDepth and OpFull make. -/
import Derived.Test.YtliijchcpooplaaGreatOMKF
namespace Go.Proofs.YtliijchcpooplaaGreat
open Go.ChangeShapes Go.WideShapes Go.ChangeAt Go.RowKit
set_option maxRecDepth 20000
set_option linter.unusedVariables false
theorem look_ij {kn i j : Nat} (s : Int) (h : j < kn) : lookD kn s (i * kn + j) = s + i := by
  unfold lookD
  rw [Nat.mul_comm i kn, Nat.mul_add_div (by omega), Nat.div_eq_of_lt h, Nat.add_zero]
theorem side_ij {kn i j : Nat} (s : Int) (h : j < kn) : sideD kn s (i * kn + j) = s + j := by
  unfold sideD
  rw [Nat.mul_comm i kn, Nat.mul_add_mod, Nat.mod_eq_of_lt h]
def WinOk (n : NodeD) (y x : Int) : Prop := (1 <= n.k /\ n.k <= 3) /\ (1 <= n.stride /\ n.stride <= 2) /\ (0 <= n.pad /\ n.pad <= 1) /\ (0 <= y /\ y <= 16) /\ (0 <= x /\ x <= 16)
set_option maxHeartbeats 4000000 in
theorem greatest_any (n : NodeD) (vi vw vb lv : Value) (m : Int × Int × Int) (pt : Nat) (a : ViewD) (sa : Value) (pa : Nat) (y x c q : Int) (W : World) (ht : (Bx W pt #[.int .i64 n.op, vi, .int .i64 n.k, .int .i64 n.stride, .int .i64 n.pad, .int .i64 n.out, .int .i64 n.mul, .int .i64 n.shift, .int .i64 n.zero, .int .i64 n.th, .int .i64 n.tw, .int .i64 n.tc, vw, vb, lv, .int .i64 m.1, .int .i64 m.2.1, .int .i64 m.2.2])) (lt : pt < W.heap.size) (ha : (Bx W pa #[.int .i64 a.v.h, .int .i64 a.v.w, .int .i64 a.v.c, .int .i64 a.v.z, .int .i64 a.base, .int .i64 a.many, sa])) (la : pa < W.heap.size) (na : IsNums .i8 W sa a.xs) (oa : ViewOk a) (ok : WinOk n y x) (ra : ∀ i : Nat, i < n.k.toNat -> RowOk a (y * n.stride - n.pad + i)) (hq : Hid (q = mostN (underN n a y x c) (n.k.toNat * n.k.toNat))) :
    Calls Tryz.prog 124 #[.int .i64 y, .int .i64 x, .int .i64 c, .pointer (some ⟨pt, 0, none⟩), .pointer (some ⟨pa, 0, none⟩)] W fun e w' => e = .returned (.int .i64 q) /\ Past W w' := by
  obtain ⟨⟨k1, k3⟩, ⟨t1, t2⟩, ⟨p0, p1⟩, ⟨y0, y1⟩, ⟨x0, x1⟩⟩ := ok
  obtain ⟨kn, hk⟩ : ∃ kn : Nat, n.k = kn := ⟨n.k.toNat, by omega⟩
  have hkt : n.k.toNat = kn := by rw [hk]; rfl
  rw [hkt] at ra hq
  have HK := Lib.hid hk
  have HKT := Lib.hid hkt
  have RA := Lib.hid ra
  have OA := Lib.hid oa
  have NA := Lib.hid na
  have kn1 : 1 <= kn := by omega
  have kn3 : kn <= 3 := by omega
  have kk9 : kn * kn <= 9 := Nat.mul_le_mul kn3 kn3
  clear hk hkt ra oa na
  go_enter Tryz.func124, Tryz.ntmps124
  go_upto_region 2 with fail
  refine opq (fun w' => (Bx w' pt #[.int .i64 n.op, vi, .int .i64 n.k, .int .i64 n.stride, .int .i64 n.pad, .int .i64 n.out, .int .i64 n.mul, .int .i64 n.shift, .int .i64 n.zero, .int .i64 n.th, .int .i64 n.tw, .int .i64 n.tc, vw, vb, lv, .int .i64 m.1, .int .i64 m.2.1, .int .i64 m.2.2]) /\ (Bx w' pa #[.int .i64 a.v.h, .int .i64 a.v.w, .int .i64 a.v.c, .int .i64 a.v.z, .int .i64 a.base, .int .i64 a.many, sa]) /\ (Bx w' (W.heap.size) #[.int .i64 c]) /\ (Bx w' (W.heap.size + 1) #[.int .i64 (-128)]) /\ (Fr w' (W.heap.size + 1)) /\ Past W w' /\ W.heap.size + 2 <= w'.heap.size) kKeep ?_
  rintro W1 ⟨bt, ba, bc, bm, fm, pp, z1⟩
  have n1 : W.heap.size ≠ W.heap.size + 1 := by omega
  have WN := Lib.hid (window_great n vi vw vb lv m (W.heap.size + 1) pa W.heap.size kn y x (mostN (underN n a y x c) (kn * kn)) (mostN (underN n a y x c)) W1 HK.out kn1 kn3 t1 t2 p0 p1 y0 y1 x0 x1 (by simpa [mostN] using bm) fm (by omega) (Lib.hid rfl) (fun i j hi hj w g hm hf => by
    have pw : Past W w := KeepK.past pp g (by omega)
    have bq : underN n a y x c (i * kn + j) = atD a (y * n.stride - n.pad + i) (x * n.stride - n.pad + j) c := by unfold underN; rw [HKT.out, look_ij _ hj, side_ij _ hj]
    have hij : i * kn + j < kn * kn := by
      have := Nat.mul_le_mul_right kn (show i + 1 <= kn by omega)
      rw [Nat.add_mul, Nat.one_mul] at this
      omega
    exact great_step a sa pa (W.heap.size + 1) W.heap.size _ c _ _ _ (underN n a y x c (i * kn + j)) _ w hm hf (by have := g.2.2.1; omega) (box_past pw ha la) (by have := pw.2.2.1; omega) (box_keepK g bc (by omega) n1) (by have := g.2.2.1; omega) (NA.out.grow pw) OA.out (Lib.hid bq) (RA.out i hi _ _) (Lib.hid rfl)))
  clear ht ha
  go_wp2_with fail
  refine WN.out.mono ?_
  rintro e w2 ⟨⟨v2, rfl⟩, m2, f2, k2⟩
  have p2 := KeepK.past pp k2 (by omega)
  have t2b := box_keepK k2 bt (by omega) (by omega)
  clear WN bt ba bc bm fm pp
  rw [<- hq.out] at m2
  go_wp2_with fail
  go_ret
  exact ⟨rfl, p2⟩
set_option maxHeartbeats 4000000 in
theorem meanOf_any (n : NodeD) (vi vw vb lv : Value) (m : Int × Int × Int) (pt : Nat) (a : ViewD) (sa : Value) (pa : Nat) (y x c q : Int) (W : World) (ht : (Bx W pt #[.int .i64 n.op, vi, .int .i64 n.k, .int .i64 n.stride, .int .i64 n.pad, .int .i64 n.out, .int .i64 n.mul, .int .i64 n.shift, .int .i64 n.zero, .int .i64 n.th, .int .i64 n.tw, .int .i64 n.tc, vw, vb, lv, .int .i64 m.1, .int .i64 m.2.1, .int .i64 m.2.2])) (lt : pt < W.heap.size) (ha : (Bx W pa #[.int .i64 a.v.h, .int .i64 a.v.w, .int .i64 a.v.c, .int .i64 a.v.z, .int .i64 a.base, .int .i64 a.many, sa])) (la : pa < W.heap.size) (na : IsNums .i8 W sa a.xs) (oa : ViewOk a) (ok : WinOk n y x) (ra : ∀ i : Nat, i < n.k.toNat -> RowOk a (y * n.stride - n.pad + i)) (hq : Hid (q = fx.rd (sumN (underN n a y x c) (n.k.toNat * n.k.toNat)) (n.k * n.k))) :
    Calls Tryz.prog 126 #[.int .i64 y, .int .i64 x, .int .i64 c, .pointer (some ⟨pt, 0, none⟩), .pointer (some ⟨pa, 0, none⟩)] W fun e w' => e = .returned (.int .i64 q) /\ Past W w' := by
  obtain ⟨⟨k1, k3⟩, ⟨t1, t2⟩, ⟨p0, p1⟩, ⟨y0, y1⟩, ⟨x0, x1⟩⟩ := ok
  obtain ⟨kn, hk⟩ : ∃ kn : Nat, n.k = kn := ⟨n.k.toNat, by omega⟩
  have hkt : n.k.toNat = kn := by rw [hk]; rfl
  rw [hkt] at ra hq
  have HK := Lib.hid hk
  have HKT := Lib.hid hkt
  have RA := Lib.hid ra
  have OA := Lib.hid oa
  have NA := Lib.hid na
  have kn1 : 1 <= kn := by omega
  have kn3 : kn <= 3 := by omega
  have kk9 : kn * kn <= 9 := Nat.mul_le_mul kn3 kn3
  clear hk hkt ra oa na
  go_enter Tryz.func126, Tryz.ntmps126
  go_upto_region 2 with fail
  refine opq (fun w' => (Bx w' pt #[.int .i64 n.op, vi, .int .i64 n.k, .int .i64 n.stride, .int .i64 n.pad, .int .i64 n.out, .int .i64 n.mul, .int .i64 n.shift, .int .i64 n.zero, .int .i64 n.th, .int .i64 n.tw, .int .i64 n.tc, vw, vb, lv, .int .i64 m.1, .int .i64 m.2.1, .int .i64 m.2.2]) /\ (Bx w' pa #[.int .i64 a.v.h, .int .i64 a.v.w, .int .i64 a.v.c, .int .i64 a.v.z, .int .i64 a.base, .int .i64 a.many, sa]) /\ (Bx w' (W.heap.size) #[.int .i64 c]) /\ (Bx w' (W.heap.size + 1) #[.int .i64 0]) /\ (Fr w' (W.heap.size + 1)) /\ Past W w' /\ W.heap.size + 2 <= w'.heap.size) kKeep ?_
  rintro W1 ⟨bt, ba, bc, bm, fm, pp, z1⟩
  have n1 : W.heap.size ≠ W.heap.size + 1 := by omega
  have WN := Lib.hid (window_mean n vi vw vb lv m (W.heap.size + 1) pa W.heap.size kn y x (sumN (underN n a y x c) (kn * kn)) (sumN (underN n a y x c)) W1 HK.out kn1 kn3 t1 t2 p0 p1 y0 y1 x0 x1 (by simpa [sumN] using bm) fm (by omega) (Lib.hid rfl) (fun i j hi hj w g hm hf => by
    have pw : Past W w := KeepK.past pp g (by omega)
    have bq : underN n a y x c (i * kn + j) = atD a (y * n.stride - n.pad + i) (x * n.stride - n.pad + j) c := by unfold underN; rw [HKT.out, look_ij _ hj, side_ij _ hj]
    have hij : i * kn + j < kn * kn := by
      have := Nat.mul_le_mul_right kn (show i + 1 <= kn by omega)
      rw [Nat.add_mul, Nat.one_mul] at this
      omega
    exact mean_step a sa pa (W.heap.size + 1) W.heap.size _ c _ _ _ (underN n a y x c (i * kn + j)) _ w hm hf (by have := g.2.2.1; omega) (box_past pw ha la) (by have := pw.2.2.1; omega) (box_keepK g bc (by omega) n1) (by have := g.2.2.1; omega) (NA.out.grow pw) OA.out (Lib.hid bq) (RA.out i hi _ _) (by
      have := (sumN_bd (f := underN n a y x c) (B := 128) (k := i * kn + j) (fun t _ => by have := atD_bd OA.out (lookD n.k.toNat (y * n.stride - n.pad) t) (sideD n.k.toNat (x * n.stride - n.pad) t) c; unfold underN; omega)).1
      have : ((i * kn + j : Nat) : Int) * 128 <= 9 * 128 := Int.mul_le_mul_of_nonneg_right (by omega) (by omega)
      omega) (by
      have := (sumN_bd (f := underN n a y x c) (B := 128) (k := i * kn + j) (fun t _ => by have := atD_bd OA.out (lookD n.k.toNat (y * n.stride - n.pad) t) (sideD n.k.toNat (x * n.stride - n.pad) t) c; unfold underN; omega)).2
      have : ((i * kn + j : Nat) : Int) * 128 <= 9 * 128 := Int.mul_le_mul_of_nonneg_right (by omega) (by omega)
      omega) (Lib.hid rfl)))
  clear ht ha
  go_wp2_with fail
  refine WN.out.mono ?_
  rintro e w2 ⟨⟨v2, rfl⟩, m2, f2, k2⟩
  have p2 := KeepK.past pp k2 (by omega)
  have t2b := box_keepK k2 bt (by omega) (by omega)
  clear WN bt ba bc bm fm pp
  have sb := sumN_bd (f := underN n a y x c) (B := 128) (k := kn * kn) (fun t _ => by have := atD_bd OA.out (lookD n.k.toNat (y * n.stride - n.pad) t) (sideD n.k.toNat (x * n.stride - n.pad) t) c; unfold underN; omega)
  have sb2 : ((kn * kn : Nat) : Int) * 128 <= 9 * 128 := Int.mul_le_mul_of_nonneg_right (by omega) (by omega)
  obtain ⟨s, hs⟩ : ∃ s, sumN (underN n a y x c) (kn * kn) = s := ⟨_, rfl⟩
  rw [hs] at m2 sb hq
  have kk := mul_bd k1 k3 k1 k3
  have eK : IntKind.i64.wrap (n.k * n.k) = n.k * n.k := IntWalk.i64_in _ (by omega)
  have DV := Lib.hid (fun w => fx.div_at s (n.k * n.k) q w hq (by omega) (by omega) (by omega) (by omega))
  clear hs sb sb2 kk
  go_wp2_with fail
  refine (DV.out _).mono ?_
  rintro e w3 ⟨rfl, g3⟩
  go_wp2_with fail
  go_ret
  exact ⟨rfl, p2.trans (Grown.past g3)⟩
end Go.Proofs.YtliijchcpooplaaGreat
