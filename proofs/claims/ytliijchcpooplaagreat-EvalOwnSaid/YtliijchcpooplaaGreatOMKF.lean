/- kern: a window's places one behind the other; what the closures of OpMax, OpAvg, OpConv and OpDepth make. kern: what the closures of OpConv, OpDepth and OpFull add up; what is scaled. -/
import Derived.Test.YtliijchcpooplaaGreatOMKD
namespace Go.Proofs.YtliijchcpooplaaGreat
open Go.ChangeShapes Go.WideShapes Go.ChangeAt Go.RowKit
set_option maxRecDepth 20000
set_option linter.unusedVariables false
set_option maxHeartbeats 4000000 in
theorem window_great (n : NodeD) (vi vw vb lv : Value) (m : Int × Int × Int) (pm pa pc : Nat) (kn : Nat) (y x r : Int) (acc : Nat -> Int) (W : World)
    (hk : n.k = (kn : Int)) (k1 : 1 <= kn) (k3 : kn <= 3) (t1 : 1 <= n.stride) (t2 : n.stride <= 2) (p0 : 0 <= n.pad) (p1 : n.pad <= 1) (y0 : 0 <= y) (y1 : y <= 16) (x0 : 0 <= x) (x1 : x <= 16)
    (hm : (Bx W pm #[.int .i64 (acc 0)])) (fm : (Fr W pm)) (lm : pm < W.heap.size) (hr : Hid (r = acc (kn * kn)))
    (STEP : ∀ i j : Nat, i < kn -> j < kn -> ∀ w, KeepK pm W w -> (Bx w pm #[.int .i64 (acc (i * kn + j))]) -> (Fr w pm) ->
      Calls Tryz.prog 125 #[.int .i64 ((i * kn + j : Nat) : Int), .int .i64 (y * n.stride - n.pad + i), .int .i64 (x * n.stride - n.pad + j), .pointer (some ⟨pm, 0, none⟩), .pointer (some ⟨pa, 0, none⟩), .pointer (some ⟨pc, 0, none⟩)] w (StepPost pm (acc (i * kn + j + 1)) w)) :
    Calls Tryz.prog 121 #[.agg #[.int .i64 n.op, vi, .int .i64 n.k, .int .i64 n.stride, .int .i64 n.pad, .int .i64 n.out, .int .i64 n.mul, .int .i64 n.shift, .int .i64 n.zero, .int .i64 n.th, .int .i64 n.tw, .int .i64 n.tc, vw, vb, lv, .int .i64 m.1, .int .i64 m.2.1, .int .i64 m.2.2], .int .i64 y, .int .i64 x, .func (.func 125) #[] #[.pointer (some ⟨pm, 0, none⟩), .pointer (some ⟨pa, 0, none⟩), .pointer (some ⟨pc, 0, none⟩)]] W (StepPost pm r W) := by
  have ST := Lib.hid STEP
  have HK := Lib.hid hk
  have nk1 : 1 <= n.k := by omega
  have nk3 : n.k <= 3 := by omega
  have a1 : 0 <= y * n.stride /\ y * n.stride <= 16 * 2 := ⟨Int.mul_nonneg y0 (by omega), Int.mul_le_mul y1 t2 (by omega) (by omega)⟩
  have a2 : 0 <= x * n.stride /\ x * n.stride <= 16 * 2 := ⟨Int.mul_nonneg x0 (by omega), Int.mul_le_mul x1 t2 (by omega) (by omega)⟩
  have eY : IntKind.i64.wrap (y * n.stride) = y * n.stride := IntWalk.i64_in _ (by omega)
  have eX : IntKind.i64.wrap (x * n.stride) = x * n.stride := IntWalk.i64_in _ (by omega)
  have eYp : IntKind.i64.wrap (y * n.stride - n.pad) = y * n.stride - n.pad := IntWalk.i64_in _ (by omega)
  have eXp : IntKind.i64.wrap (x * n.stride - n.pad) = x * n.stride - n.pad := IntWalk.i64_in _ (by omega)
  clear STEP hk
  go_enter Tryz.func121, Tryz.ntmps121
  go_upto_region 1 with fail
  refine opq (fun w' => (Bx w' (W.heap.size) #[.int .i64 n.op, vi, .int .i64 n.k, .int .i64 n.stride, .int .i64 n.pad, .int .i64 n.out, .int .i64 n.mul, .int .i64 n.shift, .int .i64 n.zero, .int .i64 n.th, .int .i64 n.tw, .int .i64 n.tc, vw, vb, lv, .int .i64 m.1, .int .i64 m.2.1, .int .i64 m.2.2]) /\ (Bx w' pm #[.int .i64 (acc 0)]) /\ (Fr w' pm) /\ KeepK pm W w' /\ W.heap.size + 1 <= w'.heap.size) (by
    exact ⟨box_new rfl, box_old hm lm, free_alloc fm, KeepK.of_past ((Past.refl _).alloc _), by simp⟩) ?_
  rintro W1 ⟨b1, m1, f1, g1, z1⟩
  have nB : W.heap.size ≠ pm := by omega
  clear hm fm
  go_wp2_with fail
  go_loopw [13] (fun i wr => ∃ k : Nat, k <= kn /\ i = .int .i64 k /\ (Bx wr pm #[.int .i64 (acc (k * kn))]) /\ (Fr wr pm) /\ (Bx wr (W.heap.size) #[.int .i64 n.op, vi, .int .i64 n.k, .int .i64 n.stride, .int .i64 n.pad, .int .i64 n.out, .int .i64 n.mul, .int .i64 n.shift, .int .i64 n.zero, .int .i64 n.th, .int .i64 n.tw, .int .i64 n.tc, vw, vb, lv, .int .i64 m.1, .int .i64 m.2.1, .int .i64 m.2.2]) /\ KeepK pm W wr /\ W.heap.size + 1 <= wr.heap.size) (fun i _ => kn - (intOf i).toNat)
  case atStart => exact ⟨0, by omega, rfl, by simpa using m1, f1, b1, g1, z1⟩
  case round =>
    clear b1 m1 f1 g1 z1
    obtain ⟨i, hi, rfl, m1, f1, b1, g1, z1⟩ := hrel
    by_cases h : i < kn
    . have hlt : (i : Int) < n.k := by have := HK.out; omega
      have d1 : decide ((i : Int) < n.k) = true := by simpa using hlt
      have b2 : 0 <= (i : Int) * n.k /\ (i : Int) * n.k <= 3 * 3 := ⟨Int.mul_nonneg (by omega) (by omega), Int.mul_le_mul (by omega) (by omega) (by omega) (by omega)⟩
      have eI : IntKind.i64.wrap ((i : Int) * n.k) = ((i * kn : Nat) : Int) := by rw [IntWalk.i64_in _ (by omega), HK.out, Int.natCast_mul]
      have eA : IntKind.i64.wrap (y * n.stride - n.pad + i) = y * n.stride - n.pad + i := IntWalk.i64_in _ (by omega)
      have b3 : i * kn ≤ 9 := by have := HK.out; have : ((i * kn : Nat) : Int) ≤ 9 := by rw [Int.natCast_mul, ← HK.out]; omega
                                 omega
      go_wp2_with fail
      go_loopw [19] (fun t wr => ∃ j : Nat, j <= kn /\ t = .int .i64 j /\ (Bx wr pm #[.int .i64 (acc (i * kn + j))]) /\ (Fr wr pm) /\ (Bx wr (W.heap.size) #[.int .i64 n.op, vi, .int .i64 n.k, .int .i64 n.stride, .int .i64 n.pad, .int .i64 n.out, .int .i64 n.mul, .int .i64 n.shift, .int .i64 n.zero, .int .i64 n.th, .int .i64 n.tw, .int .i64 n.tc, vw, vb, lv, .int .i64 m.1, .int .i64 m.2.1, .int .i64 m.2.2]) /\ KeepK pm W wr /\ W.heap.size + 1 <= wr.heap.size) (fun t _ => kn - (intOf t).toNat)
      case atStart => exact ⟨0, by omega, rfl, m1, f1, b1, g1, z1⟩
      case round =>
        clear b1 m1 f1 g1 z1
        obtain ⟨j, hj, rfl, m1, f1, b1, g1, z1⟩ := hrel
        by_cases h2 : j < kn
        . have hlt2 : (j : Int) < n.k := by have := HK.out; omega
          have d2 : decide ((j : Int) < n.k) = true := by simpa using hlt2
          have eJ : IntKind.i64.wrap (((i * kn : Nat) : Int) + j) = ((i * kn + j : Nat) : Int) := by rw [IntWalk.i64_in _ (by omega), Int.natCast_add]
          have eB : IntKind.i64.wrap (x * n.stride - n.pad + j) = x * n.stride - n.pad + j := IntWalk.i64_in _ (by omega)
          have S1 := Lib.hid (fun w (g : KeepK pm W w) => ST.out i j h h2 w g)
          have lm1 : pm < wr.heap.size := by omega
          clear a1 a2 b2 hlt hlt2
          go_wp2_with fail
          refine (S1.out _ g1 m1 f1).mono ?_
          rintro e w5 ⟨⟨v5, rfl⟩, m5, f5, k5⟩
          have b5 := box_keepK k5 b1 (by omega) nB
          have g5 := g1.trans k5
          have z5 : W.heap.size + 1 <= w5.heap.size := by have := k5.2.2.1; omega
          clear m1 f1 b1 g1 z1 S1 k5
          go_wp2_with fail
          go_roundw
          case rel => exact ⟨j + 1, by omega, by go_num, m5, f5, b5, g5, z5⟩
          case measure => simp [intOf]; omega
        . obtain rfl : j = kn := by omega
          have d2 : decide ((j : Int) < n.k) = false := by have := HK.out; simp; omega
          have E : acc (i * j + j) = acc ((i + 1) * j) := by rw [Nat.add_mul, Nat.one_mul]
          rw [E] at m1
          clear a1 a2 b2 hlt
          go_wp2_with fail
          go_roundw
          case rel => exact ⟨i + 1, by omega, by go_num, m1, f1, b1, g1, z1⟩
          case measure => simp [intOf]; omega
    . obtain rfl : i = kn := by omega
      have d1 : decide ((i : Int) < n.k) = false := by have := HK.out; simp; omega
      rw [<- hr.out] at m1
      clear a1 a2
      go_wp2_with fail
      refine ⟨rfl, .tuple #[], ?_, ⟨_, rfl⟩, m1, f1, g1⟩
      simp [results, Tryz.results121, go_sem]
set_option maxHeartbeats 4000000 in
theorem window_mean (n : NodeD) (vi vw vb lv : Value) (m : Int × Int × Int) (pm pa pc : Nat) (kn : Nat) (y x r : Int) (acc : Nat -> Int) (W : World)
    (hk : n.k = (kn : Int)) (k1 : 1 <= kn) (k3 : kn <= 3) (t1 : 1 <= n.stride) (t2 : n.stride <= 2) (p0 : 0 <= n.pad) (p1 : n.pad <= 1) (y0 : 0 <= y) (y1 : y <= 16) (x0 : 0 <= x) (x1 : x <= 16)
    (hm : (Bx W pm #[.int .i64 (acc 0)])) (fm : (Fr W pm)) (lm : pm < W.heap.size) (hr : Hid (r = acc (kn * kn)))
    (STEP : ∀ i j : Nat, i < kn -> j < kn -> ∀ w, KeepK pm W w -> (Bx w pm #[.int .i64 (acc (i * kn + j))]) -> (Fr w pm) ->
      Calls Tryz.prog 127 #[.int .i64 ((i * kn + j : Nat) : Int), .int .i64 (y * n.stride - n.pad + i), .int .i64 (x * n.stride - n.pad + j), .pointer (some ⟨pm, 0, none⟩), .pointer (some ⟨pa, 0, none⟩), .pointer (some ⟨pc, 0, none⟩)] w (StepPost pm (acc (i * kn + j + 1)) w)) :
    Calls Tryz.prog 121 #[.agg #[.int .i64 n.op, vi, .int .i64 n.k, .int .i64 n.stride, .int .i64 n.pad, .int .i64 n.out, .int .i64 n.mul, .int .i64 n.shift, .int .i64 n.zero, .int .i64 n.th, .int .i64 n.tw, .int .i64 n.tc, vw, vb, lv, .int .i64 m.1, .int .i64 m.2.1, .int .i64 m.2.2], .int .i64 y, .int .i64 x, .func (.func 127) #[] #[.pointer (some ⟨pm, 0, none⟩), .pointer (some ⟨pa, 0, none⟩), .pointer (some ⟨pc, 0, none⟩)]] W (StepPost pm r W) := by
  have ST := Lib.hid STEP
  have HK := Lib.hid hk
  have nk1 : 1 <= n.k := by omega
  have nk3 : n.k <= 3 := by omega
  have a1 : 0 <= y * n.stride /\ y * n.stride <= 16 * 2 := ⟨Int.mul_nonneg y0 (by omega), Int.mul_le_mul y1 t2 (by omega) (by omega)⟩
  have a2 : 0 <= x * n.stride /\ x * n.stride <= 16 * 2 := ⟨Int.mul_nonneg x0 (by omega), Int.mul_le_mul x1 t2 (by omega) (by omega)⟩
  have eY : IntKind.i64.wrap (y * n.stride) = y * n.stride := IntWalk.i64_in _ (by omega)
  have eX : IntKind.i64.wrap (x * n.stride) = x * n.stride := IntWalk.i64_in _ (by omega)
  have eYp : IntKind.i64.wrap (y * n.stride - n.pad) = y * n.stride - n.pad := IntWalk.i64_in _ (by omega)
  have eXp : IntKind.i64.wrap (x * n.stride - n.pad) = x * n.stride - n.pad := IntWalk.i64_in _ (by omega)
  clear STEP hk
  go_enter Tryz.func121, Tryz.ntmps121
  go_upto_region 1 with fail
  refine opq (fun w' => (Bx w' (W.heap.size) #[.int .i64 n.op, vi, .int .i64 n.k, .int .i64 n.stride, .int .i64 n.pad, .int .i64 n.out, .int .i64 n.mul, .int .i64 n.shift, .int .i64 n.zero, .int .i64 n.th, .int .i64 n.tw, .int .i64 n.tc, vw, vb, lv, .int .i64 m.1, .int .i64 m.2.1, .int .i64 m.2.2]) /\ (Bx w' pm #[.int .i64 (acc 0)]) /\ (Fr w' pm) /\ KeepK pm W w' /\ W.heap.size + 1 <= w'.heap.size) (by
    exact ⟨box_new rfl, box_old hm lm, free_alloc fm, KeepK.of_past ((Past.refl _).alloc _), by simp⟩) ?_
  rintro W1 ⟨b1, m1, f1, g1, z1⟩
  have nB : W.heap.size ≠ pm := by omega
  clear hm fm
  go_wp2_with fail
  go_loopw [13] (fun i wr => ∃ k : Nat, k <= kn /\ i = .int .i64 k /\ (Bx wr pm #[.int .i64 (acc (k * kn))]) /\ (Fr wr pm) /\ (Bx wr (W.heap.size) #[.int .i64 n.op, vi, .int .i64 n.k, .int .i64 n.stride, .int .i64 n.pad, .int .i64 n.out, .int .i64 n.mul, .int .i64 n.shift, .int .i64 n.zero, .int .i64 n.th, .int .i64 n.tw, .int .i64 n.tc, vw, vb, lv, .int .i64 m.1, .int .i64 m.2.1, .int .i64 m.2.2]) /\ KeepK pm W wr /\ W.heap.size + 1 <= wr.heap.size) (fun i _ => kn - (intOf i).toNat)
  case atStart => exact ⟨0, by omega, rfl, by simpa using m1, f1, b1, g1, z1⟩
  case round =>
    clear b1 m1 f1 g1 z1
    obtain ⟨i, hi, rfl, m1, f1, b1, g1, z1⟩ := hrel
    by_cases h : i < kn
    . have hlt : (i : Int) < n.k := by have := HK.out; omega
      have d1 : decide ((i : Int) < n.k) = true := by simpa using hlt
      have b2 : 0 <= (i : Int) * n.k /\ (i : Int) * n.k <= 3 * 3 := ⟨Int.mul_nonneg (by omega) (by omega), Int.mul_le_mul (by omega) (by omega) (by omega) (by omega)⟩
      have eI : IntKind.i64.wrap ((i : Int) * n.k) = ((i * kn : Nat) : Int) := by rw [IntWalk.i64_in _ (by omega), HK.out, Int.natCast_mul]
      have eA : IntKind.i64.wrap (y * n.stride - n.pad + i) = y * n.stride - n.pad + i := IntWalk.i64_in _ (by omega)
      have b3 : i * kn ≤ 9 := by have := HK.out; have : ((i * kn : Nat) : Int) ≤ 9 := by rw [Int.natCast_mul, ← HK.out]; omega
                                 omega
      go_wp2_with fail
      go_loopw [19] (fun t wr => ∃ j : Nat, j <= kn /\ t = .int .i64 j /\ (Bx wr pm #[.int .i64 (acc (i * kn + j))]) /\ (Fr wr pm) /\ (Bx wr (W.heap.size) #[.int .i64 n.op, vi, .int .i64 n.k, .int .i64 n.stride, .int .i64 n.pad, .int .i64 n.out, .int .i64 n.mul, .int .i64 n.shift, .int .i64 n.zero, .int .i64 n.th, .int .i64 n.tw, .int .i64 n.tc, vw, vb, lv, .int .i64 m.1, .int .i64 m.2.1, .int .i64 m.2.2]) /\ KeepK pm W wr /\ W.heap.size + 1 <= wr.heap.size) (fun t _ => kn - (intOf t).toNat)
      case atStart => exact ⟨0, by omega, rfl, m1, f1, b1, g1, z1⟩
      case round =>
        clear b1 m1 f1 g1 z1
        obtain ⟨j, hj, rfl, m1, f1, b1, g1, z1⟩ := hrel
        by_cases h2 : j < kn
        . have hlt2 : (j : Int) < n.k := by have := HK.out; omega
          have d2 : decide ((j : Int) < n.k) = true := by simpa using hlt2
          have eJ : IntKind.i64.wrap (((i * kn : Nat) : Int) + j) = ((i * kn + j : Nat) : Int) := by rw [IntWalk.i64_in _ (by omega), Int.natCast_add]
          have eB : IntKind.i64.wrap (x * n.stride - n.pad + j) = x * n.stride - n.pad + j := IntWalk.i64_in _ (by omega)
          have S1 := Lib.hid (fun w (g : KeepK pm W w) => ST.out i j h h2 w g)
          have lm1 : pm < wr.heap.size := by omega
          clear a1 a2 b2 hlt hlt2
          go_wp2_with fail
          refine (S1.out _ g1 m1 f1).mono ?_
          rintro e w5 ⟨⟨v5, rfl⟩, m5, f5, k5⟩
          have b5 := box_keepK k5 b1 (by omega) nB
          have g5 := g1.trans k5
          have z5 : W.heap.size + 1 <= w5.heap.size := by have := k5.2.2.1; omega
          clear m1 f1 b1 g1 z1 S1 k5
          go_wp2_with fail
          go_roundw
          case rel => exact ⟨j + 1, by omega, by go_num, m5, f5, b5, g5, z5⟩
          case measure => simp [intOf]; omega
        . obtain rfl : j = kn := by omega
          have d2 : decide ((j : Int) < n.k) = false := by have := HK.out; simp; omega
          have E : acc (i * j + j) = acc ((i + 1) * j) := by rw [Nat.add_mul, Nat.one_mul]
          rw [E] at m1
          clear a1 a2 b2 hlt
          go_wp2_with fail
          go_roundw
          case rel => exact ⟨i + 1, by omega, by go_num, m1, f1, b1, g1, z1⟩
          case measure => simp [intOf]; omega
    . obtain rfl : i = kn := by omega
      have d1 : decide ((i : Int) < n.k) = false := by have := HK.out; simp; omega
      rw [<- hr.out] at m1
      clear a1 a2
      go_wp2_with fail
      refine ⟨rfl, .tuple #[], ?_, ⟨_, rfl⟩, m1, f1, g1⟩
      simp [results, Tryz.results121, go_sem]
set_option maxHeartbeats 4000000 in
theorem window_weigh (n : NodeD) (vi vw vb lv : Value) (m : Int × Int × Int) (pt pc pn pm pa pf : Nat) (kn : Nat) (y x r : Int) (acc : Nat -> Int) (W : World)
    (hk : n.k = (kn : Int)) (k1 : 1 <= kn) (k3 : kn <= 3) (t1 : 1 <= n.stride) (t2 : n.stride <= 2) (p0 : 0 <= n.pad) (p1 : n.pad <= 1) (y0 : 0 <= y) (y1 : y <= 16) (x0 : 0 <= x) (x1 : x <= 16)
    (hm : (Bx W pm #[.int .i64 (acc 0)])) (fm : (Fr W pm)) (lm : pm < W.heap.size) (hr : Hid (r = acc (kn * kn)))
    (STEP : ∀ i j : Nat, i < kn -> j < kn -> ∀ w, KeepK pm W w -> (Bx w pm #[.int .i64 (acc (i * kn + j))]) -> (Fr w pm) ->
      Calls Tryz.prog 122 #[.int .i64 ((i * kn + j : Nat) : Int), .int .i64 (y * n.stride - n.pad + i), .int .i64 (x * n.stride - n.pad + j), .pointer (some ⟨pt, 0, none⟩), .pointer (some ⟨pc, 0, none⟩), .pointer (some ⟨pn, 0, none⟩), .pointer (some ⟨pm, 0, none⟩), .pointer (some ⟨pa, 0, none⟩), .pointer (some ⟨pf, 0, none⟩)] w (StepPost pm (acc (i * kn + j + 1)) w)) :
    Calls Tryz.prog 121 #[.agg #[.int .i64 n.op, vi, .int .i64 n.k, .int .i64 n.stride, .int .i64 n.pad, .int .i64 n.out, .int .i64 n.mul, .int .i64 n.shift, .int .i64 n.zero, .int .i64 n.th, .int .i64 n.tw, .int .i64 n.tc, vw, vb, lv, .int .i64 m.1, .int .i64 m.2.1, .int .i64 m.2.2], .int .i64 y, .int .i64 x, .func (.func 122) #[] #[.pointer (some ⟨pt, 0, none⟩), .pointer (some ⟨pc, 0, none⟩), .pointer (some ⟨pn, 0, none⟩), .pointer (some ⟨pm, 0, none⟩), .pointer (some ⟨pa, 0, none⟩), .pointer (some ⟨pf, 0, none⟩)]] W (StepPost pm r W) := by
  have ST := Lib.hid STEP
  have HK := Lib.hid hk
  have nk1 : 1 <= n.k := by omega
  have nk3 : n.k <= 3 := by omega
  have a1 : 0 <= y * n.stride /\ y * n.stride <= 16 * 2 := ⟨Int.mul_nonneg y0 (by omega), Int.mul_le_mul y1 t2 (by omega) (by omega)⟩
  have a2 : 0 <= x * n.stride /\ x * n.stride <= 16 * 2 := ⟨Int.mul_nonneg x0 (by omega), Int.mul_le_mul x1 t2 (by omega) (by omega)⟩
  have eY : IntKind.i64.wrap (y * n.stride) = y * n.stride := IntWalk.i64_in _ (by omega)
  have eX : IntKind.i64.wrap (x * n.stride) = x * n.stride := IntWalk.i64_in _ (by omega)
  have eYp : IntKind.i64.wrap (y * n.stride - n.pad) = y * n.stride - n.pad := IntWalk.i64_in _ (by omega)
  have eXp : IntKind.i64.wrap (x * n.stride - n.pad) = x * n.stride - n.pad := IntWalk.i64_in _ (by omega)
  clear STEP hk
  go_enter Tryz.func121, Tryz.ntmps121
  go_upto_region 1 with fail
  refine opq (fun w' => (Bx w' (W.heap.size) #[.int .i64 n.op, vi, .int .i64 n.k, .int .i64 n.stride, .int .i64 n.pad, .int .i64 n.out, .int .i64 n.mul, .int .i64 n.shift, .int .i64 n.zero, .int .i64 n.th, .int .i64 n.tw, .int .i64 n.tc, vw, vb, lv, .int .i64 m.1, .int .i64 m.2.1, .int .i64 m.2.2]) /\ (Bx w' pm #[.int .i64 (acc 0)]) /\ (Fr w' pm) /\ KeepK pm W w' /\ W.heap.size + 1 <= w'.heap.size) (by
    exact ⟨box_new rfl, box_old hm lm, free_alloc fm, KeepK.of_past ((Past.refl _).alloc _), by simp⟩) ?_
  rintro W1 ⟨b1, m1, f1, g1, z1⟩
  have nB : W.heap.size ≠ pm := by omega
  clear hm fm
  go_wp2_with fail
  go_loopw [13] (fun i wr => ∃ k : Nat, k <= kn /\ i = .int .i64 k /\ (Bx wr pm #[.int .i64 (acc (k * kn))]) /\ (Fr wr pm) /\ (Bx wr (W.heap.size) #[.int .i64 n.op, vi, .int .i64 n.k, .int .i64 n.stride, .int .i64 n.pad, .int .i64 n.out, .int .i64 n.mul, .int .i64 n.shift, .int .i64 n.zero, .int .i64 n.th, .int .i64 n.tw, .int .i64 n.tc, vw, vb, lv, .int .i64 m.1, .int .i64 m.2.1, .int .i64 m.2.2]) /\ KeepK pm W wr /\ W.heap.size + 1 <= wr.heap.size) (fun i _ => kn - (intOf i).toNat)
  case atStart => exact ⟨0, by omega, rfl, by simpa using m1, f1, b1, g1, z1⟩
  case round =>
    clear b1 m1 f1 g1 z1
    obtain ⟨i, hi, rfl, m1, f1, b1, g1, z1⟩ := hrel
    by_cases h : i < kn
    . have hlt : (i : Int) < n.k := by have := HK.out; omega
      have d1 : decide ((i : Int) < n.k) = true := by simpa using hlt
      have b2 : 0 <= (i : Int) * n.k /\ (i : Int) * n.k <= 3 * 3 := ⟨Int.mul_nonneg (by omega) (by omega), Int.mul_le_mul (by omega) (by omega) (by omega) (by omega)⟩
      have eI : IntKind.i64.wrap ((i : Int) * n.k) = ((i * kn : Nat) : Int) := by rw [IntWalk.i64_in _ (by omega), HK.out, Int.natCast_mul]
      have eA : IntKind.i64.wrap (y * n.stride - n.pad + i) = y * n.stride - n.pad + i := IntWalk.i64_in _ (by omega)
      have b3 : i * kn ≤ 9 := by have := HK.out; have : ((i * kn : Nat) : Int) ≤ 9 := by rw [Int.natCast_mul, ← HK.out]; omega
                                 omega
      go_wp2_with fail
      go_loopw [19] (fun t wr => ∃ j : Nat, j <= kn /\ t = .int .i64 j /\ (Bx wr pm #[.int .i64 (acc (i * kn + j))]) /\ (Fr wr pm) /\ (Bx wr (W.heap.size) #[.int .i64 n.op, vi, .int .i64 n.k, .int .i64 n.stride, .int .i64 n.pad, .int .i64 n.out, .int .i64 n.mul, .int .i64 n.shift, .int .i64 n.zero, .int .i64 n.th, .int .i64 n.tw, .int .i64 n.tc, vw, vb, lv, .int .i64 m.1, .int .i64 m.2.1, .int .i64 m.2.2]) /\ KeepK pm W wr /\ W.heap.size + 1 <= wr.heap.size) (fun t _ => kn - (intOf t).toNat)
      case atStart => exact ⟨0, by omega, rfl, m1, f1, b1, g1, z1⟩
      case round =>
        clear b1 m1 f1 g1 z1
        obtain ⟨j, hj, rfl, m1, f1, b1, g1, z1⟩ := hrel
        by_cases h2 : j < kn
        . have hlt2 : (j : Int) < n.k := by have := HK.out; omega
          have d2 : decide ((j : Int) < n.k) = true := by simpa using hlt2
          have eJ : IntKind.i64.wrap (((i * kn : Nat) : Int) + j) = ((i * kn + j : Nat) : Int) := by rw [IntWalk.i64_in _ (by omega), Int.natCast_add]
          have eB : IntKind.i64.wrap (x * n.stride - n.pad + j) = x * n.stride - n.pad + j := IntWalk.i64_in _ (by omega)
          have S1 := Lib.hid (fun w (g : KeepK pm W w) => ST.out i j h h2 w g)
          have lm1 : pm < wr.heap.size := by omega
          clear a1 a2 b2 hlt hlt2
          go_wp2_with fail
          refine (S1.out _ g1 m1 f1).mono ?_
          rintro e w5 ⟨⟨v5, rfl⟩, m5, f5, k5⟩
          have b5 := box_keepK k5 b1 (by omega) nB
          have g5 := g1.trans k5
          have z5 : W.heap.size + 1 <= w5.heap.size := by have := k5.2.2.1; omega
          clear m1 f1 b1 g1 z1 S1 k5
          go_wp2_with fail
          go_roundw
          case rel => exact ⟨j + 1, by omega, by go_num, m5, f5, b5, g5, z5⟩
          case measure => simp [intOf]; omega
        . obtain rfl : j = kn := by omega
          have d2 : decide ((j : Int) < n.k) = false := by have := HK.out; simp; omega
          have E : acc (i * j + j) = acc ((i + 1) * j) := by rw [Nat.add_mul, Nat.one_mul]
          rw [E] at m1
          clear a1 a2 b2 hlt
          go_wp2_with fail
          go_roundw
          case rel => exact ⟨i + 1, by omega, by go_num, m1, f1, b1, g1, z1⟩
          case measure => simp [intOf]; omega
    . obtain rfl : i = kn := by omega
      have d1 : decide ((i : Int) < n.k) = false := by have := HK.out; simp; omega
      rw [<- hr.out] at m1
      clear a1 a2
      go_wp2_with fail
      refine ⟨rfl, .tuple #[], ?_, ⟨_, rfl⟩, m1, f1, g1⟩
      simp [results, Tryz.results121, go_sem]
set_option maxHeartbeats 8000000 in
theorem whole_any (n : NodeD) (vi lv : Value) (sb so cap bb bo bcap ab ao acap : Nat) (m : Int × Int × Int) (pt : Nat) (a : ViewD) (pa : Nat) (y x q : Int) (c : Nat) (W : World)
    (ht : (Bx W pt #[.int .i64 n.op, vi, .int .i64 n.k, .int .i64 n.stride, .int .i64 n.pad, .int .i64 n.out, .int .i64 n.mul, .int .i64 n.shift, .int .i64 n.zero, .int .i64 n.th, .int .i64 n.tw, .int .i64 n.tc, .slice (some ⟨sb, so, none⟩) n.ws.length cap, .slice (some ⟨bb, bo, none⟩) n.bs.length bcap, lv, .int .i64 m.1, .int .i64 m.2.1, .int .i64 m.2.2])) (lt : pt < W.heap.size) (ha : (Bx W pa #[.int .i64 a.v.h, .int .i64 a.v.w, .int .i64 a.v.c, .int .i64 a.v.z, .int .i64 a.base, .int .i64 a.many, .slice (some ⟨ab, ao, none⟩) a.xs.length acap])) (la : pa < W.heap.size)
    (na : IsNums .i8 W (.slice (some ⟨ab, ao, none⟩) a.xs.length acap) a.xs) (oa : ViewOk a) (nw : IsNums .i8 W (.slice (some ⟨sb, so, none⟩) n.ws.length cap) n.ws) (nb : IsNums .i32 W (.slice (some ⟨bb, bo, none⟩) n.bs.length bcap) n.bs)
    (hcb : c < n.bs.length) (h0 : 0 < a.xs.length) (hl : a.xs.length <= 2048) (c8 : c < 8) (hw : c * a.xs.length + a.xs.length <= n.ws.length) (hb : ∀ j, j < n.bs.length -> nearB (n.bs.getD j 0)) (hq : Hid (q = wholeN n a c)) :
    Calls Tryz.prog 123 #[.int .i64 y, .int .i64 x, .int .i64 c, .pointer (some ⟨pt, 0, none⟩), .pointer (some ⟨pa, 0, none⟩)] W fun e w' => e = .returned (.int .i64 q) /\ Grown W w' := by
  obtain ⟨_, _, e, _, a1, a2, hab, hac⟩ := nums_parts na h0
  simp only [Option.some.injEq, Addr.mk.injEq, and_true] at e
  obtain ⟨rfl, rfl⟩ := e
  obtain ⟨_, _, e, _, b1, b2, hsb, hsc⟩ := nums_parts nw (by omega)
  simp only [Option.some.injEq, Addr.mk.injEq, and_true] at e
  obtain ⟨rfl, rfl⟩ := e
  obtain ⟨_, _, e, _, d1, d2, hbb, hbc⟩ := nums_parts nb (by omega)
  simp only [Option.some.injEq, Addr.mk.injEq, and_true] at e
  obtain ⟨rfl, rfl⟩ := e
  have l1 : n.ws.length <= 9223372036854775807 := by unfold maxLen at b2; omega
  have l2 : n.bs.length <= 9223372036854775807 := by unfold maxLen at d2; omega
  have nb0 := hb c hcb
  unfold nearB at nb0
  obtain ⟨zz1, zz2⟩ := oa.2.2.1
  have AC := Lib.hid hac
  have SC := Lib.hid hsc
  have bc0 := (hbc c hcb).1
  obtain ⟨b, hb0⟩ : ∃ b, n.bs.getD c 0 = b := ⟨_, rfl⟩
  have QQ : Hid (q = b + sumN (fun i => (a.xs.getD i 0 - a.v.z) * n.ws.getD (c * a.xs.length + i) 0) a.xs.length) := Lib.hid (by rw [hq.out, <- hb0]; rfl)
  rw [hb0] at nb0 bc0
  have eb : IntKind.i64.wrap b = b := IntWalk.i64_in _ (by omega)
  have i1 : (0 : Int) <= (c : Int) := by omega
  have i2 : (c : Int) < (n.bs.length : Int) := by omega
  have q1 : 0 <= (c : Int) * (a.xs.length : Int) /\ (c : Int) * (a.xs.length : Int) <= 8 * 2048 := ⟨Int.mul_nonneg (by omega) (by omega), Int.mul_le_mul (by omega) (by omega) (by omega) (by omega)⟩
  have eC : IntKind.i64.wrap ((c : Int) * (a.xs.length : Int)) = (c : Int) * (a.xs.length : Int) := IntWalk.i64_in _ (by omega)
  have G0 := Grown.refl W
  have S0 : W.heap.size <= W.heap.size := Nat.le_refl _
  clear hac hsc hbc a2 b2 d2 hb hb0 hq na nw nb oa
  go_enter Tryz.func123, Tryz.ntmps123
  go_wp2_with fail
  go_loopw [9, 23] (fun s i wr => ∃ k : Nat, k <= a.xs.length /\ i = .int .i64 k /\ s = .int .i64 (b + sumN (fun i => (a.xs.getD i 0 - a.v.z) * n.ws.getD (c * a.xs.length + i) 0) k) /\ (Bx wr pt #[.int .i64 n.op, vi, .int .i64 n.k, .int .i64 n.stride, .int .i64 n.pad, .int .i64 n.out, .int .i64 n.mul, .int .i64 n.shift, .int .i64 n.zero, .int .i64 n.th, .int .i64 n.tw, .int .i64 n.tc, .slice (some ⟨sb, so, none⟩) n.ws.length cap, .slice (some ⟨bb, bo, none⟩) n.bs.length bcap, lv, .int .i64 m.1, .int .i64 m.2.1, .int .i64 m.2.2]) /\ (Bx wr pa #[.int .i64 a.v.h, .int .i64 a.v.w, .int .i64 a.v.c, .int .i64 a.v.z, .int .i64 a.base, .int .i64 a.many, .slice (some ⟨ab, ao, none⟩) a.xs.length acap]) /\ Grown W wr) (fun _ i _ => a.xs.length - (intOf i).toNat)
  case atStart => exact ⟨0, by omega, rfl, by simp [sumN], ht, ha, G0⟩
  case round =>
    clear ht ha G0
    obtain ⟨k, hk, rfl, rfl, ht, ha, g0⟩ := hrel
    by_cases h : k < a.xs.length
    . obtain ⟨cx, wx⟩ := AC.out k h
      obtain ⟨cw, ww⟩ := SC.out (c * a.xs.length + k) (by omega)
      have cx1 := (grown_cell (p := ⟨ab, ao + k, none⟩) g0 hab).trans cx
      have cw1 := (grown_cell (p := ⟨sb, so + (c * a.xs.length + k), none⟩) g0 hsb).trans cw
      have bx := wf_i8 wx
      have bw := wf_i8 ww
      have bs := sumN_bd (f := fun i => (a.xs.getD i 0 - a.v.z) * n.ws.getD (c * a.xs.length + i) 0) (B := 255 * 128) (k := k) (fun i hi => by
        have w1 := wf_i8 (AC.out i (by omega)).2
        have w2 := wf_i8 (SC.out (c * a.xs.length + i) (by omega)).2
        exact prod_bd (by omega) (by omega) (by omega) (by omega))
      have bk : (k : Int) * (255 * 128) <= 2048 * (255 * 128) := Int.mul_le_mul_of_nonneg_right (by omega) (by omega)
      have nx : sumN (fun i => (a.xs.getD i 0 - a.v.z) * n.ws.getD (c * a.xs.length + i) 0) (k + 1) = sumN (fun i => (a.xs.getD i 0 - a.v.z) * n.ws.getD (c * a.xs.length + i) 0) k + (a.xs.getD k 0 - a.v.z) * n.ws.getD (c * a.xs.length + k) 0 := rfl
      obtain ⟨xv, hxv⟩ : ∃ xv, a.xs.getD k 0 = xv := ⟨_, rfl⟩
      obtain ⟨wv, hwv⟩ : ∃ wv, n.ws.getD (c * a.xs.length + k) 0 = wv := ⟨_, rfl⟩
      obtain ⟨u, hu⟩ : ∃ u, sumN (fun i => (a.xs.getD i 0 - a.v.z) * n.ws.getD (c * a.xs.length + i) 0) k = u := ⟨_, rfl⟩
      rw [hu] at bs nx ⊢
      rw [hxv] at cx1 bx nx
      rw [hwv] at cw1 bw nx
      have pb := prod_bd (a := xv - a.v.z) (b := wv) (A := 255) (B := 128) (by omega) (by omega) (by omega) (by omega)
      have NX : Hid (b + sumN (fun i => (a.xs.getD i 0 - a.v.z) * n.ws.getD (c * a.xs.length + i) 0) (k + 1) = b + u + (xv - a.v.z) * wv) := Lib.hid (by rw [nx]; omega)
      obtain ⟨j, hj⟩ : ∃ j, c * a.xs.length + k = j := ⟨_, rfl⟩
      have jl : j < n.ws.length := by omega
      rw [hj] at cw1
      have eJ : IntKind.i64.wrap ((c : Int) * (a.xs.length : Int) + k) = (j : Int) := by rw [<- hj, IntWalk.i64_in _ (by omega), Int.natCast_add, Int.natCast_mul]
      have ex : IntKind.i64.wrap xv = xv := IntWalk.i64_in _ (by omega)
      have ew : IntKind.i64.wrap wv = wv := IntWalk.i64_in _ (by omega)
      have ez : IntKind.i64.wrap (xv - a.v.z) = xv - a.v.z := IntWalk.i64_in _ (by omega)
      have ep : IntKind.i64.wrap ((xv - a.v.z) * wv) = (xv - a.v.z) * wv := IntWalk.i64_in _ (by omega)
      have es : IntKind.i64.wrap (b + u + (xv - a.v.z) * wv) = b + u + (xv - a.v.z) * wv := IntWalk.i64_in _ (by omega)
      have j1 : (0 : Int) <= (k : Int) := by omega
      have j2 : (k : Int) < (a.xs.length : Int) := by omega
      have j3 : (0 : Int) <= (j : Int) := by omega
      have j4 : (j : Int) < (n.ws.length : Int) := by omega
      have S1 : W.heap.size <= wr.heap.size := g0.2.2
      clear bs bk nx hu hxv hwv pb hj cx cw wx ww bx bw q1
      go_upto_region 5 with fail
      refine wp_region_tail 23 (fun w' => (Bx w' pt #[.int .i64 n.op, vi, .int .i64 n.k, .int .i64 n.stride, .int .i64 n.pad, .int .i64 n.out, .int .i64 n.mul, .int .i64 n.shift, .int .i64 n.zero, .int .i64 n.th, .int .i64 n.tw, .int .i64 n.tc, .slice (some ⟨sb, so, none⟩) n.ws.length cap, .slice (some ⟨bb, bo, none⟩) n.bs.length bcap, lv, .int .i64 m.1, .int .i64 m.2.1, .int .i64 m.2.2]) /\ (Bx w' pa #[.int .i64 a.v.h, .int .i64 a.v.w, .int .i64 a.v.c, .int .i64 a.v.z, .int .i64 a.base, .int .i64 a.many, .slice (some ⟨ab, ao, none⟩) a.xs.length acap]) /\ w'.cell? ⟨sb, so + j, none⟩ = some (.int .i8 wv) /\ Grown W w' /\ W.heap.size <= w'.heap.size) [(28, ?va28), (29, ?va29), (30, ?va30), (31, ?va31), (32, ?va32), (33, ?va33), (34, ?va34), (35, ?va35), (36, ?va36), (37, ?va37), (38, ?va38), (39, ?va39), (40, ?va40), (41, ?va41), (42, ?va42), (43, ?va43), (44, ?va44), (45, ?va45), (46, ?va46), (47, ?va47), (48, ?va48), (49, ?va49), (50, ?va50)] [28, 29, 30, 31, 32, 33, 34, 35, 36, 37, 38, 39, 40, 41, 42, 43, 44, 45, 46, 47, 48, 49, 50] (by kernel_rfl) (by kernel_rfl) rfl (by kernel_rfl) ⟨ht, ha, cw1, g0, S1⟩ (fun w h => h) ?alla ?fina
      case alla =>
        simp only [fillA, Act.put, List.setIfInBounds_toArray, List.set_cons_zero, List.set_cons_succ, List.take_succ_cons, List.take_zero]
        iterate 23 (refine owes_cons (fun w hw K hK => ?_) ?_; focus ((have hS := Lib.hid hw); go_split_ands; go_simp; (try simp only [Act.put, List.setIfInBounds_toArray, List.set_cons_zero, List.set_cons_succ]); first | exact hK _ hS.out))
        exact True.intro
      case fina =>
        rintro w9 ⟨t9, a9, c9, g9, z9⟩
        simp only [fillA, Act.put, List.setIfInBounds_toArray, List.set_cons_zero, List.set_cons_succ, List.drop_succ_cons, List.drop_zero]
        go_wp2_with fail
        go_roundw
        case rel => exact ⟨k + 1, by omega, by go_num, by rw [NX.out], t9, a9, g9⟩
        case measure => simp [intOf]; omega
    . obtain rfl : k = a.xs.length := by omega
      rw [<- QQ.out]
      go_wp2_with fail
      go_ret
      exact ⟨rfl, g0⟩
end Go.Proofs.YtliijchcpooplaaGreat
