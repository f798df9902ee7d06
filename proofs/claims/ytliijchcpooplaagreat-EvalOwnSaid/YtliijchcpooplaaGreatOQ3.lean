/- The reference's sums of OpConv, OpDepth and OpFull. -/
import Derived.Test.YtliijchcpooplaaGreatOMKI
import Derived.Test.YtliijchcpooplaaGreatOMV3
namespace Go.Proofs.YtliijchcpooplaaGreat
open Go.ChangeShapes Go.WideShapes Go.ChangeAt Go.RowKit
set_option maxRecDepth 20000
set_option linter.unusedVariables false
theorem place_1 {n : NodeD} {u : ViewD} {kn i j : Nat} (hk : n.k.toNat = kn) (y x : Int) (c : Nat) (hj : j < kn) : placeN n u 1 (c : Int) y x c (i * kn + j) = (atD u (y * n.stride - n.pad + i) (x * n.stride - n.pad + j) c - u.v.z) * n.ws.getD (c * (kn * kn) + (i * kn + j)) 0 := by
  unfold placeN overD
  rw [hk]
  simp [sumN, look_ij _ hj, side_ij _ hj]
noncomputable def deepN (n : NodeD) (u : ViewD) (many : Nat) (a b : Int) (k : Nat) (d : Nat) : Int := (atD u a b d - u.v.z) * n.ws.getD (k * many + d) 0
theorem place_d {n : NodeD} {u : ViewD} {kn i j many : Nat} (hk : n.k.toNat = kn) (y x : Int) (c : Nat) (hj : j < kn) : placeN n u many 0 y x c (i * kn + j) = sumN (deepN n u many (y * n.stride - n.pad + i) (x * n.stride - n.pad + j) (c * (kn * kn) + (i * kn + j))) many := by
  unfold placeN
  refine sumN_congr fun d _ => ?_
  unfold overD deepN
  rw [hk, look_ij _ hj, side_ij _ hj, Int.zero_add]
theorem deep_bd {n : NodeD} {u : ViewD} (ok : ViewOk u) (hw : ∀ k, -128 <= n.ws.getD k 0 /\ n.ws.getD k 0 <= 127) (many : Nat) (a b : Int) (k d : Nat) : -32640 <= deepN n u many a b k d /\ deepN n u many a b k d <= 32640 := by
  have h := atD_bd ok a b d
  have z := ok.2.2.1
  have w := hw (k * many + d)
  have := prod_bd (a := atD u a b d - u.v.z) (b := n.ws.getD (k * many + d) 0) (A := 255) (B := 128) (by omega) (by omega) (by omega) (by omega)
  unfold deepN
  omega
set_option maxHeartbeats 8000000 in
theorem rsum_3 (n : NodeD) (vi : Value) (wb wo wc bb bo bc : Nat) (u : ViewD) (s : Value) (y x q : Int) (c : Nat) (W : World) (hs : IsNums .i8 W s u.xs) (F : FullV u) (nw : IsNums .i8 W (.slice (some ⟨wb, wo, none⟩) n.ws.length wc) n.ws) (nb : IsNums .i32 W (.slice (some ⟨bb, bo, none⟩) n.bs.length bc) n.bs) (hcb : c < n.bs.length) (c8 : c < 8) (wpos : 0 < n.ws.length) (nb0 : nearB (n.bs.getD c 0)) (ho : n.op = 3) (hw : (c + 1) * u.xs.length <= n.ws.length) (lw : n.ws.length <= 100000) (hq : Hid (q = wholeN n u c)) :
    Calls Tryz.prog 64 #[.agg (nC n vi (.slice (some ⟨wb, wo, none⟩) n.ws.length wc) (.slice (some ⟨bb, bo, none⟩) n.bs.length bc)), .agg #[.int .i64 u.v.h, .int .i64 u.v.w, .int .i64 u.v.c, .int .i64 u.v.z], .agg #[.int .i64 0, .int .i64 u.v.h, s], .int .i64 y, .int .i64 x, .int .i64 c] W fun e w' => e = .returned (.int .i64 q) /\ Grown W w' := by
  obtain ⟨_, _, e, _, _, _, hwb, hwc⟩ := nums_parts nw wpos
  simp only [Option.some.injEq, Addr.mk.injEq, and_true] at e
  obtain ⟨rfl, rfl⟩ := e
  obtain ⟨_, _, e, _, d1, d2, hbb, hbc⟩ := nums_parts nb (by omega)
  simp only [Option.some.injEq, Addr.mk.injEq, and_true] at e
  obtain ⟨rfl, rfl⟩ := e
  have l2 : n.bs.length <= 9223372036854775807 := by unfold maxLen at d2; omega
  unfold nearB at nb0
  have WB := Lib.hid (fun k => nums_i8 nw k)
  have HWC := Lib.hid hwc
  have bc0 := (hbc c hcb).1
  obtain ⟨b, hb0⟩ : ∃ b, n.bs.getD c 0 = b := ⟨_, rfl⟩
  have HB0 := Lib.hid hb0
  rw [hb0] at nb0 bc0
  have eb : IntKind.i64.wrap b = b := IntWalk.i64_in _ (by omega)
  have i1 : (0 : Int) <= (c : Int) := by omega
  have i2 : (c : Int) < (n.bs.length : Int) := by omega
  have HF := Lib.hid F
  have NA := Lib.hid hs
  have LL := F.len
  have FL := F.2.2.2.2.1
  have FX := Lib.hid F.2.2.2.2.2
  have zz := F.2.2.2.1
  obtain ⟨A, cap, rfl, a1, a2, _, a4, a5⟩ := hs
  obtain ⟨sb, so, rfl, hsb, hc⟩ := a5 LL.1
  have HC := Lib.hid hc
  obtain ⟨N, hN⟩ : ∃ N, u.xs.length = N := ⟨_, rfl⟩
  have HN := Lib.hid hN
  rw [hN] at LL HC FL NA hw
  rw [hN]
  have RS := Lib.hid (fun w => rsize_any u.v.h u.v.w u.v.c (N : Int) w (Lib.hid FL))
  obtain ⟨g, hg⟩ : ∃ g, (fun i => (u.xs.getD i 0 - u.v.z) * n.ws.getD (c * N + i) 0) = g := ⟨_, rfl⟩
  have HG := Lib.hid (fun i => show g i = (u.xs.getD i 0 - u.v.z) * n.ws.getD (c * N + i) 0 by rw [<- hg])
  have QQ : Hid (q = b + sumN g N) := Lib.hid (by rw [hq.out]; unfold wholeN; rw [hb0, hN, hg])
  have XB := Lib.hid (fun k => getD_i8 FX.out k)
  have GB := Lib.hid (fun i => show -32640 <= g i /\ g i <= 32640 by
    rw [HG.out i]
    have h1 := XB.out i
    have h2 := WB.out (c * N + i)
    have := prod_bd (a := u.xs.getD i 0 - u.v.z) (b := n.ws.getD (c * N + i) 0) (A := 255) (B := 128) (by omega) (by omega) (by omega) (by omega)
    omega)
  obtain ⟨S0, hS0⟩ : ∃ S, sumN g = S := ⟨_, rfl⟩
  have SS := Lib.hid (fun (p : Nat) => show S0 (p + 1) = S0 p + g p by rw [<- hS0]; rfl)
  have SB := Lib.hid (fun (p : Nat) (hp : p <= 2048) => show -66846720 <= S0 p /\ S0 p <= 66846720 by
    rw [<- hS0]
    have := sumN_bd (f := g) (B := 32640) (k := p) (fun i _ => GB.out i)
    omega)
  have S00 : S0 0 = 0 := by rw [<- hS0]; rfl
  rw [hS0] at QQ
  have w1 : c * N <= 16384 := Nat.le_trans (Nat.mul_le_mul (show c <= 8 by omega) LL.2) (by omega)
  have hcN : (c + 1) * N = c * N + N := by rw [Nat.add_mul, Nat.one_mul]
  rw [hcN] at hw
  obtain ⟨cN, hcn⟩ : ∃ cN, c * N = cN := ⟨_, rfl⟩
  rw [hcn] at hw w1 HG
  have e1 : IntKind.i64.wrap ((c : Int) * (N : Int)) = (cN : Int) := by rw [<- hcn, Int.natCast_mul]; exact IntWalk.i64_in _ (by rw [<- Int.natCast_mul, hcn]; omega)
  have o3 : (n.op == 3) = true := by rw [ho]; decide
  obtain ⟨LL1, LL2⟩ := LL
  obtain ⟨zz1, zz2⟩ := zz
  obtain ⟨nb1, nb2⟩ := nb0
  clear nw nb hbc d2 hb0 hq F hwc hN hg hS0 hc a4 a5 hcn hcN FL
  go_enter Tryz.func64, Tryz.ntmps64
  go_upto_region 1 with fail
  refine opq (fun w' => (Bx w' (W.heap.size) (nC n vi (.slice (some ⟨wb, wo, none⟩) n.ws.length wc) (.slice (some ⟨bb, bo, none⟩) n.bs.length bc))) /\ (Bx w' (W.heap.size + 1) #[.int .i64 u.v.h, .int .i64 u.v.w, .int .i64 u.v.c, .int .i64 u.v.z]) /\ (Bx w' (W.heap.size + 2) #[.int .i64 0, .int .i64 u.v.h, .slice (some ⟨sb, so, none⟩) N cap]) /\ Grown W w' /\ W.heap.size + 3 <= w'.heap.size) kLaid ?_
  rintro W1 ⟨a1, a2, a3, g1, z1⟩
  go_upto_region 2 with fail
  refine opq (fun w' => (Bx w' (W.heap.size) (nC n vi (.slice (some ⟨wb, wo, none⟩) n.ws.length wc) (.slice (some ⟨bb, bo, none⟩) n.bs.length bc))) /\ (Bx w' (W.heap.size + 1) #[.int .i64 u.v.h, .int .i64 u.v.w, .int .i64 u.v.c, .int .i64 u.v.z]) /\ (Bx w' (W.heap.size + 2) #[.int .i64 0, .int .i64 u.v.h, .slice (some ⟨sb, so, none⟩) N cap]) /\ (Bx w' (W1.heap.size) #[.int .i64 u.v.h, .int .i64 u.v.w, .int .i64 u.v.c]) /\ Grown W w' /\ W1.heap.size + 1 <= w'.heap.size) kKeep ?_
  rintro W2 ⟨b1, b2, b3, b4, g2, z2⟩
  obtain ⟨P, hP⟩ : ∃ P, W1.heap.size = P := ⟨_, rfl⟩
  rw [hP] at b4 z2 z1
  rw [hP]
  clear a1 a2 a3 g1 hP
  have cb := (Grown.past g2).cell (p := ⟨bb, bo + c, none⟩) hbb |>.trans bc0
  go_wp2_with fail
  go_loopw [14, 15] (fun av kv wr => ∃ k : Nat, k <= N /\ kv = .int .i64 k /\ av = .int .i64 (b + S0 k) /\ (Bx wr (W.heap.size) (nC n vi (.slice (some ⟨wb, wo, none⟩) n.ws.length wc) (.slice (some ⟨bb, bo, none⟩) n.bs.length bc))) /\ (Bx wr (W.heap.size + 1) #[.int .i64 u.v.h, .int .i64 u.v.w, .int .i64 u.v.c, .int .i64 u.v.z]) /\ (Bx wr (W.heap.size + 2) #[.int .i64 0, .int .i64 u.v.h, .slice (some ⟨sb, so, none⟩) N cap]) /\ (Bx wr P #[.int .i64 u.v.h, .int .i64 u.v.w, .int .i64 u.v.c]) /\ Grown W wr /\ P + 1 <= wr.heap.size) (fun _ kv _ => N - (intOf kv).toNat)
  case atStart => exact ⟨0, by omega, rfl, by rw [S00, Int.add_zero], b1, b2, b3, b4, g2, z2⟩
  case round =>
    obtain ⟨k, hk, rfl, rfl, r1, r2, r3, r4, rg, rz⟩ := hrel
    clear b1 b2 b3 b4 g2 z2 cb
    have s0 := SB.out k (by omega)
    have s1 := SB.out (k + 1)
    have ss := SS.out k
    go_wp2_with fail
    refine (RS.out _).mono ?_
    rintro e w1 ⟨rfl, gg⟩
    obtain ⟨t1, t2, t3, t4, tg, tz⟩ : (Bx w1 (W.heap.size) (nC n vi (.slice (some ⟨wb, wo, none⟩) n.ws.length wc) (.slice (some ⟨bb, bo, none⟩) n.bs.length bc))) /\ (Bx w1 (W.heap.size + 1) #[.int .i64 u.v.h, .int .i64 u.v.w, .int .i64 u.v.c, .int .i64 u.v.z]) /\ (Bx w1 (W.heap.size + 2) #[.int .i64 0, .int .i64 u.v.h, .slice (some ⟨sb, so, none⟩) N cap]) /\ (Bx w1 P #[.int .i64 u.v.h, .int .i64 u.v.w, .int .i64 u.v.c]) /\ Grown W w1 /\ P + 1 <= w1.heap.size := by (exact kKeep)
    clear r1 r2 r3 r4 rg rz gg
    by_cases h : k < N
    . have d1 : decide ((k : Int) < (N : Int)) = true := decide_eq_true (by omega)
      replace s1 := s1 (by omega)
      have hgk := HG.out k
      have gb := GB.out k
      obtain ⟨G, hGk⟩ : ∃ G, g k = G := ⟨_, rfl⟩
      rw [hGk] at hgk gb ss
      have xa := (Grown.past tg).cell (p := ⟨sb, so + k, none⟩) hsb |>.trans (HC.out k h)
      have xe := (Grown.past tg).cell (p := ⟨wb, wo + (cN + k), none⟩) hwb |>.trans (HWC.out (cN + k) (by omega)).1
      have ab := XB.out k
      have eb2 := WB.out (cN + k)
      obtain ⟨a, ha⟩ : ∃ a, u.xs.getD k 0 = a := ⟨_, rfl⟩
      obtain ⟨e, he⟩ : ∃ e, n.ws.getD (cN + k) 0 = e := ⟨_, rfl⟩
      obtain ⟨K, hK⟩ : ∃ K, cN + k = K := ⟨_, rfl⟩
      have KW : K < n.ws.length := by omega
      rw [ha] at hgk xa ab
      rw [he] at hgk xe eb2
      rw [hK] at xe
      rw [ss] at s1
      have v0 : IntKind.i64.wrap a = a := IntWalk.i64_in _ (by omega)
      have v1 : IntKind.i64.wrap e = e := IntWalk.i64_in _ (by omega)
      have v2 : IntKind.i64.wrap (a - u.v.z) = a - u.v.z := IntWalk.i64_in _ (by omega)
      have v3 : IntKind.i64.wrap ((cN : Int) + (k : Int)) = (K : Int) := by rw [IntWalk.i64_in _ (by omega)]; omega
      have v4 : IntKind.i64.wrap ((a - u.v.z) * e) = G := by rw [<- hgk]; exact IntWalk.i64_in _ (by omega)
      have v5 : IntKind.i64.wrap (b + S0 k + G) = b + S0 (k + 1) := by rw [ss, <- Int.add_assoc]; exact IntWalk.i64_in _ (by omega)
      have j0 : (0 : Int) <= (k : Int) := by omega
      have j1 : (k : Int) < (N : Int) := by omega
      have j2 : (0 : Int) <= (K : Int) := by omega
      have j3 : (K : Int) < (n.ws.length : Int) := by omega
      have hsb1 : sb + 1 <= w1.heap.size := by have := tg.2.2; omega
      have hwb1 : wb + 1 <= w1.heap.size := by have := tg.2.2; omega
      clear hgk ha he hGk ss s0 s1 d1
      go_upto_region 7 with fail
      refine wp_region_tail 23 (fun w' => (Bx w' (W.heap.size) (nC n vi (.slice (some ⟨wb, wo, none⟩) n.ws.length wc) (.slice (some ⟨bb, bo, none⟩) n.bs.length bc))) /\ (Bx w' (W.heap.size + 1) #[.int .i64 u.v.h, .int .i64 u.v.w, .int .i64 u.v.c, .int .i64 u.v.z]) /\ (Bx w' (W.heap.size + 2) #[.int .i64 0, .int .i64 u.v.h, .slice (some ⟨sb, so, none⟩) N cap]) /\ (Bx w' P #[.int .i64 u.v.h, .int .i64 u.v.w, .int .i64 u.v.c]) /\ Grown W w' /\ P + 1 <= w'.heap.size /\ w'.cell? ⟨sb, so + k, none⟩ = some (.int .i8 a) /\ w'.cell? ⟨wb, wo + K, none⟩ = some (.int .i8 e) /\ sb + 1 <= w'.heap.size /\ wb + 1 <= w'.heap.size) [(38, ?va38), (39, ?va39), (40, ?va40), (41, ?va41), (42, ?va42), (43, ?va43), (44, ?va44), (45, ?va45), (46, ?va46), (47, ?va47), (48, ?va48), (49, ?va49), (50, ?va50), (51, ?va51), (52, ?va52), (53, ?va53), (54, ?va54), (55, ?va55), (56, ?va56), (57, ?va57), (58, ?va58), (59, ?va59), (60, ?va60)] [38, 39, 40, 41, 42, 43, 44, 45, 46, 47, 48, 49, 50, 51, 52, 53, 54, 55, 56, 57, 58, 59, 60] (by kernel_rfl) (by kernel_rfl) rfl (by kernel_rfl) ⟨t1, t2, t3, t4, tg, tz, xa, xe, hsb1, hwb1⟩ (fun w h => h) ?alla ?fina
      case alla =>
        simp only [fillA, Act.put, List.setIfInBounds_toArray, List.set_cons_zero, List.set_cons_succ, List.take_succ_cons, List.take_zero]
        iterate 23 (refine owes_cons (fun w hw K hK => ?_) ?_; focus ((have hS := Lib.hid hw); go_split_ands; go_simp; (try simp only [Act.put, List.setIfInBounds_toArray, List.set_cons_zero, List.set_cons_succ]); first | exact hK _ hS.out | (((go_at_call 16; with_reducible refine (RS.out _).mono ?_; rintro e w1 ⟨rfl, g1⟩)); refine hK _ ?_; (exact kKeep))))
        exact True.intro
      case fina =>
        rintro w9 ⟨q1, q2, q3, q4, qg, qz, _, _, _, _⟩
        simp only [fillA, Act.put, fU1, fU2, fU3]
        clear t1 t2 t3 t4 tg xa xe
        go_wp2_with fail
        go_roundw
        case rel => exact ⟨k + 1, by omega, by go_num, rfl, q1, q2, q3, q4, qg, qz⟩
        case measure => simp [intOf]; omega
    . obtain rfl : k = N := by omega
      have d1 : decide ((k : Int) < (k : Int)) = false := by simp
      have E := QQ.out
      go_wp2_with fail
      go_ret
      exact ⟨fx.ret_int E.symm, tg⟩
set_option maxHeartbeats 8000000 in
theorem rsum_2 (n : NodeD) (vi : Value) (wb wo wc bb bo bc : Nat) (u : ViewD) (s : Value) (y x q : Int) (c : Nat) (W : World) (hs : IsNums .i8 W s u.xs) (F : FullV u) (nw : IsNums .i8 W (.slice (some ⟨wb, wo, none⟩) n.ws.length wc) n.ws) (nb : IsNums .i32 W (.slice (some ⟨bb, bo, none⟩) n.bs.length bc) n.bs) (hcb : c < n.bs.length) (c8 : c < 8) (wpos : 0 < n.ws.length) (nb0 : nearB (n.bs.getD c 0)) (ho : n.op = 2) (ok : WinOk n y x) (hw : ∀ p, p < n.k.toNat * n.k.toNat -> c * (n.k.toNat * n.k.toNat) + p < n.ws.length) (hq : Hid (q = weighN n u 1 (c : Int) y x c)) :
    Calls Tryz.prog 64 #[.agg (nC n vi (.slice (some ⟨wb, wo, none⟩) n.ws.length wc) (.slice (some ⟨bb, bo, none⟩) n.bs.length bc)), .agg #[.int .i64 u.v.h, .int .i64 u.v.w, .int .i64 u.v.c, .int .i64 u.v.z], .agg #[.int .i64 0, .int .i64 u.v.h, s], .int .i64 y, .int .i64 x, .int .i64 c] W fun e w' => e = .returned (.int .i64 q) /\ Grown W w' := by
  obtain ⟨_, _, e, _, _, _, hwb, hwc⟩ := nums_parts nw wpos
  simp only [Option.some.injEq, Addr.mk.injEq, and_true] at e
  obtain ⟨rfl, rfl⟩ := e
  obtain ⟨_, _, e, _, d1, d2, hbb, hbc⟩ := nums_parts nb (by omega)
  simp only [Option.some.injEq, Addr.mk.injEq, and_true] at e
  obtain ⟨rfl, rfl⟩ := e
  have l2 : n.bs.length <= 9223372036854775807 := by unfold maxLen at d2; omega
  unfold nearB at nb0
  have WB := Lib.hid (fun k => nums_i8 nw k)
  have HWC := Lib.hid hwc
  have bc0 := (hbc c hcb).1
  obtain ⟨b, hb0⟩ : ∃ b, n.bs.getD c 0 = b := ⟨_, rfl⟩
  have HB0 := Lib.hid hb0
  rw [hb0] at nb0 bc0
  have eb : IntKind.i64.wrap b = b := IntWalk.i64_in _ (by omega)
  have i1 : (0 : Int) <= (c : Int) := by omega
  have i2 : (c : Int) < (n.bs.length : Int) := by omega
  have HF := Lib.hid F
  have NA := Lib.hid hs
  obtain ⟨⟨k1, k3⟩, ⟨t1, t2⟩, ⟨p0, p1⟩, ⟨y0, y1⟩, ⟨x0, x1⟩⟩ := ok
  obtain ⟨kn, hk⟩ : ∃ kn : Nat, n.k = kn := ⟨n.k.toNat, by omega⟩
  have hkt : n.k.toNat = kn := by rw [hk]; rfl
  rw [hkt] at hw
  have HK := Lib.hid hk
  have HW := Lib.hid hw
  have kn1 : 1 <= kn := by omega
  have kn3 : kn <= 3 := by omega
  have kk9 : kn * kn <= 9 := Nat.mul_le_mul kn3 kn3
  have OK := Lib.hid F.ok
  obtain ⟨ys, hys⟩ : ∃ ys, y * n.stride = ys := ⟨_, rfl⟩
  obtain ⟨xs, hxs⟩ : ∃ xs, x * n.stride = xs := ⟨_, rfl⟩
  have by1 : 0 <= ys /\ ys <= 32 := by
    rw [<- hys]; exact ⟨Int.mul_nonneg y0 (by omega), Int.le_trans (Int.mul_le_mul y1 t2 (by omega) (by omega)) (by omega)⟩
  have bx1 : 0 <= xs /\ xs <= 32 := by
    rw [<- hxs]; exact ⟨Int.mul_nonneg x0 (by omega), Int.le_trans (Int.mul_le_mul x1 t2 (by omega) (by omega)) (by omega)⟩
  have ey : IntKind.i64.wrap (y * n.stride) = ys := by rw [hys]; exact IntWalk.i64_in _ (by omega)
  have ex : IntKind.i64.wrap (x * n.stride) = xs := by rw [hxs]; exact IntWalk.i64_in _ (by omega)
  have zz := F.2.2.2.1
  obtain ⟨zz1, zz2⟩ := zz
  have FE := Lib.hid (fun (i j : Nat) (hj : j < kn) => place_1 (n := n) (u := u) (i := i) hkt y x c hj)
  obtain ⟨f, hf⟩ : ∃ f, placeN n u 1 (c : Int) y x c = f := ⟨_, rfl⟩
  have FB := Lib.hid (fun p => show -261120 <= f p /\ f p <= 261120 by rw [<- hf]; exact placeN_bd OK.out (by omega) WB.out)
  have QQ : Hid (q = b + sumN f (kn * kn)) := Lib.hid (by rw [hq.out, <- hf]; unfold weighN; rw [hb0, hkt])
  rw [hf] at FE
  obtain ⟨S0, hS0⟩ : ∃ S, sumN f = S := ⟨_, rfl⟩
  have SS := Lib.hid (fun (p : Nat) => show S0 (p + 1) = S0 p + f p by rw [<- hS0]; rfl)
  have SB := Lib.hid (fun (p : Nat) (hp : p <= 9) => show -2350080 <= S0 p /\ S0 p <= 2350080 by
    rw [<- hS0]
    have := sumN_bd (f := f) (B := 261120) (k := p) (fun i _ => FB.out i)
    omega)
  have S00 : S0 0 = 0 := by rw [<- hS0]; rfl
  rw [hS0] at QQ
  rw [hys, hxs] at FE
  obtain ⟨nb1, nb2⟩ := nb0
  have o3 : (n.op == 3) = false := by rw [ho]; decide
  have o2 : (n.op == 2) = true := by rw [ho]; decide
  clear hs nw nb hbc d2 hb0 hq F hwc hk hkt hf hys hxs hS0 hw
  go_enter Tryz.func64, Tryz.ntmps64
  go_upto_region 1 with fail
  refine opq (fun w' => (Bx w' (W.heap.size) (nC n vi (.slice (some ⟨wb, wo, none⟩) n.ws.length wc) (.slice (some ⟨bb, bo, none⟩) n.bs.length bc))) /\ (Bx w' (W.heap.size + 1) #[.int .i64 u.v.h, .int .i64 u.v.w, .int .i64 u.v.c, .int .i64 u.v.z]) /\ (Bx w' (W.heap.size + 2) #[.int .i64 0, .int .i64 u.v.h, s]) /\ Grown W w' /\ W.heap.size + 3 <= w'.heap.size) kLaid ?_
  rintro W1 ⟨a1, a2, a3, g1, z1⟩
  go_upto_region 2 with fail
  refine opq (fun w' => (Bx w' (W.heap.size) (nC n vi (.slice (some ⟨wb, wo, none⟩) n.ws.length wc) (.slice (some ⟨bb, bo, none⟩) n.bs.length bc))) /\ (Bx w' (W.heap.size + 1) #[.int .i64 u.v.h, .int .i64 u.v.w, .int .i64 u.v.c, .int .i64 u.v.z]) /\ (Bx w' (W.heap.size + 2) #[.int .i64 0, .int .i64 u.v.h, s]) /\ (Bx w' (W1.heap.size) #[.int .i64 u.v.h, .int .i64 u.v.w, .int .i64 u.v.c]) /\ Grown W w' /\ W1.heap.size + 1 <= w'.heap.size) kKeep ?_
  rintro W2 ⟨b1, b2, b3, b4, g2, z2⟩
  obtain ⟨P, hP⟩ : ∃ P, W1.heap.size = P := ⟨_, rfl⟩
  rw [hP] at b4 z2 z1
  rw [hP]
  clear a1 a2 a3 g1 hP
  have cb := (Grown.past g2).cell (p := ⟨bb, bo + c, none⟩) hbb |>.trans bc0
  go_wp2_with fail
  go_loopw [14, 16] (fun av iv wr => ∃ i : Nat, i <= kn /\ iv = .int .i64 i /\ av = .int .i64 (b + S0 (i * kn)) /\ (Bx wr (W.heap.size) (nC n vi (.slice (some ⟨wb, wo, none⟩) n.ws.length wc) (.slice (some ⟨bb, bo, none⟩) n.bs.length bc))) /\ (Bx wr (W.heap.size + 1) #[.int .i64 u.v.h, .int .i64 u.v.w, .int .i64 u.v.c, .int .i64 u.v.z]) /\ (Bx wr (W.heap.size + 2) #[.int .i64 0, .int .i64 u.v.h, s]) /\ (Bx wr P #[.int .i64 u.v.h, .int .i64 u.v.w, .int .i64 u.v.c]) /\ Grown W wr /\ P + 1 <= wr.heap.size) (fun _ iv _ => kn - (intOf iv).toNat)
  case atStart => exact ⟨0, by omega, rfl, by rw [Nat.zero_mul, S00, Int.add_zero], b1, b2, b3, b4, g2, z2⟩
  case round =>
    obtain ⟨i, hi, rfl, rfl, r1, r2, r3, r4, rg, rz⟩ := hrel
    clear b1 b2 b3 b4 g2 z2 cb S00
    by_cases h : i < kn
    . have d1 : decide ((i : Int) < n.k) = true := decide_eq_true (by have := HK.out; omega)
      obtain ⟨w8, hw8⟩ : ∃ w8, w8 = wr := ⟨_, rfl⟩
      subst hw8
      go_wp2_with fail
      go_loopw [14, 17] (fun av jv wr => ∃ j : Nat, j <= kn /\ jv = .int .i64 j /\ av = .int .i64 (b + S0 (i * kn + j)) /\ (Bx wr (W.heap.size) (nC n vi (.slice (some ⟨wb, wo, none⟩) n.ws.length wc) (.slice (some ⟨bb, bo, none⟩) n.bs.length bc))) /\ (Bx wr (W.heap.size + 1) #[.int .i64 u.v.h, .int .i64 u.v.w, .int .i64 u.v.c, .int .i64 u.v.z]) /\ (Bx wr (W.heap.size + 2) #[.int .i64 0, .int .i64 u.v.h, s]) /\ (Bx wr P #[.int .i64 u.v.h, .int .i64 u.v.w, .int .i64 u.v.c]) /\ Grown W wr /\ P + 1 <= wr.heap.size) (fun _ jv _ => kn - (intOf jv).toNat)
      case atStart => exact ⟨0, by omega, rfl, rfl, r1, r2, r3, r4, rg, rz⟩
      case round =>
        obtain ⟨j, hj, rfl, rfl, s1, s2, s3, s4, sg, sz⟩ := hrel
        clear r1 r2 r3 r4 rg rz
        by_cases h2 : j < kn
        . have d2 : decide ((j : Int) < n.k) = true := decide_eq_true (by have := HK.out; omega)
          have pl := place_in h h2
          have fe := FE.out i j h2
          obtain ⟨p, hpp⟩ : ∃ p, i * kn + j = p := ⟨_, rfl⟩
          have ss := SS.out p
          have sb := SB.out p (by omega)
          have sb1 := SB.out (p + 1) (by omega)
          rw [hpp] at fe pl
          rw [hpp]
          have hK0 := HW.out p pl
          obtain ⟨P1, hP1⟩ : ∃ P1, c * kn = P1 := ⟨_, rfl⟩
          have bP1 : P1 <= 24 := by rw [<- hP1]; exact Nat.le_trans (Nat.mul_le_mul (show c <= 8 by omega) kn3) (by omega)
          obtain ⟨P2, hP2⟩ : ∃ P2, P1 + i = P2 := ⟨_, rfl⟩
          obtain ⟨P3, hP3⟩ : ∃ P3, P2 * kn = P3 := ⟨_, rfl⟩
          have bP3 : P3 <= 90 := by rw [<- hP3]; exact Nat.le_trans (Nat.mul_le_mul (show P2 <= 28 by omega) kn3) (by omega)
          have eK : c * (kn * kn) + p = P3 + j := by rw [<- hP3, <- hP2, <- hP1, <- hpp, Nat.add_mul, Nat.mul_assoc]; omega
          rw [eK] at fe hK0
          have v1 : IntKind.i64.wrap ((c : Int) * n.k) = (P1 : Int) := by rw [HK.out, <- hP1, Int.natCast_mul]; exact IntWalk.i64_in _ (by rw [<- Int.natCast_mul, hP1]; omega)
          have v2 : IntKind.i64.wrap ((P1 : Int) + (i : Int)) = (P2 : Int) := by rw [IntWalk.i64_in _ (by omega)]; omega
          have v3 : IntKind.i64.wrap ((P2 : Int) * n.k) = (P3 : Int) := by rw [HK.out, <- hP3, Int.natCast_mul]; exact IntWalk.i64_in _ (by rw [<- Int.natCast_mul, hP3]; omega)
          clear eK hP1 hP2 hP3
          obtain ⟨K, hK⟩ : ∃ K, P3 + j = K := ⟨_, rfl⟩
          rw [hK] at fe hK0
          obtain ⟨G, hG⟩ : ∃ G, f p = G := ⟨_, rfl⟩
          have gb := FB.out p
          rw [hG] at fe ss gb
          obtain ⟨v, hv⟩ : ∃ v, v = atD u (ys - n.pad + i) (xs - n.pad + j) c := ⟨_, rfl⟩
          have vb := atD_bd OK.out (ys - n.pad + i) (xs - n.pad + j) c
          have RN := Lib.hid (fun w (g : Grown W w) => rnum_any u s (ys - n.pad + i) (xs - n.pad + j) (c : Int) v w (NA.out.grow (Grown.past g)) HF.out (Lib.hid hv))
          rw [<- hv] at fe vb
          have xe := (Grown.past sg).cell (p := ⟨wb, wo + K, none⟩) hwb |>.trans (HWC.out K hK0).1
          have eb2 := WB.out K
          obtain ⟨e, he⟩ : ∃ e, n.ws.getD K 0 = e := ⟨_, rfl⟩
          rw [he] at fe xe eb2
          rw [ss] at sb1
          have v0 : IntKind.i64.wrap (v - u.v.z) = v - u.v.z := IntWalk.i64_in _ (by omega)
          have v4 : IntKind.i64.wrap ((P3 : Int) + (j : Int)) = (K : Int) := by rw [IntWalk.i64_in _ (by omega)]; omega
          have v5 : IntKind.i64.wrap e = e := IntWalk.i64_in _ (by omega)
          have v6 : IntKind.i64.wrap ((v - u.v.z) * e) = G := by rw [<- fe]; exact IntWalk.i64_in _ (by omega)
          have v7 : IntKind.i64.wrap (b + S0 p + G) = b + S0 (p + 1) := by rw [ss, <- Int.add_assoc]; exact IntWalk.i64_in _ (by omega)
          have j2 : (0 : Int) <= (K : Int) := by omega
          have j3 : (K : Int) < (n.ws.length : Int) := by omega
          have hwb1 : wb + 1 <= wr.heap.size := by have := sg.2.2; omega
          clear fe hG he hK ss sb sb1 hv pl
          go_upto_region 18 with fail
          refine wp_region_tail 28 (fun w' => (Bx w' (W.heap.size) (nC n vi (.slice (some ⟨wb, wo, none⟩) n.ws.length wc) (.slice (some ⟨bb, bo, none⟩) n.bs.length bc))) /\ (Bx w' (W.heap.size + 1) #[.int .i64 u.v.h, .int .i64 u.v.w, .int .i64 u.v.c, .int .i64 u.v.z]) /\ (Bx w' (W.heap.size + 2) #[.int .i64 0, .int .i64 u.v.h, s]) /\ (Bx w' P #[.int .i64 u.v.h, .int .i64 u.v.w, .int .i64 u.v.c]) /\ Grown W w' /\ P + 1 <= w'.heap.size /\ w'.cell? ⟨wb, wo + K, none⟩ = some (.int .i8 e) /\ wb + 1 <= w'.heap.size) [(95, ?va95), (96, ?va96), (97, ?va97), (98, ?va98), (99, ?va99), (100, ?va100), (101, ?va101), (102, ?va102), (103, ?va103), (104, ?va104), (105, ?va105), (106, ?va106), (107, ?va107), (108, ?va108), (109, ?va109), (110, ?va110), (111, ?va111), (112, ?va112), (113, ?va113), (114, ?va114), (115, ?va115), (116, ?va116), (117, ?va117), (118, ?va118), (119, ?va119), (120, ?va120), (121, ?va121), (122, ?va122)] [95, 96, 97, 98, 99, 100, 101, 102, 103, 104, 105, 106, 107, 108, 109, 110, 111, 112, 113, 114, 115, 116, 117, 118, 119, 120, 121, 122] (by kernel_rfl) (by kernel_rfl) rfl (by kernel_rfl) ⟨s1, s2, s3, s4, sg, sz, xe, hwb1⟩ (fun w h => h) ?alla ?fina
          case alla =>
            simp only [fillA, Act.put, List.setIfInBounds_toArray, List.set_cons_zero, List.set_cons_succ, List.take_succ_cons, List.take_zero]
            iterate 28 (refine owes_cons (fun w hw K hK => ?_) ?_; focus ((have hS := Lib.hid hw); go_split_ands; go_simp; (try simp only [Act.put, List.setIfInBounds_toArray, List.set_cons_zero, List.set_cons_succ]); first | exact hK _ hS.out | (((go_at_call 62; with_reducible refine (RN.out _ (by with_reducible assumption)).mono ?_; rintro e w1 ⟨rfl, g1⟩)); refine hK _ ?_; (exact kKeep))))
            exact True.intro
          case fina =>
            rintro w9 ⟨q1, q2, q3, q4, qg, qz, _, _⟩
            simp only [fillA, Act.put, fU1, fU2, fU3]
            clear s1 s2 s3 s4 sg xe
            go_wp2_with fail
            go_roundw
            case rel => exact ⟨j + 1, by omega, by go_num, by rw [<- Nat.add_assoc, hpp], q1, q2, q3, q4, qg, qz⟩
            case measure => simp [intOf]; omega
        . obtain rfl : j = kn := by omega
          have d2 : decide ((j : Int) < n.k) = false := decide_eq_false (by have := HK.out; omega)
          go_wp2_with fail
          go_roundw
          case rel => exact ⟨i + 1, by omega, by go_num, by rw [Nat.add_mul, Nat.one_mul], s1, s2, s3, s4, sg, sz⟩
          case measure => simp [intOf]; omega
    . obtain rfl : i = kn := by omega
      have d1 : decide ((i : Int) < n.k) = false := decide_eq_false (by have := HK.out; omega)
      have E := QQ.out
      go_wp2_with fail
      go_ret
      exact ⟨fx.ret_int E.symm, rg⟩
end Go.Proofs.YtliijchcpooplaaGreat
