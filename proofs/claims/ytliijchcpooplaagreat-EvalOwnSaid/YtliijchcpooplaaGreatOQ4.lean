/- The reference's sum of OpConv. -/
import Derived.Test.YtliijchcpooplaaGreatOQ3
namespace Go.Proofs.YtliijchcpooplaaGreat
open Go.ChangeShapes Go.WideShapes Go.ChangeAt Go.RowKit
set_option maxRecDepth 20000
set_option linter.unusedVariables false
set_option maxHeartbeats 16000000 in
theorem rsum_1 (n : NodeD) (vi : Value) (wb wo wc bb bo bc : Nat) (u : ViewD) (s : Value) (y x q : Int) (c : Nat) (W : World) (hs : IsNums .i8 W s u.xs) (F : FullV u) (nw : IsNums .i8 W (.slice (some ⟨wb, wo, none⟩) n.ws.length wc) n.ws) (nb : IsNums .i32 W (.slice (some ⟨bb, bo, none⟩) n.bs.length bc) n.bs) (hcb : c < n.bs.length) (c8 : c < 8) (wpos : 0 < n.ws.length) (nb0 : nearB (n.bs.getD c 0)) (ho : n.op = 1) (ok : WinOk n y x) (hw : ∀ p, p < n.k.toNat * n.k.toNat -> (c * (n.k.toNat * n.k.toNat) + p) * u.v.c.toNat + u.v.c.toNat <= n.ws.length) (hq : Hid (q = weighN n u u.v.c.toNat 0 y x c)) :
    Calls Tryz.prog 64 #[.agg (nC n vi (.slice (some ⟨wb, wo, none⟩) n.ws.length wc) (.slice (some ⟨bb, bo, none⟩) n.bs.length bc)), .agg #[.int .i64 u.v.h, .int .i64 u.v.w, .int .i64 u.v.c, .int .i64 u.v.z], .agg #[.int .i64 0, .int .i64 u.v.h, s], .int .i64 y, .int .i64 x, .int .i64 c] W fun e w' => e = .returned (.int .i64 q) /\ Grown W w' := by
  have m5 := F.1.2.2.2.2
  obtain ⟨Cn, hCn⟩ : ∃ Cn : Nat, u.v.c = Cn := ⟨u.v.c.toNat, by omega⟩
  have hct : u.v.c.toNat = Cn := by rw [hCn]; rfl
  rw [hct] at hw hq
  have HCn := Lib.hid hCn
  have Cn8 : Cn <= 8 := by omega
  have Cn1 : 1 <= Cn := by omega
  clear hCn hct m5
  obtain ⟨_, _, e, _, _, _, hwb, hwc⟩ := nums_parts nw wpos
  simp only [Option.some.injEq, Addr.mk.injEq, and_true] at e
  obtain ⟨rfl, rfl⟩ := e
  obtain ⟨_, _, e, _, d1, d2, hbb, hbc⟩ := nums_parts nb (by omega)
  simp only [Option.some.injEq, Addr.mk.injEq, and_true] at e
  obtain ⟨rfl, rfl⟩ := e
  have l2 : n.bs.length <= 9223372036854775807 := by unfold maxLen at d2; omega
  unfold nearB at nb0
  have WB := Lib.hid (fun k => nums_i8 nw k)
  have HWC := Lib.hid hwc
  have bc0 := (hbc c hcb).1
  obtain ⟨b, hb0⟩ : ∃ b, n.bs.getD c 0 = b := ⟨_, rfl⟩
  have HB0 := Lib.hid hb0
  rw [hb0] at nb0 bc0
  have eb : IntKind.i64.wrap b = b := IntWalk.i64_in _ (by omega)
  have i1 : (0 : Int) <= (c : Int) := by omega
  have i2 : (c : Int) < (n.bs.length : Int) := by omega
  have HF := Lib.hid F
  have NA := Lib.hid hs
  obtain ⟨⟨k1, k3⟩, ⟨t1, t2⟩, ⟨p0, p1⟩, ⟨y0, y1⟩, ⟨x0, x1⟩⟩ := ok
  obtain ⟨kn, hk⟩ : ∃ kn : Nat, n.k = kn := ⟨n.k.toNat, by omega⟩
  have hkt : n.k.toNat = kn := by rw [hk]; rfl
  rw [hkt] at hw
  have HK := Lib.hid hk
  have HW := Lib.hid hw
  have kn1 : 1 <= kn := by omega
  have kn3 : kn <= 3 := by omega
  have kk9 : kn * kn <= 9 := Nat.mul_le_mul kn3 kn3
  have OK := Lib.hid F.ok
  obtain ⟨ys, hys⟩ : ∃ ys, y * n.stride = ys := ⟨_, rfl⟩
  obtain ⟨xs, hxs⟩ : ∃ xs, x * n.stride = xs := ⟨_, rfl⟩
  have by1 : 0 <= ys /\ ys <= 32 := by
    rw [<- hys]; exact ⟨Int.mul_nonneg y0 (by omega), Int.le_trans (Int.mul_le_mul y1 t2 (by omega) (by omega)) (by omega)⟩
  have bx1 : 0 <= xs /\ xs <= 32 := by
    rw [<- hxs]; exact ⟨Int.mul_nonneg x0 (by omega), Int.le_trans (Int.mul_le_mul x1 t2 (by omega) (by omega)) (by omega)⟩
  have ey : IntKind.i64.wrap (y * n.stride) = ys := by rw [hys]; exact IntWalk.i64_in _ (by omega)
  have ex : IntKind.i64.wrap (x * n.stride) = xs := by rw [hxs]; exact IntWalk.i64_in _ (by omega)
  have zz := F.2.2.2.1
  obtain ⟨zz1, zz2⟩ := zz
  have FE := Lib.hid (fun (i j : Nat) (hj : j < kn) => place_d (n := n) (u := u) (i := i) (many := Cn) hkt y x c hj)
  obtain ⟨f, hf⟩ : ∃ f, placeN n u Cn 0 y x c = f := ⟨_, rfl⟩
  have FB := Lib.hid (fun p => show -261120 <= f p /\ f p <= 261120 by rw [<- hf]; exact placeN_bd OK.out Cn8 WB.out)
  have QQ : Hid (q = b + sumN f (kn * kn)) := Lib.hid (by rw [hq.out, <- hf]; unfold weighN; rw [hb0, hkt])
  rw [hf] at FE
  obtain ⟨S0, hS0⟩ : ∃ S, sumN f = S := ⟨_, rfl⟩
  have SS := Lib.hid (fun (p : Nat) => show S0 (p + 1) = S0 p + f p by rw [<- hS0]; rfl)
  have SB := Lib.hid (fun (p : Nat) (hp : p <= 9) => show -2350080 <= S0 p /\ S0 p <= 2350080 by
    rw [<- hS0]
    have := sumN_bd (f := f) (B := 261120) (k := p) (fun i _ => FB.out i)
    omega)
  have S00 : S0 0 = 0 := by rw [<- hS0]; rfl
  rw [hS0] at QQ
  rw [hys, hxs] at FE
  obtain ⟨nb1, nb2⟩ := nb0
  have o3 : (n.op == 3) = false := by rw [ho]; decide
  have o2 : (n.op == 2) = false := by rw [ho]; decide
  clear hs nw nb hbc d2 hb0 hq F hwc hk hkt hf hys hxs hS0 hw
  go_enter Tryz.func64, Tryz.ntmps64
  go_upto_region 1 with fail
  refine opq (fun w' => (Bx w' (W.heap.size) (nC n vi (.slice (some ⟨wb, wo, none⟩) n.ws.length wc) (.slice (some ⟨bb, bo, none⟩) n.bs.length bc))) /\ (Bx w' (W.heap.size + 1) #[.int .i64 u.v.h, .int .i64 u.v.w, .int .i64 u.v.c, .int .i64 u.v.z]) /\ (Bx w' (W.heap.size + 2) #[.int .i64 0, .int .i64 u.v.h, s]) /\ Grown W w' /\ W.heap.size + 3 <= w'.heap.size) kLaid ?_
  rintro W1 ⟨a1, a2, a3, g1, z1⟩
  go_upto_region 2 with fail
  refine opq (fun w' => (Bx w' (W.heap.size) (nC n vi (.slice (some ⟨wb, wo, none⟩) n.ws.length wc) (.slice (some ⟨bb, bo, none⟩) n.bs.length bc))) /\ (Bx w' (W.heap.size + 1) #[.int .i64 u.v.h, .int .i64 u.v.w, .int .i64 u.v.c, .int .i64 u.v.z]) /\ (Bx w' (W.heap.size + 2) #[.int .i64 0, .int .i64 u.v.h, s]) /\ (Bx w' (W1.heap.size) #[.int .i64 u.v.h, .int .i64 u.v.w, .int .i64 u.v.c]) /\ Grown W w' /\ W1.heap.size + 1 <= w'.heap.size) kKeep ?_
  rintro W2 ⟨b1, b2, b3, b4, g2, z2⟩
  obtain ⟨P, hP⟩ : ∃ P, W1.heap.size = P := ⟨_, rfl⟩
  rw [hP] at b4 z2 z1
  rw [hP]
  clear a1 a2 a3 g1 hP
  have cb := (Grown.past g2).cell (p := ⟨bb, bo + c, none⟩) hbb |>.trans bc0
  go_wp2_with fail
  go_loopw [14, 16] (fun av iv wr => ∃ i : Nat, i <= kn /\ iv = .int .i64 i /\ av = .int .i64 (b + S0 (i * kn)) /\ (Bx wr (W.heap.size) (nC n vi (.slice (some ⟨wb, wo, none⟩) n.ws.length wc) (.slice (some ⟨bb, bo, none⟩) n.bs.length bc))) /\ (Bx wr (W.heap.size + 1) #[.int .i64 u.v.h, .int .i64 u.v.w, .int .i64 u.v.c, .int .i64 u.v.z]) /\ (Bx wr (W.heap.size + 2) #[.int .i64 0, .int .i64 u.v.h, s]) /\ (Bx wr P #[.int .i64 u.v.h, .int .i64 u.v.w, .int .i64 u.v.c]) /\ Grown W wr /\ P + 1 <= wr.heap.size) (fun _ iv _ => kn - (intOf iv).toNat)
  case atStart => exact ⟨0, by omega, rfl, by rw [Nat.zero_mul, S00, Int.add_zero], b1, b2, b3, b4, g2, z2⟩
  case round =>
    obtain ⟨i, hi, rfl, rfl, r1, r2, r3, r4, rg, rz⟩ := hrel
    clear b1 b2 b3 b4 g2 z2 cb S00
    by_cases h : i < kn
    . have d1 : decide ((i : Int) < n.k) = true := decide_eq_true (by have := HK.out; omega)
      obtain ⟨w8, hw8⟩ : ∃ w8, w8 = wr := ⟨_, rfl⟩
      subst hw8
      go_wp2_with fail
      go_loopw [14, 17] (fun av jv wr => ∃ j : Nat, j <= kn /\ jv = .int .i64 j /\ av = .int .i64 (b + S0 (i * kn + j)) /\ (Bx wr (W.heap.size) (nC n vi (.slice (some ⟨wb, wo, none⟩) n.ws.length wc) (.slice (some ⟨bb, bo, none⟩) n.bs.length bc))) /\ (Bx wr (W.heap.size + 1) #[.int .i64 u.v.h, .int .i64 u.v.w, .int .i64 u.v.c, .int .i64 u.v.z]) /\ (Bx wr (W.heap.size + 2) #[.int .i64 0, .int .i64 u.v.h, s]) /\ (Bx wr P #[.int .i64 u.v.h, .int .i64 u.v.w, .int .i64 u.v.c]) /\ Grown W wr /\ P + 1 <= wr.heap.size) (fun _ jv _ => kn - (intOf jv).toNat)
      case atStart => exact ⟨0, by omega, rfl, rfl, r1, r2, r3, r4, rg, rz⟩
      case round =>
        obtain ⟨j, hj, rfl, rfl, s1, s2, s3, s4, sg, sz⟩ := hrel
        clear r1 r2 r3 r4 rg rz
        by_cases h2 : j < kn
        . have d2 : decide ((j : Int) < n.k) = true := decide_eq_true (by have := HK.out; omega)
          have pl := place_in h h2
          have fe := FE.out i j h2
          obtain ⟨p, hpp⟩ : ∃ p, i * kn + j = p := ⟨_, rfl⟩
          have ss := SS.out p
          have sb := SB.out p (by omega)
          have sb1 := SB.out (p + 1) (by omega)
          rw [hpp] at fe pl
          rw [hpp]
          have hK0 := HW.out p pl
          obtain ⟨P1, hP1⟩ : ∃ P1, c * kn = P1 := ⟨_, rfl⟩
          have bP1 : P1 <= 24 := by rw [<- hP1]; exact Nat.le_trans (Nat.mul_le_mul (show c <= 8 by omega) kn3) (by omega)
          obtain ⟨P2, hP2⟩ : ∃ P2, P1 + i = P2 := ⟨_, rfl⟩
          obtain ⟨P3, hP3⟩ : ∃ P3, P2 * kn = P3 := ⟨_, rfl⟩
          have bP3 : P3 <= 90 := by rw [<- hP3]; exact Nat.le_trans (Nat.mul_le_mul (show P2 <= 28 by omega) kn3) (by omega)
          have eK : c * (kn * kn) + p = P3 + j := by rw [<- hP3, <- hP2, <- hP1, <- hpp, Nat.add_mul, Nat.mul_assoc]; omega
          rw [eK] at fe hK0
          have v1 : IntKind.i64.wrap ((c : Int) * n.k) = (P1 : Int) := by rw [HK.out, <- hP1, Int.natCast_mul]; exact IntWalk.i64_in _ (by rw [<- Int.natCast_mul, hP1]; omega)
          have v2 : IntKind.i64.wrap ((P1 : Int) + (i : Int)) = (P2 : Int) := by rw [IntWalk.i64_in _ (by omega)]; omega
          have v3 : IntKind.i64.wrap ((P2 : Int) * n.k) = (P3 : Int) := by rw [HK.out, <- hP3, Int.natCast_mul]; exact IntWalk.i64_in _ (by rw [<- Int.natCast_mul, hP3]; omega)
          clear eK hP1 hP2 hP3
          obtain ⟨K, hK⟩ : ∃ K, P3 + j = K := ⟨_, rfl⟩
          rw [hK] at fe hK0
          have kb : K <= 100 := by omega
          obtain ⟨D, hD⟩ : ∃ D, deepN n u Cn (ys - n.pad + i) (xs - n.pad + j) K = D := ⟨_, rfl⟩
          have HD := Lib.hid (fun d => show D d = (atD u (ys - n.pad + i) (xs - n.pad + j) d - u.v.z) * n.ws.getD (K * Cn + d) 0 by rw [<- hD]; rfl)
          have DB1 := Lib.hid (fun d => show -32640 <= D d /\ D d <= 32640 by rw [<- hD]; exact deep_bd OK.out WB.out _ _ _ _ _)
          rw [hD] at fe
          obtain ⟨D0, hD0⟩ : ∃ S, sumN D = S := ⟨_, rfl⟩
          have DD := Lib.hid (fun (d : Nat) => show D0 (d + 1) = D0 d + D d by rw [<- hD0]; rfl)
          have DB := Lib.hid (fun (d : Nat) (hd : d <= 8) => show -261120 <= D0 d /\ D0 d <= 261120 by
            rw [<- hD0]
            have := sumN_bd (f := D) (B := 32640) (k := d) (fun i _ => DB1.out i)
            omega)
          have D00 : D0 0 = 0 := by rw [<- hD0]; rfl
          rw [hD0] at fe
          have FEE := Lib.hid (show b + S0 p + D0 Cn = b + S0 (p + 1) by rw [ss, fe, Int.add_assoc])
          have v4 : IntKind.i64.wrap ((P3 : Int) + (j : Int)) = (K : Int) := by rw [IntWalk.i64_in _ (by omega)]; omega
          clear fe hK hD hD0 ss pl
          obtain ⟨w7, hw7⟩ : ∃ w7, w7 = wr := ⟨_, rfl⟩
          subst hw7
          go_wp2_with fail
          go_loopw [14, 20] (fun av dv wr => ∃ d : Nat, d <= Cn /\ dv = .int .i64 d /\ av = .int .i64 (b + S0 p + D0 d) /\ (Bx wr (W.heap.size) (nC n vi (.slice (some ⟨wb, wo, none⟩) n.ws.length wc) (.slice (some ⟨bb, bo, none⟩) n.bs.length bc))) /\ (Bx wr (W.heap.size + 1) #[.int .i64 u.v.h, .int .i64 u.v.w, .int .i64 u.v.c, .int .i64 u.v.z]) /\ (Bx wr (W.heap.size + 2) #[.int .i64 0, .int .i64 u.v.h, s]) /\ (Bx wr P #[.int .i64 u.v.h, .int .i64 u.v.w, .int .i64 u.v.c]) /\ Grown W wr /\ P + 1 <= wr.heap.size) (fun _ dv _ => Cn - (intOf dv).toNat)
          case atStart => exact ⟨0, by omega, rfl, by rw [D00, Int.add_zero], s1, s2, s3, s4, sg, sz⟩
          case round =>
            obtain ⟨d, hd, rfl, rfl, o1, o2, o3, o4, og, oz⟩ := hrel
            clear s1 s2 s3 s4 sg sz D00
            by_cases h3 : d < Cn
            . have d3 : decide ((d : Int) < u.v.c) = true := decide_eq_true (by have := HCn.out; omega)
              obtain ⟨KC, hKC⟩ : ∃ KC, K * Cn = KC := ⟨_, rfl⟩
              have kc : KC <= 800 := by rw [<- hKC]; exact Nat.le_trans (Nat.mul_le_mul kb Cn8) (by omega)
              rw [hKC] at hK0
              have hde := HD.out d
              rw [hKC] at hde
              obtain ⟨K2, hK2⟩ : ∃ K2, KC + d = K2 := ⟨_, rfl⟩
              rw [hK2] at hde
              have KW : K2 < n.ws.length := by omega
              obtain ⟨G, hG⟩ : ∃ G, D d = G := ⟨_, rfl⟩
              have gb := DB1.out d
              have dd := DD.out d
              have db0 := DB.out d (by omega)
              have db1 := DB.out (d + 1) (by omega)
              rw [hG] at hde dd gb
              obtain ⟨v, hv⟩ : ∃ v, v = atD u (ys - n.pad + i) (xs - n.pad + j) d := ⟨_, rfl⟩
              have vb := atD_bd OK.out (ys - n.pad + i) (xs - n.pad + j) d
              have RN := Lib.hid (fun w (g : Grown W w) => rnum_any u s (ys - n.pad + i) (xs - n.pad + j) (d : Int) v w (NA.out.grow (Grown.past g)) HF.out (Lib.hid hv))
              rw [<- hv] at hde vb
              have xe := (Grown.past og).cell (p := ⟨wb, wo + K2, none⟩) hwb |>.trans (HWC.out K2 KW).1
              have eb2 := WB.out K2
              obtain ⟨e, he⟩ : ∃ e, n.ws.getD K2 0 = e := ⟨_, rfl⟩
              rw [he] at hde xe eb2
              rw [dd] at db1
              have v0 : IntKind.i64.wrap (v - u.v.z) = v - u.v.z := IntWalk.i64_in _ (by omega)
              have v8 : IntKind.i64.wrap ((K : Int) * u.v.c) = (KC : Int) := by rw [HCn.out, <- hKC, Int.natCast_mul]; exact IntWalk.i64_in _ (by rw [<- Int.natCast_mul, hKC]; omega)
              have v9 : IntKind.i64.wrap ((KC : Int) + (d : Int)) = (K2 : Int) := by rw [IntWalk.i64_in _ (by omega)]; omega
              have v5 : IntKind.i64.wrap e = e := IntWalk.i64_in _ (by omega)
              have v6 : IntKind.i64.wrap ((v - u.v.z) * e) = G := by rw [<- hde]; exact IntWalk.i64_in _ (by omega)
              have v7 : IntKind.i64.wrap (b + S0 p + D0 d + G) = b + S0 p + D0 (d + 1) := by rw [dd, <- Int.add_assoc]; exact IntWalk.i64_in _ (by omega)
              have j2 : (0 : Int) <= (K2 : Int) := by omega
              have j3 : (K2 : Int) < (n.ws.length : Int) := by omega
              have hwb1 : wb + 1 <= wr.heap.size := by have := og.2.2; omega
              clear hde hG he hKC hK2 dd db0 db1 hv
              go_upto_region 22 with fail
              refine wp_region_tail 33 (fun w' => (Bx w' (W.heap.size) (nC n vi (.slice (some ⟨wb, wo, none⟩) n.ws.length wc) (.slice (some ⟨bb, bo, none⟩) n.bs.length bc))) /\ (Bx w' (W.heap.size + 1) #[.int .i64 u.v.h, .int .i64 u.v.w, .int .i64 u.v.c, .int .i64 u.v.z]) /\ (Bx w' (W.heap.size + 2) #[.int .i64 0, .int .i64 u.v.h, s]) /\ (Bx w' P #[.int .i64 u.v.h, .int .i64 u.v.w, .int .i64 u.v.c]) /\ Grown W w' /\ P + 1 <= w'.heap.size /\ w'.cell? ⟨wb, wo + K2, none⟩ = some (.int .i8 e) /\ wb + 1 <= w'.heap.size) [(129, ?va129), (130, ?va130), (131, ?va131), (132, ?va132), (133, ?va133), (134, ?va134), (135, ?va135), (136, ?va136), (137, ?va137), (138, ?va138), (139, ?va139), (140, ?va140), (141, ?va141), (142, ?va142), (143, ?va143), (144, ?va144), (145, ?va145), (146, ?va146), (147, ?va147), (148, ?va148), (149, ?va149), (150, ?va150), (151, ?va151), (152, ?va152), (153, ?va153), (154, ?va154), (155, ?va155), (156, ?va156), (157, ?va157), (158, ?va158), (159, ?va159), (160, ?va160), (161, ?va161)] [129, 130, 131, 132, 133, 134, 135, 136, 137, 138, 139, 140, 141, 142, 143, 144, 145, 146, 147, 148, 149, 150, 151, 152, 153, 154, 155, 156, 157, 158, 159, 160, 161] (by kernel_rfl) (by kernel_rfl) rfl (by kernel_rfl) ⟨o1, o2, o3, o4, og, oz, xe, hwb1⟩ (fun w h => h) ?alla ?fina
              case alla =>
                simp only [fillA, Act.put, List.setIfInBounds_toArray, List.set_cons_zero, List.set_cons_succ, List.take_succ_cons, List.take_zero]
                iterate 33 (refine owes_cons (fun w hw K hK => ?_) ?_; focus ((have hS := Lib.hid hw); go_split_ands; go_simp; (try simp only [Act.put, List.setIfInBounds_toArray, List.set_cons_zero, List.set_cons_succ]); first | exact hK _ hS.out | (((go_at_call 62; with_reducible refine (RN.out _ (by with_reducible assumption)).mono ?_; rintro e w1 ⟨rfl, g1⟩)); refine hK _ ?_; (exact kKeep))))
                exact True.intro
              case fina =>
                rintro w9 ⟨q1, q2, q3, q4, qg, qz, _, _⟩
                simp only [fillA, Act.put, fU1, fU2, fU3]
                clear o1 o2 o3 o4 og xe
                go_wp2_with fail
                go_roundw
                case rel => exact ⟨d + 1, by omega, by go_num, rfl, q1, q2, q3, q4, qg, qz⟩
                case measure => simp [intOf]; omega
            . obtain rfl : d = Cn := by omega
              have d3 : decide ((d : Int) < u.v.c) = false := decide_eq_false (by have := HCn.out; omega)
              go_wp2_with fail
              go_roundw
              case rel => exact ⟨j + 1, by omega, by go_num, by rw [<- Nat.add_assoc, hpp, FEE.out], o1, o2, o3, o4, og, oz⟩
              case measure => simp [intOf]; omega
        . obtain rfl : j = kn := by omega
          have d2 : decide ((j : Int) < n.k) = false := decide_eq_false (by have := HK.out; omega)
          go_wp2_with fail
          go_roundw
          case rel => exact ⟨i + 1, by omega, by go_num, by rw [Nat.add_mul, Nat.one_mul], s1, s2, s3, s4, sg, sz⟩
          case measure => simp [intOf]; omega
    . obtain rfl : i = kn := by omega
      have d1 : decide ((i : Int) < n.k) = false := decide_eq_false (by have := HK.out; omega)
      have E := QQ.out
      go_wp2_with fail
      go_ret
      exact ⟨fx.ret_int E.symm, rg⟩
end Go.Proofs.YtliijchcpooplaaGreat
