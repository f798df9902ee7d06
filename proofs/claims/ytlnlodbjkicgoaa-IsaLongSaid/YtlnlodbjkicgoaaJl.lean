/- IsaLong: the walk. -/
import Derived.Test.YtlnlodbjkicgoaaI16
namespace Go.Proofs.Ytlnlodbjkicgoaa
open Go.ChangeShapes Go.WideShapes Go.ChangeAt Go.RowKit
set_option maxRecDepth 20000
set_option linter.unusedVariables false
set_option linter.unusedSimpArgs false

theorem put_own {l : List (List Int)} (h : ∀ c ∈ l, okC c) (hl : l.length ≤ 200) : putL l = putB l ∧ putE l = 0 := put_ok (by omega) (fun c hc => (h c hc).2)

theorem nums_some {w : World} {v : Value} {l : List Int} (h : IsNums .u8 w v l) (hp : 0 < l.length) : ∃ b off cap, v = .slice (some ⟨b, off, none⟩) l.length cap ∧ l.length ≤ cap ∧ cap ≤ maxLen := by
  obtain ⟨A, cap, rfl, h2, h3, h4, h5, h6⟩ := h
  obtain ⟨b, off, rfl, _⟩ := h6 hp
  exact ⟨b, off, cap, rfl, h2, h3⟩
set_option maxHeartbeats 2000000 in
theorem long_walk (W : World) (av : Value) (az : List (List Int)) (ha : IsCmds W av az) (bv : Value) (bz : List (List Int)) (hb : IsCmds W bv bz) : Calls Try.prog 7 #[av, bv] W fun e w' => e = .returned (.bool true) ∧ Past W w' := by
  have HA := Lib.hid ha
  have HB := Lib.hid hb
  have OKL := Lib.hid (ownL_ok ha.wf 200)
  have OKM := Lib.hid (ownL_ok hb.wf 200)
  have hl2 := ownL_len az 200
  have hm2 := ownL_len bz 200
  have OA := Lib.hid (fun w h => own_any av az w h)
  have OB := Lib.hid (fun w h => own_any bv bz w h)
  unfold OwnPost at OA OB
  obtain ⟨l, hl⟩ : ∃ l, ownL az 200 = l := ⟨_, rfl⟩
  obtain ⟨m, hm⟩ : ∃ m, ownL bz 200 = m := ⟨_, rfl⟩
  rw [hl] at OKL hl2 OA
  rw [hm] at OKM hm2 OB
  clear ha hb hl hm
  have EL := Lib.hid (put_own OKL.out hl2)
  have EM := Lib.hid (put_own OKM.out hm2)
  go_enter Try.func7, Try.ntmps7
  go_wp2_with fail
  refine (shown_any W).mono ?_
  rintro e w1 ⟨rfl, p1⟩
  have P1 := Lib.hid p1
  clear p1
  go_wp2_with fail
  refine (OA.out w1 (HA.out.grow P1.out)).mono ?_
  rintro e w2 ⟨lv, rfl, ol, p2⟩
  have P2 := Lib.hid (P1.out.trans p2)
  have CL := Lib.hid ol.cmds
  clear ol p2 P1 OA
  go_wp2_with fail
  refine (OB.out w2 (HB.out.grow P2.out)).mono ?_
  rintro e w3 ⟨mv, rfl, om, p3⟩
  have P3 := Lib.hid (P2.out.trans p3)
  have CL3 := Lib.hid (CL.out.grow p3)
  have CM3 := Lib.hid om.cmds
  clear om p3 P2 OB CL HA HB
  have PU := Lib.hid (put_any lv l w3 CL3.out)
  unfold PutPost at PU
  rw [EL.out.1, EL.out.2] at PU
  go_wp2_with fail
  refine PU.out.mono ?_
  rintro e w4 ⟨xv, rfl, ox, p4⟩
  have P4 := Lib.hid (P3.out.trans p4)
  have CL4 := Lib.hid (CL3.out.grow p4)
  have CM4 := Lib.hid (CM3.out.grow p4)
  have X4 := Lib.hid (ownB_nums ox (putB_bytes l))
  clear ox p4 P3 CL3 CM3 PU
  have PU := Lib.hid (put_any mv m w4 CM4.out)
  unfold PutPost at PU
  rw [EM.out.1, EM.out.2] at PU
  go_wp2_with fail
  refine PU.out.mono ?_
  rintro e w5 ⟨yv, rfl, oy, p5⟩
  have P5 := Lib.hid (P4.out.trans p5)
  have CL5 := Lib.hid (CL4.out.grow p5)
  have CM5 := Lib.hid (CM4.out.grow p5)
  have X5 := Lib.hid (X4.out.grow p5)
  have Y5 := Lib.hid (ownB_nums oy (putB_bytes m))
  clear oy p5 P4 CL4 CM4 X4 PU
  obtain ⟨LA, lc, rfl, _, _, _⟩ := CL5.out.form
  go_upto_region 9 with fail
  obtain ⟨T, hT⟩ : ∃ T, w5.heap.size = T := ⟨_, rfl⟩
  refine opq (fun w' => (∀ o : Nat, w'.cell? ⟨T, o, none⟩ = (⟨wideT⟩ : Array Value)[o]?) ∧ Past w5 w') (by subst hT; exact ⟨box_new rfl, (Past.refl _).alloc _⟩) ?_
  rintro w6 ⟨bT, p6⟩
  try simp only [hT]
  have P6 := Lib.hid (P5.out.trans p6)
  have CL6 := Lib.hid (CL5.out.grow p6)
  have CM6 := Lib.hid (CM5.out.grow p6)
  have X6 := Lib.hid (X5.out.grow p6)
  have Y6 := Lib.hid (Y5.out.grow p6)
  have BT := Lib.hid bT
  clear p6 P5 CL5 CM5 X5 Y5 bT hT
  have LX : (putB l).length = 2 + (l.flatMap cmdB).length := by unfold putB; rw [List.length_append, numB_len]
  have lx := putB_len l
  have ly := putB_len m
  have ly2 : 2 ≤ (putB m).length := by unfold putB; rw [List.length_append, numB_len]; omega
  have TD1 := takeD_forth l (putB m) OKL.out (by omega)
  have TD2 := takeD_forth m [] OKM.out (by omega)
  rw [List.append_nil] at TD2
  have XE : putB l = putB m ↔ l = m := ⟨fun e => putB_inj OKL.out OKM.out (by omega) (by omega) e, fun e => by rw [e]⟩
  have bX := putB_bytes l
  have bY := putB_bytes m
  obtain ⟨X, hX⟩ : ∃ X, putB l = X := ⟨_, rfl⟩
  obtain ⟨Y, hY⟩ : ∃ Y, putB m = Y := ⟨_, rfl⟩
  rw [hX] at LX lx TD1 XE bX X6
  rw [hY] at ly ly2 TD1 TD2 XE bY Y6
  have T1 := Lib.hid (take_some TD1)
  have T2 := Lib.hid (take_some TD2)
  have XE' := Lib.hid XE
  have BX := Lib.hid bX
  have BY := Lib.hid bY
  have LXH := Lib.hid LX
  clear hX hY TD1 TD2 XE bX bY EL EM LX
  have lx2 : 2 ≤ X.length := by rw [LXH.out]; omega
  obtain ⟨xb, xo, xc, rfl, x2, x3⟩ := nums_some X6.out (by omega)
  obtain ⟨yb, yo, yc, rfl, y2, y3⟩ := nums_some Y6.out (by omega)
  go_wp2_with fail
  go_loopw [13, 14] (fun s i wr => ∃ n : Nat, n ≤ l.length ∧ i = .int .i64 n ∧ s = .int .i64 ((2 + ((l.take n).flatMap cmdB).length : Nat) : Int) ∧ wr = w6) (fun _ i _ => l.length - (intOf i).toNat)
  case atStart => exact ⟨0, by omega, rfl, by simp, rfl⟩
  case round =>
    obtain ⟨n, hnl, rfl, rfl, rfl⟩ := hrel
    by_cases h : n < l.length
    · obtain ⟨b, off, rfl, hbl, hr⟩ := CL6.out.at n h
      have wc : okC (l.getD n []) := by
        have e : l.getD n [] = l[n] := by simp [List.getD, h]
        rw [e]
        exact OKL.out _ (List.getElem_mem h)
      have hnx := congrArg List.length (flatB_take h)
      obtain ⟨c, hc⟩ : ∃ c, l.getD n [] = c := ⟨_, rfl⟩
      rw [hc] at hr wc hnx
      rw [List.length_append, cmdB_len] at hnx
      have c0 := hr 0 _ (cellC_at c 0 (by rw [wc.1]; omega))
      rw [Nat.add_zero] at c0
      obtain ⟨kn, hk, hk7, hw, hand⟩ := wide_at (wc.2.1)
      rw [hk] at c0 hand hnx hw
      have hT := BT.out kn
      have hw2 : (⟨wideT⟩ : Array Value)[kn]? = some (.int .i64 ((1 + restW (kn : Int) : Nat) : Int)) := by simpa using hw
      rw [hw2] at hT
      have hle := flatB_len (l.take n)
      have hle2 : ((l.take n).flatMap cmdB).length ≤ 14 * 200 := by rw [List.length_take] at hle; omega
      have hrw := restW_le (kn : Int)
      obtain ⟨q, hq⟩ : ∃ q, ((l.take n).flatMap cmdB).length = q := ⟨_, rfl⟩
      obtain ⟨g, hg⟩ : ∃ g, restW (kn : Int) = g := ⟨_, rfl⟩
      rw [hq] at hnx hle2
      rw [hg] at hnx hT hrw
      rw [hq]
      have NX := Lib.hid hnx
      clear hnx hq hg hle hr wc hc hw hw2 hk hbl
      go_wp2_with fail
      go_roundw
      case rel => exact ⟨n + 1, by omega, by go_num, by rw [NX.out]; congr 1; omega, trivial⟩
      case measure => simp [intOf]; omega
    · have e : l.take n = l := List.take_of_length_le (by omega)
      rw [e, ← LXH.out]
      clear e
      go_wp2_with (at_builtin; refine wpList_append_b rfl (.tmp 58) (.tmp 59) rfl wr.heap.size _ [] rfl (ownR_lit wr) X (some ⟨xb, xo, none⟩) X.length xc rfl (X6.out.grow ((Past.refl wr).alloc _)) (by simp only [List.length_nil]; omega) (by simp) ?_)
      intro v7 w7 o7 g7
      have p7 : Past wr w7 := ((Past.refl wr).alloc _).grownBy g7 (fun k hk => by simp [Value.ownBlock] at hk; omega)
      have O7 := Lib.hid o7
      have P7 := Lib.hid p7
      clear o7 g7 p7
      go_wp2_with (at_builtin; refine wpList_append_b rfl (.tmp 60) (.tmp 61) rfl wr.heap.size v7 X rfl O7.out Y (some ⟨yb, yo, none⟩) Y.length yc rfl (Y6.out.grow P7.out) (by omega) P7.out.2.2.1 ?_)
      intro v8 w8 o8 g8
      have p8 : Past wr w8 := P7.out.grownBy g8 (fun k hk => O7.out.lt hk)
      have P8 := Lib.hid p8
      have bXY := bytesP_app BX.out BY.out
      have N8 := Lib.hid (o8.nums bXY)
      have TA := Lib.hid (take_any v8 (X ++ Y) w8 N8.out)
      unfold TakePost at TA
      rw [T1.out.1, T1.out.2.1, T1.out.2.2] at TA
      have e8 : ((X ++ Y).length - Y.length : Nat) = X.length := by rw [List.length_append]; omega
      rw [e8] at TA
      clear o8 g8 O7 P7 p8 e8 bXY
      go_wp2_with fail
      refine TA.out.mono ?_
      rintro e w9 ⟨pv, rfl, op, p9⟩
      have P9 := Lib.hid (P8.out.trans p9)
      have N9 := Lib.hid (N8.out.grow p9)
      have CP9 := Lib.hid op.cmds
      clear op p9 P8 N8 TA
      obtain ⟨nb, no, nc, rfl, n2, n3⟩ := nums_some N9.out (by rw [List.length_append]; omega)
      rw [List.length_append] at n2
      have D9 := nums_drop (n := X.length) N9.out (by rw [List.length_append]; omega)
      have e9 : (X ++ Y).drop X.length = Y := by simp
      rw [e9, List.length_append, Nat.add_sub_cancel_left] at D9
      have TA2 := Lib.hid (take_any _ Y w9 D9)
      unfold TakePost at TA2
      rw [T2.out.1, T2.out.2.1, T2.out.2.2, List.length_nil, Nat.sub_zero] at TA2
      have el : (X ++ Y).length = X.length + Y.length := List.length_append
      rw [el]
      clear e9 D9 el
      go_wp2_with fail
      refine TA2.out.mono ?_
      rintro e w10 ⟨qv, rfl, oq, p10⟩
      have P10 := Lib.hid (P9.out.trans p10)
      have CP10 := Lib.hid (CP9.out.grow p10)
      have CQ10 := Lib.hid oq.cmds
      clear oq p10 P9 CP9 N9 TA2
      have S1 := Lib.hid (same_any pv _ l l w10 CP10.out (CL6.out.grow P10.out))
      rw [decide_eq_true rfl] at S1
      go_wp2_with fail
      refine S1.out.mono ?_
      rintro e w11 ⟨rfl, p11⟩
      have P11 := Lib.hid (P10.out.trans p11)
      have S2 := Lib.hid (same_any qv _ m m w11 (CQ10.out.grow p11) (CM6.out.grow P11.out))
      rw [decide_eq_true rfl] at S2
      clear p11 P10 S1 CP10 CQ10
      go_wp2_with fail
      refine S2.out.mono ?_
      rintro e w12 ⟨rfl, p12⟩
      have P12 := Lib.hid (P11.out.trans p12)
      have S3 := Lib.hid (same_any _ _ l m w12 (CL6.out.grow P12.out) (CM6.out.grow P12.out))
      clear p12 P11 S2
      go_wp2_with fail
      refine S3.out.mono ?_
      rintro e w13 ⟨rfl, p13⟩
      have P13 := Lib.hid (P12.out.trans p13)
      have s1 := str_of_nums (X6.out.grow P13.out)
      have s2 := str_of_nums (Y6.out.grow P13.out)
      have sq := str_eq BX.out BY.out
      have fin : (decide (l = m) == decide (X = Y)) = true := by
        by_cases q : l = m
        · rw [decide_eq_true q, decide_eq_true (XE'.out.2 q)]; rfl
        · rw [decide_eq_false q, decide_eq_false (fun e => q (XE'.out.1 e))]; rfl
      rw [← sq] at fin
      obtain ⟨dl, hdl⟩ : ∃ d, decide (l = m) = d := ⟨_, rfl⟩
      obtain ⟨SX, hSX⟩ : ∃ d, strOfNums X = d := ⟨_, rfl⟩
      obtain ⟨SY, hSY⟩ : ∃ d, strOfNums Y = d := ⟨_, rfl⟩
      rw [hdl, hSX, hSY] at fin
      rw [hSX] at s1
      rw [hSY] at s2
      rw [hdl]
      clear hdl hSX hSY sq p13 P12 S3
      go_wp2_with fail
      go_ret
      exact ⟨rfl, P6.out.trans P13.out⟩
end Go.Proofs.Ytlnlodbjkicgoaa
