/- IsaBack: the walk. -/
import Derived.Test.YtlnlodbjkicgoaaI16
namespace Go.Proofs.Ytlnlodbjkicgoaa
open Go.ChangeShapes Go.WideShapes Go.ChangeAt Go.RowKit
set_option maxRecDepth 20000
set_option linter.unusedVariables false
set_option linter.unusedSimpArgs false

theorem nums_some {w : World} {v : Value} {l : List Int} (h : IsNums .u8 w v l) (hp : 0 < l.length) : ∃ b off cap, v = .slice (some ⟨b, off, none⟩) l.length cap ∧ l.length ≤ cap ∧ cap ≤ maxLen := by
  obtain ⟨A, cap, rfl, h2, h3, h4, h5, h6⟩ := h
  obtain ⟨b, off, rfl, _⟩ := h6 hp
  exact ⟨b, off, cap, rfl, h2, h3⟩
set_option maxHeartbeats 2000000 in
theorem back_walk (W : World) (lv : Value) (l : List (List Int)) (hu : IsCmds W lv l) (bv : Value) (bz : List Int) (hb : IsNums .u8 W bv bz) (at' : Int) (wat : (Lit.int .i64 at').wf = true) : Calls Try.prog 5 #[lv, bv, .int .i64 at'] W fun e w' => e = .returned (.bool true) ∧ Past W w' := by
  have HU0 := Lib.hid hu
  have HB0 := Lib.hid hb
  obtain ⟨A, ca, rfl, a2, a3, _⟩ := hu.form
  obtain ⟨bA, bc, rfl, c2, c3, c4⟩ := nums_form hb
  have C4 := Lib.hid c4
  clear c4
  have WL := Lib.hid hu.wf
  have hm : l.length ≤ 9223372036854775807 := by unfold maxLen at a3; omega
  have AT := Lib.hid (wf_bd wat)
  clear hu hb wat
  go_enter Try.func5, Try.ntmps5
  go_wp2_with fail
  refine (shown_any W).mono ?_
  rintro e w1 ⟨rfl, p1⟩
  have P1 := Lib.hid p1
  have HU := Lib.hid (HU0.out.grow p1)
  clear p1 HU0
  go_wp2_with fail
  go_loopw [8, 9] (fun v i wr => ∃ n : Nat, n ≤ l.length ∧ n ≤ 200 ∧ i = .int .i64 n ∧ Hid (OwnC wr w1.heap.size v (ownL l n) ∧ Past w1 wr)) (fun _ i _ => 200 - (intOf i).toNat)
  case atStart => exact ⟨0, by omega, by omega, rfl, Lib.hid ⟨ownC_lit w1, (Past.refl w1).alloc _⟩⟩
  case round =>
    obtain ⟨n, hnl, hn2, rfl, R⟩ := hrel
    by_cases h : n < l.length
    · by_cases h2 : n < 200
      · obtain ⟨b, off, rfl, hbl, hr⟩ := (HU.out.grow R.out.2).at n h
        have wc := wfC_at WL.out h
        have hy := fun q => ownL_yes h q
        have hno := fun q => ownL_no h q
        obtain ⟨c, hc⟩ : ∃ c, l.getD n [] = c := ⟨_, rfl⟩
        rw [hc] at hr wc hy hno
        have HR := Lib.hid hr
        have WC := Lib.hid wc
        have HY := Lib.hid hy
        have HN := Lib.hid hno
        clear hr wc hy hno hc hbl
        have HLE := Lib.hid (ownL_len l n)
        by_cases hmd : mayD c
        · have MA := Lib.hid (fun w => may_any c WC.out.1 w)
          rw [mayE_ok.2 hmd] at MA
          have NX := Lib.hid (HY.out hmd)
          clear HY HN hmd
          go_wp2_with (first | refine wpList_load_row rfl (.tmp 38) rfl b (off + n * 14) rfl c WC.out.1 HR.out ?_)
          refine (MA.out wr).mono ?_
          rintro e w2 ⟨rfl, p2⟩
          have R2 : Hid (OwnC w2 w1.heap.size u8 (ownL l n) ∧ Past w1 w2) := Lib.hid ⟨R.out.1.past p2, R.out.2.trans p2⟩
          have HR2 : Hid (w2.rangeAt b (off + n * 14) (cellC c)) := Lib.hid (fun j v hv => (p2.cell (cell_lt (HR.out 0 _ (by rw [cellC_at c 0 (by rw [WC.out.1]; omega)])))).trans (HR.out j v hv))
          clear R HR p2 MA
          go_wp2_with (first | refine wpList_load_row rfl (.tmp 45) rfl b (off + n * 14) rfl c WC.out.1 HR2.out ?_ | refine wpList_lit_cmd rfl (.tmp 46) rfl c WC.out.1 rfl ?_ | (at_builtin; refine wpList_append_cmd rfl (.tmp 42) (.tmp 47) rfl w1.heap.size u8 (ownL l n) rfl (R2.out.1.alloc _) ⟨w2.heap.size, 0, none⟩ c rfl WC.out (fun j u hu => cells_cmd w2 c j u hu) (by have := HLE.out; omega) (by have := R2.out.2.2.2.1; simp; omega) ?_))
          intro v6 w6 o6 g6
          have R6 : Hid (OwnC w6 w1.heap.size v6 (ownL l (n + 1)) ∧ Past w1 w6) := Lib.hid ⟨by rw [NX.out]; exact o6, (R2.out.2.alloc _).grownBy g6 (fun k hk => R2.out.1.lt hk)⟩
          clear R2 HR2 o6 g6
          go_wp2_with fail
          go_roundw
          case rel => exact ⟨n + 1, by omega, by omega, by go_num, R6⟩
          case measure => simp [intOf]; omega
        · have MA := Lib.hid (fun w => may_any c WC.out.1 w)
          have e1 : mayE c = 1 := by unfold mayE; rw [if_neg hmd]
          rw [e1] at MA
          have NX := Lib.hid (HN.out hmd)
          clear HY HN hmd e1
          go_wp2_with (first | refine wpList_load_row rfl (.tmp 38) rfl b (off + n * 14) rfl c WC.out.1 HR.out ?_)
          refine (MA.out wr).mono ?_
          rintro e w2 ⟨rfl, p2⟩
          have R2 : Hid (OwnC w2 w1.heap.size u8 (ownL l (n + 1)) ∧ Past w1 w2) := Lib.hid ⟨by rw [NX.out]; exact R.out.1.past p2, R.out.2.trans p2⟩
          clear R HR p2 MA
          go_wp2_with fail
          go_roundw
          case rel => exact ⟨n + 1, by omega, by omega, by go_num, R2⟩
          case measure => simp [intOf]; omega
      · obtain rfl : n = 200 := by omega
        have OKL := Lib.hid (ownL_ok WL.out 200)
        have hl2 := ownL_len l 200
        obtain ⟨o, ho⟩ : ∃ o, ownL l 200 = o := ⟨_, rfl⟩
        rw [ho] at R OKL hl2
        have CO := Lib.hid R.out.1.cmds
        have P2 := Lib.hid (P1.out.trans R.out.2)
        have E := put_ok (l := o) (by omega) (fun c hc => (OKL.out c hc).2)
        have PU := Lib.hid (put_any _ o wr CO.out)
        unfold PutPost at PU
        rw [E.1, E.2] at PU
        have lx := putB_len o
        have lx2 : 2 ≤ (putB o).length := by unfold putB; rw [List.length_append, numB_len]; omega
        have TD := takeD_forth o [7, 7] OKL.out (by omega)
        have TC := Lib.hid (fun n hn => take_none (takeD_cut (n := n) OKL.out (by omega) hn))
        have bX := putB_bytes o
        obtain ⟨X, hX⟩ : ∃ X, putB o = X := ⟨_, rfl⟩
        rw [hX] at PU lx lx2 TD TC bX
        have T1 := Lib.hid (take_some TD)
        have BX := Lib.hid bX
        clear E R ho P1 hX TD bX HU
        go_wp2_with fail
        refine PU.out.mono ?_
        rintro e w2 ⟨xv, rfl, ox, p2⟩
        have P3 := Lib.hid (P2.out.trans p2)
        have CO3 := Lib.hid (CO.out.grow p2)
        have X3 := Lib.hid (ownB_nums ox BX.out)
        clear ox p2 P2 CO PU
        obtain ⟨xb, xo, xc, rfl, x2, x3⟩ := nums_some X3.out (by omega)
        go_wp2_with (at_builtin; refine wpList_append_b rfl (.tmp 55) (.tmp 56) rfl w2.heap.size _ [] rfl (ownR_lit w2) X (some ⟨xb, xo, none⟩) X.length xc rfl (X3.out.grow ((Past.refl w2).alloc _)) (by simp only [List.length_nil]; omega) (by simp) ?_)
        intro v7 w7 o7 g7
        have p7 : Past w2 w7 := ((Past.refl w2).alloc _).grownBy g7 (fun k hk => by simp [Value.ownBlock] at hk; omega)
        have O7 := Lib.hid o7
        have P7 := Lib.hid p7
        clear o7 g7 p7
        go_wp2_with (at_builtin; refine wpList_append_b rfl (.tmp 57) (.tmp 58) rfl w2.heap.size v7 X rfl (O7.out.alloc _) [7, 7] (some ⟨w7.heap.size, 0, none⟩) 2 2 rfl (nums_new' w7 [7, 7] (by decide) (by unfold bytesP; decide) (by simp [maxLen])) (by simp only [List.length_cons, List.length_nil]; omega) (by have := P7.out.2.2.1; simp; omega) ?_)
        intro v8 w8 o8 g8
        have p8 : Past w2 w8 := (P7.out.alloc _).grownBy g8 (fun k hk => O7.out.lt hk)
        have P8 := Lib.hid p8
        have N8 := o8.nums (bytesP_app BX.out (by unfold bytesP; decide))
        have TA := Lib.hid (take_any v8 (X ++ [7, 7]) w8 N8)
        unfold TakePost at TA
        rw [T1.out.1, T1.out.2.1, T1.out.2.2] at TA
        have e8 : ((X ++ [7, 7]).length - ([7, 7] : List Int).length : Nat) = X.length := by rw [List.length_append]; simp
        rw [e8] at TA
        clear o8 g8 O7 P7 p8 e8 N8 T1
        go_wp2_with fail
        refine TA.out.mono ?_
        rintro e w9 ⟨yv, rfl, oy, p9⟩
        have P9 := Lib.hid ((P3.out.trans P8.out).trans p9)
        have X9 := Lib.hid (X3.out.grow (P8.out.trans p9))
        have S1 := Lib.hid (same_any yv _ o o w9 oy.cmds (CO3.out.grow (P8.out.trans p9)))
        rw [decide_eq_true rfl] at S1
        clear oy p9 P8 TA X3 CO3 P3
        go_wp2_with fail
        refine S1.out.mono ?_
        rintro e w10 ⟨rfl, p10⟩
        have P10 := Lib.hid (P9.out.trans p10)
        have X10 := Lib.hid (X9.out.grow p10)
        clear p10 P9 X9 S1
        obtain ⟨bt, hbt⟩ : ∃ b, decide (0 ≤ at' ∧ at' < (X.length : Int)) = b := ⟨_, rfl⟩
        have HBT := Lib.hid hbt
        clear hbt
        go_upto_region 13 with fail
        go_cut [90] (fun c90 w' => c90 = .bool bt ∧ w10 = w')
        case first =>
          by_cases h0 : 0 ≤ at'
          · by_cases h1 : at' < (X.length : Int)
            · go_wp2_with fail
              go_meet
              exact ⟨by rw [← HBT.out, decide_eq_true ⟨h0, h1⟩], rfl⟩
            · go_wp2_with fail
              go_meet
              exact ⟨by rw [← HBT.out, decide_eq_false (fun h => by omega)], rfl⟩
          · go_wp2_with fail
            go_meet
            exact ⟨by rw [← HBT.out, decide_eq_false (fun h => by omega)], rfl⟩
        case rest =>
          obtain ⟨rfl, rfl⟩ := hcut
          go_upto_if 90 with fail
          go_cut [7] (fun c7 w' => c7 = .bool true ∧ Hid (Past W w'))
          case first =>
            by_cases hq : 0 ≤ at' ∧ at' < (X.length : Int)
            · have hbt := HBT.out
              rw [decide_eq_true hq] at hbt
              subst hbt
              obtain ⟨n', rfl⟩ : ∃ n' : Nat, at' = (n' : Int) := ⟨at'.toNat, by omega⟩
              have h1 : n' < X.length := by omega
              have C10 := nums_cut n' (by omega) X10.out
              have TA := Lib.hid (take_any _ (X.take n') w10 C10)
              unfold TakePost at TA
              have tn := TC.out n' h1
              rw [tn.1, tn.2.1, tn.2.2] at TA
              clear tn C10
              go_wp2_with fail
              refine TA.out.mono ?_
              rintro e w11 ⟨zv, rfl, _, p11⟩
              have P11 := Lib.hid (P10.out.trans p11)
              clear p11 TA
              go_wp2_with fail
              go_meet
              exact ⟨rfl, P11⟩
            · have hbt := HBT.out
              rw [decide_eq_false hq] at hbt
              subst hbt
              go_wp2_with fail
              go_meet
              exact ⟨rfl, P10⟩
          case rest =>
            obtain ⟨rfl, PC⟩ := hcut
            have HB := Lib.hid (HB0.out.grow PC.out)
            clear P10 X10 TC HBT BX lx lx2 x2 x3 OKL hl2
            go_upto_region 17 with fail
            go_upto_if 107 with fail
            go_cut [1] (fun c1 w' => (∃ A1 k1, c1 = .slice A1 (bz.take 5000).length k1 ∧ Hid (IsNums .u8 w' c1 (bz.take 5000))) ∧ wc = w')
            case first =>
              by_cases h5 : 5000 < bz.length
              · have hc := Lib.hid (nums_cut 5000 (by omega) HB.out)
                have e5 : (bz.take 5000).length = 5000 := by rw [List.length_take]; omega
                obtain ⟨bb, bo, rfl⟩ : ∃ bb bo, bA = some ⟨bb, bo, none⟩ := by
                  obtain ⟨b1, o1, k1, e1, _⟩ := nums_some HB.out (by omega)
                  simp only [Value.slice.injEq] at e1
                  exact ⟨b1, o1, e1.1⟩
                go_wp2_with fail
                go_meet
                exact ⟨⟨_, _, by rw [e5], hc⟩, rfl⟩
              · have e5 : bz.take 5000 = bz := List.take_of_length_le (by omega)
                have hc := HB
                go_wp2_with fail
                go_meet
                exact ⟨⟨_, _, by rw [e5], by rw [e5]; exact hc⟩, rfl⟩
            case rest =>
              obtain ⟨⟨A1, k1, rfl, NB⟩, rfl⟩ := hcut
              have hbs : (bz.take 5000).length ≤ 5000 := by rw [List.length_take]; omega
              obtain ⟨bs, hb⟩ : ∃ bs, bz.take 5000 = bs := ⟨_, rfl⟩
              rw [hb] at NB hbs
              rw [hb]
              have bB : bytesP bs := by
                obtain ⟨_, _, e, hB⟩ := nums_bytes NB.out
                exact hB.bytesP
              have BB := Lib.hid bB
              clear hb HB HB0 C4 bB
              go_upto_region 19 with fail
              go_wp2_with (at_builtin; refine wpList_append_b rfl (.tmp 111) (.tmp 112) rfl wc.heap.size _ [] rfl (ownR_lit wc) bs A1 bs.length k1 rfl (NB.out.grow ((Past.refl wc).alloc _)) (by simp only [List.length_nil]; omega) (by simp) ?_)
              intro v13 w13 o13 g13
              have p13 : Past wc w13 := ((Past.refl wc).alloc _).grownBy g13 (fun k hk => by simp [Value.ownBlock] at hk; omega)
              have P13 := Lib.hid (PC.out.trans p13)
              have NB13 := Lib.hid (NB.out.grow p13)
              have TA := Lib.hid (take_any v13 bs w13 (o13.nums BB.out))
              unfold TakePost at TA
              clear o13 g13 p13 PC
              cases htd : takeD bs with
              | none =>
                have tn := take_none htd
                rw [tn.1, tn.2.1, tn.2.2] at TA
                clear tn htd
                go_wp2_with fail
                refine TA.out.mono ?_
                rintro e w14 ⟨zv, rfl, oz, p14⟩
                obtain ⟨zA, zc, rfl, _, _, _⟩ := oz.cmds.form
                have P14 := Lib.hid (P13.out.trans p14)
                clear oz p14 TA
                go_wp2_with fail
                go_ret
                exact ⟨rfl, P14.out⟩
              | some x =>
                obtain ⟨zl, zr⟩ := x
                have tn := take_some htd
                have tb := takeD_back BB.out htd
                have tl := takeD_len BB.out htd
                rw [tn.1, tn.2.1, tn.2.2, tl.1] at TA
                have E := Lib.hid (put_ok (l := zl) tb.2.1 (fun c hc => (tb.1 c hc).2))
                have TL := Lib.hid tl.2.2
                have hZ := tl.2.1
                have ZL := Lib.hid (show 2 ≤ (putB zl).length by unfold putB; rw [List.length_append, numB_len]; omega)
                have bZ := Lib.hid (putB_bytes zl)
                obtain ⟨Z, hz⟩ : ∃ Z, putB zl = Z := ⟨_, rfl⟩
                rw [hz] at TA TL hZ bZ E ZL
                clear tn tb tl htd hz
                go_wp2_with fail
                refine TA.out.mono ?_
                rintro e w14 ⟨zv, rfl, oz, p14⟩
                have P14 := Lib.hid (P13.out.trans p14)
                have NB14 := Lib.hid (NB13.out.grow p14)
                have PU := Lib.hid (put_any zv zl w14 oz.cmds)
                unfold PutPost at PU
                rw [E.out.1, E.out.2] at PU
                clear oz p14 TA P13 NB13
                go_wp2_with fail
                refine PU.out.mono ?_
                rintro e w15 ⟨cv, rfl, oc, p15⟩
                have P15 := Lib.hid (P14.out.trans p15)
                have NB15 := Lib.hid (NB14.out.grow p15)
                have NC15 := Lib.hid (ownB_nums oc bZ.out)
                clear oc p15 PU P14 NB14
                have hZ2 : 2 ≤ Z.length := ZL.out
                obtain ⟨cb, co, cc, rfl, z2, z3⟩ := nums_some NC15.out (by omega)
                obtain ⟨bb, bo, bk, eb, b2, b3⟩ := nums_some NB15.out (by omega)
                simp only [Value.slice.injEq, true_and] at eb
                obtain ⟨rfl, rfl⟩ := eb
                have CUT := nums_cut Z.length hZ NB15.out
                rw [TL.out] at CUT
                obtain ⟨SZ, hSZ⟩ : ∃ q, strOfNums Z = q := ⟨_, rfl⟩
                have HSZ := Lib.hid hSZ
                have N1 := Lib.hid NC15.out
                have N2 := Lib.hid CUT
                have dle : decide ((Z.length : Int) ≤ (bs.length : Int)) = true := decide_eq_true (by omega)
                have zle : Z.length ≤ k1 := by omega
                clear NC15 NB15 CUT TL hSZ NB
                go_upto_region 23 with fail
                refine wp_region_fill (fun w' => Hid (IsNums .u8 w' (.slice (some ⟨cb, co, none⟩) Z.length cc) Z) ∧ Hid (IsNums .u8 w' (.slice (some ⟨bb, bo, none⟩) Z.length k1) Z) ∧ Hid (Past W w')) [(139, ?vp139), (140, ?vp140), (141, ?vp141), (142, ?vp142), (143, ?vp143), (144, ?vp144), (145, ?vp145), (146, ?vp146), (147, ?vp147), (148, ?vp148), (149, ?vp149), (150, ?vp150), (151, ?vp151), (152, ?vp152), (153, ?vp153), (154, ?vp154), (155, ?vp155), (156, ?vp156), (157, ?vp157), (158, ?vp158), (6, ?vp6)] [139, 140, 141, 142, 143, 144, 145, 146, 147, 148, 149, 150, 151, 152, 153, 154, 155, 156, 157, 158, 6] (by kernel_rfl) (by kernel_rfl) rfl (by kernel_rfl) ⟨N1, N2, P15⟩ (fun w h => h) ?allp ?finp
                case allp =>
                  simp only [fillA, Act.put, List.setIfInBounds_toArray, List.set_cons_zero, List.set_cons_succ]
                  iterate 13 (refine owes_cons (fun w hw K hK => ?_) ?_; focus ((have hS := Lib.hid hw); go_simp; (try simp only [Act.put, List.setIfInBounds_toArray, List.set_cons_zero, List.set_cons_succ]); exact hK _ hS.out))
                  (refine owes_cons (fun w hw K hK => ?_) ?_; focus ((have hS := Lib.hid hw); (have s1 := str_of_nums (hw.1.out)); (rw [HSZ.out] at s1); go_simp; (try simp only [Act.put, List.setIfInBounds_toArray, List.set_cons_zero, List.set_cons_succ]); exact hK _ hS.out))
                  iterate 3 (refine owes_cons (fun w hw K hK => ?_) ?_; focus ((have hS := Lib.hid hw); go_simp; (try simp only [Act.put, List.setIfInBounds_toArray, List.set_cons_zero, List.set_cons_succ]); exact hK _ hS.out))
                  (refine owes_cons (fun w hw K hK => ?_) ?_; focus ((have hS := Lib.hid hw); (have s1 := str_of_nums (hw.2.1.out)); (rw [HSZ.out] at s1); go_simp; (try simp only [Act.put, List.setIfInBounds_toArray, List.set_cons_zero, List.set_cons_succ]); exact hK _ hS.out))
                  iterate 3 (refine owes_cons (fun w hw K hK => ?_) ?_; focus ((have hS := Lib.hid hw); go_simp; (try simp only [Act.put, List.setIfInBounds_toArray, List.set_cons_zero, List.set_cons_succ]); exact hK _ hS.out))
                  exact True.intro
                case finp =>
                  rintro w16 ⟨_, _, p16⟩
                  simp only [fillA, Act.put, List.setIfInBounds_toArray, List.set_cons_zero, List.set_cons_succ]
                  go_wp2_with fail
                  go_ret
                  exact ⟨rfl, p16.out⟩
    · have e0 : ownL l n = ownL l 200 := by
        obtain rfl : n = l.length := by omega
        exact (ownL_all l 200 hn2).symm
      rw [e0] at R
      clear e0
      have OKL := Lib.hid (ownL_ok WL.out 200)
      have hl2 := ownL_len l 200
      obtain ⟨o, ho⟩ : ∃ o, ownL l 200 = o := ⟨_, rfl⟩
      rw [ho] at R OKL hl2
      have CO := Lib.hid R.out.1.cmds
      have P2 := Lib.hid (P1.out.trans R.out.2)
      have E := put_ok (l := o) (by omega) (fun c hc => (OKL.out c hc).2)
      have PU := Lib.hid (put_any _ o wr CO.out)
      unfold PutPost at PU
      rw [E.1, E.2] at PU
      have lx := putB_len o
      have lx2 : 2 ≤ (putB o).length := by unfold putB; rw [List.length_append, numB_len]; omega
      have TD := takeD_forth o [7, 7] OKL.out (by omega)
      have TC := Lib.hid (fun n hn => take_none (takeD_cut (n := n) OKL.out (by omega) hn))
      have bX := putB_bytes o
      obtain ⟨X, hX⟩ : ∃ X, putB o = X := ⟨_, rfl⟩
      rw [hX] at PU lx lx2 TD TC bX
      have T1 := Lib.hid (take_some TD)
      have BX := Lib.hid bX
      clear E R ho P1 hX TD bX HU
      go_wp2_with fail
      refine PU.out.mono ?_
      rintro e w2 ⟨xv, rfl, ox, p2⟩
      have P3 := Lib.hid (P2.out.trans p2)
      have CO3 := Lib.hid (CO.out.grow p2)
      have X3 := Lib.hid (ownB_nums ox BX.out)
      clear ox p2 P2 CO PU
      obtain ⟨xb, xo, xc, rfl, x2, x3⟩ := nums_some X3.out (by omega)
      go_wp2_with (at_builtin; refine wpList_append_b rfl (.tmp 55) (.tmp 56) rfl w2.heap.size _ [] rfl (ownR_lit w2) X (some ⟨xb, xo, none⟩) X.length xc rfl (X3.out.grow ((Past.refl w2).alloc _)) (by simp only [List.length_nil]; omega) (by simp) ?_)
      intro v7 w7 o7 g7
      have p7 : Past w2 w7 := ((Past.refl w2).alloc _).grownBy g7 (fun k hk => by simp [Value.ownBlock] at hk; omega)
      have O7 := Lib.hid o7
      have P7 := Lib.hid p7
      clear o7 g7 p7
      go_wp2_with (at_builtin; refine wpList_append_b rfl (.tmp 57) (.tmp 58) rfl w2.heap.size v7 X rfl (O7.out.alloc _) [7, 7] (some ⟨w7.heap.size, 0, none⟩) 2 2 rfl (nums_new' w7 [7, 7] (by decide) (by unfold bytesP; decide) (by simp [maxLen])) (by simp only [List.length_cons, List.length_nil]; omega) (by have := P7.out.2.2.1; simp; omega) ?_)
      intro v8 w8 o8 g8
      have p8 : Past w2 w8 := (P7.out.alloc _).grownBy g8 (fun k hk => O7.out.lt hk)
      have P8 := Lib.hid p8
      have N8 := o8.nums (bytesP_app BX.out (by unfold bytesP; decide))
      have TA := Lib.hid (take_any v8 (X ++ [7, 7]) w8 N8)
      unfold TakePost at TA
      rw [T1.out.1, T1.out.2.1, T1.out.2.2] at TA
      have e8 : ((X ++ [7, 7]).length - ([7, 7] : List Int).length : Nat) = X.length := by rw [List.length_append]; simp
      rw [e8] at TA
      clear o8 g8 O7 P7 p8 e8 N8 T1
      go_wp2_with fail
      refine TA.out.mono ?_
      rintro e w9 ⟨yv, rfl, oy, p9⟩
      have P9 := Lib.hid ((P3.out.trans P8.out).trans p9)
      have X9 := Lib.hid (X3.out.grow (P8.out.trans p9))
      have S1 := Lib.hid (same_any yv _ o o w9 oy.cmds (CO3.out.grow (P8.out.trans p9)))
      rw [decide_eq_true rfl] at S1
      clear oy p9 P8 TA X3 CO3 P3
      go_wp2_with fail
      refine S1.out.mono ?_
      rintro e w10 ⟨rfl, p10⟩
      have P10 := Lib.hid (P9.out.trans p10)
      have X10 := Lib.hid (X9.out.grow p10)
      clear p10 P9 X9 S1
      obtain ⟨bt, hbt⟩ : ∃ b, decide (0 ≤ at' ∧ at' < (X.length : Int)) = b := ⟨_, rfl⟩
      have HBT := Lib.hid hbt
      clear hbt
      go_upto_region 13 with fail
      go_cut [90] (fun c90 w' => c90 = .bool bt ∧ w10 = w')
      case first =>
        by_cases h0 : 0 ≤ at'
        · by_cases h1 : at' < (X.length : Int)
          · go_wp2_with fail
            go_meet
            exact ⟨by rw [← HBT.out, decide_eq_true ⟨h0, h1⟩], rfl⟩
          · go_wp2_with fail
            go_meet
            exact ⟨by rw [← HBT.out, decide_eq_false (fun h => by omega)], rfl⟩
        · go_wp2_with fail
          go_meet
          exact ⟨by rw [← HBT.out, decide_eq_false (fun h => by omega)], rfl⟩
      case rest =>
        obtain ⟨rfl, rfl⟩ := hcut
        go_upto_if 90 with fail
        go_cut [7] (fun c7 w' => c7 = .bool true ∧ Hid (Past W w'))
        case first =>
          by_cases hq : 0 ≤ at' ∧ at' < (X.length : Int)
          · have hbt := HBT.out
            rw [decide_eq_true hq] at hbt
            subst hbt
            obtain ⟨n', rfl⟩ : ∃ n' : Nat, at' = (n' : Int) := ⟨at'.toNat, by omega⟩
            have h1 : n' < X.length := by omega
            have C10 := nums_cut n' (by omega) X10.out
            have TA := Lib.hid (take_any _ (X.take n') w10 C10)
            unfold TakePost at TA
            have tn := TC.out n' h1
            rw [tn.1, tn.2.1, tn.2.2] at TA
            clear tn C10
            go_wp2_with fail
            refine TA.out.mono ?_
            rintro e w11 ⟨zv, rfl, _, p11⟩
            have P11 := Lib.hid (P10.out.trans p11)
            clear p11 TA
            go_wp2_with fail
            go_meet
            exact ⟨rfl, P11⟩
          · have hbt := HBT.out
            rw [decide_eq_false hq] at hbt
            subst hbt
            go_wp2_with fail
            go_meet
            exact ⟨rfl, P10⟩
        case rest =>
          obtain ⟨rfl, PC⟩ := hcut
          have HB := Lib.hid (HB0.out.grow PC.out)
          clear P10 X10 TC HBT BX lx lx2 x2 x3 OKL hl2
          go_upto_region 17 with fail
          go_upto_if 107 with fail
          go_cut [1] (fun c1 w' => (∃ A1 k1, c1 = .slice A1 (bz.take 5000).length k1 ∧ Hid (IsNums .u8 w' c1 (bz.take 5000))) ∧ wc = w')
          case first =>
            by_cases h5 : 5000 < bz.length
            · have hc := Lib.hid (nums_cut 5000 (by omega) HB.out)
              have e5 : (bz.take 5000).length = 5000 := by rw [List.length_take]; omega
              obtain ⟨bb, bo, rfl⟩ : ∃ bb bo, bA = some ⟨bb, bo, none⟩ := by
                obtain ⟨b1, o1, k1, e1, _⟩ := nums_some HB.out (by omega)
                simp only [Value.slice.injEq] at e1
                exact ⟨b1, o1, e1.1⟩
              go_wp2_with fail
              go_meet
              exact ⟨⟨_, _, by rw [e5], hc⟩, rfl⟩
            · have e5 : bz.take 5000 = bz := List.take_of_length_le (by omega)
              have hc := HB
              go_wp2_with fail
              go_meet
              exact ⟨⟨_, _, by rw [e5], by rw [e5]; exact hc⟩, rfl⟩
          case rest =>
            obtain ⟨⟨A1, k1, rfl, NB⟩, rfl⟩ := hcut
            have hbs : (bz.take 5000).length ≤ 5000 := by rw [List.length_take]; omega
            obtain ⟨bs, hb⟩ : ∃ bs, bz.take 5000 = bs := ⟨_, rfl⟩
            rw [hb] at NB hbs
            rw [hb]
            have bB : bytesP bs := by
              obtain ⟨_, _, e, hB⟩ := nums_bytes NB.out
              exact hB.bytesP
            have BB := Lib.hid bB
            clear hb HB HB0 C4 bB
            go_upto_region 19 with fail
            go_wp2_with (at_builtin; refine wpList_append_b rfl (.tmp 111) (.tmp 112) rfl wc.heap.size _ [] rfl (ownR_lit wc) bs A1 bs.length k1 rfl (NB.out.grow ((Past.refl wc).alloc _)) (by simp only [List.length_nil]; omega) (by simp) ?_)
            intro v13 w13 o13 g13
            have p13 : Past wc w13 := ((Past.refl wc).alloc _).grownBy g13 (fun k hk => by simp [Value.ownBlock] at hk; omega)
            have P13 := Lib.hid (PC.out.trans p13)
            have NB13 := Lib.hid (NB.out.grow p13)
            have TA := Lib.hid (take_any v13 bs w13 (o13.nums BB.out))
            unfold TakePost at TA
            clear o13 g13 p13 PC
            cases htd : takeD bs with
            | none =>
              have tn := take_none htd
              rw [tn.1, tn.2.1, tn.2.2] at TA
              clear tn htd
              go_wp2_with fail
              refine TA.out.mono ?_
              rintro e w14 ⟨zv, rfl, oz, p14⟩
              obtain ⟨zA, zc, rfl, _, _, _⟩ := oz.cmds.form
              have P14 := Lib.hid (P13.out.trans p14)
              clear oz p14 TA
              go_wp2_with fail
              go_ret
              exact ⟨rfl, P14.out⟩
            | some x =>
              obtain ⟨zl, zr⟩ := x
              have tn := take_some htd
              have tb := takeD_back BB.out htd
              have tl := takeD_len BB.out htd
              rw [tn.1, tn.2.1, tn.2.2, tl.1] at TA
              have E := Lib.hid (put_ok (l := zl) tb.2.1 (fun c hc => (tb.1 c hc).2))
              have TL := Lib.hid tl.2.2
              have hZ := tl.2.1
              have ZL := Lib.hid (show 2 ≤ (putB zl).length by unfold putB; rw [List.length_append, numB_len]; omega)
              have bZ := Lib.hid (putB_bytes zl)
              obtain ⟨Z, hz⟩ : ∃ Z, putB zl = Z := ⟨_, rfl⟩
              rw [hz] at TA TL hZ bZ E ZL
              clear tn tb tl htd hz
              go_wp2_with fail
              refine TA.out.mono ?_
              rintro e w14 ⟨zv, rfl, oz, p14⟩
              have P14 := Lib.hid (P13.out.trans p14)
              have NB14 := Lib.hid (NB13.out.grow p14)
              have PU := Lib.hid (put_any zv zl w14 oz.cmds)
              unfold PutPost at PU
              rw [E.out.1, E.out.2] at PU
              clear oz p14 TA P13 NB13
              go_wp2_with fail
              refine PU.out.mono ?_
              rintro e w15 ⟨cv, rfl, oc, p15⟩
              have P15 := Lib.hid (P14.out.trans p15)
              have NB15 := Lib.hid (NB14.out.grow p15)
              have NC15 := Lib.hid (ownB_nums oc bZ.out)
              clear oc p15 PU P14 NB14
              have hZ2 : 2 ≤ Z.length := ZL.out
              obtain ⟨cb, co, cc, rfl, z2, z3⟩ := nums_some NC15.out (by omega)
              obtain ⟨bb, bo, bk, eb, b2, b3⟩ := nums_some NB15.out (by omega)
              simp only [Value.slice.injEq, true_and] at eb
              obtain ⟨rfl, rfl⟩ := eb
              have CUT := nums_cut Z.length hZ NB15.out
              rw [TL.out] at CUT
              obtain ⟨SZ, hSZ⟩ : ∃ q, strOfNums Z = q := ⟨_, rfl⟩
              have HSZ := Lib.hid hSZ
              have N1 := Lib.hid NC15.out
              have N2 := Lib.hid CUT
              have dle : decide ((Z.length : Int) ≤ (bs.length : Int)) = true := decide_eq_true (by omega)
              have zle : Z.length ≤ k1 := by omega
              clear NC15 NB15 CUT TL hSZ NB
              go_upto_region 23 with fail
              refine wp_region_fill (fun w' => Hid (IsNums .u8 w' (.slice (some ⟨cb, co, none⟩) Z.length cc) Z) ∧ Hid (IsNums .u8 w' (.slice (some ⟨bb, bo, none⟩) Z.length k1) Z) ∧ Hid (Past W w')) [(139, ?vq139), (140, ?vq140), (141, ?vq141), (142, ?vq142), (143, ?vq143), (144, ?vq144), (145, ?vq145), (146, ?vq146), (147, ?vq147), (148, ?vq148), (149, ?vq149), (150, ?vq150), (151, ?vq151), (152, ?vq152), (153, ?vq153), (154, ?vq154), (155, ?vq155), (156, ?vq156), (157, ?vq157), (158, ?vq158), (6, ?vq6)] [139, 140, 141, 142, 143, 144, 145, 146, 147, 148, 149, 150, 151, 152, 153, 154, 155, 156, 157, 158, 6] (by kernel_rfl) (by kernel_rfl) rfl (by kernel_rfl) ⟨N1, N2, P15⟩ (fun w h => h) ?allq ?finq
              case allq =>
                simp only [fillA, Act.put, List.setIfInBounds_toArray, List.set_cons_zero, List.set_cons_succ]
                iterate 13 (refine owes_cons (fun w hw K hK => ?_) ?_; focus ((have hS := Lib.hid hw); go_simp; (try simp only [Act.put, List.setIfInBounds_toArray, List.set_cons_zero, List.set_cons_succ]); exact hK _ hS.out))
                (refine owes_cons (fun w hw K hK => ?_) ?_; focus ((have hS := Lib.hid hw); (have s1 := str_of_nums (hw.1.out)); (rw [HSZ.out] at s1); go_simp; (try simp only [Act.put, List.setIfInBounds_toArray, List.set_cons_zero, List.set_cons_succ]); exact hK _ hS.out))
                iterate 3 (refine owes_cons (fun w hw K hK => ?_) ?_; focus ((have hS := Lib.hid hw); go_simp; (try simp only [Act.put, List.setIfInBounds_toArray, List.set_cons_zero, List.set_cons_succ]); exact hK _ hS.out))
                (refine owes_cons (fun w hw K hK => ?_) ?_; focus ((have hS := Lib.hid hw); (have s1 := str_of_nums (hw.2.1.out)); (rw [HSZ.out] at s1); go_simp; (try simp only [Act.put, List.setIfInBounds_toArray, List.set_cons_zero, List.set_cons_succ]); exact hK _ hS.out))
                iterate 3 (refine owes_cons (fun w hw K hK => ?_) ?_; focus ((have hS := Lib.hid hw); go_simp; (try simp only [Act.put, List.setIfInBounds_toArray, List.set_cons_zero, List.set_cons_succ]); exact hK _ hS.out))
                exact True.intro
              case finq =>
                rintro w16 ⟨_, _, p16⟩
                simp only [fillA, Act.put, List.setIfInBounds_toArray, List.set_cons_zero, List.set_cons_succ]
                go_wp2_with fail
                go_ret
                exact ⟨rfl, p16.out⟩
end Go.Proofs.Ytlnlodbjkicgoaa
