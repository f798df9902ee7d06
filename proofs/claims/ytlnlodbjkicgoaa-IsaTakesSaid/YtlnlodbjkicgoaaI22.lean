/- The reference's Take. -/
import Derived.Test.YtlnlodbjkicgoaaI21
import Derived.Test.YtlnlodbjkicgoaaI17
namespace Go.Proofs.Ytlnlodbjkicgoaa
open Go.ChangeShapes Go.WideShapes Go.ChangeAt Go.RowKit
set_option maxRecDepth 20000
set_option linter.unusedVariables false
set_option linter.unusedSimpArgs false

theorem nums_some {w : World} {v : Value} {l : List Int} (h : IsNums .u8 w v l) (hp : 0 < l.length) : ∃ b off cap, v = .slice (some ⟨b, off, none⟩) l.length cap ∧ l.length ≤ cap ∧ cap ≤ maxLen := by
  obtain ⟨A, cap, rfl, h2, h3, h4, h5, h6⟩ := h
  obtain ⟨b, off, rfl, _⟩ := h6 hp
  exact ⟨b, off, cap, rfl, h2, h3⟩
theorem nums_cutf {w : World} {A : Option Addr} {len cap : Nat} {l : List Int} (m : Nat) (hm : m ≤ l.length) (h : IsNums .u8 w (.slice A len cap) l) : IsNums .u8 w (.slice A m cap) (l.take m) := nums_cut m hm h
/-- Behind a command: what is left. -/
theorem oneT_cons {k : Int} {u : List Int} : oneT (k :: u) = if kindP k ∧ restW k ≤ u.length ∧ mayD (cmdT k u) then some (cmdT k u, u.drop (restW k)) else none := rfl
theorem readF_take (fs : List Fld) (c t : List Int) (n : Nat) (h : (fs.map (·.wide)).sum ≤ n) : readF fs c (t.take n) = readF fs c t := by
  induction fs generalizing c t n with
  | nil => rfl
  | cons f fs ih =>
    simp only [List.map_cons, List.sum_cons] at h
    unfold readF
    have e1 : (t.take n).take f.wide = t.take f.wide := by rw [List.take_take, Nat.min_eq_left (by omega)]
    have e2 : (t.take n).drop f.wide = (t.drop f.wide).take (n - f.wide) := by rw [List.drop_take]
    rw [e1, e2, ih _ _ _ (by omega)]
theorem cmdT_take (k : Int) (u : List Int) : cmdT k (u.take (restW k)) = cmdT k u := readF_take _ _ _ _ (Nat.le_refl _)

def RTakePost (b : List Int) (W : World) (e : Ending) (w' : World) : Prop := ∃ v, e = .returned (.tuple #[v, .int .i64 (takeN b : Int), .int .i64 (takeE b)]) ∧ IsCmds w' v (takeL b) ∧ Past W w'
theorem cmds_nil (w : World) : IsCmds w (.slice none 0 0) [] := (OwnC.nil w 0).cmds

set_option maxHeartbeats 1000000 in
theorem rTake_any (v : Value) (b : List Int) (W : World) (h : IsNums .u8 W v b) (hlen : b.length ≤ 100000) : Calls Try.prog 18 #[v] W (RTakePost b W) := by
  have HB := Lib.hid h
  have hBP : bytesP b := by
    obtain ⟨_, _, _, hB⟩ := nums_bytes h
    exact hB.bytesP
  have BP := Lib.hid hBP
  by_cases h2 : b.length < 2
  · obtain ⟨A, cap, rfl, b2, b3, b4⟩ := nums_form h
    have T := Lib.hid (take_none (b := b) (by unfold takeD; rw [if_pos (.inl h2)]))
    clear h b4 hBP
    go_enter Try.func18, Try.ntmps18
    go_wp2_with fail
    refine bodyPost_ret (v := .tuple #[.slice none 0 0, .int .i64 0, .int .i64 2]) (by simp [results, Try.results18, go_sem]) rfl ⟨_, by rw [T.out.2.1, T.out.2.2]; rfl, by rw [T.out.1]; exact cmds_nil _, Past.refl _⟩
  · obtain ⟨bb, bo, cap, rfl, b2, b3⟩ := nums_some h (by omega)
    have RA := Lib.hid (fun (k wd : Nat) w h hk hw => rat_any bb bo cap k wd b w h hk hw hlen)
    have hb2 : bytesP (b.take 2) := fun c hc => BP.out c (List.mem_of_mem_take hc)
    have h4 := (foldB_bd hb2).1
    obtain ⟨N, hN⟩ : ∃ N : Nat, foldB (b.take 2) = (N : Int) := ⟨(foldB (b.take 2)).toNat, by omega⟩
    have R0 := Lib.hid (fun w h => RA.out 0 2 w h (by omega) (by omega))
    rw [List.drop_zero, hN] at R0
    by_cases h5 : 4096 < N
    · have T := Lib.hid (take_none (b := b) (by unfold takeD; rw [if_pos (.inr (by rw [hN]; omega))]))
      have d5 : decide (((N : Nat) : Int) > 4096) = true := decide_eq_true (by omega)
      clear h hBP hN h4 hb2
      go_enter Try.func18, Try.ntmps18
      go_wp2_with fail
      refine (R0.out W HB.out).mono ?_
      rintro e wx ⟨rfl, rfl⟩
      go_wp2_with fail
      refine bodyPost_ret (v := .tuple #[.slice none 0 0, .int .i64 0, .int .i64 2]) (by simp [results, Try.results18, go_sem]) rfl ⟨_, by rw [T.out.2.1, T.out.2.2]; rfl, by rw [T.out.1]; exact cmds_nil _, Past.refl _⟩
    · have TD : Hid (takeGo N [] (b.drop 2) = takeD b) := Lib.hid (by unfold takeD; rw [if_neg (by rw [hN]; omega), hN, Int.toNat_natCast])
      obtain ⟨R, hR⟩ : ∃ R, takeD b = R := ⟨_, rfl⟩
      have HR := Lib.hid hR
      rw [hR] at TD
      have d5 : decide (((N : Nat) : Int) > 4096) = false := decide_eq_false (by omega)
      clear h hBP hN h4 hb2 hR
      go_enter Try.func18, Try.ntmps18
      go_wp2_with fail
      refine (R0.out W HB.out).mono ?_
      rintro e wx ⟨rfl, rfl⟩
      go_wp2_with fail
      go_loopw [2, 3, 4, 5, 6, 7] (fun s2 s3 s4 v k i wr => ∃ n kk : Nat, n ≤ N ∧ kk ≤ b.length ∧ i = .int .i64 n ∧ k = .int .i64 kk ∧ s2 = .slice none 0 0 ∧ s3 = .int .i64 0 ∧ s4 = .int .i64 0 ∧ Hid (∃ acc, acc.length = n ∧ OwnC wr W.heap.size v acc ∧ takeGo (N - n) acc (b.drop kk) = R ∧ Past W wr)) (fun _ _ _ _ _ i _ => N - (intOf i).toNat)
      case atStart => exact ⟨0, 2, by omega, by omega, rfl, rfl, rfl, rfl, rfl, Lib.hid ⟨[], rfl, ownC_lit W, TD.out, (Past.refl W).alloc _⟩⟩
      case round =>
        obtain ⟨n, kk, hnl, hkk, rfl, rfl, rfl, rfl, rfl, RE⟩ := hrel
        obtain ⟨acc, ha, ho, hg, hp⟩ := RE.out
        have OC := Lib.hid ho
        have HG := Lib.hid hg
        have HP := Lib.hid hp
        have HA := Lib.hid ha
        have B0 := Lib.hid (HB.out.grow hp)
        clear ho hg hp ha RE TD
        go_wp2_with fail
        refine (R0.out wr B0.out).mono ?_
        rintro e wx ⟨rfl, rfl⟩
        by_cases h : n < N
        · have e1 : N - n = (N - (n + 1)) + 1 := by omega
          rw [e1] at HG
          clear e1
          by_cases hk2 : kk < b.length
          · have hd : b.drop kk = b[kk] :: b.drop (kk + 1) := List.drop_eq_getElem_cons hk2
            have hcell : wr.cell? ⟨bb, bo + kk, none⟩ = some (.int .u8 b[kk]) := by
              obtain ⟨_, _, e, _, _, _, _, q6⟩ := B0.out
              simp only [Value.slice.injEq, true_and] at e
              obtain ⟨b1, o1, e1, _, qc⟩ := q6 (by omega)
              rw [← e.1] at e1
              simp only [Option.some.injEq, Addr.mk.injEq, and_true] at e1
              rw [e1.1, e1.2, qc kk hk2]
              simp [List.getD, hk2]
            have hkb := BP.out b[kk] (List.getElem_mem hk2)
            have hul : (b.drop (kk + 1)).length = b.length - (kk + 1) := List.length_drop
            obtain ⟨k0, ek⟩ : ∃ k0, b[kk] = k0 := ⟨_, rfl⟩
            rw [ek] at hd hcell hkb
            obtain ⟨u, eu⟩ : ∃ u, b.drop (kk + 1) = u := ⟨_, rfl⟩
            rw [eu] at hd hul
            rw [hd] at HG
            have HD := Lib.hid hd
            have HUL := Lib.hid hul
            have RW := Lib.hid (fun w => rwide_any k0 hkb.1 hkb.2 w)
            have g1 : decide ((b.length : Int) ≤ (kk : Int)) = false := decide_eq_false (by omega)
            by_cases hkd : kindP k0
            · have ew : wideD k0 = 1 + restW k0 := if_pos hkd
              have hrw := restW_le k0
              obtain ⟨rw', erw⟩ : ∃ q, restW k0 = q := ⟨_, rfl⟩
              rw [erw] at hrw ew
              obtain ⟨nw, enw⟩ : ∃ q, 1 + rw' = q := ⟨_, rfl⟩
              rw [ew, enw] at RW
              have KD := Lib.hid hkd
              have ERW := Lib.hid erw
              have ENW := Lib.hid enw
              have hnw : nw ≤ 20 := by omega
              have hnw1 : 1 ≤ nw := by omega
              have g3 : ((nw : Int) == 0) = false := by simp; omega
              clear ew hkd hkb hd hul ek eu erw
              by_cases hlong : rw' ≤ u.length
              · have hfit : kk + nw ≤ b.length := by have := HUL.out; omega
                have g2 : decide ((b.length : Int) < (kk : Int) + (nw : Int)) = false := decide_eq_false (by omega)
                have BC : Hid (IsNums .u8 wr (.slice (some ⟨bb, bo + kk, none⟩) (k0 :: u.take rw').length (cap - kk)) (k0 :: u.take rw')) := Lib.hid (by
                  have q := nums_cut nw (by rw [List.length_drop]; omega) (nums_drop B0.out hk2)
                  rw [HD.out, show nw = rw' + 1 by omega, List.take_succ_cons] at q
                  have e : (k0 :: u.take rw').length = rw' + 1 := by rw [List.length_cons, List.length_take]; omega
                  rw [e]; exact q)
                have hlt : (u.take rw').length = restW k0 := by rw [List.length_take, ERW.out]; omega
                have TK := Lib.hid (rtake_any bb (bo + kk) (cap - kk) k0 (u.take rw') wr KD.out hlt BC.out)
                have ec : cmdT k0 (u.take rw') = cmdT k0 u := by rw [← ERW.out]; exact cmdT_take k0 u
                unfold TkPost at TK
                have el : (k0 :: u.take rw').length = nw := by rw [List.length_cons, List.length_take]; omega
                rw [ec, el] at TK
                have hone : oneT (k0 :: u) = if mayD (cmdT k0 u) then some (cmdT k0 u, u.drop rw') else none := by
                  rw [oneT_cons, ERW.out]
                  by_cases q : mayD (cmdT k0 u)
                  · rw [if_pos ⟨KD.out, hlong, q⟩, if_pos q]
                  · rw [if_neg (fun h => q h.2.2), if_neg q]
                have hl14 := cmdT_len k0 u
                have hdr : b.drop (kk + nw) = u.drop rw' := by
                  have : b.drop (kk + nw) = (b.drop kk).drop nw := by rw [List.drop_drop]
                  rw [this, HD.out, show nw = rw' + 1 by omega, List.drop_succ_cons]
                obtain ⟨c, hc⟩ : ∃ c, cmdT k0 u = c := ⟨_, rfl⟩
                rw [hc] at TK hone hl14
                have H1 := Lib.hid hone
                have L14 := Lib.hid hl14
                have HDR := Lib.hid hdr
                clear hone hl14 hdr hc ec el hlt hlong enw hrw
                go_wp2_with fail
                refine (RW.out wr).mono ?_
                rintro e wx ⟨rfl, rfl⟩
                go_wp2_with fail
                refine (RW.out wr).mono ?_
                rintro e wx ⟨rfl, rfl⟩
                go_wp2_with fail
                refine (RW.out wr).mono ?_
                rintro e wx ⟨rfl, rfl⟩
                go_upto_region 11 with fail
                go_wp2_with fail
                refine TK.out.mono ?_
                rintro e w3 ⟨rfl, p3⟩
                have Q3 : Hid (OwnC w3 W.heap.size u5 acc ∧ Past W w3) := Lib.hid ⟨OC.out.past p3, HP.out.trans p3⟩
                clear p3 OC HP TK B0 BC
                go_upto_region 12 with ((refine wpList_new_cmd 9 ?h1 ?h2 ?h3 ?h4 (.tmp 60) ?h5 ?h6 (c) L14.out ?h8 ?h9 ?_); (case h1 => rfl); (case h2 => rfl); (case h3 => rfl); (case h4 => rfl); (case h5 => rfl); (case h6 => rfl); (case h8 => rfl); (case h9 => rfl); rintro w4 p4 b4 f4 z4)
                obtain ⟨B, hB⟩ : ∃ B, w3.heap.size = B := ⟨_, rfl⟩
                rw [hB] at b4 f4 z4
                try simp only [hB]
                have Q4 : Hid (OwnC w4 W.heap.size u5 acc ∧ Past W w4) := Lib.hid ⟨Q3.out.1.past p4, Q3.out.2.trans p4⟩
                have B4 := Lib.hid b4
                clear Q3 p4 f4 b4 hB
                have MA := Lib.hid (fun w => rmay_any c L14.out w)
                by_cases hmd : mayD c
                · rw [mayE_ok.2 hmd] at MA
                  have hg := HG.out
                  have ho1 := H1.out
                  rw [if_pos hmd] at ho1
                  rw [takeGo_next ho1, ← HDR.out] at hg
                  have G := Lib.hid hg
                  have WC := Lib.hid (wfC_ok ⟨L14.out, hmd⟩)
                  clear H1 HG hg ho1 hmd HDR
                  go_wp2_with (refine wpList_load_cmdg rfl (.tmp 9) rfl _ rfl c L14.out B4.out ?_)
                  refine (MA.out w4).mono ?_
                  rintro e w5 ⟨rfl, p5⟩
                  have Q5 : Hid (OwnC w5 W.heap.size u5 acc ∧ Past W w5) := Lib.hid ⟨Q4.out.1.past p5, Q4.out.2.trans p5⟩
                  have B5 := Lib.hid (box_past p5 B4.out z4)
                  clear Q4 B4 p5 z4 MA
                  go_wp2_with (first | refine wpList_load_cmd rfl (.tmp 9) rfl _ rfl c L14.out B5.out ?_ | refine wpList_lit_cmd rfl (.tmp 65) rfl c L14.out rfl ?_ | (at_builtin; refine wpList_append_cmd rfl (.tmp 64) (.tmp 66) rfl W.heap.size u5 acc rfl (Q5.out.1.alloc _) ⟨w5.heap.size, 0, none⟩ c rfl WC.out (fun j u hu => cells_cmd w5 c j u hu) (by have := HA.out; omega) (by have := Q5.out.2.2.2.1; simp; omega) ?_))
                  intro v6 w6 o6 g6
                  have Q6 : Hid (OwnC w6 W.heap.size v6 (acc ++ [c]) ∧ Past W w6) := Lib.hid ⟨o6, (Q5.out.2.alloc _).grownBy g6 (fun k hk => Q5.out.1.lt hk)⟩
                  clear Q5 B5 o6 g6
                  go_wp2_with fail
                  go_roundw
                  case rel => exact ⟨n + 1, kk + nw, by omega, hfit, by go_num, by go_num, rfl, rfl, rfl, Lib.hid ⟨acc ++ [c], by rw [List.length_append, HA.out]; rfl, Q6.out.1, G.out, Q6.out.2⟩⟩
                  case measure => simp [intOf]; omega
                · have e1 : mayE c = 1 := by unfold mayE; rw [if_neg hmd]
                  rw [e1] at MA
                  have ho1 := H1.out
                  rw [if_neg hmd] at ho1
                  have T := Lib.hid (take_none (b := b) (by rw [HR.out, ← HG.out]; exact takeGo_fail ho1))
                  clear H1 HG ho1 hmd HDR e1
                  go_wp2_with (refine wpList_load_cmdg rfl (.tmp 9) rfl _ rfl c L14.out B4.out ?_)
                  refine (MA.out w4).mono ?_
                  rintro e w5 ⟨rfl, p5⟩
                  have P5 := Lib.hid (Q4.out.2.trans p5)
                  clear Q4 B4 p5 z4 MA
                  go_wp2_with fail
                  refine bodyPost_ret (v := .tuple #[.slice none 0 0, .int .i64 0, .int .i64 2]) (by simp [results, Try.results18, go_sem]) rfl ⟨_, by rw [T.out.2.1, T.out.2.2]; rfl, by rw [T.out.1]; exact cmds_nil _, P5.out⟩
              · have g2 : decide ((b.length : Int) < (kk : Int) + (nw : Int)) = true := decide_eq_true (by have := HUL.out; omega)
                have T := Lib.hid (take_none (b := b) (by rw [HR.out, ← HG.out]; exact takeGo_fail (by rw [oneT_cons, ERW.out, if_neg (fun h => hlong h.2.1)])))
                clear hlong enw hrw
                go_wp2_with fail
                refine (RW.out wr).mono ?_
                rintro e wx ⟨rfl, rfl⟩
                go_wp2_with fail
                refine (RW.out wr).mono ?_
                rintro e wx ⟨rfl, rfl⟩
                go_wp2_with fail
                refine bodyPost_ret (v := .tuple #[.slice none 0 0, .int .i64 0, .int .i64 2]) (by simp [results, Try.results18, go_sem]) rfl ⟨_, by rw [T.out.2.1, T.out.2.2]; rfl, by rw [T.out.1]; exact cmds_nil _, HP.out⟩
            · have ew : wideD k0 = 0 := if_neg hkd
              have ez : ((0 : Nat) : Int) = 0 := rfl
              rw [ew, ez] at RW
              have T := Lib.hid (take_none (b := b) (by rw [HR.out, ← HG.out]; exact takeGo_fail (by rw [oneT_cons, if_neg (fun h => hkd h.1)])))
              clear ew ez hkd hkb hd hul ek eu
              go_wp2_with fail
              refine (RW.out wr).mono ?_
              rintro e wx ⟨rfl, rfl⟩
              go_wp2_with fail
              refine bodyPost_ret (v := .tuple #[.slice none 0 0, .int .i64 0, .int .i64 2]) (by simp [results, Try.results18, go_sem]) rfl ⟨_, by rw [T.out.2.1, T.out.2.2]; rfl, by rw [T.out.1]; exact cmds_nil _, HP.out⟩
          · have hd : b.drop kk = [] := List.drop_eq_nil_of_le (by omega)
            rw [hd] at HG
            have T := Lib.hid (take_none (b := b) (by rw [HR.out, ← HG.out]; exact takeGo_fail rfl))
            have g1 : decide ((b.length : Int) ≤ (kk : Int)) = true := decide_eq_true (by omega)
            clear hd
            go_wp2_with fail
            refine bodyPost_ret (v := .tuple #[.slice none 0 0, .int .i64 0, .int .i64 2]) (by simp [results, Try.results18, go_sem]) rfl ⟨_, by rw [T.out.2.1, T.out.2.2]; rfl, by rw [T.out.1]; exact cmds_nil _, HP.out⟩
        · have e1 : N - n = 0 := by omega
          have hg := HG.out
          rw [e1] at hg
          simp only [takeGo] at hg
          have T := Lib.hid (take_some (b := b) (l := acc) (r := b.drop kk) (by rw [HR.out, hg]))
          have hkn : b.length - (b.drop kk).length = kk := by rw [List.length_drop]; omega
          rw [hkn] at T
          clear hg e1 hkn
          go_wp2_with fail
          refine bodyPost_ret (v := .tuple #[u5, .int .i64 (kk : Int), .int .i64 0]) (by simp [results, Try.results18, go_sem]) rfl ⟨_, by rw [T.out.2.1, T.out.2.2], by rw [T.out.1]; exact OC.out.cmds, HP.out⟩
end Go.Proofs.Ytlnlodbjkicgoaa
