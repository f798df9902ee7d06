/- slices.Equal of commands. Same: two images. -/
import Derived.Deep.DeepCutAuto
import Derived.Test.YtejllmjkeefloaaKL0
import Derived.Test.YtejllmjkeefloaaKA0
import Derived.Test.YtejllmjkeefloaaKFixP
import Derived.Test.YtejllmjkeefloaaKE7
namespace Go.Proofs.Ytejllmjkeefloaa.Q8
open Go.ChangeShapes Go.WideShapes Go.ChangeAt Go.RowKit
set_option maxRecDepth 20000
set_option linter.unusedVariables false
set_option linter.unusedSimpArgs false
set_option maxHeartbeats 1000000 in
theorem equal_cmds (u v : Value) (l m : List (List Int)) (W : World) (hu : IsCmds W u l) (hv : IsCmds W v m) : Calls Try.prog 34 #[u, v] W fun e w' => e = .returned (.bool (decide (l = m))) ∧ Past W w' := by
  have HU := Lib.hid hu
  have HV := Lib.hid hv
  obtain ⟨A, ca, rfl, a2, a3, _⟩ := hu.form
  obtain ⟨B, cb, rfl, b2, b3, _⟩ := hv.form
  have WL := Lib.hid hu.wf
  have WM := Lib.hid hv.wf
  have hm1 : l.length ≤ 9223372036854775807 := by unfold maxLen at a3; omega
  have hm2 : m.length ≤ 9223372036854775807 := by unfold maxLen at b3; omega
  clear hu hv
  by_cases hlen : l.length = m.length
  · obtain ⟨L, hL⟩ : ∃ L, l.length = L := ⟨_, rfl⟩
    have hM : m.length = L := by omega
    rw [hL] at hlen HU a2 hm1
    rw [hM] at HV b2
    obtain ⟨d, hd⟩ : ∃ d, decide (l = m) = d := ⟨_, rfl⟩
    rw [hL, hM, hd]
    have HD := Lib.hid hd
    have HL := Lib.hid hL
    have HM := Lib.hid hM
    clear hlen hL hM hd hm2
    go_enter Try.func34, Try.ntmps34
    go_wp2_with fail
    go_loopw [4, 5, 13] (fun s _ i wr => ∃ n : Nat, n ≤ L ∧ i = .int .i64 n ∧ s = .bool false ∧ Hid (l.take n = m.take n) ∧ Hid (Past W wr)) (fun _ _ i _ => L - (intOf i).toNat)
    case atStart => exact ⟨0, by omega, rfl, rfl, Lib.hid rfl, Lib.hid (Past.refl W)⟩
    case round =>
      obtain ⟨n, hnl, rfl, rfl, heq, hp⟩ := hrel
      by_cases h : n < L
      · obtain ⟨ba, oa, rfl, hba, ra⟩ := (HU.out.grow hp.out).at n (by rw [HL.out]; omega)
        obtain ⟨bb, ob, rfl, hbb, rb⟩ := (HV.out.grow hp.out).at n (by rw [HM.out]; omega)
        have wl := wfC_at WL.out (i := n) (by rw [HL.out]; omega)
        have wm := wfC_at WM.out (i := n) (by rw [HM.out]; omega)
        have nx : l.getD n [] = m.getD n [] → l.take (n + 1) = m.take (n + 1) := fun e => take_eq_next heq.out (by rw [HL.out]; omega) (by rw [HM.out]; omega) e
        have no : l.getD n [] ≠ m.getD n [] → d = false := fun e => by rw [← HD.out]; exact decide_eq_false (fun q => e (by rw [q]))
        obtain ⟨c, hc⟩ : ∃ c, l.getD n [] = c := ⟨_, rfl⟩
        obtain ⟨e, he⟩ : ∃ e, m.getD n [] = e := ⟨_, rfl⟩
        rw [hc] at ra wl nx no
        rw [he] at rb wm nx no
        have RA := Lib.hid ra
        have RB := Lib.hid rb
        have LC := Lib.hid wl.1
        have LE := Lib.hid wm.1
        have NX := Lib.hid nx
        have NO := Lib.hid no
        clear ra rb wl wm nx no hc he hba hbb
        go_upto_region 6 with fail
        refine wp_region_fill (fun w' => Hid (w'.rangeAt ba (oa + n * 14) (cellC c)) ∧ Hid (w'.rangeAt bb (ob + n * 14) (cellC e)) ∧ Hid (Past W w')) [(16, ?v17), (17, ?v18), (18, ?v19), (19, ?v20), (20, ?v21), (21, ?v22), (22, ?v23), (23, ?v24), (24, ?v25)] [16, 17, 18, 19, 20, 21, 22, 23, 24] (by kernel_rfl) (by kernel_rfl) rfl (by kernel_rfl) ⟨RA, RB, hp⟩ (fun w h => h) ?all ?fin
        case all =>
          simp only [fillA, Act.put, List.setIfInBounds_toArray, List.set_cons_zero, List.set_cons_succ]
          iterate 3 (refine owes_cons (fun w hw K hK => ?_) ?_; focus ((have hS := Lib.hid hw); go_simp; (try simp only [Act.put, List.setIfInBounds_toArray, List.set_cons_zero, List.set_cons_succ]); exact hK _ hS.out))
          refine owes_row rfl (.tmp 18) rfl ba (oa + n * 14) rfl c LC.out (fun w h => h.1.out) (by simp only [Act.put, List.setIfInBounds_toArray, List.set_cons_zero, List.set_cons_succ] <;> rfl) ?_
          iterate 3 (refine owes_cons (fun w hw K hK => ?_) ?_; focus ((have hS := Lib.hid hw); go_simp; (try simp only [Act.put, List.setIfInBounds_toArray, List.set_cons_zero, List.set_cons_succ]); exact hK _ hS.out))
          refine owes_row rfl (.tmp 22) rfl bb (ob + n * 14) rfl e LE.out (fun w h => h.2.1.out) (by simp only [Act.put, List.setIfInBounds_toArray, List.set_cons_zero, List.set_cons_succ] <;> rfl) ?_
          refine owes_neqC rfl (.tmp 19) (.tmp 23) 51 rfl c e LC.out LE.out rfl rfl (by simp only [Act.put, List.setIfInBounds_toArray, List.set_cons_zero, List.set_cons_succ] <;> rfl) ?_
          exact True.intro
        case fin =>
          rintro w8 ⟨_, _, p8⟩
          simp only [fillA, Act.put, List.setIfInBounds_toArray, List.set_cons_zero, List.set_cons_succ]
          by_cases q : c = e
          · have d1 : (!decide (c = e)) = false := by simp [q]
            have NX2 := Lib.hid (NX.out q)
            rw [d1]
            clear d1 q NX NO
            go_wp2_with fail
            go_roundw
            case rel => exact ⟨n + 1, by omega, by go_num, rfl, NX2, p8⟩
            case measure => simp [intOf]; omega
          · have d1 : (!decide (c = e)) = true := by simp [q]
            have ED := Lib.hid (NO.out q)
            rw [d1]
            clear d1 q NX NO
            go_wp2_with fail
            go_ret
            exact ⟨by rw [ED.out]; rfl, p8.out⟩
      · have e1 : l = m := by
          have q := heq.out
          rw [List.take_of_length_le (by rw [HL.out]; omega), List.take_of_length_le (by rw [HM.out]; omega)] at q
          exact q
        have ED : Hid (d = true) := Lib.hid (by rw [← HD.out]; exact decide_eq_true e1)
        clear e1 heq
        go_wp2_with fail
        go_ret
        exact ⟨by rw [ED.out]; rfl, hp.out⟩
  · have d1 : decide (l = m) = false := decide_eq_false (fun e => hlen (by rw [e]))
    have d2 : ((l.length : Int) != (m.length : Int)) = true := by simp; omega
    rw [d1]
    clear d1 hlen
    go_enter Try.func34, Try.ntmps34
    go_wp2_with fail
    go_ret
    exact ⟨rfl, Past.refl _⟩
end Go.Proofs.Ytejllmjkeefloaa.Q8
namespace Go.Proofs.Ytejllmjkeefloaa
open Go.ChangeShapes Go.WideShapes Go.ChangeAt Go.RowKit
set_option maxRecDepth 20000
set_option linter.unusedVariables false
set_option linter.unusedSimpArgs false

theorem img_ext (a b : ImgD) : a = b ↔ a.g = b.g ∧ a.pl = b.pl ∧ a.s0 = b.s0 ∧ a.s1 = b.s1 ∧ a.s2 = b.s2 := by
  cases a
  cases b
  simp only [ImgD.mk.injEq]
set_option maxHeartbeats 4000000 in
theorem sameI_any (a b : ImgD) (va vb : Value) (t : Bool) (W : World) (ha : IsImg W va a) (hb : IsImg W vb b) (ht : t = true ↔ a = b) : Calls Try.prog 16 #[va, vb] W fun e w' => e = .returned (.bool t) ∧ Past W w' := by
  obtain ⟨A1, c1, A2, c2, A3, c3, A4, c4, A5, c5, A6, c6, A7, c7, rfl, hga, hpa, ha0, ha1, ha2⟩ := ha.form
  obtain ⟨B1, d1, B2, d2, B3, d3, B4, d4, B5, d5, B6, d6, B7, d7, rfl, hgb, hpb, hb0, hb1, hb2⟩ := hb.form
  have HA0 := Lib.hid ha0
  have HA1 := Lib.hid ha1
  have HA2 := Lib.hid ha2
  have HB0 := Lib.hid hb0
  have HB1 := Lib.hid hb1
  have HB2 := Lib.hid hb2
  have GA := Lib.hid hga
  have GB := Lib.hid hgb
  have PA := Lib.hid hpa
  have PB := Lib.hid hpb
  have HT := Lib.hid ht
  clear ha hb hga hgb hpa hpb ha0 ha1 ha2 hb0 hb1 hb2 ht
  go_enter Try.func16, Try.ntmps16
  go_upto_region 1 with fail
  obtain ⟨Q, hQ⟩ : ∃ Q, W.heap.size = Q := ⟨_, rfl⟩
  refine opq (fun w' => (∀ o : Nat, w'.cell? ⟨Q, o, none⟩ = (#[.slice A1 a.g.ins.length c1, .slice A2 a.g.nodes.length c2, .slice A3 a.g.outs.length c3, .slice A4 a.pl.length c4, .slice A5 a.s0.length c5, .slice A6 a.s1.length c6, .slice A7 a.s2.length c7] : Array Value)[o]?) ∧ (∀ o : Nat, w'.cell? ⟨Q + 1, o, none⟩ = (#[.slice B1 b.g.ins.length d1, .slice B2 b.g.nodes.length d2, .slice B3 b.g.outs.length d3, .slice B4 b.pl.length d4, .slice B5 b.s0.length d5, .slice B6 b.s1.length d6, .slice B7 b.s2.length d7] : Array Value)[o]?) ∧ Past W w' ∧ Q + 2 ≤ w'.heap.size) (by
    subst hQ
    exact ⟨by (exact kKeep), by (exact kKeep), by (exact kKeep), by simp⟩) ?_
  rintro w2 ⟨qa2, qb2, p2, s2⟩
  try rw [hQ]
  try simp only [World.size_alloc, hQ]
  go_wp2_with fail
  go_loopw [4, 5, 6, 9] (fun s _ _ j wr => s = .bool false ∧ ((j = .int .i64 0 ∧ Past w2 wr) ∨ (j = .int .i64 1 ∧ Hid (a.s0 = b.s0) ∧ Past w2 wr) ∨ (j = .int .i64 2 ∧ Hid (a.s0 = b.s0 ∧ a.s1 = b.s1) ∧ Past w2 wr) ∨ (j = .int .i64 3 ∧ Hid (a.s0 = b.s0 ∧ a.s1 = b.s1 ∧ a.s2 = b.s2) ∧ Past w2 wr))) (fun _ _ _ j _ => 3 - (intOf j).toNat)
  case atStart => exact ⟨rfl, .inl ⟨rfl, Past.refl _⟩⟩
  case round =>
    obtain ⟨rfl, H⟩ := hrel
    rcases H with ⟨rfl, hp⟩ | ⟨rfl, SE, hp⟩ | ⟨rfl, SE, hp⟩ | ⟨rfl, SE, hp⟩
    all_goals
      have qa := box_past hp qa2 (by omega)
      have qb := box_past hp qb2 (by omega)
      have pr := p2.trans hp
      have sr : Q + 2 ≤ wr.heap.size := by have := hp.2.2.1; omega
      have ix0 := idx3_0 (.slice A5 a.s0.length c5) (.slice A6 a.s1.length c6) (.slice A7 a.s2.length c7)
      have ix1 := idx3_1 (.slice A5 a.s0.length c5) (.slice A6 a.s1.length c6) (.slice A7 a.s2.length c7)
      have ix2 := idx3_2 (.slice A5 a.s0.length c5) (.slice A6 a.s1.length c6) (.slice A7 a.s2.length c7)
    · have EC := Lib.hid (Q8.equal_cmds _ _ a.s0 b.s0 wr (HA0.out.grow pr) (HB0.out.grow pr))
      obtain ⟨d, hd⟩ : ∃ d, decide (a.s0 = b.s0) = d := ⟨_, rfl⟩
      rw [hd] at EC
      have HD := Lib.hid hd
      clear hd
      go_wp2_with fail
      refine EC.out.mono ?_
      rintro e w3 ⟨rfl, pp3⟩
      have p3 := hp.trans pp3
      clear qa qb EC pp3 pr
      cases d with
      | false =>
        have F : Hid (t = false) := Lib.hid (by
          cases q : t with
          | false => rfl
          | true => exact absurd ((img_ext a b).1 (HT.out.1 q)).2.2.1 (of_decide_eq_false HD.out))
        go_wp2_with fail
        go_ret
        exact ⟨by rw [F.out]; rfl, p2.trans p3⟩
      | true =>
        have E := Lib.hid (of_decide_eq_true HD.out)
        clear HD
        go_wp2_with fail
        go_roundw
        case rel => exact ⟨rfl, .inr (.inl ⟨rfl, Lib.hid E.out, p3⟩)⟩
        case measure => simp [intOf]
    · have EC := Lib.hid (Q8.equal_cmds _ _ a.s1 b.s1 wr (HA1.out.grow pr) (HB1.out.grow pr))
      obtain ⟨d, hd⟩ : ∃ d, decide (a.s1 = b.s1) = d := ⟨_, rfl⟩
      rw [hd] at EC
      have HD := Lib.hid hd
      clear hd
      go_wp2_with fail
      refine EC.out.mono ?_
      rintro e w3 ⟨rfl, pp3⟩
      have p3 := hp.trans pp3
      clear qa qb EC pp3 pr
      cases d with
      | false =>
        have F : Hid (t = false) := Lib.hid (by
          cases q : t with
          | false => rfl
          | true => exact absurd ((img_ext a b).1 (HT.out.1 q)).2.2.2.1 (of_decide_eq_false HD.out))
        go_wp2_with fail
        go_ret
        exact ⟨by rw [F.out]; rfl, p2.trans p3⟩
      | true =>
        have E := Lib.hid (of_decide_eq_true HD.out)
        clear HD
        go_wp2_with fail
        go_roundw
        case rel => exact ⟨rfl, .inr (.inr (.inl ⟨rfl, Lib.hid ⟨SE.out, E.out⟩, p3⟩))⟩
        case measure => simp [intOf]
    · have EC := Lib.hid (Q8.equal_cmds _ _ a.s2 b.s2 wr (HA2.out.grow pr) (HB2.out.grow pr))
      obtain ⟨d, hd⟩ : ∃ d, decide (a.s2 = b.s2) = d := ⟨_, rfl⟩
      rw [hd] at EC
      have HD := Lib.hid hd
      clear hd
      go_wp2_with fail
      refine EC.out.mono ?_
      rintro e w3 ⟨rfl, pp3⟩
      have p3 := hp.trans pp3
      clear qa qb EC pp3 pr
      cases d with
      | false =>
        have F : Hid (t = false) := Lib.hid (by
          cases q : t with
          | false => rfl
          | true => exact absurd ((img_ext a b).1 (HT.out.1 q)).2.2.2.2 (of_decide_eq_false HD.out))
        go_wp2_with fail
        go_ret
        exact ⟨by rw [F.out]; rfl, p2.trans p3⟩
      | true =>
        have E := Lib.hid (of_decide_eq_true HD.out)
        clear HD
        go_wp2_with fail
        go_roundw
        case rel => exact ⟨rfl, .inr (.inr (.inr ⟨rfl, Lib.hid ⟨SE.out.1, SE.out.2, E.out⟩, p3⟩))⟩
        case measure => simp [intOf]
    · obtain ⟨tg, htg⟩ := bool_any (a.g = b.g)
      obtain ⟨tp, htp⟩ := bool_any (a.pl = b.pl)
      have SG := Lib.hid (same_any same_node_ok a.g b.g _ _ tg wr (GA.out.grow pr) (GB.out.grow pr) htg)
      have SP := Lib.hid (fun w (p : Past wr w) => equal_ints w _ _ a.pl b.pl tp ((PA.out.grow pr).grow p) ((PB.out.grow pr).grow p) (Lib.hid htp))
      have HG := Lib.hid htg
      have HP := Lib.hid htp
      clear htg htp
      go_wp2_with fail
      refine SG.out.mono ?_
      rintro e w3 ⟨rfl, g3⟩
      have pp3 := Grown.past g3
      have qa3 := box_past pp3 qa (by omega)
      have qb3 := box_past pp3 qb (by omega)
      have p3 := pr.trans pp3
      clear qa qb SG g3 pr
      cases tg with
      | false =>
        have F : Hid (t = false) := Lib.hid (by
          cases q : t with
          | false => rfl
          | true =>
            have e := ((img_ext a b).1 (HT.out.1 q)).1
            have := HG.out.2 e
            cases this)
        go_wp2_with fail
        go_ret
        exact ⟨by rw [F.out]; rfl, p3⟩
      | true =>
        have F : Hid (t = tp) := Lib.hid (by
          have e := HG.out.1 rfl
          cases q : tp with
          | false =>
            cases q2 : t with
            | false => rfl
            | true =>
              have k := HP.out.2 ((img_ext a b).1 (HT.out.1 q2)).2.1
              rw [q] at k; cases k
          | true => exact HT.out.2 ((img_ext a b).2 ⟨e, HP.out.1 q, SE.out.1, SE.out.2.1, SE.out.2.2⟩))
        go_wp2_with fail
        refine (SP.out _ pp3).mono ?_
        rintro e w4 ⟨rfl, g4⟩
        have p4 := p3.trans (Grown.past g4)
        clear qa3 qb3 SP g4
        go_wp2_with fail
        go_ret
        exact ⟨by rw [F.out]; rfl, p4⟩
end Go.Proofs.Ytejllmjkeefloaa
