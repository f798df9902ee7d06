/- graph.sameNode, whole; the reference's Same. Same: two images. -/
import Derived.Test.YtejllmjkeefloaaGreatKE3
import Derived.Test.YtejllmjkeefloaaGreatKE5A
import Derived.Test.YtejllmjkeefloaaGreatKE5B
import Derived.Test.YtejllmjkeefloaaGreatKE5C
import Derived.Test.YtejllmjkeefloaaGreatKE4
import Derived.Deep.DeepCutAuto
import Derived.Test.YtejllmjkeefloaaGreatKA0
import Derived.Test.YtejllmjkeefloaaGreatKC2
import Derived.Test.YtejllmjkeefloaaGreatKG5
import Derived.Test.YtejllmjkeefloaaGreatKP1
namespace Go.Proofs.YtejllmjkeefloaaGreat
open Go.ChangeShapes Go.WideShapes Go.ChangeAt Go.RowKit
set_option maxRecDepth 20000
set_option linter.unusedVariables false

theorem beq_f {x y : Int} (h : ¬ x = y) : (x == y) = false := by simpa using h
theorem beq_t {x y : Int} (h : x = y) : (x == y) = true := by simpa using h
theorem same_node_ok : SameNodeOk := by
  intro a b va vb t w ha hb ht
  obtain ⟨vi, vw, vb', rfl, ⟨i1, i2, i3⟩, _⟩ := ha
  obtain ⟨ui, uw, ub, rfl, ⟨j1, j2, j3⟩, _⟩ := hb
  obtain ⟨Ai, ci, rfl⟩ := nums_slice i1
  obtain ⟨Aw, cw, rfl⟩ := nums_slice i2
  obtain ⟨Ab, cb, rfl⟩ := nums_slice i3
  obtain ⟨Bi, di, rfl⟩ := nums_slice j1
  obtain ⟨Bw, dw, rfl⟩ := nums_slice j2
  obtain ⟨Bb, db, rfl⟩ := nums_slice j3
  have Q : ∀ w, (Op.equalIn 10000 123 (.agg #[.int .i64 a.op, .int .i64 a.k, .int .i64 a.stride, .int .i64 a.pad, .int .i64 a.out, .int .i64 a.mul, .int .i64 a.shift, .int .i64 a.zero]) (.agg #[.int .i64 b.op, .int .i64 b.k, .int .i64 b.stride, .int .i64 b.pad, .int .i64 b.out, .int .i64 b.mul, .int .i64 b.shift, .int .i64 b.zero])).run Tryz.prog w = .ok (a.op == b.op && (a.k == b.k && (a.stride == b.stride && (a.pad == b.pad && (a.out == b.out && (a.mul == b.mul && (a.shift == b.shift && a.zero == b.zero))))))) w := fun w => eq8 _ _ _ _ _ _ _ _ _ _ _ _ _ _ _ _ w
  rw [node_eq] at ht
  have no : ∀ {p : Prop}, ¬ p → (t = true → p) → t = false := fun h k => Bool.eq_false_iff.mpr (fun e => h (k e))
  by_cases c8 : a.op = b.op ∧ a.k = b.k ∧ a.stride = b.stride ∧ a.pad = b.pad ∧ a.out = b.out ∧ a.mul = b.mul ∧ a.shift = b.shift ∧ a.zero = b.zero
  · have q8 : (a.op == b.op && (a.k == b.k && (a.stride == b.stride && (a.pad == b.pad && (a.out == b.out && (a.mul == b.mul && (a.shift == b.shift && a.zero == b.zero))))))) = true := by simpa using c8
    rw [q8] at Q
    by_cases c9 : a.th = b.th
    · by_cases c10 : a.tw = b.tw
      · by_cases c11 : a.tc = b.tc
        · by_cases d1 : a.ins = b.ins
          · by_cases d2 : a.ws = b.ws
            · by_cases d3 : a.bs = b.bs
              · obtain rfl : t = true := ht.mpr ⟨c8.1, d1, c8.2.1, c8.2.2.1, c8.2.2.2.1, c8.2.2.2.2.1, c8.2.2.2.2.2.1, c8.2.2.2.2.2.2.1, c8.2.2.2.2.2.2.2, c9, c10, c11, d2, d3⟩
                exact same_case14 a b w Ai Aw Ab Bi Bw Bb ci cw cb di dw db Q (beq_t c9) (beq_t c10) (beq_t c11) (Lib.hid ⟨fun _ => d1, fun _ => rfl⟩) i1 j1 (Lib.hid ⟨fun _ => d2, fun _ => rfl⟩) i2 j2 (Lib.hid ⟨fun _ => d3, fun _ => rfl⟩) i3 j3
              · obtain rfl : t = false := no d3 (fun e => (ht.mp e).2.2.2.2.2.2.2.2.2.2.2.2.2)
                exact same_case13 a b w Ai Aw Ab Bi Bw Bb ci cw cb di dw db Q (beq_t c9) (beq_t c10) (beq_t c11) (Lib.hid ⟨fun _ => d1, fun _ => rfl⟩) i1 j1 (Lib.hid ⟨fun _ => d2, fun _ => rfl⟩) i2 j2 (Lib.hid ⟨fun h => (by cases h), fun h => absurd h d3⟩) i3 j3
            · obtain rfl : t = false := no d2 (fun e => (ht.mp e).2.2.2.2.2.2.2.2.2.2.2.2.1)
              exact same_case12 a b w Ai Aw Ab Bi Bw Bb ci cw cb di dw db Q (beq_t c9) (beq_t c10) (beq_t c11) (Lib.hid ⟨fun _ => d1, fun _ => rfl⟩) i1 j1 (Lib.hid ⟨fun h => (by cases h), fun h => absurd h d2⟩) i2 j2
          · obtain rfl : t = false := no d1 (fun e => (ht.mp e).2.1)
            exact same_case11 a b w Ai Aw Ab Bi Bw Bb ci cw cb di dw db Q (beq_t c9) (beq_t c10) (beq_t c11) (Lib.hid ⟨fun h => (by cases h), fun h => absurd h d1⟩) i1 j1
        · obtain rfl : t = false := no c11 (fun e => (ht.mp e).2.2.2.2.2.2.2.2.2.2.2.1)
          exact same_case10 a b w Ai Aw Ab Bi Bw Bb ci cw cb di dw db Q (beq_t c9) (beq_t c10) (beq_f c11)
      · obtain rfl : t = false := no c10 (fun e => (ht.mp e).2.2.2.2.2.2.2.2.2.2.1)
        exact same_case9 a b w Ai Aw Ab Bi Bw Bb ci cw cb di dw db Q (beq_t c9) (beq_f c10)
    · obtain rfl : t = false := no c9 (fun e => (ht.mp e).2.2.2.2.2.2.2.2.2.1)
      exact same_case8 a b w Ai Aw Ab Bi Bw Bb ci cw cb di dw db Q (beq_f c9)
  · have q8 : (a.op == b.op && (a.k == b.k && (a.stride == b.stride && (a.pad == b.pad && (a.out == b.out && (a.mul == b.mul && (a.shift == b.shift && a.zero == b.zero))))))) = false := by
      rw [Bool.eq_false_iff]
      intro h
      exact c8 (by simpa using h)
    rw [q8] at Q
    obtain rfl : t = false := no c8 (fun e => by
      obtain ⟨h1, _, h2, h3, h4, h5, h6, h7, h8, _⟩ := ht.mp e
      exact ⟨h1, h2, h3, h4, h5, h6, h7, h8⟩)
    exact same_case0 a b w Ai Aw Ab Bi Bw Bb ci cw cb di dw db Q
end Go.Proofs.YtejllmjkeefloaaGreat
namespace Go.Proofs.YtejllmjkeefloaaGreat
open Go.ChangeShapes Go.WideShapes Go.ChangeAt Go.RowKit
set_option maxRecDepth 20000
set_option linter.unusedVariables false
set_option linter.unusedSimpArgs false

theorem img_ext (a b : ImgD) : a = b ↔ a.g = b.g ∧ a.pl = b.pl ∧ a.s0 = b.s0 ∧ a.s1 = b.s1 ∧ a.s2 = b.s2 := by
  cases a
  cases b
  simp only [ImgD.mk.injEq]
set_option maxHeartbeats 4000000 in
theorem sameI_any (a b : ImgD) (va vb : Value) (t : Bool) (W : World) (ha : IsImg W va a) (hb : IsImg W vb b) (ht : t = true ↔ a = b) : Calls Tryz.prog 11 #[va, vb] W fun e w' => e = .returned (.bool t) ∧ Past W w' := by
  obtain ⟨A1, c1, A2, c2, A3, c3, A4, c4, A5, c5, A6, c6, A7, c7, rfl, hga, hpa, ha0, ha1, ha2⟩ := ha.form
  obtain ⟨B1, d1, B2, d2, B3, d3, B4, d4, B5, d5, B6, d6, B7, d7, rfl, hgb, hpb, hb0, hb1, hb2⟩ := hb.form
  have HA0 := Lib.hid ha0
  have HA1 := Lib.hid ha1
  have HA2 := Lib.hid ha2
  have HB0 := Lib.hid hb0
  have HB1 := Lib.hid hb1
  have HB2 := Lib.hid hb2
  have GA := Lib.hid hga
  have GB := Lib.hid hgb
  have PA := Lib.hid hpa
  have PB := Lib.hid hpb
  have HT := Lib.hid ht
  clear ha hb hga hgb hpa hpb ha0 ha1 ha2 hb0 hb1 hb2 ht
  go_enter Tryz.func11, Tryz.ntmps11
  go_upto_region 1 with fail
  obtain ⟨Q, hQ⟩ : ∃ Q, W.heap.size = Q := ⟨_, rfl⟩
  refine opq (fun w' => (∀ o : Nat, w'.cell? ⟨Q, o, none⟩ = (#[.slice A1 a.g.ins.length c1, .slice A2 a.g.nodes.length c2, .slice A3 a.g.outs.length c3, .slice A4 a.pl.length c4, .slice A5 a.s0.length c5, .slice A6 a.s1.length c6, .slice A7 a.s2.length c7] : Array Value)[o]?) ∧ (∀ o : Nat, w'.cell? ⟨Q + 1, o, none⟩ = (#[.slice B1 b.g.ins.length d1, .slice B2 b.g.nodes.length d2, .slice B3 b.g.outs.length d3, .slice B4 b.pl.length d4, .slice B5 b.s0.length d5, .slice B6 b.s1.length d6, .slice B7 b.s2.length d7] : Array Value)[o]?) ∧ Past W w' ∧ Q + 2 ≤ w'.heap.size) (by
    subst hQ
    exact ⟨by (exact kKeep), by (exact kKeep), by (exact kKeep), by simp⟩) ?_
  rintro w2 ⟨qa2, qb2, p2, s2⟩
  try rw [hQ]
  try simp only [World.size_alloc, hQ]
  go_wp2_with fail
  go_loopw [4, 5, 6, 9] (fun s _ _ j wr => s = .bool false ∧ ((j = .int .i64 0 ∧ Past w2 wr) ∨ (j = .int .i64 1 ∧ Hid (a.s0 = b.s0) ∧ Past w2 wr) ∨ (j = .int .i64 2 ∧ Hid (a.s0 = b.s0 ∧ a.s1 = b.s1) ∧ Past w2 wr) ∨ (j = .int .i64 3 ∧ Hid (a.s0 = b.s0 ∧ a.s1 = b.s1 ∧ a.s2 = b.s2) ∧ Past w2 wr))) (fun _ _ _ j _ => 3 - (intOf j).toNat)
  case atStart => exact ⟨rfl, .inl ⟨rfl, Past.refl _⟩⟩
  case round =>
    obtain ⟨rfl, H⟩ := hrel
    rcases H with ⟨rfl, hp⟩ | ⟨rfl, SE, hp⟩ | ⟨rfl, SE, hp⟩ | ⟨rfl, SE, hp⟩
    all_goals
      have qa := box_past hp qa2 (by omega)
      have qb := box_past hp qb2 (by omega)
      have pr := p2.trans hp
      have sr : Q + 2 ≤ wr.heap.size := by have := hp.2.2.1; omega
      have ix0 := idx3_0 (.slice A5 a.s0.length c5) (.slice A6 a.s1.length c6) (.slice A7 a.s2.length c7)
      have ix1 := idx3_1 (.slice A5 a.s0.length c5) (.slice A6 a.s1.length c6) (.slice A7 a.s2.length c7)
      have ix2 := idx3_2 (.slice A5 a.s0.length c5) (.slice A6 a.s1.length c6) (.slice A7 a.s2.length c7)
    · have EC := Lib.hid (Q8.equal_cmds _ _ a.s0 b.s0 wr (HA0.out.grow pr) (HB0.out.grow pr))
      obtain ⟨d, hd⟩ : ∃ d, decide (a.s0 = b.s0) = d := ⟨_, rfl⟩
      rw [hd] at EC
      have HD := Lib.hid hd
      clear hd
      go_wp2_with fail
      refine EC.out.mono ?_
      rintro e w3 ⟨rfl, pp3⟩
      have p3 := hp.trans pp3
      clear qa qb EC pp3 pr
      cases d with
      | false =>
        have F : Hid (t = false) := Lib.hid (by
          cases q : t with
          | false => rfl
          | true => exact absurd ((img_ext a b).1 (HT.out.1 q)).2.2.1 (of_decide_eq_false HD.out))
        go_wp2_with fail
        go_ret
        exact ⟨by rw [F.out]; rfl, p2.trans p3⟩
      | true =>
        have E := Lib.hid (of_decide_eq_true HD.out)
        clear HD
        go_wp2_with fail
        go_roundw
        case rel => exact ⟨rfl, .inr (.inl ⟨rfl, Lib.hid E.out, p3⟩)⟩
        case measure => simp [intOf]
    · have EC := Lib.hid (Q8.equal_cmds _ _ a.s1 b.s1 wr (HA1.out.grow pr) (HB1.out.grow pr))
      obtain ⟨d, hd⟩ : ∃ d, decide (a.s1 = b.s1) = d := ⟨_, rfl⟩
      rw [hd] at EC
      have HD := Lib.hid hd
      clear hd
      go_wp2_with fail
      refine EC.out.mono ?_
      rintro e w3 ⟨rfl, pp3⟩
      have p3 := hp.trans pp3
      clear qa qb EC pp3 pr
      cases d with
      | false =>
        have F : Hid (t = false) := Lib.hid (by
          cases q : t with
          | false => rfl
          | true => exact absurd ((img_ext a b).1 (HT.out.1 q)).2.2.2.1 (of_decide_eq_false HD.out))
        go_wp2_with fail
        go_ret
        exact ⟨by rw [F.out]; rfl, p2.trans p3⟩
      | true =>
        have E := Lib.hid (of_decide_eq_true HD.out)
        clear HD
        go_wp2_with fail
        go_roundw
        case rel => exact ⟨rfl, .inr (.inr (.inl ⟨rfl, Lib.hid ⟨SE.out, E.out⟩, p3⟩))⟩
        case measure => simp [intOf]
    · have EC := Lib.hid (Q8.equal_cmds _ _ a.s2 b.s2 wr (HA2.out.grow pr) (HB2.out.grow pr))
      obtain ⟨d, hd⟩ : ∃ d, decide (a.s2 = b.s2) = d := ⟨_, rfl⟩
      rw [hd] at EC
      have HD := Lib.hid hd
      clear hd
      go_wp2_with fail
      refine EC.out.mono ?_
      rintro e w3 ⟨rfl, pp3⟩
      have p3 := hp.trans pp3
      clear qa qb EC pp3 pr
      cases d with
      | false =>
        have F : Hid (t = false) := Lib.hid (by
          cases q : t with
          | false => rfl
          | true => exact absurd ((img_ext a b).1 (HT.out.1 q)).2.2.2.2 (of_decide_eq_false HD.out))
        go_wp2_with fail
        go_ret
        exact ⟨by rw [F.out]; rfl, p2.trans p3⟩
      | true =>
        have E := Lib.hid (of_decide_eq_true HD.out)
        clear HD
        go_wp2_with fail
        go_roundw
        case rel => exact ⟨rfl, .inr (.inr (.inr ⟨rfl, Lib.hid ⟨SE.out.1, SE.out.2, E.out⟩, p3⟩))⟩
        case measure => simp [intOf]
    · obtain ⟨tg, htg⟩ := bool_any (a.g = b.g)
      obtain ⟨tp, htp⟩ := bool_any (a.pl = b.pl)
      have SG := Lib.hid (same_any same_node_ok a.g b.g _ _ tg wr (GA.out.grow pr) (GB.out.grow pr) htg)
      have SP := Lib.hid (fun w (p : Past wr w) => equal_ints w _ _ a.pl b.pl tp ((PA.out.grow pr).grow p) ((PB.out.grow pr).grow p) (Lib.hid htp))
      have HG := Lib.hid htg
      have HP := Lib.hid htp
      clear htg htp
      go_wp2_with fail
      refine SG.out.mono ?_
      rintro e w3 ⟨rfl, g3⟩
      have pp3 := Grown.past g3
      have qa3 := box_past pp3 qa (by omega)
      have qb3 := box_past pp3 qb (by omega)
      have p3 := pr.trans pp3
      clear qa qb SG g3 pr
      cases tg with
      | false =>
        have F : Hid (t = false) := Lib.hid (by
          cases q : t with
          | false => rfl
          | true =>
            have e := ((img_ext a b).1 (HT.out.1 q)).1
            have := HG.out.2 e
            cases this)
        go_wp2_with fail
        go_ret
        exact ⟨by rw [F.out]; rfl, p3⟩
      | true =>
        have F : Hid (t = tp) := Lib.hid (by
          have e := HG.out.1 rfl
          cases q : tp with
          | false =>
            cases q2 : t with
            | false => rfl
            | true =>
              have k := HP.out.2 ((img_ext a b).1 (HT.out.1 q2)).2.1
              rw [q] at k; cases k
          | true => exact HT.out.2 ((img_ext a b).2 ⟨e, HP.out.1 q, SE.out.1, SE.out.2.1, SE.out.2.2⟩))
        go_wp2_with fail
        refine (SP.out _ pp3).mono ?_
        rintro e w4 ⟨rfl, g4⟩
        have p4 := p3.trans (Grown.past g4)
        clear qa3 qb3 SP g4
        go_wp2_with fail
        go_ret
        exact ⟨by rw [F.out]; rfl, p4⟩
end Go.Proofs.YtejllmjkeefloaaGreat
