/- ImageParts: the walk. -/
import Derived.Deep.DeepCutAuto
import Derived.Test.YtejllmjkeefloaaKA4
import Derived.Test.YtejllmjkeefloaaKA7
import Derived.Test.YtejllmjkeefloaaKE7
namespace Go.Proofs.Ytejllmjkeefloaa
open Go.ChangeShapes Go.WideShapes Go.ChangeAt Go.RowKit
set_option maxRecDepth 20000
set_option linter.unusedVariables false
set_option linter.unusedSimpArgs false
theorem cmds_save {B : Nat} {w w' : World} {v : Value} {l : List (List Int)} (h : Q8.IsCmds w v l) (hN : NoInt w B) (g : Save B w w') : Q8.IsCmds w' v l := by
  obtain ⟨A, cap, e, h1, h2, h3, h4, h5⟩ := h
  refine ⟨A, cap, e, h1, h2, h3, h4, fun hp => ?_⟩
  obtain ⟨b, off, ea, hb, hc⟩ := h5 hp
  have hne : b ≠ B := by
    rintro rfl
    have wc := Q8.wfC_at h4 hp
    have c0 := hc 0 hp 0
    obtain ⟨x, xs, hx⟩ : ∃ x xs, l.getD 0 [] = x :: xs := by
      cases q : l.getD 0 [] with
      | nil => rw [q] at wc; exact absurd wc.1 (by simp)
      | cons x xs => exact ⟨x, xs, rfl⟩
    rw [hx] at c0
    exact hN _ _ _ (c0 (.int .i64 x) rfl)
  exact ⟨b, off, ea, Nat.lt_of_lt_of_le hb g.1, fun i hi j v hv => (g.cell hb hne).trans (hc i hi j v hv)⟩
theorem img_save {B : Nat} {w w' : World} {v : Value} {i : ImgD} (h : IsImg w v i) (hN : NoInt w B) (g : Save B w w') : IsImg w' v i := by
  obtain ⟨iv, nv, ov, pv, u0, u1, u2, rfl, a, b, c, d, e⟩ := h
  exact ⟨iv, nv, ov, pv, u0, u1, u2, rfl, graph_save a hN g, nums_save b hN g, cmds_save c hN g, cmds_save d hN g, cmds_save e hN g⟩
theorem save7 {w : World} {B : Nat} {y0 y1 y2 y3 y4 y5 y6 : Value} : Save B w (((((((w.setCell ⟨B, 0, none⟩ y0).setCell ⟨B, 1, none⟩ y1).setCell ⟨B, 2, none⟩ y2).setCell ⟨B, 3, none⟩ y3).setCell ⟨B, 4, none⟩ y4).setCell ⟨B, 5, none⟩ y5).setCell ⟨B, 6, none⟩ y6) := (((((((Save.refl B w).set 0 y0).set 1 y1).set 2 y2).set 3 y3).set 4 y4).set 5 y5).set 6 y6
theorem past7 {W w : World} {B : Nat} {y0 y1 y2 y3 y4 y5 y6 : Value} (h : Past W w) (hB : W.heap.size ≤ B) : Past W (((((((w.setCell ⟨B, 0, none⟩ y0).setCell ⟨B, 1, none⟩ y1).setCell ⟨B, 2, none⟩ y2).setCell ⟨B, 3, none⟩ y3).setCell ⟨B, 4, none⟩ y4).setCell ⟨B, 5, none⟩ y5).setCell ⟨B, 6, none⟩ y6) := ((((((h.setCell (p := ⟨B, 0, none⟩) hB y0).setCell (p := ⟨B, 1, none⟩) hB y1).setCell (p := ⟨B, 2, none⟩) hB y2).setCell (p := ⟨B, 3, none⟩) hB y3).setCell (p := ⟨B, 4, none⟩) hB y4).setCell (p := ⟨B, 5, none⟩) hB y5).setCell (p := ⟨B, 6, none⟩) hB y6
theorem free7 {w : World} {B b : Nat} {y0 y1 y2 y3 y4 y5 y6 : Value} (h : (∀ o : Nat, w.frozen? ⟨b, o, none⟩ = false)) : (∀ o : Nat, (((((((w.setCell ⟨B, 0, none⟩ y0).setCell ⟨B, 1, none⟩ y1).setCell ⟨B, 2, none⟩ y2).setCell ⟨B, 3, none⟩ y3).setCell ⟨B, 4, none⟩ y4).setCell ⟨B, 5, none⟩ y5).setCell ⟨B, 6, none⟩ y6).frozen? ⟨b, o, none⟩ = false) := free_set (free_set (free_set (free_set (free_set (free_set (free_set h))))))
theorem other7 {w : World} {B b : Nat} {cs : Array Value} {y0 y1 y2 y3 y4 y5 y6 : Value} (h : (∀ o : Nat, w.cell? ⟨b, o, none⟩ = (cs : Array Value)[o]?)) (hn : B ≠ b) : (∀ o : Nat, (((((((w.setCell ⟨B, 0, none⟩ y0).setCell ⟨B, 1, none⟩ y1).setCell ⟨B, 2, none⟩ y2).setCell ⟨B, 3, none⟩ y3).setCell ⟨B, 4, none⟩ y4).setCell ⟨B, 5, none⟩ y5).setCell ⟨B, 6, none⟩ y6).cell? ⟨b, o, none⟩ = (cs : Array Value)[o]?) := box_set (box_set (box_set (box_set (box_set (box_set (box_set h hn) hn) hn) hn) hn) hn) hn
theorem size7 {w : World} {B m : Nat} {y0 y1 y2 y3 y4 y5 y6 : Value} (h : m ≤ w.heap.size) : m ≤ (((((((w.setCell ⟨B, 0, none⟩ y0).setCell ⟨B, 1, none⟩ y1).setCell ⟨B, 2, none⟩ y2).setCell ⟨B, 3, none⟩ y3).setCell ⟨B, 4, none⟩ y4).setCell ⟨B, 5, none⟩ y5).setCell ⟨B, 6, none⟩ y6).heap.size := size_set (size_set (size_set (size_set (size_set (size_set (size_set h))))))
theorem cut_cutI (i : ImgD) : Cut (cutI i).g := cut_lessD i.g
theorem cutI_len (i : ImgD) : (graphB (cutI i).g).length ≤ 500000 := by have := lessD_len i.g; show (graphB (lessD i.g)).length ≤ _; omega
theorem okI_of {w : World} {v : Value} {i : ImgD} (hi : IsImg w v i) (h : mayI i = 0) : okI i := by
  obtain ⟨h1, h2, e0, e1, e2⟩ := may_parts h
  obtain ⟨iv, nv, ov, pv, u0, u1, u2, rfl, a, b, c, d, e⟩ := hi
  have st : ∀ {l : List (List Int)} {u : Value}, Q8.IsCmds w u l → Q8.putE l = 0 → (∀ x ∈ l, Q8.okC x) ∧ l.length ≤ 4096 := fun hu he => ⟨fun x hx => ⟨(hu.wf x hx).1, (putE_ok he).2.2 x hx⟩, (putE_ok he).2.1⟩
  refine ⟨⟨h1, okG_of h1 (wf_of_graph a)⟩, ⟨h2.1, fun x hx => ?_⟩, st c e0, st d e1, st e e2⟩
  obtain ⟨j, hj, rfl⟩ := mem_getD hx 0
  have := h2.2 j hj
  have s := (sizeV_bd ((valuesL i.g).getD j default)).1
  omega
theorem imgB_inj {i j : ImgD} (hi : okI i) (hj : okI j) (h : imgB i = imgB j) : i = j := by
  have e1 := imgR_forth i [] hi
  have e2 := imgR_forth j [] hj
  rw [h, e2] at e1
  simp only [Prod.mk.injEq, and_true] at e1
  exact e1.symm
theorem sealI_inj {i j : ImgD} (hi : okI i) (hj : okI j) (h : Q7.sealD (nats (imgB i)) = Q7.sealD (nats (imgB j))) : i = j := by
  refine imgB_inj hi hj (nats_inj (imgB_bytes i) (imgB_bytes j) ?_)
  rw [← Q7.seal_take (nats (imgB i)), h, Q7.seal_take]
theorem seal_bytes (i : ImgD) : Q7.Bytes (Q7.sealD (nats (imgB i))) := Q7.seal_lt (nats_bytes (imgB_bytes i))
theorem sealI_len (i : ImgD) : (Q7.sealD (nats (imgB i))).length = (imgB i).length + 4 := by rw [Q7.seal_len, nats_len]
theorem row_str {w : World} {B : Nat} {i : ImgD} (hr : Q7.Row w B (Q7.sealD (nats (imgB i)))) (hl : (imgB i).length ≤ 999000) : (convert 22 9 (.slice (some ⟨B, 0, none⟩) ((imgB i).length + 4) ((imgB i).length + 4))).run Try.prog w = .ok (.string (Q7.strB (Q7.sealD (nats (imgB i))))) w := by
  have := Q7.str_b (hr.nums (seal_bytes i) (by rw [sealI_len]; unfold maxLen; omega))
  rw [sealI_len] at this
  exact this
set_option maxHeartbeats 8000000 in
theorem parts_walk (W : World) (va : Value) (a0 : ImgD) (ha : IsImg W va a0) (vb : Value) (b0 : ImgD) (hb : IsImg W vb b0) : Calls Try.prog 4 #[va, vb] W fun e w' => e = .returned (.bool true) ∧ Past W w' := by
  have LA := Lib.hid (fun w (p : Past W w) => less9_any a0 va w (ha.grow p))
  have LB := Lib.hid (fun w (p : Past W w) => less9_any b0 vb w (hb.grow p))
  obtain ⟨P1, p1, P2, p2, P3, p3, P4, p4, P5, p5, P6, p6, P7, p7, rfl, _, _, _, _, _⟩ := ha.form
  obtain ⟨R1, r1, R2, r2, R3, r3, R4, r4, R5, r5, R6, r6, R7, r7, rfl, _, _, _, _, _⟩ := hb.form
  have CA := Lib.hid (cut_cutI a0)
  have CB := Lib.hid (cut_cutI b0)
  have GA := Lib.hid (cutI_len a0)
  have GB := Lib.hid (cutI_len b0)
  obtain ⟨a, ea⟩ : ∃ x, cutI a0 = x := ⟨_, rfl⟩
  obtain ⟨b, eb⟩ : ∃ x, cutI b0 = x := ⟨_, rfl⟩
  rw [ea] at LA CA GA
  rw [eb] at LB CB GB
  clear ea eb ha hb
  obtain ⟨Q, hQ⟩ : ∃ Q, W.heap.size = Q := ⟨_, rfl⟩
  go_enter Try.func4, Try.ntmps4
  go_upto_region 1 with fail
  refine opq (fun w' => (∀ o : Nat, w'.cell? ⟨Q, o, none⟩ = (#[.slice P1 a0.g.ins.length p1, .slice P2 a0.g.nodes.length p2, .slice P3 a0.g.outs.length p3, .slice P4 a0.pl.length p4, .slice P5 a0.s0.length p5, .slice P6 a0.s1.length p6, .slice P7 a0.s2.length p7] : Array Value)[o]?) ∧ (∀ o : Nat, w'.cell? ⟨Q + 1, o, none⟩ = (#[.slice R1 b0.g.ins.length r1, .slice R2 b0.g.nodes.length r2, .slice R3 b0.g.outs.length r3, .slice R4 b0.pl.length r4, .slice R5 b0.s0.length r5, .slice R6 b0.s1.length r6, .slice R7 b0.s2.length r7] : Array Value)[o]?) ∧ (∀ o : Nat, w'.frozen? ⟨Q, o, none⟩ = false) ∧ (∀ o : Nat, w'.frozen? ⟨Q + 1, o, none⟩ = false) ∧ Past W w' ∧ Q + 2 ≤ w'.heap.size) (by
    subst hQ
    exact ⟨by (exact kKeep), by (exact kKeep), by (exact kKeep), by (exact kKeep), by (exact kKeep), by simp⟩) ?_
  rintro w1 ⟨b1, b2, f1, f2, p1, s1⟩
  try simp only [World.size_alloc, hQ]
  try rw [hQ]
  go_wp2_with fail
  refine (shown9_any _).mono ?_
  rintro e w2 ⟨rfl, g⟩
  replace b1 := box_past g b1 (by omega)
  replace b2 := box_past g b2 (by omega)
  replace f1 := free_past g f1 (by omega)
  replace f2 := free_past g f2 (by omega)
  replace p1 := p1.trans g
  replace s1 := size_past g s1
  clear g
  go_wp2_with (first | refine wpList_load_box rfl 40 (.tmp 2) rfl Q _ rfl b1 Try.underlying40 rfl (by kernel_rfl) ?_)
  refine (LA.out _ p1).mono ?_
  rintro e w3 ⟨v3, rfl, IA, g⟩
  replace b1 := box_past g b1 (by omega)
  replace b2 := box_past g b2 (by omega)
  replace f1 := free_past g f1 (by omega)
  replace f2 := free_past g f2 (by omega)
  replace p1 := p1.trans g
  replace s1 := size_past g s1
  obtain ⟨A1, c1, A2, c2, A3, c3, A4, c4, A5, c5, A6, c6, A7, c7, rfl, _, _, _, _, _⟩ := IA.form
  have HA := Lib.hid IA
  clear g IA LA
  go_upto_region 3 with fail
  refine opq (fun w' => ((∀ o : Nat, w'.cell? ⟨Q, o, none⟩ = (#[.slice A1 a.g.ins.length c1, .slice A2 a.g.nodes.length c2, .slice A3 a.g.outs.length c3, .slice A4 a.pl.length c4, .slice A5 a.s0.length c5, .slice A6 a.s1.length c6, .slice A7 a.s2.length c7] : Array Value)[o]?) ∧ (∀ o : Nat, w'.cell? ⟨Q + 1, o, none⟩ = (#[.slice R1 b0.g.ins.length r1, .slice R2 b0.g.nodes.length r2, .slice R3 b0.g.outs.length r3, .slice R4 b0.pl.length r4, .slice R5 b0.s0.length r5, .slice R6 b0.s1.length r6, .slice R7 b0.s2.length r7] : Array Value)[o]?) ∧ (∀ o : Nat, w'.frozen? ⟨Q, o, none⟩ = false) ∧ (∀ o : Nat, w'.frozen? ⟨Q + 1, o, none⟩ = false) ∧ Past W w' ∧ Q + 2 ≤ w'.heap.size) ∧ Hid (IsImg w' (.agg #[.slice A1 a.g.ins.length c1, .slice A2 a.g.nodes.length c2, .slice A3 a.g.outs.length c3, .slice A4 a.pl.length c4, .slice A5 a.s0.length c5, .slice A6 a.s1.length c6, .slice A7 a.s2.length c7]) a)) ⟨⟨box_set7 b1, other7 b2 (by omega), free7 f1, free7 f2, past7 p1 (by omega), size7 s1⟩, Lib.hid (img_save HA.out (noInt7 b1) save7)⟩ ?_
  clear b1 b2 f1 f2 p1 s1 HA
  rintro w4 ⟨⟨b1, b2, f1, f2, p1, s1⟩, HA⟩
  go_wp2_with (first | refine wpList_load_box rfl 40 (.tmp 3) rfl (Q + 1) _ rfl b2 Try.underlying40 rfl (by kernel_rfl) ?_)
  refine (LB.out _ p1).mono ?_
  rintro e w5 ⟨v5, rfl, IB, g⟩
  replace b1 := box_past g b1 (by omega)
  replace b2 := box_past g b2 (by omega)
  replace f1 := free_past g f1 (by omega)
  replace f2 := free_past g f2 (by omega)
  replace p1 := p1.trans g
  replace s1 := size_past g s1
  have HA5 := Lib.hid (HA.out.grow g)
  obtain ⟨B1, d1, B2, d2, B3, d3, B4, d4, B5, d5, B6, d6, B7, d7, rfl, _, _, _, _, _⟩ := IB.form
  have HB := Lib.hid IB
  clear g IB LB HA
  go_upto_region 4 with fail
  refine opq (fun w' => ((∀ o : Nat, w'.cell? ⟨Q, o, none⟩ = (#[.slice A1 a.g.ins.length c1, .slice A2 a.g.nodes.length c2, .slice A3 a.g.outs.length c3, .slice A4 a.pl.length c4, .slice A5 a.s0.length c5, .slice A6 a.s1.length c6, .slice A7 a.s2.length c7] : Array Value)[o]?) ∧ (∀ o : Nat, w'.cell? ⟨Q + 1, o, none⟩ = (#[.slice B1 b.g.ins.length d1, .slice B2 b.g.nodes.length d2, .slice B3 b.g.outs.length d3, .slice B4 b.pl.length d4, .slice B5 b.s0.length d5, .slice B6 b.s1.length d6, .slice B7 b.s2.length d7] : Array Value)[o]?) ∧ (∀ o : Nat, w'.frozen? ⟨Q, o, none⟩ = false) ∧ (∀ o : Nat, w'.frozen? ⟨Q + 1, o, none⟩ = false) ∧ Past W w' ∧ Q + 2 ≤ w'.heap.size) ∧ Hid (IsImg w' (.agg #[.slice A1 a.g.ins.length c1, .slice A2 a.g.nodes.length c2, .slice A3 a.g.outs.length c3, .slice A4 a.pl.length c4, .slice A5 a.s0.length c5, .slice A6 a.s1.length c6, .slice A7 a.s2.length c7]) a) ∧ Hid (IsImg w' (.agg #[.slice B1 b.g.ins.length d1, .slice B2 b.g.nodes.length d2, .slice B3 b.g.outs.length d3, .slice B4 b.pl.length d4, .slice B5 b.s0.length d5, .slice B6 b.s1.length d6, .slice B7 b.s2.length d7]) b)) ⟨⟨other7 b1 (by omega), box_set7 b2, free7 f1, free7 f2, past7 p1 (by omega), size7 s1⟩, Lib.hid (img_save HA5.out (noInt7 b2) save7), Lib.hid (img_save HB.out (noInt7 b2) save7)⟩ ?_
  clear b1 b2 f1 f2 p1 s1 HA5 HB
  rintro w6 ⟨⟨b1, b2, f1, f2, p1, s1⟩, HA, HB⟩
  clear f1 f2
  have PA := Lib.hid (iput_any a _ w6 HA.out CA.out GA.out)
  have PB := Lib.hid (fun w (p : Past w6 w) => iput_any b _ w (HB.out.grow p) CB.out GB.out)
  have LA := Lib.hid (fun h => imgB_len (i := a) h GA.out)
  have LB := Lib.hid (fun h => imgB_len (i := b) h GB.out)
  have OA := Lib.hid (fun h => okI_of (i := a) HA.out h)
  have OB := Lib.hid (fun h => okI_of (i := b) HB.out h)
  unfold PutI at PA PB
  obtain ⟨EA, hEA⟩ : ∃ x, mayI a = x := ⟨_, rfl⟩
  obtain ⟨EB, hEB⟩ : ∃ x, mayI b = x := ⟨_, rfl⟩
  rw [hEA] at PA LA OA
  rw [hEB] at PB LB OB
  clear hEA hEB
  go_wp2_with (first | refine wpList_load_box rfl 40 (.tmp 2) rfl Q _ rfl b1 Try.underlying40 rfl (by kernel_rfl) ?_)
  refine PA.out.mono ?_
  rintro e w7 (⟨e0, Ba, _, rfl, ra, g⟩ | ⟨e0, rfl, g⟩)
  · subst e0
    have g67 := Lib.hid g
    have RA := Lib.hid ra
    replace b1 := box_past g b1 (by omega)
    replace b2 := box_past g b2 (by omega)
    replace p1 := p1.trans g
    replace s1 := size_past g s1
    clear g ra PA
    go_wp2_with (first | refine wpList_load_box rfl 40 (.tmp 3) rfl (Q + 1) _ rfl b2 Try.underlying40 rfl (by kernel_rfl) ?_)
    refine (PB.out _ g67.out).mono ?_
    rintro e w8 (⟨e0, Bb, _, rfl, rb, g⟩ | ⟨e0, rfl, g⟩)
    · subst e0
      have la := LA.out (by first | exact rfl | trivial)
      have lb := LB.out (by first | exact rfl | trivial)
      have G68 := Lib.hid (g67.out.trans g)
      have RA8 := Lib.hid (RA.out.past g)
      have RB8 := Lib.hid rb
      have IJ := Lib.hid (fun h => sealI_inj (OA.out (by first | exact rfl | trivial)) (OB.out (by first | exact rfl | trivial)) h)
      replace b1 := box_past g b1 (by omega)
      replace b2 := box_past g b2 (by omega)
      replace p1 := p1.trans g
      replace s1 := size_past g s1
      clear g rb PB RA g67 LA LB OA OB
      obtain ⟨t, ht⟩ := bool_any (a = b)
      have SE : ((Q7.strB (Q7.sealD (nats (imgB a)))).toList == (Q7.strB (Q7.sealD (nats (imgB b)))).toList) = t := by
        cases q : t with
        | true =>
          have := ht.1 q
          subst this
          exact Q7.strB_yes rfl
        | false => exact Q7.strB_no (seal_bytes a) (seal_bytes b) (fun h => by
            have := ht.2 (IJ.out h)
            rw [q] at this
            cases this)
      have SA := Lib.hid (fun w (p : Past w8 w) => row_str (RA8.out.past p) la)
      have SB := Lib.hid (fun w (p : Past w8 w) => row_str (RB8.out.past p) lb)
      obtain ⟨xa, hxa⟩ : ∃ x, Q7.strB (Q7.sealD (nats (imgB a))) = x := ⟨_, rfl⟩
      obtain ⟨xb, hxb⟩ : ∃ x, Q7.strB (Q7.sealD (nats (imgB b))) = x := ⟨_, rfl⟩
      obtain ⟨na, hna⟩ : ∃ x, (imgB a).length + 4 = x := ⟨_, rfl⟩
      obtain ⟨nb, hnb⟩ : ∃ x, (imgB b).length + 4 = x := ⟨_, rfl⟩
      rw [hxa, hxb] at SE
      rw [hxa, hna] at SA
      rw [hxb, hnb] at SB
      try rw [hna]
      try rw [hnb]
      have CAB := Lib.hid (fun w (p : Past w8 w) => sameI_any a b _ _ t w ((HA.out.grow G68.out).grow p) ((HB.out.grow G68.out).grow p) ht)
      have CBA := Lib.hid (fun w (p : Past w8 w) => sameI_any b a _ _ t w ((HB.out.grow G68.out).grow p) ((HA.out.grow G68.out).grow p) (ht.trans ⟨Eq.symm, Eq.symm⟩))
      clear hxa hxb hna hnb RA8 RB8 IJ la lb ht HA HB G68
      obtain ⟨w9, h9⟩ : ∃ w9, w8 = w9 := ⟨_, rfl⟩
      subst h9
      have t0 : (t == t) = true := by simp
      go_upto_region 8 with fail
      refine wp_region_fill (fun w' => (∀ o : Nat, w'.cell? ⟨Q, o, none⟩ = (#[.slice A1 a.g.ins.length c1, .slice A2 a.g.nodes.length c2, .slice A3 a.g.outs.length c3, .slice A4 a.pl.length c4, .slice A5 a.s0.length c5, .slice A6 a.s1.length c6, .slice A7 a.s2.length c7] : Array Value)[o]?) ∧ (∀ o : Nat, w'.cell? ⟨Q + 1, o, none⟩ = (#[.slice B1 b.g.ins.length d1, .slice B2 b.g.nodes.length d2, .slice B3 b.g.outs.length d3, .slice B4 b.pl.length d4, .slice B5 b.s0.length d5, .slice B6 b.s1.length d6, .slice B7 b.s2.length d7] : Array Value)[o]?) ∧ Past W w' ∧ Q + 2 ≤ w'.heap.size ∧ Past w8 w') [(32, ?va32), (33, ?va33), (34, ?va34), (35, ?va35), (36, ?va36), (37, ?va37), (38, ?va38), (39, ?va39), (40, ?va40), (41, ?va41), (42, ?va42), (43, ?va43), (44, ?va44), (45, ?va45), (46, ?va46), (47, ?va47), (48, ?va48), (49, ?va49), (50, ?va50), (51, ?va51), (52, ?va52), (4, ?va4)] [32, 33, 34, 35, 36, 37, 38, 39, 40, 41, 42, 43, 44, 45, 46, 47, 48, 49, 50, 51, 52, 4] (by kernel_rfl) (by kernel_rfl) rfl (by kernel_rfl) ⟨b1, b2, p1, s1, Past.refl _⟩ (fun w h => h) ?alla ?fina
      case alla =>
        simp only [fillA, Act.put, List.setIfInBounds_toArray, List.set_cons_zero, List.set_cons_succ]
        iterate 4 (refine owes_cons (fun w hw K hK => ?_) ?_; focus ((have hS := Lib.hid hw); go_split_ands; go_simp; (try simp only [Act.put, List.setIfInBounds_toArray, List.set_cons_zero, List.set_cons_succ]); exact hK _ hS.out))
        refine owes_cons (fun w hw K hK => ?_) ?_
        focus
          have hS := Lib.hid hw
          go_split_ands
          go_simp
          go_at_call 16
          with_reducible refine (CAB.out _ (by assumption)).mono ?_
          rintro e w1 ⟨rfl, g1⟩
          refine hK _ ?_
          (exact kKeep)
        iterate 1 (refine owes_cons (fun w hw K hK => ?_) ?_; focus ((have hS := Lib.hid hw); go_split_ands; go_simp; (try simp only [Act.put, List.setIfInBounds_toArray, List.set_cons_zero, List.set_cons_succ]); exact hK _ hS.out))
        refine owes_cons (fun w hw K hK => ?_) ?_
        focus
          have hS := Lib.hid hw
          have sr := SA.out w hw.2.2.2.2
          go_split_ands
          go_simp
          (try simp only [Act.put, List.setIfInBounds_toArray, List.set_cons_zero, List.set_cons_succ])
          exact hK _ hS.out
        iterate 1 (refine owes_cons (fun w hw K hK => ?_) ?_; focus ((have hS := Lib.hid hw); go_split_ands; go_simp; (try simp only [Act.put, List.setIfInBounds_toArray, List.set_cons_zero, List.set_cons_succ]); exact hK _ hS.out))
        refine owes_cons (fun w hw K hK => ?_) ?_
        focus
          have hS := Lib.hid hw
          have sr := SB.out w hw.2.2.2.2
          go_split_ands
          go_simp
          (try simp only [Act.put, List.setIfInBounds_toArray, List.set_cons_zero, List.set_cons_succ])
          exact hK _ hS.out
        iterate 6 (refine owes_cons (fun w hw K hK => ?_) ?_; focus ((have hS := Lib.hid hw); go_split_ands; go_simp; (try simp only [Act.put, List.setIfInBounds_toArray, List.set_cons_zero, List.set_cons_succ]); exact hK _ hS.out))
        refine owes_cons (fun w hw K hK => ?_) ?_
        focus
          have hS := Lib.hid hw
          go_split_ands
          go_simp
          go_at_call 16
          with_reducible refine (CAB.out _ (by assumption)).mono ?_
          rintro e w1 ⟨rfl, g1⟩
          refine hK _ ?_
          (exact kKeep)
        iterate 2 (refine owes_cons (fun w hw K hK => ?_) ?_; focus ((have hS := Lib.hid hw); go_split_ands; go_simp; (try simp only [Act.put, List.setIfInBounds_toArray, List.set_cons_zero, List.set_cons_succ]); exact hK _ hS.out))
        refine owes_cons (fun w hw K hK => ?_) ?_
        focus
          have hS := Lib.hid hw
          go_split_ands
          go_simp
          go_at_call 16
          with_reducible refine (CBA.out _ (by assumption)).mono ?_
          rintro e w1 ⟨rfl, g1⟩
          refine hK _ ?_
          (exact kKeep)
        iterate 3 (refine owes_cons (fun w hw K hK => ?_) ?_; focus ((have hS := Lib.hid hw); go_split_ands; go_simp; (try simp only [Act.put, List.setIfInBounds_toArray, List.set_cons_zero, List.set_cons_succ]); exact hK _ hS.out))
        exact True.intro
      case fina =>
        rintro wz ⟨_, _, pz, _, _⟩
        simp only [fillA, Act.put, List.setIfInBounds_toArray, List.set_cons_zero, List.set_cons_succ]
        go_wp2_with fail
        go_ret
        exact ⟨rfl, pz⟩
    · have ne : (EB != 0) = true := by simpa using e0
      have p9 := p1.trans g
      clear PB
      go_wp2_with fail
      go_ret
      exact ⟨rfl, p9⟩
  · have ne : (EA != 0) = true := by simpa using e0
    replace b1 := box_past g b1 (by omega)
    replace b2 := box_past g b2 (by omega)
    replace p1 := p1.trans g
    replace s1 := size_past g s1
    have g67 := Lib.hid g
    clear g PA
    go_wp2_with (first | refine wpList_load_box rfl 40 (.tmp 3) rfl (Q + 1) _ rfl b2 Try.underlying40 rfl (by kernel_rfl) ?_)
    refine (PB.out _ g67.out).mono ?_
    rintro e w8 (⟨_, Bb, _, rfl, _, g⟩ | ⟨_, rfl, g⟩)
    · have p9 := p1.trans g
      clear PB
      go_wp2_with fail
      go_ret
      exact ⟨rfl, p9⟩
    · have p9 := p1.trans g
      clear PB
      go_wp2_with fail
      go_ret
      exact ⟨rfl, p9⟩
end Go.Proofs.Ytejllmjkeefloaa
