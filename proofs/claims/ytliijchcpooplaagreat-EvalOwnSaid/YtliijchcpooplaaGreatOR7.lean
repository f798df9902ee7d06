/- The reference's Outs of layer 6: of a graph that may be, and numbers that fit. EvalOwn: the walk. -/
import Derived.Test.YtliijchcpooplaaGreatOR6
namespace Go.Proofs.YtliijchcpooplaaGreat
open Go.ChangeShapes Go.WideShapes Go.ChangeAt Go.RowKit
set_option maxRecDepth 20000
set_option linter.unusedVariables false
set_option linter.unusedSimpArgs false
set_option maxHeartbeats 4000000 in
theorem r6outs_ok (g : GraphD) (gv iv : Value) (us : List Value) (ins : List (List Int)) (W : World) (hg : IsGraph W gv g) (hc : Cut g) (hi : HasCells W iv us) (hn : AreNums W us ins) (h0 : valuesE g = 0) (hf : fitsP g.ins ins) :
    Calls Tryz.prog 11 #[gv, iv] W fun e w' => ∃ v, e = .returned (.tuple #[v, .int .i64 0]) /\ IsRows w' v (namedR (evalL g ins) g.outs) /\ Past W w' := by
  have HG := Lib.hid hg
  have FT := Lib.hid (eval_fits h0 (graph_bytes hg) hf hn.bytes)
  obtain ⟨nv1, nv2, nv3, rfl, hi1, hn1, ho1⟩ := hg
  obtain ⟨A1, c1, rfl, _⟩ := hi1
  obtain ⟨A2, c2, rfl, _⟩ := hn1
  obtain ⟨A3, c3, rfl, _, o2, _, _, o5⟩ := ho1
  have OF := Lib.hid (outs_fits h0 FT.out)
  have AL := Lib.hid (fun w (p : Past W w) => r6all_ok g _ iv us ins w (HG.out.grow p) hc (hi.grow p) (hn.grow p) h0 hf)
  have BG1 := (begins_ok (values_ok h0).1).1.1
  have BG2 := (begins_ok (values_ok h0).1).1.2.1
  have BG3 := (begins_ok (values_ok h0).1).1.2.2.1
  have e1 : ((0 : Int) != 0) = false := by decide
  have O5 := Lib.hid o5
  have LO : g.outs.length <= 1000 := hc.1
  obtain ⟨i0, hi0, hz0, hz1, hz2⟩ := info_parts infoS8
  have I1 := Lib.hid hi0
  have I2 := Lib.hid hz0
  have I3 := Lib.hid hz1
  have I4 := Lib.hid hz2
  clear hi hn h0 hf hc hi0 hz0 hz1 hz2 o5 o2
  go_enter Tryz.func11, Tryz.ntmps11
  go_upto_region 1 with fail
  refine opq (fun w' => (Bx w' (W.heap.size) #[.slice A1 g.ins.length c1, .slice A2 g.nodes.length c2, .slice A3 g.outs.length c3]) /\ Past W w' /\ W.heap.size + 1 <= w'.heap.size) kKeep ?_
  rintro w1 ⟨b1, p1, z1⟩
  go_wp2_with fail
  refine (AL.out _ p1).mono ?_
  rintro e w2 ⟨v, rfl, ⟨ws, oc, oa⟩, p2⟩
  have q2 := p1.trans p2
  have b2 := box_past p2 b1 (by omega)
  have AN := Lib.hid (oa.nums FT.out.bytes)
  have HWL : ws.length = g.ins.length + g.nodes.length := oa.1.trans FT.out.1
  have INP : inP ws.length g.outs := by rw [HWL]; exact OF.out.1
  have NU := Lib.hid (namedU_nums AN.out INP)
  have HI := Lib.hid INP
  have SL := Lib.hid AN.out.slices
  obtain ⟨ob, oo, ocp, rfl, _, _, hob, hoc⟩ := (oc.has).form (by
    apply Classical.byContradiction
    intro c
    have h1 := BG1
    omega)
  have HOC := Lib.hid hoc
  have HOB := Lib.hid hob
  have hm1 : ws.length <= 9223372036854775807 := by omega
  have s2 : W.heap.size + 1 <= w2.heap.size := by have := p2.2.2.1; omega
  obtain ⟨P0, hP0⟩ : ∃ P, W.heap.size = P := ⟨_, rfl⟩
  rw [hP0] at b2 s2
  simp only [hP0]
  clear b1 p1 z1 p2 oc oa INP hoc hob hP0 HWL
  go_upto_region 5 with fail
  refine opq (fun w' => (Bx w' P0 #[.slice A1 g.ins.length c1, .slice A2 g.nodes.length c2, .slice A3 g.outs.length c3]) /\ Past w2 w' /\ OwnCells w' w2.heap.size (.slice (some ⟨w2.heap.size, 0, none⟩) 0 0) []) ⟨box_old b2 (by omega), (Past.refl _).alloc _, ownRows_new (Nat.le_refl _)⟩ ?_
  rintro w6 ⟨b6, p6, oc6⟩
  have OC6 := Lib.hid oc6
  clear oc6
  go_wp2_with fail
  go_loopw [8, 9] (fun v i wr => ∃ k : Nat, k <= g.outs.length /\ i = .int .i64 (k : Int) /\ Hid (OwnCells wr w2.heap.size v (namedU ws (g.outs.take k))) /\ (Bx wr P0 #[.slice A1 g.ins.length c1, .slice A2 g.nodes.length c2, .slice A3 g.outs.length c3]) /\ Past w2 wr) (fun _ i _ => g.outs.length - (intOf i).toNat)
  case atStart => exact ⟨0, by omega, rfl, OC6, b6, p6⟩
  case round =>
    clear OC6 b6 p6
    obtain ⟨k, hk, rfl, hown, br, hp⟩ := hrel
    by_cases h : k < g.outs.length
    . obtain ⟨b, off, rfl, hbb, hc⟩ := O5.out (by omega)
      have c0 := ((q2.trans hp).cell (p := ⟨b, off + k, none⟩) hbb).trans (hc k h)
      obtain ⟨x0, x1⟩ := HI.out k h
      obtain ⟨x, hx⟩ : ∃ x, g.outs.getD k 0 = x := ⟨_, rfl⟩
      rw [hx] at c0 x0 x1
      obtain ⟨m, rfl⟩ : ∃ m : Nat, x = m := ⟨x.toNat, by omega⟩
      have HX := Lib.hid hx
      have x2 : m < ws.length := by omega
      have c1' := (hp.cell (p := ⟨ob, oo + m, none⟩) HOB.out).trans (HOC.out m x2)
      obtain ⟨y, hy⟩ : ∃ y, ws.getD m nilS = y := ⟨_, rfl⟩
      obtain ⟨Ay, ly, cy, rfl⟩ := SL.out y (by rw [<- hy]; simp [List.getD, x2])
      rw [hy] at c1'
      have HY := Lib.hid hy
      have HP := Lib.hid hp
      have lk : (namedU ws (g.outs.take k)).length = k := by simp [namedU]; omega
      have LK := Lib.hid lk
      have HLT := Lib.hid (World.ownsRow.lt hown.out)
      have hsz : w2.heap.size <= wr.heap.size := hp.2.2.1
      clear hc hx hy lk hp
      go_wp2_with (at_builtin; refine wpList_append_own _ rfl (.tmp 27) (.tmp 36) 30 rfl w2.heap.size 27 i0 _ 1 24 Tryz.underlying30 I1.out I2.out I3.out I4.out rfl (by decide) _ _ _ rfl (World.ownsRow.alloc hown.out _) ⟨wr.heap.size, 0, none⟩ 1 1 [.slice Ay ly cy] rfl rfl (fun j u hu => cells_new1 wr _ 27 j u hu) (fun u hu => by simp only [List.mem_singleton] at hu; subst hu; rfl) ?c4 ?c5 ?c6 ?_)
      case c4 => rw [LK.out]; unfold maxLen; omega
      case c5 => rw [LK.out]; omega
      case c6 => simp; omega
      intro v4 w4 hown4 hgrow _
      have hp4 : Past w2 w4 := (HP.out.alloc _).grownBy hgrow (fun j hj => (HLT.out j hj).1)
      have b4 := box_grownBy hgrow (box_old (x := .cells #[.slice Ay ly cy] 27) br (by omega)) (by simp; omega) (fun e => by have := (HLT.out _ e.symm).1; omega)
      have ho4 : Hid (OwnCells w4 w2.heap.size v4 (namedU ws (g.outs.take (k + 1)))) := Lib.hid (by
        unfold OwnCells
        rw [namedU_take ws g.outs k h, HX.out]
        simp only [Int.toNat_natCast, HY.out, List.length_append, List.length_cons, List.length_nil]
        exact hown4)
      clear hown4 hgrow
      go_wp2_with fail
      go_roundw
      case rel => exact ⟨k + 1, by omega, by go_num, ho4, b4, hp4⟩
      case measure => simp [intOf]; omega
    . have e : g.outs.take k = g.outs := List.take_of_length_le (by omega)
      rw [e] at hown
      clear e
      have pW := q2.trans hp
      have NR := Lib.hid (NU.out.grow hp)
      go_wp2_with fail
      go_ret2
      exact ⟨_, rfl, ⟨_, hown.out.has, NR.out⟩, pW⟩
def RowIs (w : World) (B : Nat) (u : Value) (n : Nat) : Prop := ∃ xs : List Value, w.ownsRow B 35 1 u n xs
theorem RowIs.set {w : World} {B n b o : Nat} {u x : Value} (h : RowIs w B u n) : RowIs (w.setCell ⟨b, o, none⟩ x) B u n := by
  obtain ⟨xs, hl, h⟩ := h
  rcases h with ⟨rfl, h0⟩ | ⟨g, cap, cur, rfl, hb, hg, hn, hm, hs, ht⟩
  . exact ⟨xs, hl, .inl ⟨rfl, h0⟩⟩
  . by_cases e : g = b
    . subst e
      refine ⟨(cur.setIfInBounds o x).toList.take (n * 1), ?_, .inr ⟨g, cap, cur.setIfInBounds o x, rfl, hb, heap_setCell_same w g o cur _ x hg, hn, hm, by simpa using hs, rfl⟩⟩
      rw [List.length_take, Array.length_toList, Array.size_setIfInBounds, hs]
      omega
    . exact ⟨xs, hl, .inr ⟨g, cap, cur, rfl, hb, (Below.heap_setCell w ⟨b, o, none⟩ x g e).trans hg, hn, hm, hs, ht⟩⟩
theorem own_form {w : World} {B e size n m c : Nat} {A : Option Addr} {xs : List Value} (h : w.ownsRow B e size (.slice A m c) n xs) (h0 : 0 < n) : ∃ b, A = some ⟨b, 0, none⟩ /\ B <= b /\ m = n /\ n <= c := by
  rcases h.2 with ⟨e, h0'⟩ | ⟨g, cap, cur, e, hb, hg, hn, hm, hs, ht⟩
  . omega
  . cases e
    exact ⟨g, rfl, hb, rfl, hn⟩
theorem row_slice {w : World} {B n : Nat} {u : Value} (h : RowIs w B u n) : ∃ A c, u = .slice A n c /\ n <= c /\ c <= maxLen := by
  obtain ⟨xs, h⟩ := h
  exact own_slice' h
theorem RowIs.form {w : World} {B n m c : Nat} {A : Option Addr} (h : RowIs w B (.slice A m c) n) (h0 : 0 < n) : ∃ b, A = some ⟨b, 0, none⟩ /\ B <= b /\ n <= c /\ (∀ k, k < n -> ∃ x, w.cell? ⟨b, k, none⟩ = some x) /\ ∀ k, w.frozen? ⟨b, k, none⟩ = false := by
  obtain ⟨xs, h⟩ := h
  obtain ⟨b, rfl, hb, rfl, hc⟩ := own_form h h0
  refine ⟨b, rfl, hb, hc, fun k hk => ?_, fun k => World.ownsRow.frozenAt h k⟩
  have hl := h.1
  exact ⟨_, (World.ownsRow.cellAt h k (by omega)).trans (List.getElem?_eq_getElem (by omega))⟩
theorem RowIs.of {w : World} {B : Nat} {u : Value} {xs : List Int} (h : Own8 w B u xs) : RowIs w B u xs.length := ⟨_, h⟩
theorem RowIs.ne {w : World} {B b n : Nat} {u v : Value} {us : List Value} (h : RowIs w B u n) (k : OwnCells w b v us) : ∀ j, v.ownBlock = some j -> u.ownBlock ≠ some j := by
  obtain ⟨xs, h⟩ := h
  intro j hj hu
  rcases own_ne k h (by decide) with e | e
  . rw [e] at hj; cases hj
  . rw [hj, hu] at e; exact e rfl
theorem named_bytes {D : List (List Int)} (h : AllBytes D) (ns : List Int) : AllBytes (namedR D ns) := by
  intro i hi
  rw [namedR_len] at hi
  rw [namedR_get hi]
  by_cases c : (ns.getD i 0).toNat < D.length
  . exact h _ c
  . have e : D.getD (ns.getD i 0).toNat [] = [] := by rw [List.getD_eq_getElem?_getD, List.getElem?_eq_none (Nat.le_of_not_lt c)]; rfl
    rw [e]
    intro x hx
    cases hx
set_option maxHeartbeats 8000000 in
theorem own_walk (W : World) (gv : Value) (g0 : GraphD) (hg0 : IsGraph W gv g0) (lv : Value) (ls : List Int) (hl0 : IsNums .i8 W lv ls) : Calls Tryz.prog 3 #[gv, lv] W fun e w' => e = .returned (.bool true) /\ Past W w' := by
  have HG0 := Lib.hid hg0
  have HLS := Lib.hid hl0
  obtain ⟨Lb, lc, rfl, _⟩ := hl0
  obtain ⟨iv0, nv0, ov0, rfl, hi0, hn0, ho0⟩ := hg0
  obtain ⟨B1, d1, rfl, _, _, _, _, _⟩ := hi0
  obtain ⟨B2, d2, rfl, _, _, _, _, _⟩ := hn0
  obtain ⟨B3, d3, rfl, _, _, _, _, _⟩ := ho0
  have LS := Lib.hid (fun w (p : Past W w) => less_any g0 _ w (HG0.out.grow p))
  have L6 : (lessD g0).ins.length <= 6 := by simp [lessD]; omega
  have L14 : (lessD g0).nodes.length <= 14 := by simp [lessD]; omega
  have LO6 : (lessD g0).outs.length <= 6 := by simp [lessD]; omega
  obtain ⟨g, hg⟩ : ∃ g, lessD g0 = g := ⟨_, rfl⟩
  have CU : Hid (Cut g) := Lib.hid (hg ▸ cut_lessD g0)
  rw [hg] at LS L6 L14 LO6
  clear hg
  go_enter Tryz.func3, Tryz.ntmps3
  go_upto_region 1 with fail
  refine opq (fun w' => (Bx w' (W.heap.size) #[.slice B1 g0.ins.length d1, .slice B2 g0.nodes.length d2, .slice B3 g0.outs.length d3]) /\ (Fr w' (W.heap.size)) /\ Past W w' /\ W.heap.size + 1 <= w'.heap.size) kKeep ?_
  rintro w1 ⟨b1, f1, p1, s1⟩
  go_wp2_with fail
  refine (shown6 _).mono ?_
  rintro e w2 ⟨rfl, gq⟩
  obtain ⟨b2, f2, p2, s2⟩ : (Bx w2 (W.heap.size) #[.slice B1 g0.ins.length d1, .slice B2 g0.nodes.length d2, .slice B3 g0.outs.length d3]) /\ (Fr w2 (W.heap.size)) /\ Past W w2 /\ W.heap.size + 1 <= w2.heap.size := by (exact kKeep)
  clear b1 f1 p1 s1 gq
  go_wp2_with fail
  refine (LS.out _ p2).mono ?_
  rintro e w3 ⟨gw, rfl, HG, q3⟩
  obtain ⟨iv, nv, ov, rfl, hi, hn, ho⟩ := HG
  have HI := Lib.hid hi
  have HN := Lib.hid hn
  have HO := Lib.hid ho
  obtain ⟨A1, c1, rfl, i1, i2, _, _, i5⟩ := hi
  obtain ⟨A2, c2, rfl, n1, n2, _, _, n5⟩ := hn
  obtain ⟨A3, c3, rfl, o1, o2, _, _, o5⟩ := ho
  obtain ⟨b3, f3, s3⟩ : (Bx w3 (W.heap.size) #[.slice B1 g0.ins.length d1, .slice B2 g0.nodes.length d2, .slice B3 g0.outs.length d3]) /\ (Fr w3 (W.heap.size)) /\ W.heap.size + 1 <= w3.heap.size := by (exact kKeep)
  have q4 : Past W w3 := p2.trans q3
  clear b2 f2 p2 s2 q3 i1 i2 n1 n2 o1 o2 i5 n5 o5
  go_upto_region 3 with fail
  refine opq (fun w' => ((Bx w' (W.heap.size) #[.slice A1 g.ins.length c1, .slice A2 g.nodes.length c2, .slice A3 g.outs.length c3]) /\ (Fr w' (W.heap.size)) /\ Past W w' /\ W.heap.size + 1 <= w'.heap.size) /\ IsVals w' (.slice A1 g.ins.length c1) g.ins /\ IsNodes w' (.slice A2 g.nodes.length c2) g.nodes /\ IsNums .i64 w' (.slice A3 g.outs.length c3) g.outs) ⟨⟨box_set3 b3, by (exact kKeep), by (exact kKeep), by (exact kKeep)⟩, vals_save HI.out (noInt_box b3) ((((Save.refl _ _).set _ _).set _ _).set _ _), nodes_save HN.out (noInt_box b3) ((((Save.refl _ _).set _ _).set _ _).set _ _), nums_save HO.out (noInt_box b3) ((((Save.refl _ _).set _ _).set _ _).set _ _)⟩ ?_
  rintro w4 ⟨⟨b4, f4, p4, s4⟩, hi, hn, ho⟩
  have HG : Hid (IsGraph w4 (.agg #[.slice A1 g.ins.length c1, .slice A2 g.nodes.length c2, .slice A3 g.outs.length c3]) g) := Lib.hid ⟨_, _, _, rfl, hi, hn, ho⟩
  have HL4 := Lib.hid (HLS.out.grow p4)
  clear b3 f3 s3 q4 HI HN HO hi hn ho HG0 LS
  have FI := Lib.hid (fun (w : World) (p : Past w4 w) => filled_rows g _ _ ls w (HG.out.grow p) (HL4.out.grow p) (by omega))
  go_wp2_with fail
  refine (FI.out _ (Past.refl w4)).mono ?_
  rintro e w6 ⟨v6, rfl, ⟨us6, oc6, oa6⟩, q6⟩
  obtain ⟨ins, hins⟩ : ∃ ins, filledL ls g.ins g.ins.length = ins := ⟨_, rfl⟩
  have IB : Hid (AllBytes ins) := Lib.hid (by rw [<- hins]; exact filled_bytes (nums_bytes HLS.out) _ _)
  have FP : Hid (fitsP g.ins ins) := Lib.hid (by rw [<- hins]; exact filled_fits _ _)
  have INS := Lib.hid hins
  rw [hins] at oa6
  have IH := Lib.hid oc6.has
  have IN := Lib.hid (oa6.nums IB.out)
  have LI : Hid (us6.length = g.ins.length) := Lib.hid (oa6.1.trans FP.out.1)
  obtain ⟨AI, cI, rfl, _⟩ := own_slice' oc6
  have b6 := box_past q6 b4 (by omega)
  have r6 : Past w4 w6 := Past.trans (Past.refl w4) q6
  have s6 : W.heap.size + 1 <= w6.heap.size := by have := q6.2.2.1; omega
  clear oc6 oa6 hins
  have p6 : Past W w6 := p4.trans r6
  clear b4 f4 p4 s4
  by_cases hE : valuesE g = 0
  rotate_left
  . have EN := Lib.hid (eouts_no g _ (.slice AI us6.length cI) w6 (valuesE g) (HG.out.grow r6) CU.out rfl hE)
    obtain ⟨q, hq⟩ : ∃ q, valuesE g = q := ⟨_, rfl⟩
    rw [hq] at EN hE
    have e1 : (q != 0) = true := by simpa using hE
    clear hE hq
    go_wp2_with fail
    refine EN.out.mono ?_
    rintro e w7 ⟨rfl, p7⟩
    have P7 := Lib.hid p7
    clear p7
    go_wp2_with fail
    go_ret
    exact ⟨rfl, p6.trans P7.out⟩
  have E0 := Lib.hid hE
  have EA := Lib.hid (fun (w : World) (p : Past w6 w) => eouts_ok g _ (.slice AI us6.length cI) us6 ins w (HG.out.grow (r6.trans p)) CU.out (IH.out.grow p) (IN.out.grow p) E0.out FP.out)
  have RA := Lib.hid (fun (w : World) (p : Past w6 w) => r6outs_ok g _ (.slice AI us6.length cI) us6 ins w (HG.out.grow (r6.trans p)) CU.out (IH.out.grow p) (IN.out.grow p) E0.out FP.out)
  have FT := Lib.hid (eval_fits E0.out (graph_bytes HG.out) FP.out IB.out)
  have OFT := Lib.hid (outs_fits E0.out FT.out)
  have RB := Lib.hid (named_bytes FT.out.bytes g.outs)
  have IR : Hid (IsRows w6 (.slice AI us6.length cI) ins) := Lib.hid ⟨us6, IH.out, IN.out⟩
  obtain ⟨R, hR⟩ : ∃ R, namedR (evalL g ins) g.outs = R := ⟨_, rfl⟩
  have RL : Hid (R.length = g.outs.length) := Lib.hid (by rw [<- hR]; exact namedR_len _ _)
  have RS : Hid (∀ j, j < g.outs.length -> (R.getD j []).length <= 100000) := Lib.hid (fun j hj => by rw [<- hR]; exact (OFT.out.2 j hj).2)
  rw [hR] at EA RA RB
  have R6 := Lib.hid r6
  have P6 := Lib.hid p6
  clear hE hR FT OFT IH IN r6 p6 q6
  go_wp2_with fail
  refine (EA.out _ (Past.refl _)).mono ?_
  rintro e w7 ⟨v7, rfl, ⟨ws, oc, oa⟩, p7⟩
  have hwl : ws.length = g.outs.length := oa.1.trans RL.out
  obtain ⟨B, hB⟩ : ∃ B, w6.heap.size = B := ⟨_, rfl⟩
  have HB := Lib.hid hB
  rw [hB] at oc oa
  obtain ⟨A7, c7, rfl, _⟩ := own_slice' oc
  obtain ⟨M, hM⟩ : ∃ M, ws.length = M := ⟨_, rfl⟩
  have HM := Lib.hid hM
  have M6 : M <= 6 := by omega
  have OC7 := Lib.hid oc
  have RW7 : Hid (∀ j, j < M -> RowIs w7 B (ws.getD j nilS) (R.getD j []).length) := Lib.hid (fun j hj => RowIs.of (oa.2 j (by rw [RL.out]; omega)))
  have MB : Hid (∀ j, j < M -> (R.getD j []).length <= 100000) := Lib.hid (fun j hj => RS.out j (by omega))
  have e1 : ((0 : Int) != 0) = false := by decide
  have b6' := b6
  have b7 := box_past p7 b6 (by omega)
  have s7 : W.heap.size + 1 <= w7.heap.size := by have := p7.2.2.1; omega
  rw [hM]
  clear hB hM hwl oc oa b6 b7 s7
  go_wp2_with fail
  go_loopw [9, 10] (fun iv kv wr => ∃ i : Nat, i <= M /\ iv = .int .i64 (i : Int) /\ Hid (OwnCells wr B (.slice A7 M c7) ws) /\ Hid (∀ j, j < M -> RowIs wr B (ws.getD j nilS) (R.getD j []).length) /\ Hid (Past w6 wr)) (fun iv _ _ => M - (intOf iv).toNat)
  case atStart => exact ⟨0, by omega, rfl, (by have := OC7.out; rwa [HM.out] at this), RW7, Lib.hid p7⟩
  case round =>
    clear OC7 RW7 p7
    obtain ⟨i, hi, rfl, oc, rw', pr⟩ := hrel
    by_cases h : i < M
    . have d1 : decide ((i : Int) < (M : Int)) = true := decide_eq_true (by omega)
      obtain ⟨ab, rfl, hab, -, hac⟩ := own_form oc.out (by have := HM.out; omega)
      have hac' : (M : Int) <= (c7 : Int) := by have := HM.out; omega
      have i0' : (0 : Int) <= (i : Int) := by omega
      have i1' : (i : Int) < (M : Int) := by omega
      have RU := rw'.out i h
      obtain ⟨N, hN⟩ : ∃ N, (R.getD i []).length = N := ⟨_, rfl⟩
      have HN := Lib.hid hN
      have N5 : N <= 100000 := by have := MB.out i h; omega
      rw [hN] at RU
      obtain ⟨u, hu⟩ : ∃ u, ws.getD i nilS = u := ⟨_, rfl⟩
      have HU := Lib.hid hu
      rw [hu] at RU
      have HUC := Lib.hid (row_slice RU)
      obtain ⟨Au, cu, rfl, -⟩ := HUC.out
      clear HUC RU hN hu
      go_upto_region 10 with fail
      go_wp2_with fail
      go_loopw [10] (fun jv wq => ∃ k : Nat, k <= N /\ jv = .int .i64 (k : Int) /\ Hid (OwnCells wq B (.slice (some ⟨ab, 0, none⟩) M c7) ws) /\ Hid (∀ j, j < M -> RowIs wq B (ws.getD j nilS) (R.getD j []).length) /\ Hid (Past w6 wq)) (fun jv _ => N - (intOf jv).toNat)
      case atStart => exact ⟨0, by omega, rfl, oc, rw', pr⟩
      case round =>
        clear oc rw' pr
        obtain ⟨k, hk, rfl, oc, rw', pr⟩ := hrel
        have hA : wr.cell? ⟨ab, i, none⟩ = some (.slice Au N cu) := by
          have o := oc.out
          unfold OwnCells at o
          rw [HM.out] at o
          have := World.ownsRow.cellAt o i (by omega)
          rw [this, <- HU.out, List.getD_eq_getElem?_getD, List.getElem?_eq_getElem (by have := HM.out; omega)]
          rfl
        by_cases h2 : k < N
        . have d3 : decide ((k : Int) < (N : Int)) = true := decide_eq_true (by omega)
          have RU := rw'.out i h
          rw [HN.out, HU.out] at RU
          obtain ⟨gb, rfl, hgb, hgc, hrc, hrf⟩ := RU.form (by omega)
          obtain ⟨x, hx⟩ := hrc k h2
          have hf := hrf k
          have hgc' : (N : Int) <= (cu : Int) := by omega
          have k0' : (0 : Int) <= (k : Int) := by omega
          have k1' : (k : Int) < (N : Int) := by omega
          go_wp2_with fail
          go_roundw
          case rel => exact ⟨k + 1, by omega, by go_num, Lib.hid (own_set_ne oc.out (fun j hj e => RU.ne oc.out j hj (by rw [e]; rfl))), Lib.hid (fun j hj => (rw'.out j hj).set), Lib.hid (pr.out.setCell (by have := HB.out; simp; omega) _)⟩
          case measure => simp [intOf]; omega
        . obtain rfl : N = k := by omega
          have d3 : decide ((N : Int) < (N : Int)) = false := by simp
          go_wp2_with fail
          go_roundw
          case rel => exact ⟨i + 1, by omega, by go_num, oc, rw', pr⟩
          case measure => simp [intOf]; omega
    . obtain rfl : M = i := by omega
      have d2 : decide ((M : Int) < (M : Int)) = false := by simp
      have P6r := P6.out.trans pr.out
      have sW : W.heap.size + 1 <= wr.heap.size := by have := pr.out.2.2.1; omega
      have bW := box_past pr.out b6' (by omega)
      have PR := Lib.hid pr.out
      have R6r := Lib.hid (R6.out.trans pr.out)
      clear oc rw' pr b6' hi h
      go_wp2_with fail
      refine (FI.out wr R6r.out).mono ?_
      rintro e w8 ⟨v8, rfl, o8, p8⟩
      rw [INS.out] at o8
      have IR8 := Lib.hid (o8.is IB.out)
      have bW := box_past p8 bW sW
      have P68 := Lib.hid (PR.out.trans p8)
      obtain ⟨us8, oc8, oa8⟩ := o8
      obtain ⟨A8, c8, rfl, _⟩ := own_slice' oc8
      have s8 : W.heap.size + 1 <= w8.heap.size := by have := p8.2.2.1; omega
      clear oc8 oa8 PR R6r p8 sW
      go_wp2_with fail
      refine (same6_eq _ _ ins w8 (IR.out.grow P68.out) IR8.out).mono ?_
      rintro e w9 ⟨rfl, p9⟩
      have bW := box_past p9 bW s8
      have P69 := Lib.hid (P68.out.trans p9)
      have s9 : W.heap.size + 1 <= w9.heap.size := by have := p9.2.2.1; omega
      clear IR8 P68 p9 s8
      go_wp2_with fail
      refine (EA.out _ P69.out).mono ?_
      rintro e w10 ⟨v10, rfl, o10, p10⟩
      have IR10 := Lib.hid (o10.is RB.out)
      have bW := box_past p10 bW s9
      have P610 := Lib.hid (P69.out.trans p10)
      obtain ⟨us10, oc10, oa10⟩ := o10
      obtain ⟨A10, c10, rfl, _⟩ := own_slice' oc10
      have s10 : W.heap.size + 1 <= w10.heap.size := by have := p10.2.2.1; omega
      clear oc10 oa10 P69 p10 s9
      go_wp2_with fail
      refine (RA.out _ P610.out).mono ?_
      rintro e w11 ⟨v11, rfl, o11, p11⟩
      have IR11 := Lib.hid o11
      have IR10 := Lib.hid (IR10.out.grow p11)
      have P611 := Lib.hid (P610.out.trans p11)
      obtain ⟨us11, oc11, _⟩ := o11
      obtain ⟨A11, c11, rfl, _⟩ := oc11
      clear P610 p11 s10
      have t0 : ((0 : Int) == 0) = true := by decide
      go_wp2_with fail
      refine (same6_eq _ _ R w11 IR10.out IR11.out).mono ?_
      rintro e w12 ⟨rfl, p12⟩
      go_wp2_with fail
      go_ret
      exact ⟨rfl, (P6.out.trans P611.out).trans p12⟩
end Go.Proofs.YtliijchcpooplaaGreat
