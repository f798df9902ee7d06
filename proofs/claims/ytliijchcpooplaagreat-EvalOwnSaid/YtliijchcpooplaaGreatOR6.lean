/- The reference's All of layer 6: of a graph that may be, and numbers that fit. -/
import Derived.Test.YtliijchcpooplaaGreatOMLde
import Derived.Test.YtliijchcpooplaaGreatOEh
import Derived.Test.YtliijchcpooplaaGreatOQ7
namespace Go.Proofs.YtliijchcpooplaaGreat
open Go.ChangeShapes Go.WideShapes Go.ChangeAt Go.RowKit
set_option maxRecDepth 20000
set_option linter.unusedVariables false
set_option linter.unusedSimpArgs false
theorem wpList_append_srcN {P : Program} {w : World} {ops : Array Oper} {rest : List Oper} {o : Oper} {a : Act} {Q : Exit -> Act -> World -> Prop} (hgd : o.guard = none) (s x : Operand) (t : TypeId)
    (ho : o.op = .call { callee := .builtin .append, args := #[s, x], argTypes := #[t, t] })
    (base : Nat) (e : TypeId) (i : TypeInfo) (z : Value) (size bytes : Nat) (ht : P.underlying t = some (.slice e)) (hi : P.info? e = some i) (hz : i.zero = some z)
    (hsize : i.size = size) (hby : i.bytes = bytes) (hzs : z.cells.size = size) (hsz : 0 < size)
    (v : Value) (n : Nat) (xs : List Value) (hs : a.eval s = v) (hown : w.ownsRow base e size v n xs)
    (A : Option Addr) (m c : Nat) (news : List Value) (hx : a.eval x = .slice A m c) (hl : news.length = m * size) (hnews : SrcN w A c news) (h1 : ∀ u ∈ news, u.oneCell' = true)
    (h63 : n + m <= maxLen) (hbytes : (n + m) * bytes <= 140737488355328) (hbase : base <= w.heap.size)
    (h : ∀ v' w', w'.ownsRow base e size v' (n + m) (xs ++ news) -> w.grownBy w' v.ownBlock -> wpList P ops Q rest (a.put o.dst v') w') : wpList P ops Q (o :: rest) a w :=
  wpList_plain hgd fun _ hK => wp_append_src w s x t ho base e i z size bytes ht hi hz hsize hby hzs hsz v n xs hs hown A m c news hx hl hnews h1 h63 hbytes hbase fun v' w' h2 h3 => hK _ _ (h v' w' h2 h3)
theorem src8 {w : World} {A : Option Addr} {len cap : Nat} {xs : List Int} (h : IsNums .i8 w (.slice A len cap) xs) : SrcN w A cap (xs.map (Value.int .i8)) := by
  obtain ⟨A', cap', e, _, _, hz, _, h6⟩ := h
  simp only [Value.slice.injEq] at e
  obtain ⟨rfl, _, rfl⟩ := e
  by_cases hp : 0 < xs.length
  . obtain ⟨b, off, rfl, hb, hc⟩ := h6 hp
    refine .inr ⟨_, rfl, fun j u hu => ⟨hb, ?_⟩⟩
    have hj : j < xs.length := by have := (List.getElem?_eq_some_iff.1 hu).1; simpa using this
    rw [add_plain, hc j hj]
    simp [hj] at hu
    simp [List.getD, hj, hu]
  . have hn : xs = [] := List.eq_nil_of_length_eq_zero (by omega)
    subst hn
    cases hA : A with
    | none => exact .inl ⟨rfl, hz hA, rfl⟩
    | some ad => exact .inr ⟨ad, rfl, fun j u hu => by simp at hu⟩
theorem i8_one (xs : List Int) : ∀ u ∈ xs.map (Value.int .i8), u.oneCell' = true := fun u hu => by
  obtain ⟨x, _, rfl⟩ := List.mem_map.1 hu
  rfl
theorem take_bytes {l : List (List Int)} (h : AllBytes l) (m : Nat) : AllBytes (l.take m) := by
  intro i hi
  simp only [List.length_take] at hi
  have e : (l.take m).getD i [] = l.getD i [] := by simp [List.getD, show i < m by omega]
  rw [e]
  exact h i (by omega)
theorem take_rows (l : List (List Int)) (k : Nat) (h : k < l.length) : l.take (k + 1) = l.take k ++ [l.getD k []] := by
  rw [List.take_succ_eq_append_getElem h]
  simp [List.getD, h]
set_option maxHeartbeats 8000000 in
theorem r6all_ok (g : GraphD) (gv iv : Value) (us : List Value) (ins : List (List Int)) (W : World) (hg : IsGraph W gv g) (hc : Cut g) (hi : HasCells W iv us) (hn : AreNums W us ins) (h0 : valuesE g = 0) (hf : fitsP g.ins ins) :
    Calls Tryz.prog 19 #[gv, iv] W fun e w' => ∃ v, e = .returned (.tuple #[v, .int .i64 0]) /\ OwnRows w' W.heap.size v (evalL g ins) /\ Past W w' := by
  have VA := Lib.hid (fun (w : World) (p : Past W w) => rvalues_any g gv w (hg.grow p) hc)
  have HG := Lib.hid hg
  have FP := Lib.hid hf
  have E0 := Lib.hid h0
  have NU := Lib.hid hn
  have ML := Lib.hid (makes_facts h0)
  have BG := Lib.hid (begins_ok (values_ok h0).1)
  have FT := Lib.hid (eval_fits h0 (graph_bytes hg) hf hn.bytes)
  have CU := Lib.hid hc
  have lu : us.length = g.ins.length := hn.1.trans hf.1
  have i1 : 0 < g.ins.length := by have := (begins_ok (values_ok h0).1).1.1; omega
  have g1 := (begins_ok (values_ok h0).1).1.1
  have g2 := (begins_ok (values_ok h0).1).1.2.2.1
  have g4 : g.ins.length <= 4 := (begins_ok (values_ok h0).1).1.2.1
  obtain ⟨ub, uo, uc, rfl, _, _, hub, huc⟩ := hi.form (by omega)
  rw [lu] at huc ⊢
  have HUC := Lib.hid huc
  have HUB := Lib.hid hub
  have SL := Lib.hid hn.slices
  obtain ⟨nv1, nv2, nv3, rfl, hi1, hn1, ho1⟩ := hg
  obtain ⟨A1, c1, rfl, _, _, _, iw, i5⟩ := hi1
  obtain ⟨A2, c2, rfl, _, n2, _, nwf, n5⟩ := hn1
  obtain ⟨A3, c3, rfl, _, _, _, _, _⟩ := ho1
  obtain ⟨ib, io, rfl, hib, hic⟩ := i5 (by omega)
  have HIC := Lib.hid hic
  have HIB := Lib.hid hib
  have HN5 := Lib.hid n5
  obtain ⟨i0, hi0, hz0, hz1, hz2⟩ := info_parts infoS8
  have I1 := Lib.hid hi0
  have I2 := Lib.hid hz0
  have I3 := Lib.hid hz1
  have I4 := Lib.hid hz2
  obtain ⟨j0, hj0, hy0, hy1, hy2⟩ := info_parts infoI8
  have J1 := Lib.hid hj0
  have J2 := Lib.hid hy0
  have J3 := Lib.hid hy1
  have J4 := Lib.hid hy2
  clear hi0 hz0 hz1 hz2 hj0 hy0 hy1 hy2 hi hn h0 hf hc lu huc hub hic hib n5 n2 nwf iw i5
  go_enter Tryz.func19, Tryz.ntmps19
  go_upto_region 1 with fail
  refine opq (fun w' => (Bx w' (W.heap.size) #[.slice (some ⟨ib, io, none⟩) g.ins.length c1, .slice A2 g.nodes.length c2, .slice A3 g.outs.length c3]) /\ Past W w' /\ W.heap.size + 1 <= w'.heap.size) kKeep ?_
  rintro w1 ⟨b1, p1, z1⟩
  go_wp2_with fail
  refine (VA.out _ p1).mono ?_
  rintro e w5 ⟨v5, q, rfl, hq, hv5, q5⟩
  have b5 := box_past q5 b1 (by omega)
  have p5 : Past W w5 := p1.trans q5
  have s5 : W.heap.size + 1 <= w5.heap.size := by have := q5.2.2.1; omega
  have e1 : (q != 0) = false := by simp [hq.2 E0.out]
  have HV5 := Lib.hid (hv5 E0.out)
  obtain ⟨AV, cV, rfl, _⟩ := hv5 E0.out
  obtain ⟨P0, hP0⟩ : ∃ P, W.heap.size = P := ⟨_, rfl⟩
  have HP0 := Lib.hid hP0
  rw [hP0] at b5 s5
  simp only [hP0]
  clear hq hv5 b1 p1 z1 q5 VA hP0
  go_upto_region 5 with fail
  refine opq (fun w' => (Bx w' P0 #[.slice (some ⟨ib, io, none⟩) g.ins.length c1, .slice A2 g.nodes.length c2, .slice A3 g.outs.length c3]) /\ Past w5 w' /\ OwnCells w' w5.heap.size (.slice (some ⟨w5.heap.size, 0, none⟩) 0 0) []) ⟨box_old b5 (by omega), (Past.refl _).alloc _, ownRows_new (Nat.le_refl _)⟩ ?_
  rintro w6 ⟨b6, p6, oc6⟩
  have OC6 := Lib.hid oc6
  clear oc6
  go_wp2_with fail
  go_loopw [8, 9] (fun v i wr => ∃ (k : Nat) (ws : List Value), k <= g.ins.length /\ i = .int .i64 (k : Int) /\ Hid (OwnCells wr w5.heap.size v ws) /\ Hid (AreOwn wr w5.heap.size ws (ins.take k)) /\ ws.length = k /\ (Bx wr P0 #[.slice (some ⟨ib, io, none⟩) g.ins.length c1, .slice A2 g.nodes.length c2, .slice A3 g.outs.length c3]) /\ Past w5 wr) (fun _ i _ => g.ins.length - (intOf i).toNat)
  case atStart => exact ⟨0, [], by omega, rfl, OC6, Lib.hid (AreOwn.nil _ _), rfl, b6, p6⟩
  case round =>
    clear OC6 b6 p6
    obtain ⟨k, ws, hk, rfl, oc, oa, hwl, br, pr⟩ := hrel
    have pW := p5.trans pr
    have sr : P0 + 1 <= wr.heap.size := by have := pr.2.2.1; omega
    by_cases h : k < g.ins.length
    . obtain ⟨y, hy⟩ : ∃ y, g.ins.getD k default = y := ⟨_, rfl⟩
      have VAy := HIC.out k h
      rw [hy] at VAy
      obtain ⟨y0, y1, y2, y3⟩ := ValAt.grow VAy HIB.out pW
      obtain ⟨R, hR⟩ : ∃ R, ins.getD k [] = R := ⟨_, rfl⟩
      have hF := FP.out.2 k h
      rw [hy, hR] at hF
      have lin : k < ins.length := by rw [FP.out.1]; exact h
      have NUk := NU.out.2 k lin
      rw [hR] at NUk
      have cu := (pW.cell (p := ⟨ub, uo + k, none⟩) HUB.out).trans (HUC.out k h)
      obtain ⟨U, hU⟩ : ∃ U, us.getD k nilS = U := ⟨_, rfl⟩
      rw [hU] at NUk cu
      obtain ⟨Au, cU, rfl, -⟩ := id NUk
      have NUR := Lib.hid NUk
      obtain ⟨N, hN⟩ : ∃ N, R.length = N := ⟨_, rfl⟩
      rw [hN] at hF NUR cu
      have HQ : Hid ((N : Int) = sizeI y.h y.w y.c) := Lib.hid hF
      have HNR := Lib.hid hN
      have NB : N <= 2048 := by
        have := szV_bd y
        unfold szV at this
        omega
      have TK := Lib.hid (take_rows ins k lin)
      rw [hR] at TK
      have hubr : ub < wr.heap.size := Nat.lt_of_lt_of_le HUB.out pW.2.2.1
      have hibr : ib < wr.heap.size := Nat.lt_of_lt_of_le HIB.out pW.2.2.1
      have t1 : ((g.ins.length : Int) != (g.ins.length : Int)) = false := by simp
      have t2 : ((N : Int) != (N : Int)) = false := by simp
      have k0 : (0 : Int) <= (k : Int) := by omega
      have k1 : (k : Int) < (g.ins.length : Int) := by omega
      obtain ⟨wo, hwo⟩ : ∃ wo, wo = wr := ⟨_, rfl⟩
      subst hwo
      clear VAy hy hR hF NUk hU hN lin y3
      go_upto_region 8 with fail
      refine wp_region_fill (fun w' => (Bx w' P0 #[.slice (some ⟨ib, io, none⟩) g.ins.length c1, .slice A2 g.nodes.length c2, .slice A3 g.outs.length c3]) /\ w'.cell? ⟨ub, uo + k, none⟩ = some (.slice Au N cU) /\ w'.cell? ⟨ib, io + k * 4, none⟩ = some (.int .i64 y.h) /\ w'.cell? ⟨ib, io + k * 4 + 1, none⟩ = some (.int .i64 y.w) /\ w'.cell? ⟨ib, io + k * 4 + 2, none⟩ = some (.int .i64 y.c) /\ Past wo w' /\ P0 + 1 <= w'.heap.size /\ ub + 1 <= w'.heap.size /\ ib + 1 <= w'.heap.size) [(33, ?va33), (34, ?va34), (35, ?va35), (36, ?va36), (37, ?va37), (38, ?va38), (39, ?va39), (40, ?va40), (41, ?va41), (42, ?va42), (43, ?va43), (44, ?va44), (45, ?va45), (46, ?va46), (47, ?va47), (48, ?va48), (49, ?va49), (50, ?va50), (51, ?va51), (52, ?va52), (53, ?va53)] [33, 34, 35, 36, 37, 38, 39, 40, 41, 42, 43, 44, 45, 46, 47, 48, 49, 50, 51, 52, 53] (by kernel_rfl) (by kernel_rfl) rfl (by kernel_rfl) ⟨br, cu, y0, y1, y2, Past.refl wo, sr, hubr, hibr⟩ (fun w h => h) ?alla ?fina
      case alla =>
        simp only [fillA, Act.put, fU1, fU2, fU3]
        iterate 21 (refine owes_cons (fun w hw K hK => ?_) ?_; focus ((have hS := Lib.hid hw); go_split_ands; go_simp; (try simp only [Act.put, List.setIfInBounds_toArray, List.set_cons_zero, List.set_cons_succ]); first | exact hK _ hS.out | (((go_at_call 16; with_reducible refine (rsize_any y.h y.w y.c (N : Int) _ HQ).mono ?_; rintro e w3 ⟨rfl, g3⟩; replace g3 := Grown.past g3)); refine hK _ ?_; (exact kKeep))))
        exact True.intro
      case fina =>
        rintro w7 ⟨b7, cu7, -, -, -, p7, s7, hub7, -⟩
        simp only [fillA, Act.put, fU1, fU2, fU3]
        have oc7 := Lib.hid (oc.out.past p7)
        have oa7 := Lib.hid (oa.out.past p7)
        have NU7 := Lib.hid (NUR.out.grow (pW.trans p7))
        have pr7 := pr.trans p7
        have P75 := Lib.hid pr7
        have HL7 := Lib.hid (World.ownsRow.lt oc7.out)
        have lt7 : w5.heap.size <= w7.heap.size := pr7.2.2.1
        have ml : (R.map (Value.int .i8)).length = N * 1 := by rw [List.length_map, HNR.out, Nat.mul_one]
        have ML8 := Lib.hid ml
        have cuz := cell_alloc (x := .cells #[] 27) cu7 (by dsimp only; omega)
        have cuz' := cell_alloc (x := .cells #[] 35) cu7 (by dsimp only; omega)
        clear ml oc oa br y0 y1 y2 cu hubr hibr pr pW sr NUR p7 pr7 t1 t2
        go_wp2_with (at_builtin; refine wpList_append_srcN rfl (.tmp 55) (.tmp 59) 27 rfl w7.heap.size 35 j0 _ 1 1 Tryz.underlying27 J1.out J2.out J3.out J4.out rfl (by decide) _ 0 [] rfl (World.ownsRow_lit w7 #[] 0 (Nat.le_refl _) (by decide) rfl) Au N cU (R.map (Value.int .i8)) rfl ML8.out (src8 (NU7.out.grow ((Past.refl _).alloc _))) (i8_one R) (by unfold maxLen; omega) (by omega) (by simp) ?_)
        intro v8 w8 own8 grw8
        have p8 : Past w7 w8 := ((Past.refl _).alloc _).grownBy grw8 (fun j hj => by simp [Value.ownBlock] at hj; omega)
        have O8 : Own8 w8 w7.heap.size v8 R := by
          unfold Own8
          rw [HNR.out]
          simpa using own8
        obtain ⟨A8, c8, e8, _⟩ := own_slice' O8
        rw [HNR.out] at e8
        subst e8
        have OB8 := Lib.hid O8
        have oc8 := Lib.hid (oc7.out.past p8)
        have oa8 := Lib.hid (oa7.out.past p8)
        have b8 := box_past p8 b7 (by omega)
        have P85 := Lib.hid (P75.out.trans p8)
        have HL8 := Lib.hid (World.ownsRow.lt oc8.out)
        have lt8 : w5.heap.size <= w8.heap.size := P85.out.2.2.1
        clear own8 grw8 p8 O8 oc7 oa7 b7 HL7 cu7 cuz cuz' hub7 ML8
        go_wp2_with (at_builtin; refine wpList_append_own _ rfl (.tmp 54) (.tmp 61) 30 rfl w5.heap.size 27 i0 _ 1 24 Tryz.underlying30 I1.out I2.out I3.out I4.out rfl (by decide) _ _ _ rfl (World.ownsRow.alloc oc8.out _) ⟨w8.heap.size, 0, none⟩ 1 1 [.slice A8 N c8] rfl rfl (fun j u hu => cells_new1 w8 _ 27 j u hu) (fun u hu => by simp only [List.mem_singleton] at hu; subst hu; rfl) ?c4 ?c5 ?c6 ?_)
        case c4 => unfold maxLen; omega
        case c5 => omega
        case c6 => simp; omega
        intro v4 w9 hown9 hgrow _
        have q9 : Past w5 w9 := (P85.out.alloc _).grownBy hgrow (fun j hj => (HL8.out j hj).1)
        have oc9 : Hid (OwnCells w9 w5.heap.size v4 (ws ++ [.slice A8 N c8])) := Lib.hid (by
          unfold OwnCells
          rw [List.length_append, hwl]
          exact hown9)
        have OAx : Own8 (w8.alloc (.cells #[.slice A8 N c8] 27)) w5.heap.size (.slice A8 N c8) R := own8_base (World.ownsRow.alloc OB8.out _) (by omega)
        have oa9 : Hid (AreOwn w9 w5.heap.size (ws ++ [.slice A8 N c8]) (ins.take (k + 1))) := Lib.hid (by
          rw [TK.out]
          exact (AreOwn.snoc (oa8.out.past ((Past.refl _).alloc _)) OAx).grow (World.ownsRow.alloc oc8.out _) hgrow)
        have b9 := box_grownBy hgrow (box_old (x := .cells #[.slice A8 N c8] 27) b8 (by omega)) (by simp; omega) (fun e => by have := (HL8.out _ e.symm).1; omega)
        clear hown9 hgrow OAx OB8 oc8 oa8 HL8 b8
        go_wp2_with fail
        go_roundw
        case rel => exact ⟨k + 1, _, by omega, by go_num, oc9, oa9, by simp [hwl], b9, q9⟩
        case measure => simp [intOf]; omega
    . obtain rfl : k = g.ins.length := by omega
      have lin : ins.length = g.ins.length := FP.out.1
      have et : ins.take g.ins.length = ins := by rw [<- lin, List.take_length]
      rw [et] at oa
      clear et
      obtain ⟨V, hV⟩ : ∃ V, valuesL g = V := ⟨_, rfl⟩
      have HV0 := Lib.hid hV
      have ml := ML.out.1
      rw [hV] at HV5 ml FT
      rw [hV]
      obtain ⟨M, hM⟩ : ∃ M, V.length = M := ⟨_, rfl⟩
      have HVM := Lib.hid hM
      have LM : Hid (M = g.ins.length + g.nodes.length) := Lib.hid (by rw [<- hM]; exact ml)
      have M1 : 1 <= M := by have := LM.out; omega
      have M2 : M <= 20 := by have := LM.out; omega
      have DL : Hid ((evalL g ins).length = M) := Lib.hid (by rw [evalL_len g lin, LM.out])
      have FTB := Lib.hid FT.out.bytes
      obtain ⟨m0, hm0⟩ := goE_pre (valuesL g) g.nodes ins
      have DT0 : Hid ((evalL g ins).take g.ins.length = ins) := Lib.hid (by unfold evalL; rw [hm0, <- lin]; simp)
      obtain ⟨D, hD⟩ : ∃ D, evalL g ins = D := ⟨_, rfl⟩
      have HD := Lib.hid hD
      rw [hD] at DL FT FTB DT0
      rw [<- DT0.out] at oa
      obtain ⟨_, _, eV, _, _, _, vwf, hv5⟩ := HV5.out
      have VWF := Lib.hid vwf
      clear vwf
      rw [hM] at HV5 eV hv5
      rw [hM]
      obtain ⟨vb, vo, e2, hvb, hvc⟩ := hv5 (by omega)
      subst e2
      simp only [Value.slice.injEq, true_and] at eV
      obtain ⟨rfl, rfl⟩ := eV
      have HVC := Lib.hid hvc
      obtain ⟨k0, hk0, hk1, hk2, hk3⟩ := info_parts infoS8
      have K1 := Lib.hid hk0
      have K2 := Lib.hid hk1
      have K3 := Lib.hid hk2
      have K4 := Lib.hid hk3
      obtain ⟨i0, hi0, hz0, hz1, hz2⟩ := info_parts info32
      have I1 := Lib.hid hi0
      have I2 := Lib.hid hz0
      have I3 := Lib.hid hz1
      have I4 := Lib.hid hz2
      have FIN := Lib.hid p5
      have pb := Past.refl w5
      have oc0 := oc
      have oa0 := oa
      have hw0 : ws.length = g.ins.length + 0 := by omega
      have DL2 := Lib.hid DL.out
      clear hi0 hz0 hz1 hz2 hk0 hk1 hk2 hk3 hvc hv5 hV hM hD ml m0 hm0 oc oa hwl pW sr h lin
      go_wp2_with fail
      go_loopw [8, 10] (fun v iv wr => ∃ (i : Nat) (ws : List Value), i <= g.nodes.length /\ iv = .int .i64 (i : Int) /\ Hid (OwnCells wr w5.heap.size v ws) /\ Hid (AreOwn wr w5.heap.size ws (D.take (g.ins.length + i))) /\ ws.length = g.ins.length + i /\ (Bx wr P0 #[.slice (some ⟨ib, io, none⟩) g.ins.length c1, .slice A2 g.nodes.length c2, .slice A3 g.outs.length c3]) /\ Past w5 wr) (fun _ iv _ => g.nodes.length - (intOf iv).toNat)
      case atStart => exact ⟨0, ws, by omega, rfl, oc0, oa0, hw0, br, pr⟩
      case round =>
        clear oc0 oa0 hw0 br pr
        obtain ⟨i, ws, hi, rfl, oc, oa, hwl, br, pr⟩ := hrel
        have sr : P0 + 1 <= wr.heap.size := by have := pr.2.2.1; omega
        by_cases h2 : i < g.nodes.length
        . obtain ⟨nb, no, e9, hnb, hnc⟩ := HN5.out (by omega)
          subst e9
          obtain ⟨vi, vw, vb', hin, hcell⟩ := hnc i h2
          have NO := node_ok E0.out h2
          have KE := eval_at E0.out h2 FP.out.1
          have NN := NO.named
          have NVV := NO.value
          rw [HV0.out] at NN NVV
          rw [HV0.out, HD.out] at KE
          obtain ⟨n, hnk⟩ : ∃ n, g.nodes.getD i default = n := ⟨_, rfl⟩
          rw [hnk] at hin hcell NN NVV KE
          have KE := Lib.hid KE
          have NV := Lib.hid NVV
          have IN := Lib.hid hin
          have nlen : (namedL V n.ins).length = n.ins.length := by simp [namedL]
          have NLEN := Lib.hid nlen
          have nl : n.ins.length = 1 ∨ n.ins.length = 2 := by
            rcases vals_len NVV with ⟨_, e⟩ | ⟨_, e⟩ <;> omega
          have NM : ∀ j, j < n.ins.length -> 0 <= n.ins.getD j 0 /\ n.ins.getD j 0 < (M : Int) := fun j hj => by
            have := NN j hj
            have l : (V.take (g.ins.length + i)).length <= V.length := by rw [List.length_take]; exact Nat.min_le_right _ _
            have e := HVM.out
            exact ⟨this.1, by omega⟩
          obtain ⟨m0, hm0'⟩ : ∃ m : Nat, n.ins.getD 0 0 = m := ⟨(n.ins.getD 0 0).toNat, by have := NM 0 (by omega); omega⟩
          have hm0 : m0 < M := by have := NM 0 (by omega); omega
          have NA : ∀ j, j < n.ins.length -> n.ins.getD j 0 < ((g.ins.length + i : Nat) : Int) := fun j hj => by
            have := node_at NO h2 (makes_facts E0.out).1 (j := j) (by rw [hnk]; exact hj)
            rw [hnk] at this
            exact this.2
          have HM0 := Lib.hid (fun (_ : 0 < n.ins.length) => hm0')
          obtain ⟨m1, hm1, hm1'⟩ : ∃ m : Nat, m < M /\ (1 < n.ins.length -> n.ins.getD 1 0 = m) := by
            by_cases c : 1 < n.ins.length
            . have := NM 1 c
              exact ⟨(n.ins.getD 1 0).toNat, by omega, fun _ => by omega⟩
            . exact ⟨0, by omega, fun f => absurd f c⟩
          have HM1 := Lib.hid hm1'
          have ng : ∀ j, j < n.ins.length -> (namedL V n.ins).getD j default = V.getD (n.ins.getD j 0).toNat default := fun j hj => named_get hj
          have nr : ∀ j, j < n.ins.length -> (namedR D n.ins).getD j [] = D.getD (n.ins.getD j 0).toNat [] := fun j hj => namedR_get hj
          have R0 : Hid ((namedR D n.ins).getD 0 [] = D.getD m0 []) := Lib.hid (by rw [nr 0 (by omega), hm0']; rfl)
          have R1 := Lib.hid (fun (c : 1 < n.ins.length) => show (namedR D n.ins).getD 1 [] = D.getD m1 [] by rw [nr 1 c, hm1' c]; rfl)
          have HF := Lib.hid (fun (j : Nat) (hj : j < (namedL V n.ins).length) => show Fits ((namedL V n.ins).getD j default) ((namedR D n.ins).getD j []) by
            rw [nlen] at hj
            rw [ng j hj, nr j hj]
            have := NM j hj
            exact FT.out.2 _ (by have := LM.out; omega))
          have HZ := Lib.hid (fun (j : Nat) (hj : j < (namedL V n.ins).length) => show -128 <= ((namedL V n.ins).getD j default).z /\ ((namedL V n.ins).getD j default).z <= 127 by
            rw [nlen] at hj
            rw [ng j hj]
            have := NM j hj
            have z := zeros_ok E0.out (j := (n.ins.getD j 0).toNat) (by rw [HV0.out, HVM.out]; omega)
            rw [HV0.out] at z
            exact z)
          have WFL := Lib.hid (fun (x : ValD) (hx : x ∈ namedL V n.ins) => show ValWf x by
            simp only [namedL, List.mem_map] at hx
            obtain ⟨t, ht, rfl⟩ := hx
            obtain ⟨j, hj, rfl⟩ := List.getElem_of_mem ht
            have := NM j hj
            have e : n.ins.getD j 0 = n.ins[j] := by simp [List.getD, hj]
            rw [e] at this
            have hlt : (n.ins[j]).toNat < V.length := by rw [HVM.out]; omega
            have e2 : V.getD (n.ins[j]).toNat default = V[(n.ins[j]).toNat] := by simp [List.getD, hlt]
            rw [e2]
            exact VWF.out _ (List.getElem_mem _))
          obtain ⟨R, hR⟩ : ∃ R, g.ins.length + i = R := ⟨_, rfl⟩
          have RM : R < M := by have := LM.out; omega
          rw [hR] at KE oa hwl
          have hm0R : m0 < R := by have := NA 0 (by omega); omega
          have hm1R : 1 < n.ins.length -> m1 < R := fun c => by have := NA 1 c; have := hm1' c; omega
          have dt : ∀ m, m < R -> (D.take R).getD m [] = D.getD m [] := fun m hm => by simp [List.getD, hm]
          have DTL : (D.take R).length = R := by rw [List.length_take, DL.out]; omega
          have AN := oa.out.nums (take_bytes FTB.out R)
          obtain ⟨ob, oo, ocp, e8, _, _, hob, hoc⟩ := (oc.out.has).form (by omega)
          rw [hwl] at e8
          subst e8
          have N0' := AN.2 m0 (by rw [DTL]; exact hm0R)
          rw [dt m0 hm0R] at N0'
          have NU0 := Lib.hid N0'
          have NU1 : Hid (1 < n.ins.length -> IsNums .i8 wr (ws.getD m1 nilS) (D.getD m1 [])) := Lib.hid (fun c => by
            have := AN.2 m1 (by rw [DTL]; exact hm1R c)
            rwa [dt m1 (hm1R c)] at this)
          obtain ⟨U0, q0, eU0, -⟩ := id N0'
          have HU0 := Lib.hid (hoc m0 (by rw [hwl]; exact hm0R))
          obtain ⟨U1, n1l, q1, eU1⟩ : ∃ A l c, 1 < n.ins.length -> ws.getD m1 nilS = .slice A l c := by
            by_cases c : 1 < n.ins.length
            . obtain ⟨A, q, e, -⟩ := NU1.out c
              exact ⟨A, _, q, fun _ => e⟩
            . exact ⟨none, 0, 0, fun f => absurd f c⟩
          have HU1 : Hid (1 < n.ins.length -> wr.cell? ⟨ob, oo + m1, none⟩ = some (.slice U1 n1l q1)) := Lib.hid (fun c => by
            rw [<- eU1 c]
            exact hoc m1 (by rw [hwl]; exact hm1R c))
          have NU1' : Hid (1 < n.ins.length -> IsNums .i8 wr (.slice U1 n1l q1) (D.getD m1 [])) := Lib.hid (fun c => by
            rw [<- eU1 c]
            exact NU1.out c)
          rw [eU0] at NU0 HU0
          obtain ⟨n0l, hn0l⟩ : ∃ x, (D.getD m0 []).length = x := ⟨_, rfl⟩
          rw [hn0l] at NU0 HU0
          have TKR := Lib.hid (take_rows D R (by rw [DL.out]; exact RM))
          obtain ⟨Ai, ci, rfl, f1, f2, -, -, f5⟩ := hin.1
          obtain ⟨Aw, cw, rfl, -⟩ := hin.2.1
          obtain ⟨Ab, cb, rfl, -⟩ := hin.2.2
          obtain ⟨eb, eo, e8, heb, hec⟩ := f5 (by omega)
          subst e8
          have HEC := Lib.hid hec
          have li9 : n.ins.length <= 9223372036854775807 := by omega
          have r0 := FIN.out.trans pr
          have i1' : (0 : Int) <= (i : Int) := by omega
          have i2 : (i : Int) < (g.nodes.length : Int) := by omega
          have HWLR := Lib.hid hwl
          have HRI := Lib.hid hR
          have HM1R := Lib.hid hm1R
          have x0 := (r0.cell (p := ⟨nb, no + i * 14 + 0, none⟩) hnb).trans (hcell 0 (by omega))
          have x1 := (r0.cell (p := ⟨nb, no + i * 14 + 1, none⟩) hnb).trans (hcell 1 (by omega))
          have x2 := (r0.cell (p := ⟨nb, no + i * 14 + 2, none⟩) hnb).trans (hcell 2 (by omega))
          have x3 := (r0.cell (p := ⟨nb, no + i * 14 + 3, none⟩) hnb).trans (hcell 3 (by omega))
          have x4 := (r0.cell (p := ⟨nb, no + i * 14 + 4, none⟩) hnb).trans (hcell 4 (by omega))
          have x5 := (r0.cell (p := ⟨nb, no + i * 14 + 5, none⟩) hnb).trans (hcell 5 (by omega))
          have x6 := (r0.cell (p := ⟨nb, no + i * 14 + 6, none⟩) hnb).trans (hcell 6 (by omega))
          have x7 := (r0.cell (p := ⟨nb, no + i * 14 + 7, none⟩) hnb).trans (hcell 7 (by omega))
          have x8 := (r0.cell (p := ⟨nb, no + i * 14 + 8, none⟩) hnb).trans (hcell 8 (by omega))
          have x9 := (r0.cell (p := ⟨nb, no + i * 14 + 9, none⟩) hnb).trans (hcell 9 (by omega))
          have x10 := (r0.cell (p := ⟨nb, no + i * 14 + 10, none⟩) hnb).trans (hcell 10 (by omega))
          have x11 := (r0.cell (p := ⟨nb, no + i * 14 + 11, none⟩) hnb).trans (hcell 11 (by omega))
          have x12 := (r0.cell (p := ⟨nb, no + i * 14 + 12, none⟩) hnb).trans (hcell 12 (by omega))
          have x13 := (r0.cell (p := ⟨nb, no + i * 14 + 13, none⟩) hnb).trans (hcell 13 (by omega))
          simp only [nodeCells, List.getElem?_cons_zero, List.getElem?_cons_succ, Nat.add_zero] at x0 x1 x2 x3 x4 x5 x6 x7 x8 x9 x10 x11 x12 x13
          clear hin hcell hnk NN NVV NM NA nlen ng nr hm0' hm1' hR eU0 eU1 hn0l f5 hec f2 r0 AN N0' dt DTL hm1R hwl hoc NU1
          go_upto_region 15 with fail
          refine opq (fun w' => (Bx w' (wr.heap.size) (nC n (.slice (some ⟨eb, eo, none⟩) n.ins.length ci) (.slice Aw n.ws.length cw) (.slice Ab n.bs.length cb))) /\ Past wr w' /\ wr.heap.size + 1 = w'.heap.size) ?_ ?_
          . have g0 := Past.refl wr
            exact ⟨by (exact kKeep), by (exact kKeep), by simp⟩
          rintro w11 ⟨bN, p11, z11⟩
          obtain ⟨wo, hwo⟩ : ∃ wo, wo = wr := ⟨_, rfl⟩
          subst hwo
          clear x0 x1 x2 x3 x4 x5 x6 x7 x8 x9 x10 x11 x12 x13
          obtain ⟨P11, hP11⟩ : ∃ P, wo.heap.size = P := ⟨_, rfl⟩
          have HWO := Lib.hid hP11
          rw [hP11] at bN z11
          rw [hP11]
          clear hP11
          go_upto_region 16 with fail
          refine opq (fun w' => (Bx w' P11 (nC n (.slice (some ⟨eb, eo, none⟩) n.ins.length ci) (.slice Aw n.ws.length cw) (.slice Ab n.bs.length cb))) /\ Past wo w' /\ Hid (OwnVals w' w11.heap.size (.slice (some ⟨w11.heap.size, 0, none⟩) 0 0) []) /\ w11.heap.size + 1 = w'.heap.size) ⟨box_old bN (by omega), p11.alloc _, Lib.hid (ownVals_new (Nat.le_refl _)), by simp⟩ ?_
          rintro w12 ⟨bN2, p12, ow2, z12⟩
          obtain ⟨PB, hPB⟩ : ∃ P, w11.heap.size = P := ⟨_, rfl⟩
          have PBP : P11 + 1 = PB := by omega
          rw [hPB] at ow2 z12
          rw [hPB]
          clear bN p11 z11 hPB
          go_upto_region 17 with fail
          refine opq (fun w' => (Bx w' P11 (nC n (.slice (some ⟨eb, eo, none⟩) n.ins.length ci) (.slice Aw n.ws.length cw) (.slice Ab n.bs.length cb))) /\ (Bx w' (w12.heap.size) #[.slice none 0 0, .slice none 0 0]) /\ (Fr w' (w12.heap.size)) /\ Past wo w' /\ Hid (OwnVals w' PB (.slice (some ⟨PB, 0, none⟩) 0 0) []) /\ w12.heap.size + 1 <= w'.heap.size) ?_ ?_
          . refine ⟨?_, ?_, ?_, ?_, ?_, ?_⟩
            . exact box_old bN2 (by omega)
            . (exact kKeep)
            . (exact kKeep)
            . exact p12.alloc _
            . exact Lib.hid (World.ownsRow.alloc ow2.out _)
            . simp
          rintro w13 ⟨bN3, bD3, fD3, p13, ow3, z13⟩
          obtain ⟨PD, hPD⟩ : ∃ P, w12.heap.size = P := ⟨_, rfl⟩
          have PDP : PB + 1 = PD := by omega
          rw [hPD] at bD3 fD3 z13
          rw [hPD]
          clear bN2 p12 ow2 z12 hPD
          go_wp2_with fail
          go_loopw [12, 14] (fun v iv wr => (iv = .int .i64 0 /\ Hid (OwnVals wr PB v (namedL V (n.ins.take 0))) /\ Hid (∀ j, v.ownBlock = some j -> j ≠ PD) /\ (Bx wr PD #[.slice none 0 0, .slice none 0 0]) /\ (Fr wr PD) /\ (Bx wr P11 (nC n (.slice (some ⟨eb, eo, none⟩) n.ins.length ci) (.slice Aw n.ws.length cw) (.slice Ab n.bs.length cb))) /\ Past wo wr /\ PD + 1 <= wr.heap.size) ∨ (iv = .int .i64 1 /\ Hid (OwnVals wr PB v (namedL V (n.ins.take 1))) /\ Hid (∀ j, v.ownBlock = some j -> j ≠ PD) /\ (Bx wr PD #[.slice U0 n0l q0, .slice none 0 0]) /\ (Fr wr PD) /\ (Bx wr P11 (nC n (.slice (some ⟨eb, eo, none⟩) n.ins.length ci) (.slice Aw n.ws.length cw) (.slice Ab n.bs.length cb))) /\ Past wo wr /\ PD + 1 <= wr.heap.size) ∨ (iv = .int .i64 2 /\ n.ins.length = 2 /\ Hid (OwnVals wr PB v (namedL V (n.ins.take 2))) /\ Hid (∀ j, v.ownBlock = some j -> j ≠ PD) /\ (Bx wr PD #[.slice U0 n0l q0, .slice U1 n1l q1]) /\ (Fr wr PD) /\ (Bx wr P11 (nC n (.slice (some ⟨eb, eo, none⟩) n.ins.length ci) (.slice Aw n.ws.length cw) (.slice Ab n.bs.length cb))) /\ Past wo wr /\ PD + 1 <= wr.heap.size)) (fun _ iv _ => 2 - (intOf iv).toNat)
          case atStart => exact Or.inl ⟨by first | rfl | go_num, ow3, Lib.hid (fun j hj => by simp [Value.ownBlock] at hj; omega), bD3, fD3, bN3, p13, z13⟩
          case round =>
            clear ow3 bD3 fD3 bN3 p13 z13
            rcases hrel with ⟨rfl, own, hne, bD, fD, bN, pq, sq⟩ | ⟨rfl, own, hne, bD, fD, bN, pq, sq⟩ | ⟨rfl, n2', own, hne, bD, fD, bN, pq, sq⟩
            . have d2 : decide ((0 : Int) < (n.ins.length : Int)) = true := decide_eq_true (by omega)
              have L0 : 0 < n.ins.length := by omega
              have pwb := pr.trans pq
              have pw4 := FIN.out.trans pwb
              have pw5 := pb.trans pwb
              have c0 := (pw4.cell (p := ⟨eb, eo + 0, none⟩) heb).trans (HEC.out 0 L0)
              obtain ⟨y0, y1, y2, y3⟩ := (HVC.out m0 hm0).grow hvb pw5
              obtain ⟨y, hy⟩ : ∃ y, V.getD m0 default = y := ⟨_, rfl⟩
              rw [hy] at y0 y1 y2 y3
              have HY := Lib.hid hy
              have hx : n.ins.getD 0 0 = (m0 : Int) := HM0.out L0
              have HX := Lib.hid hx
              rw [hx] at c0
              rw [Nat.add_zero] at c0
              have lk : (namedL V (n.ins.take 0)).length = 0 := by first | (simp [namedL]; done) | (simp [namedL]; omega)
              have LK := Lib.hid lk
              have HLT := Lib.hid (World.ownsRow.lt own.out)
              have k1 : (0 : Int) <= (m0 : Int) := by omega
              have k2 : (m0 : Int) < (M : Int) := by have := hm0; omega
              have k3 : (0 : Int) < (n.ins.length : Int) := by omega
              clear hy lk hx pw4 pw5 pwb
              go_wp2_with (at_builtin; go_loud (refine wpList_append_apart _ rfl (.tmp 84) (.tmp 93) 22 rfl PB 47 i0 _ 4 32 Tryz.underlying22 I1.out I2.out I3.out I4.out rfl (by decide) _ _ _ rfl (World.ownsRow.alloc own.out _) ⟨wr.heap.size, 0, none⟩ 1 1 (valCells y) rfl rfl (fun j u hu => cells_new' wr _ 47 j u hu) (val_one y) ?c4 ?c5 ?c6 (by decide) ?_))
              case c4 => rw [LK.out]; unfold maxLen; omega
              case c5 => rw [LK.out]; omega
              case c6 => simp; omega
              intro v4 w4' hown4 hgrow hpl
              have p4' : Past wo w4' := (pq.alloc _).grownBy hgrow (fun j hj => by have := (HLT.out j hj).1; have := HWO.out; omega)
              have OWN4 : OwnVals w4' PB v4 (namedL V (n.ins.take 1)) := by
                unfold OwnVals
                rw [namedL_take V n.ins 0 L0, valsCells_snoc, HX.out]
                simp only [Int.toNat_natCast, HY.out, List.length_append, List.length_cons, List.length_nil]
                simpa [namedL, valsCells] using hown4
              have bD4 := box_grownBy hgrow (box_old (x := .cells (valCells y).toArray 47) bD (by omega)) (by simp; omega) (fun e => hne.out _ e.symm rfl)
              have fD4 := free_grownBy' hgrow (free_alloc (cs := (valCells y).toArray) (t := 47) fD) (by simp; omega) (fun e => hne.out _ e.symm rfl)
              have bN4 := box_grownBy hgrow (box_old (x := .cells (valCells y).toArray 47) bN (by omega)) (by simp; omega) (fun e => by have := (HLT.out _ e.symm).1; omega)
              have hne4 : ∀ j, v4.ownBlock = some j -> j ≠ PD := fun j hj => by
                rcases hpl with e | e
                . rw [e] at hj; exact hne.out j hj
                . rw [e] at hj
                  simp at hj
                  omega
              have s4' : PD + 1 <= w4'.heap.size := by have := hgrow.size; simp at this; omega
              have HNE4 := Lib.hid hne4
              have HOW4 := Lib.hid OWN4
              have pwb := pr.trans p4'
              have c0b := ((FIN.out.trans pwb).cell (p := ⟨eb, eo + 0, none⟩) heb).trans (HEC.out 0 L0)
              rw [HX.out] at c0b
              rw [Nat.add_zero] at c0b
              have cu := (p4'.cell (p := ⟨ob, oo + m0, none⟩) hob).trans HU0.out
              clear hown4 hgrow hpl own hne bD fD bN c0 y0 y1 y2 y3 hne4 OWN4 pwb
              go_wp2_with fail
              go_roundw
              case rel => exact Or.inr (Or.inl ⟨by first | rfl | go_num, Lib.hid (own_set_ne HOW4.out HNE4.out), HNE4, box_at bD4 0 (by simp) _, free_set fD4, box_setOther' (Q := PD) bN4 (by omega), p4'.setCell (by simp only; have := HWO.out; omega) _, by simpa [World.setCell] using s4'⟩)
              case measure => first | (simp [intOf]; done) | decide | (simp [intOf]; omega)
            . by_cases l2 : n.ins.length = 2
              . have l2a : n.ins.length <= 2 := by omega
                have l2b : 2 <= n.ins.length := by omega
                clear l2
                have d2 : decide ((1 : Int) < (n.ins.length : Int)) = true := decide_eq_true (by omega)
                have L1 : 1 < n.ins.length := by omega
                have m1R : m1 < R := HM1R.out L1
                have m1Z : (m1 : Int) < (R : Int) := by omega
                have pwb := pr.trans pq
                have pw4 := FIN.out.trans pwb
                have pw5 := pb.trans pwb
                have c0 := (pw4.cell (p := ⟨eb, eo + 1, none⟩) heb).trans (HEC.out 1 L1)
                obtain ⟨y0, y1, y2, y3⟩ := (HVC.out m1 hm1).grow hvb pw5
                obtain ⟨y, hy⟩ : ∃ y, V.getD m1 default = y := ⟨_, rfl⟩
                rw [hy] at y0 y1 y2 y3
                have HY := Lib.hid hy
                have hx : n.ins.getD 1 0 = (m1 : Int) := HM1.out L1
                have HX := Lib.hid hx
                rw [hx] at c0
                have lk : (namedL V (n.ins.take 1)).length = 1 := by first | (simp [namedL]; done) | (simp [namedL]; omega)
                have LK := Lib.hid lk
                have HLT := Lib.hid (World.ownsRow.lt own.out)
                have k1 : (0 : Int) <= (m1 : Int) := by omega
                have k2 : (m1 : Int) < (M : Int) := by have := hm1; omega
                have k3 : (1 : Int) < (n.ins.length : Int) := by omega
                clear hy lk hx pw4 pw5 pwb
                go_wp2_with (at_builtin; go_loud (refine wpList_append_apart _ rfl (.tmp 84) (.tmp 93) 22 rfl PB 47 i0 _ 4 32 Tryz.underlying22 I1.out I2.out I3.out I4.out rfl (by decide) _ _ _ rfl (World.ownsRow.alloc own.out _) ⟨wr.heap.size, 0, none⟩ 1 1 (valCells y) rfl rfl (fun j u hu => cells_new' wr _ 47 j u hu) (val_one y) ?c4 ?c5 ?c6 (by decide) ?_))
                case c4 => rw [LK.out]; unfold maxLen; omega
                case c5 => rw [LK.out]; omega
                case c6 => simp; omega
                intro v4 w4' hown4 hgrow hpl
                have p4' : Past wo w4' := (pq.alloc _).grownBy hgrow (fun j hj => by have := (HLT.out j hj).1; have := HWO.out; omega)
                have OWN4 : OwnVals w4' PB v4 (namedL V (n.ins.take 2)) := by
                  unfold OwnVals
                  rw [namedL_take V n.ins 1 L1, valsCells_snoc, HX.out]
                  simp only [Int.toNat_natCast, HY.out, List.length_append, List.length_cons, List.length_nil]
                  rw [LK.out]
                  rw [LK.out] at hown4
                  exact hown4
                have bD4 := box_grownBy hgrow (box_old (x := .cells (valCells y).toArray 47) bD (by omega)) (by simp; omega) (fun e => hne.out _ e.symm rfl)
                have fD4 := free_grownBy' hgrow (free_alloc (cs := (valCells y).toArray) (t := 47) fD) (by simp; omega) (fun e => hne.out _ e.symm rfl)
                have bN4 := box_grownBy hgrow (box_old (x := .cells (valCells y).toArray 47) bN (by omega)) (by simp; omega) (fun e => by have := (HLT.out _ e.symm).1; omega)
                have hne4 : ∀ j, v4.ownBlock = some j -> j ≠ PD := fun j hj => by
                  rcases hpl with e | e
                  . rw [e] at hj; exact hne.out j hj
                  . rw [e] at hj
                    simp at hj
                    omega
                have s4' : PD + 1 <= w4'.heap.size := by have := hgrow.size; simp at this; omega
                have HNE4 := Lib.hid hne4
                have HOW4 := Lib.hid OWN4
                have pwb := pr.trans p4'
                have c0b := ((FIN.out.trans pwb).cell (p := ⟨eb, eo + 1, none⟩) heb).trans (HEC.out 1 L1)
                rw [HX.out] at c0b
                have cu := (p4'.cell (p := ⟨ob, oo + m1, none⟩) hob).trans (HU1.out (by omega))
                clear hown4 hgrow hpl own hne bD fD bN c0 y0 y1 y2 y3 hne4 OWN4 pwb
                go_wp2_with fail
                go_roundw
                case rel => exact Or.inr (Or.inr ⟨by first | rfl | go_num, (by omega), Lib.hid (own_set_ne HOW4.out HNE4.out), HNE4, box_at bD4 1 (by simp) _, free_set fD4, box_setOther' (Q := PD) bN4 (by omega), p4'.setCell (by simp only; have := HWO.out; omega) _, by simpa [World.setCell] using s4'⟩)
                case measure => first | (simp [intOf]; done) | decide | (simp [intOf]; omega)
              . have n1a : n.ins.length <= 1 := by omega
                clear l2
                have d2 : decide ((1 : Int) < (n.ins.length : Int)) = false := decide_eq_false (by omega)
                have et : n.ins.take 1 = n.ins := List.take_of_length_le (by omega)
                rw [et] at own
                have pwb := pr.trans pq
                have LV := Lib.hid (vals_of_own own.out WFL.out)
                have RK := Lib.hid (rall_kern n _ _ _ u12 (.slice U0 n0l q0) (.slice none 0 0) (namedL V n.ins) (namedR D n.ins) wr NV.out HF.out HZ.out (IN.out.grow (FIN.out.trans pwb)) LV.out (by have := NU0.out.grow pq; rw [R0.out]; exact this) (fun f => absurd f (by rw [NLEN.out]; omega)))
                have brq := box_past pq br (by omega)
                clear et own hne fD
                go_wp2_with (refine wpList_load_box rfl 44 (.tmp 11) rfl P11 (nC n (.slice (some ⟨eb, eo, none⟩) n.ins.length ci) (.slice Aw n.ws.length cw) (.slice Ab n.bs.length cb)) rfl bN Tryz.underlying44 rfl N14 ?_)
                refine RK.out.mono ?_
                rintro e w9 ⟨vz, rfl, hk, p9⟩
                rw [<- KE.out] at hk
                obtain ⟨Az, cz, ez, _⟩ := own_slice' hk
                obtain ⟨nz, hnz⟩ : ∃ x, (D.getD R []).length = x := ⟨_, rfl⟩
                rw [hnz] at ez
                subst ez
                have HK := Lib.hid hk
                have pw9 := pq.trans p9
                have OC9 := Lib.hid (oc.out.past pw9)
                have OA9 := Lib.hid (oa.out.past pw9)
                have br9 := box_past pw9 br (by omega)
                have P59 := Lib.hid (pwb.trans p9)
                have HL9 := Lib.hid (World.ownsRow.lt OC9.out)
                have lt9 : w5.heap.size <= w9.heap.size := P59.out.2.2.1
                have ltr : w5.heap.size <= wr.heap.size := pwb.2.2.1
                have t0 : ((0 : Int) != 0) = false := by decide
                clear hk bD bN brq RK p9 LV pq hnz pw9
                go_wp2_with (at_builtin; refine wpList_append_own _ rfl (.tmp 115) (.tmp 117) 30 rfl w5.heap.size 27 k0 _ 1 24 Tryz.underlying30 K1.out K2.out K3.out K4.out rfl (by decide) _ R ws rfl (by have := World.ownsRow.alloc OC9.out (.cells #[.slice Az nz cz] 27); rwa [HWLR.out] at this) ⟨w9.heap.size, 0, none⟩ 1 1 [.slice Az nz cz] rfl rfl (fun j u hu => cells_new1 w9 _ 27 j u hu) (fun u hu => by simp only [List.mem_singleton] at hu; subst hu; rfl) ?c4 ?c5 ?c6 ?_)
                case c4 => unfold maxLen; omega
                case c5 => omega
                case c6 => simp; omega
                intro v4 w10 hown9 hgrow _
                have q9 : Past w5 w10 := (P59.out.alloc _).grownBy hgrow (fun j hj => (HL9.out j hj).1)
                have oc9 : Hid (OwnCells w10 w5.heap.size v4 (ws ++ [.slice Az nz cz])) := Lib.hid (by
                  unfold OwnCells
                  rw [List.length_append, HWLR.out]
                  exact hown9)
                have OAx : Own8 (w9.alloc (.cells #[.slice Az nz cz] 27)) w5.heap.size (.slice Az nz cz) (D.getD R []) := own8_base (World.ownsRow.alloc HK.out _) (by omega)
                have oa9 : Hid (AreOwn w10 w5.heap.size (ws ++ [.slice Az nz cz]) (D.take (R + 1))) := Lib.hid (by
                  rw [TKR.out]
                  exact (AreOwn.snoc (OA9.out.past ((Past.refl _).alloc _)) OAx).grow (World.ownsRow.alloc OC9.out _) hgrow)
                have b9 := box_grownBy hgrow (box_old (x := .cells #[.slice Az nz cz] 27) br9 (by omega)) (by simp; omega) (fun e => by have := (HL9.out _ e.symm).1; omega)
                have RI := HRI.out
                have oa10 : Hid (AreOwn w10 w5.heap.size (ws ++ [.slice Az nz cz]) (D.take (g.ins.length + (i + 1)))) := Lib.hid (by
                  have e : g.ins.length + (i + 1) = R + 1 := by omega
                  rw [e]
                  exact oa9.out)
                clear RI
                clear hown9 hgrow OAx HK OC9 OA9 HL9 br9 P59
                go_wp2_with fail
                go_roundw
                case rel => exact ⟨i + 1, _, by omega, by go_num, oc9, oa10, by have RI := HRI.out; rw [List.length_append, HWLR.out]; simp; omega, b9, q9⟩
                case measure => simp [intOf]; omega
            . have n2a : n.ins.length <= 2 := by omega
              have n2b : 2 <= n.ins.length := by omega
              clear n2'
              have d2 : decide ((2 : Int) < (n.ins.length : Int)) = false := decide_eq_false (by omega)
              have et : n.ins.take 2 = n.ins := List.take_of_length_le (by omega)
              rw [et] at own
              have pwb := pr.trans pq
              have LV := Lib.hid (vals_of_own own.out WFL.out)
              have RK := Lib.hid (rall_kern n _ _ _ u12 (.slice U0 n0l q0) (.slice U1 n1l q1) (namedL V n.ins) (namedR D n.ins) wr NV.out HF.out HZ.out (IN.out.grow (FIN.out.trans pwb)) LV.out (by have := NU0.out.grow pq; rw [R0.out]; exact this) (fun _ => by have := (NU1'.out (by omega)).grow pq; rw [R1.out (by omega)]; exact this))
              have brq := box_past pq br (by omega)
              clear et own hne fD
              go_wp2_with (refine wpList_load_box rfl 44 (.tmp 11) rfl P11 (nC n (.slice (some ⟨eb, eo, none⟩) n.ins.length ci) (.slice Aw n.ws.length cw) (.slice Ab n.bs.length cb)) rfl bN Tryz.underlying44 rfl N14 ?_)
              refine RK.out.mono ?_
              rintro e w9 ⟨vz, rfl, hk, p9⟩
              rw [<- KE.out] at hk
              obtain ⟨Az, cz, ez, _⟩ := own_slice' hk
              obtain ⟨nz, hnz⟩ : ∃ x, (D.getD R []).length = x := ⟨_, rfl⟩
              rw [hnz] at ez
              subst ez
              have HK := Lib.hid hk
              have pw9 := pq.trans p9
              have OC9 := Lib.hid (oc.out.past pw9)
              have OA9 := Lib.hid (oa.out.past pw9)
              have br9 := box_past pw9 br (by omega)
              have P59 := Lib.hid (pwb.trans p9)
              have HL9 := Lib.hid (World.ownsRow.lt OC9.out)
              have lt9 : w5.heap.size <= w9.heap.size := P59.out.2.2.1
              have ltr : w5.heap.size <= wr.heap.size := pwb.2.2.1
              have t0 : ((0 : Int) != 0) = false := by decide
              clear hk bD bN brq RK p9 LV pq hnz pw9
              go_wp2_with (at_builtin; refine wpList_append_own _ rfl (.tmp 115) (.tmp 117) 30 rfl w5.heap.size 27 k0 _ 1 24 Tryz.underlying30 K1.out K2.out K3.out K4.out rfl (by decide) _ R ws rfl (by have := World.ownsRow.alloc OC9.out (.cells #[.slice Az nz cz] 27); rwa [HWLR.out] at this) ⟨w9.heap.size, 0, none⟩ 1 1 [.slice Az nz cz] rfl rfl (fun j u hu => cells_new1 w9 _ 27 j u hu) (fun u hu => by simp only [List.mem_singleton] at hu; subst hu; rfl) ?c4 ?c5 ?c6 ?_)
              case c4 => unfold maxLen; omega
              case c5 => omega
              case c6 => simp; omega
              intro v4 w10 hown9 hgrow _
              have q9 : Past w5 w10 := (P59.out.alloc _).grownBy hgrow (fun j hj => (HL9.out j hj).1)
              have oc9 : Hid (OwnCells w10 w5.heap.size v4 (ws ++ [.slice Az nz cz])) := Lib.hid (by
                unfold OwnCells
                rw [List.length_append, HWLR.out]
                exact hown9)
              have OAx : Own8 (w9.alloc (.cells #[.slice Az nz cz] 27)) w5.heap.size (.slice Az nz cz) (D.getD R []) := own8_base (World.ownsRow.alloc HK.out _) (by omega)
              have oa9 : Hid (AreOwn w10 w5.heap.size (ws ++ [.slice Az nz cz]) (D.take (R + 1))) := Lib.hid (by
                rw [TKR.out]
                exact (AreOwn.snoc (OA9.out.past ((Past.refl _).alloc _)) OAx).grow (World.ownsRow.alloc OC9.out _) hgrow)
              have b9 := box_grownBy hgrow (box_old (x := .cells #[.slice Az nz cz] 27) br9 (by omega)) (by simp; omega) (fun e => by have := (HL9.out _ e.symm).1; omega)
              have RI := HRI.out
              have oa10 : Hid (AreOwn w10 w5.heap.size (ws ++ [.slice Az nz cz]) (D.take (g.ins.length + (i + 1)))) := Lib.hid (by
                have e : g.ins.length + (i + 1) = R + 1 := by omega
                rw [e]
                exact oa9.out)
              clear RI
              clear hown9 hgrow OAx HK OC9 OA9 HL9 br9 P59
              go_wp2_with fail
              go_roundw
              case rel => exact ⟨i + 1, _, by omega, by go_num, oc9, oa10, by have RI := HRI.out; rw [List.length_append, HWLR.out]; simp; omega, b9, q9⟩
              case measure => simp [intOf]; omega
        . obtain rfl : i = g.nodes.length := by omega
          have et : D.take (g.ins.length + g.nodes.length) = D := List.take_of_length_le (by rw [DL.out, LM.out]; exact Nat.le_refl _)
          rw [et] at oa
          have pH := p5.trans pr
          have HX := Lib.hid (OwnRows.more (b' := P0) ⟨ws, oc.out, oa.out⟩ (by have := s5; omega))
          clear oc oa et hwl
          go_wp2_with fail
          go_ret2
          exact ⟨_, rfl, by rw [HD.out, HP0.out]; exact HX.out, pH⟩
end Go.Proofs.YtliijchcpooplaaGreat
