/- eval: All. -/
import Derived.Test.YtliijchcpooplaaGreatOEb
import Derived.Test.YtliijchcpooplaaGreatOMKWe
namespace Go.Proofs.YtliijchcpooplaaGreat
open Go.ChangeShapes Go.WideShapes Go.ChangeAt Go.RowKit
set_option maxRecDepth 20000
set_option linter.unusedVariables false
set_option linter.unusedSimpArgs false
theorem slc_two {l : List Value} (h : l.length = 2) : ∃ x y, l = [x, y] := by
  match l, h with
  | [x, y], _ => exact ⟨x, y, rfl⟩
theorem copy_data (w : World) (P : Nat) (p : Option Addr) (cap : Nat) (cs : List Value) (sa sb : Value) (ty : TypeId) (hcs : (cs = [sa] /\ sb = nilS) ∨ cs = [sa, sb]) (hb : (Bx w P #[.slice none 0 0, .slice none 0 0])) (hf : (Fr w P)) (hs : HasCells w (.slice p cs.length cap) cs) (h1 : ∀ u ∈ cs, u.oneCell' = true) :
    (Builtin.copy_ #[30, 30] ty #[.slice (some ⟨P, 0, none⟩) 2 2, .slice p cs.length cap]).run Tryz.prog w = .ok (goInt cs.length) (w.setCells P 0 cs) /\ (Bx (w.setCells P 0 cs) P #[sa, sb]) /\
      ((w.setCells P 0 cs).heap.size = w.heap.size /\ (∀ b o : Nat, b ≠ P -> (w.setCells P 0 cs).cell? ⟨b, o, none⟩ = w.cell? ⟨b, o, none⟩) /\ ∀ a : World, a.heap.size <= P -> Past a w -> Past a (w.setCells P 0 cs)) := by
  have l0 : 0 < cs.length := by rcases hcs with ⟨e, _⟩ | e <;> rw [e] <;> simp
  have l2 : cs.length <= 2 := by rcases hcs with ⟨e, _⟩ | e <;> rw [e] <;> simp
  obtain ⟨A, c, e, _, _, _, hc⟩ := hs
  obtain ⟨b, o, e2, hb2, hcell⟩ := hc l0
  simp only [Value.slice.injEq] at e
  obtain ⟨rfl, _, rfl⟩ := e
  subst e2
  refine ⟨run_copy_cells (P := Tryz.prog) w _ _ _ 27 P 0 2 2 ⟨b, o, none⟩ cs.length cap cs Tryz.underlying30 (by kernel_rfl) (show cs.length = min cs.length 2 by omega) (fun j v hv => ?_) (fun j hj => ?_) (fun j hj => ?_) h1, ?_, ?_⟩
  . have hj : j < cs.length := (List.getElem?_eq_some_iff.1 hv).1
    rw [add_plain, hcell j hj]
    simp [List.getD, hv]
  . rw [Nat.zero_add, hb j]
    rcases (show j = 0 ∨ j = 1 by omega) with rfl | rfl <;> rfl
  . exact hf _
  . rcases hcs with ⟨rfl, rfl⟩ | rfl
    . intro o
      match o with
      | 0 => exact World.cell?_setCell_same w _ _ (hb 0)
      | j + 1 =>
        show (w.setCell ⟨P, 0, none⟩ sa).cell? ⟨P, j + 1, none⟩ = _
        rw [World.cell?_setCell_other _ _ _ _ (by simp), hb (j + 1)]
        cases j <;> rfl
    . have c1 : (w.setCell ⟨P, 0, none⟩ sa).cell? ⟨P, 1, none⟩ = some (.slice none 0 0) := by
        rw [World.cell?_setCell_other _ _ _ _ (by simp)]; exact hb 1
      intro o
      match o with
      | 0 =>
        show ((w.setCell ⟨P, 0, none⟩ sa).setCell ⟨P, 1, none⟩ sb).cell? ⟨P, 0, none⟩ = _
        rw [World.cell?_setCell_other _ _ _ _ (by simp)]
        exact World.cell?_setCell_same w _ _ (hb 0)
      | 1 => exact World.cell?_setCell_same _ _ _ c1
      | j + 2 =>
        show ((w.setCell ⟨P, 0, none⟩ sa).setCell ⟨P, 1, none⟩ sb).cell? ⟨P, j + 2, none⟩ = _
        rw [World.cell?_setCell_other _ _ _ _ (by simp), World.cell?_setCell_other _ _ _ _ (by simp), hb (j + 2)]
        rfl
  . rcases hcs with ⟨rfl, rfl⟩ | rfl
    . refine ⟨by simp [World.setCells], fun b o hb => World.cell?_setCell_other _ _ _ _ (fun e => hb (congrArg Addr.block e).symm), fun a ha g => g.setCell ha _⟩
    . refine ⟨by simp [World.setCells], fun b o hb => ?_, fun a ha g => (g.setCell ha _).setCell ha _⟩
      show ((w.setCell ⟨P, 0, none⟩ sa).setCell ⟨P, 1, none⟩ sb).cell? ⟨b, o, none⟩ = _
      rw [World.cell?_setCell_other _ _ _ _ (fun e => hb (congrArg Addr.block e).symm), World.cell?_setCell_other _ _ _ _ (fun e => hb (congrArg Addr.block e).symm)]
theorem kall_any (n : NodeD) (vi vw vb lv : Value) (vs : List ValD) (ds : List (List Int)) (sa sb : Value) (W : World) (h : valueE n vs = 0) (hf : ∀ j, j < vs.length -> Fits (vs.getD j default) (ds.getD j [])) (hz : ∀ j, j < vs.length -> -128 <= (vs.getD j default).z /\ (vs.getD j default).z <= 127)
    (hin : NodeIn W n vi vw vb) (hl : IsVals W lv vs) (na : IsNums .i8 W sa (ds.getD 0 [])) (nb : vs.length = 2 -> IsNums .i8 W sb (ds.getD 1 [])) :
    Calls Tryz.prog 26 #[.agg (nC n vi vw vb), lv, .agg #[sa, sb]] W fun e w' => ∃ v, e = .returned (.tuple #[v, .int .i64 0]) /\ Own8 w' W.heap.size v (kernL n vs ds) /\ Past W w' := by
  have mk := make_ok h hf hz
  rcases vals_len h with ⟨ho, l⟩ | ⟨ho, l⟩
  . have hb : vwB vs ds = vwOf (vs.getD 1 default) (ds.getD 1 []) := by unfold vwB; rw [if_pos l]
    unfold kernL
    rw [hb] at mk ⊢
    exact All_2 n vi vw vb lv _ _ _ sa sb vs W mk l hin hl na (nb l)
  . have hb : vwB vs ds = ⟨⟨0, 0, 0, 0⟩, 0, 0, []⟩ := by unfold vwB; rw [if_neg (by omega)]; rfl
    unfold kernL
    rw [hb] at mk ⊢
    exact All_1 n vi vw vb lv _ _ sa sb vs W mk l hin hl na
set_option maxHeartbeats 8000000 in
theorem eall_ok (g : GraphD) (gv iv : Value) (us : List Value) (ins : List (List Int)) (W : World) (hg : IsGraph W gv g) (hc : Cut g) (hi : HasCells W iv us) (hn : AreNums W us ins) (h0 : valuesE g = 0) (hf : fitsP g.ins ins) :
    Calls Tryz.prog 13 #[gv, iv] W fun e w' => ∃ v, e = .returned (.tuple #[v, .int .i64 0]) /\ OwnRows w' W.heap.size v (evalL g ins) /\ Past W w' := by
  have VA := Lib.hid (values_any g gv W hg hc)
  have HG := Lib.hid hg
  obtain ⟨nv1, nv2, nv3, rfl, hi1, hn1, ho1⟩ := hg
  obtain ⟨A1, c1, rfl, i1, i2, _, _, _⟩ := hi1
  obtain ⟨A2, c2, rfl, n1, n2, _, nw, n5⟩ := hn1
  obtain ⟨A3, c3, rfl, o1, o2, _, _, _⟩ := ho1
  have hbk := begins_ok (values_ok h0).1
  have H0 := Lib.hid h0
  have HC := Lib.hid hc
  have HF := Lib.hid hf
  have HN := Lib.hid hn
  have HI := Lib.hid hi
  have N5 := Lib.hid n5
  obtain ⟨hb1, hb2, hb3⟩ := hbk
  have k1 : g.ins.length <= 4 := hb1.2.1
  have k2 : g.nodes.length <= 12 := hb1.2.2.1
  have HL := Lib.hid (makes_facts h0).1
  have HSZ : Hid (∀ j, j < ins.length -> 0 < (ins.getD j []).length /\ (ins.getD j []).length <= 100000) := Lib.hid (fun j hj => by
    have e := hf.2 j (by rw [<- hf.1]; exact hj)
    have s := idx_lt_size (hb2 j (by rw [<- hf.1]; exact hj))
    omega)
  have FT := Lib.hid (ins_fits h0 hf hn.bytes)
  have hil : ins.length <= 1000 := by rw [hf.1]; omega
  obtain ⟨i0, hi0, hz0, hz1, hz2⟩ := info_parts infoS8
  have I1 := Lib.hid hi0
  have I2 := Lib.hid hz0
  have I3 := Lib.hid hz1
  have I4 := Lib.hid hz2
  have e1 : ((0 : Int) != 0) = false := by decide
  have VG : Hid (∀ w, Past W w -> Calls Tryz.prog 23 #[.agg #[.slice A1 g.ins.length c1, .slice A2 g.nodes.length c2, .slice A3 g.outs.length c3]] w fun e w' => ∃ v, e = .returned (.tuple #[v, .int .i64 0]) /\ IsVals w' v (valuesL g) /\ Past w w') := Lib.hid (fun w p => by
    have := values_any g _ w (HG.out.grow p) HC.out
    unfold ValuesPost at this
    rw [H0.out] at this
    exact this)
  have EQ := Lib.hid (fun (w : World) (p : Past W w) => by
    have := HG.out.grow p
    obtain ⟨a1, a2, a3, ea, hia, _, _⟩ := this
    simp only [Value.agg.injEq, Array.mk.injEq, List.cons.injEq, and_true] at ea
    obtain ⟨rfl, _, _⟩ := ea
    exact equalF_any _ iv g.ins us ins true w hia (HI.out.grow p) (HN.out.grow p) ⟨fun _ => HF.out, fun _ => rfl⟩)
  have CP := Lib.hid (fun (w : World) (p : Past W w) => copies_any iv us ins w (HI.out.grow p) (HN.out.grow p) HSZ.out hil)
  have m2 : g.nodes.length <= 9223372036854775807 := by omega
  clear hi0 hz0 hz1 hz2 h0 hf hn hi hc n5 nw hb1 hb2 hb3 i1 i2 n1 n2 o1 o2 VA
  go_enter Tryz.func13, Tryz.ntmps13
  go_upto_region 1 with fail
  refine opq (fun w' => (Bx w' (W.heap.size) #[.slice A1 g.ins.length c1, .slice A2 g.nodes.length c2, .slice A3 g.outs.length c3]) /\ Past W w' /\ W.heap.size + 1 <= w'.heap.size) kKeep ?_
  rintro w1 ⟨b1, p1, z1⟩
  go_wp2_with fail
  refine (VG.out _ p1).mono ?_
  rintro e w2 ⟨v, rfl, hv, p2⟩
  have HV := Lib.hid hv
  obtain ⟨Av, cv, rfl, _⟩ := hv
  have b2 := box_past p2 b1 (by omega)
  have q2 := p1.trans p2
  have z2 : W.heap.size + 1 <= w2.heap.size := by have := p2.2.2.1; omega
  clear b1 p1 z1 p2
  go_wp2_with fail
  refine (EQ.out _ q2).mono ?_
  rintro e w3 ⟨rfl, p3⟩
  have b3 := box_past p3 b2 (by omega)
  have q3 := q2.trans p3
  have HV3 := Lib.hid (HV.out.grow p3)
  have z3 : W.heap.size + 1 <= w3.heap.size := by have := p3.2.2.1; omega
  clear b2 q2 z2 p3 HV
  go_wp2_with fail
  refine (CP.out _ q3).mono ?_
  rintro e w4 ⟨a, rfl, ⟨ws, oc, oa⟩, p4⟩
  have OC := Lib.hid oc
  have OA := Lib.hid oa
  have b4 := box_past p4 b3 (by omega)
  clear oc oa VG EQ CP
  go_wp2_with fail
  go_loopw [8, 32] (fun v i wr => ∃ (k : Nat) (ws : List Value) (ds : List (List Int)), k <= g.nodes.length /\ i = .int .i64 k /\ Hid (OwnCells wr w3.heap.size v ws) /\ Hid (AreOwn wr w3.heap.size ws ds) /\ Hid (FitsTo (valuesL g) (g.ins.length + k) ds) /\ Hid (goE (valuesL g) (g.nodes.drop k) ds = evalL g ins) /\ Past w3 wr) (fun _ i _ => g.nodes.length - (intOf i).toNat)
  case atStart => exact ⟨0, ws, ins, by omega, rfl, OC, OA, FT, Lib.hid (by unfold evalL; rw [List.drop_zero]), p4⟩
  case round =>
    clear OC OA b4 p4 FT e1
    obtain ⟨k, ws, ds, hk, rfl, oc, oa, ft, hgo, p5⟩ := hrel
    have b5 := box_past p5 b3 (by omega)
    have hv5 := Lib.hid (HV3.out.grow p5)
    have q5 := q3.trans p5
    have z5 : W.heap.size + 1 <= wr.heap.size := by have := p5.2.2.1; omega
    by_cases h : k < g.nodes.length
    . obtain ⟨nb, no, rfl, hnb, hnc⟩ := N5.out (by omega)
      obtain ⟨vi, vw, vb, hin, hcell⟩ := (hnc k h).grow hnb q5
      have NOK := Lib.hid (node_ok H0.out h)
      have NFT := Lib.hid (node_fits H0.out h ft.out)
      have NAT := Lib.hid (fun (j : Nat) hj => node_at NOK.out h HL.out (j := j) hj)
      have STEP := Lib.hid (step_fits H0.out h ft.out)
      obtain ⟨n, hnk⟩ : ∃ n, g.nodes.getD k default = n := ⟨_, rfl⟩
      rw [hnk] at hin hcell NFT NAT STEP
      have NV := NOK.out.value
      rw [hnk] at NV
      have mem : n ∈ g.nodes := by rw [<- hnk]; simp [List.getD, h]
      have HCN := HC.out.2 n mem
      have IN := Lib.hid hin
      have HW : Hid (Bytes n.ws) := Lib.hid (fun x hx => by
        obtain ⟨_, _, _, _, _, _, wf, _⟩ := hin.2.1
        have := wf x hx
        simp [Lit.wf, IntKind.min, IntKind.max, IntKind.bits, IntKind.signed] at this
        omega)
      obtain ⟨Ai, ci, rfl, f1, f2, _, _, _⟩ := hin.1
      obtain ⟨Aw, cw, rfl, f3, f4, _, _, _⟩ := hin.2.1
      obtain ⟨Ab, cb, rfl, f5, f6, _, _, _⟩ := hin.2.2
      have x0 := hcell 0 (by omega)
      have x1 := hcell 1 (by omega)
      have x2 := hcell 2 (by omega)
      have x3 := hcell 3 (by omega)
      have x4 := hcell 4 (by omega)
      have x5 := hcell 5 (by omega)
      have x6 := hcell 6 (by omega)
      have x7 := hcell 7 (by omega)
      have x8 := hcell 8 (by omega)
      have x9 := hcell 9 (by omega)
      have x10 := hcell 10 (by omega)
      have x11 := hcell 11 (by omega)
      have x12 := hcell 12 (by omega)
      have x13 := hcell 13 (by omega)
      simp only [nodeCells, List.getElem?_cons_zero, List.getElem?_cons_succ, Nat.add_zero] at x0 x1 x2 x3 x4 x5 x6 x7 x8 x9 x10 x11 x12 x13
      have AN := oa.out.nums ft.out.bytes
      have HWL : ws.length = g.ins.length + k := oa.out.1.trans ft.out.1
      have INP : inP ws.length n.ins := fun j hj => by rw [HWL]; exact NAT.out j hj
      have INV : inP (valuesL g).length n.ins := fun j hj => by
        have := NAT.out j hj
        rw [HL.out]; omega
      have LNI : n.ins.length = 1 ∨ n.ins.length = 2 := by
        rcases vals_len NV with ⟨_, l⟩ | ⟨_, l⟩
        . rw [namedL_len] at l; exact .inr l
        . rw [namedL_len] at l; exact .inl l
      obtain ⟨cs, hcs⟩ : ∃ cs, namedU ws n.ins = cs := ⟨_, rfl⟩
      have LCS : cs.length = n.ins.length := by rw [<- hcs]; simp [namedU]
      obtain ⟨sa, sb, SAB⟩ : ∃ sa sb, (cs = [sa] /\ sb = nilS) ∨ cs = [sa, sb] := by
        rcases LNI with l | l
        . obtain ⟨x, hx⟩ := List.length_eq_one_iff.1 (LCS.trans l)
          exact ⟨x, nilS, .inl ⟨hx, rfl⟩⟩
        . obtain ⟨x, y, hx⟩ := slc_two (LCS.trans l)
          exact ⟨x, y, .inr hx⟩
      have NU := namedU_nums AN INP
      rw [hcs] at NU
      have ONE := NU.one
      have N8 := Lib.hid (fun (w : World) (p : Past wr w) => by
        have := named8_any _ _ ws n.ins w (oc.out.has.grow p) AN.slices (IN.out.1.grow (p)) INP HCN.1
        rw [hcs] at this
        exact this)
      have N9 := Lib.hid (fun (w : World) (p : Past wr w) => namedV_any _ _ (valuesL g) n.ins w (hv5.out.grow p) (IN.out.1.grow p) INV HCN.1)
      have NA : Hid (IsNums .i8 wr sa ((namedR ds n.ins).getD 0 [])) := Lib.hid (by
        have := NU.2 0 (by rw [<- NU.1, LCS]; omega)
        rcases SAB with ⟨e, _⟩ | e <;> rw [e] at this <;> exact this)
      have NB : Hid ((namedL (valuesL g) n.ins).length = 2 -> IsNums .i8 wr sb ((namedR ds n.ins).getD 1 [])) := Lib.hid (fun l => by
        rw [namedL_len] at l
        have := NU.2 1 (by rw [<- NU.1, LCS]; omega)
        rcases SAB with ⟨e, _⟩ | e
        . rw [e] at LCS; simp at LCS; omega
        . rw [e] at this; exact this)
      have KA := Lib.hid (fun (lv : Value) (w : World) (p : Past wr w) (hl : IsVals w lv (namedL (valuesL g) n.ins)) => kall_any n _ _ _ lv (namedL (valuesL g) n.ins) (namedR ds n.ins) sa sb w NV NFT.out.1 NFT.out.2 (IN.out.grow p) hl (NA.out.grow p) (fun l => (NB.out l).grow p))
      have LSA : sa.oneCell' = true := ONE sa (by rcases SAB with ⟨e, _⟩ | e <;> rw [e] <;> simp)
      have KF : Hid (Fits (valueV n (namedL (valuesL g) n.ins)) (kernL n (namedL (valuesL g) n.ins) (namedR ds n.ins))) := Lib.hid (kern_fits NV NFT.out.1 NFT.out.2 HW.out)
      obtain ⟨LR, hLR⟩ : ∃ LR, kernL n (namedL (valuesL g) n.ins) (namedR ds n.ins) = LR := ⟨_, rfl⟩
      have GO : Hid (goE (valuesL g) (g.nodes.drop (k + 1)) (ds ++ [LR]) = evalL g ins) := Lib.hid (by
        have := hgo.out
        rw [drop_cons _ _ h, hnk] at this
        rw [<- this, <- hLR]
        rfl)
      have ST := Lib.hid (STEP.out HW.out)
      rw [hLR] at KA ST KF
      have CSL := Lib.hid LCS
      have HSAB := Lib.hid SAB
      have HONE := Lib.hid ONE
      have OCH := Lib.hid oc.out
      have OAH := Lib.hid oa.out
      have HWL2 := Lib.hid HWL
      have i1 : (0 : Int) <= (k : Int) := by omega
      have i2 : (k : Int) < (g.nodes.length : Int) := by omega
      have cd : cs.length <= 2 := by omega
      obtain ⟨P8, hP⟩ : ∃ P8, wr.heap.size = P8 := ⟨_, rfl⟩
      have q8 : W.heap.size + 1 <= P8 := by omega
      have s8 : w3.heap.size <= P8 := by rw [<- hP]; exact p5.2.2.1
      obtain ⟨Av', cv', rfl⟩ : ∃ A c, u8 = .slice A ws.length c := by
        obtain ⟨A, c, e, _⟩ := own_slice' oc.out
        exact ⟨A, c, e⟩
      clear hin hnk mem hcell hnc f1 f2 f3 f4 f5 f6 NOK NFT NAT STEP NV HCN AN INP INV LNI hcs NU ONE NA NB hLR SAB LCS oc oa hgo ft HW HWL
      go_upto_region 11 with fail
      refine opq (fun w' => (Bx w' P8 (nC n (.slice Ai n.ins.length ci) (.slice Aw n.ws.length cw) (.slice Ab n.bs.length cb))) /\ (Bx w' (P8 + 1) #[.slice none 0 0, .slice none 0 0]) /\ (Fr w' (P8 + 1)) /\ Past wr w' /\ P8 + 2 <= w'.heap.size) (by subst hP; (exact kKeep)) ?_
      rintro w6 ⟨b6, d6, fr6, p6, z6⟩
      clear x0 x1 x2 x3 x4 x5 x6 x7 x8 x9 x10 x11 x12 x13
      refine wp_region_goes [4, 5] (fun w' => (Bx w' P8 (nC n (.slice Ai n.ins.length ci) (.slice Aw n.ws.length cw) (.slice Ab n.bs.length cb))) /\ (Bx w' (P8 + 1) #[.slice none 0 0, .slice none 0 0]) /\ (Fr w' (P8 + 1)) /\ Past wr w' /\ P8 + 2 <= w'.heap.size) [(36, ?vg36), (37, ?vg37), (38, ?vg38), (39, ?vg39)] [36, 37, 38, 39] (by kernel_rfl) rfl (by kernel_rfl) ⟨b6, d6, fr6, p6, z6⟩ (fun w h => h) ?ngs
      case ngs =>
        refine goes_step (α := Option Addr × Nat) [] [5] 4 40 [4, 5] (fun p => .slice p.1 cs.length p.2) (fun w' => (Bx w' P8 (nC n (.slice Ai n.ins.length ci) (.slice Aw n.ws.length cw) (.slice Ab n.bs.length cb))) /\ (Bx w' (P8 + 1) #[.slice none 0 0, .slice none 0 0]) /\ (Fr w' (P8 + 1)) /\ Past wr w' /\ P8 + 2 <= w'.heap.size) (fun p w' => (Bx w' P8 (nC n (.slice Ai n.ins.length ci) (.slice Aw n.ws.length cw) (.slice Ab n.bs.length cb))) /\ (Bx w' (P8 + 1) #[.slice none 0 0, .slice none 0 0]) /\ (Fr w' (P8 + 1)) /\ Past wr w' /\ P8 + 2 <= w'.heap.size /\ Hid (HasCells w' (.slice p.1 cs.length p.2) cs)) (fun p => []) [] (by kernel_rfl) (by kernel_rfl) (fun _ => rfl) ?hg0 ?eg0 ?cg0 (fun p => ?_)
        case hg0 =>
          first | (simp; done) | (rw [fill_size]; simp; done) | (rw [fill_size, fill_size]; simp; done) | (simp [fillA, Act.put]; done)
        case eg0 =>
          simp only [fillA, Act.put, fU1, fU2, fU3]
          (iterate 6 (first | refine owesb_skip rfl ?_ | (refine owesb_cons (fun w hw K hK => ?_) ?_; focus ((have hS := Lib.hid hw); go_split_ands; go_simp; (try simp only [fillA, Act.put, fU1, fU2, fU3]); exact hK _ hS.out))))
          exact True.intro
        case cg0 =>
          simp only [fillA, Act.put, fU1, fU2, fU3]
          refine ⟨_, rfl, fun w hw K hK => ?_⟩
          obtain ⟨b6w, d6w, fr6w, p6w, z6w⟩ := hw
          go_simp
          refine (N8.out w p6w).mono ?_
          rintro e wz ⟨vz, rfl, oz, pz⟩
          obtain ⟨Az, cz, rfl, _⟩ := own_slice' oz
          exact hK (Az, cz) _ ⟨box_past pz b6w (by omega), box_past pz d6w (by omega), free_past pz fr6w (by omega), p6w.trans pz, size_past pz z6w, Lib.hid oz.has⟩
        refine goes_step (α := Unit) [4] [] 5 41 [5] (fun q => .int .i64 cs.length) (fun w' => (Bx w' P8 (nC n (.slice Ai n.ins.length ci) (.slice Aw n.ws.length cw) (.slice Ab n.bs.length cb))) /\ (Bx w' (P8 + 1) #[.slice none 0 0, .slice none 0 0]) /\ (Fr w' (P8 + 1)) /\ Past wr w' /\ P8 + 2 <= w'.heap.size /\ Hid (HasCells w' (.slice p.1 cs.length p.2) cs)) (fun q w' => (Bx w' P8 (nC n (.slice Ai n.ins.length ci) (.slice Aw n.ws.length cw) (.slice Ab n.bs.length cb))) /\ (Bx w' (P8 + 1) #[sa, sb]) /\ Past wr w' /\ P8 + 2 <= w'.heap.size) (fun q => []) [] (by kernel_rfl) (by kernel_rfl) (fun _ => rfl) ?hg1 ?eg1 ?cg1 (fun q => ?_)
        case hg1 =>
          first | (simp; done) | (rw [fill_size]; simp; done) | (rw [fill_size, fill_size]; simp; done) | (simp [fillA, Act.put]; done)
        case eg1 =>
          simp only [fillA, Act.put, fU1, fU2, fU3]
          (iterate 6 (first | refine owesb_skip rfl ?_ | (refine owesb_cons (fun w hw K hK => ?_) ?_; focus ((have hS := Lib.hid hw); go_split_ands; go_simp; (try simp only [fillA, Act.put, fU1, fU2, fU3]); exact hK _ hS.out))))
          exact True.intro
        case cg1 =>
          simp only [fillA, Act.put, fU1, fU2, fU3]
          refine ⟨_, rfl, fun w hw K hK => ?_⟩
          obtain ⟨b6w, d6w, fr6w, p6w, z6w, hcw⟩ := hw
          obtain ⟨hrun, dz, kz⟩ := copy_data w (P8 + 1) p.1 p.2 cs sa sb 3 HSAB.out d6w fr6w hcw.out HONE.out
          obtain ⟨wz, hwz⟩ : ∃ wz, w.setCells (P8 + 1) 0 cs = wz := ⟨_, rfl⟩
          rw [hwz] at hrun dz kz
          have bz : (Bx wz P8 (nC n (.slice Ai n.ins.length ci) (.slice Aw n.ws.length cw) (.slice Ab n.bs.length cb))) := fun o => (kz.2.1 P8 o (by omega)).trans (b6w o)
          have pz : Past wr wz := kz.2.2 wr (by omega) p6w
          have zz : P8 + 2 <= wz.heap.size := by have := kz.1; omega
          clear b6w d6w fr6w p6w z6w hcw kz hwz
          go_simp
          try simp only [hrun]
          exact hK () _ ⟨bz, dz, pz, zz⟩
        refine goes_end [5, 4] (by kernel_rfl) ?egz ?_
        case egz =>
          simp only [fillA, Act.put, fU1, fU2, fU3]
          (iterate 6 (first | refine owesb_skip rfl ?_ | (refine owesb_cons (fun w hw K hK => ?_) ?_; focus ((have hS := Lib.hid hw); go_split_ands; go_simp; (try simp only [fillA, Act.put, fU1, fU2, fU3]); exact hK _ hS.out))))
          exact True.intro
        rintro w7 ⟨b7, d7, p7, z7⟩
        simp only [fillA, Act.put, fU1, fU2, fU3]
        clear b6 d6 fr6 p6 z6 N8
        go_upto_region 12 with fail
        refine wp_region_goes [4, 6, 7, 8, 9, 10, 11] (fun w' => (Bx w' P8 (nC n (.slice Ai n.ins.length ci) (.slice Aw n.ws.length cw) (.slice Ab n.bs.length cb))) /\ (Bx w' (P8 + 1) #[sa, sb]) /\ Past wr w' /\ P8 + 2 <= w'.heap.size) [(43, ?vh43), (44, ?vh44), (45, ?vh45), (46, ?vh46), (48, ?vh48)] [43, 44, 45, 46, 48] (by kernel_rfl) rfl (by kernel_rfl) ⟨b7, d7, p7, z7⟩ (fun w h => h) ?nhs
        case nhs =>
          refine goes_step (α := Option Addr × Nat) [] [6, 7, 8, 9, 10, 11] 4 47 [4, 6, 7, 8, 9, 10, 11] (fun r => .slice r.1 n.ins.length r.2) (fun w' => (Bx w' P8 (nC n (.slice Ai n.ins.length ci) (.slice Aw n.ws.length cw) (.slice Ab n.bs.length cb))) /\ (Bx w' (P8 + 1) #[sa, sb]) /\ Past wr w' /\ P8 + 2 <= w'.heap.size) (fun r w' => (Bx w' P8 (nC n (.slice Ai n.ins.length ci) (.slice Aw n.ws.length cw) (.slice Ab n.bs.length cb))) /\ (Bx w' (P8 + 1) #[sa, sb]) /\ Past wr w' /\ P8 + 2 <= w'.heap.size /\ Hid (IsVals w' (.slice r.1 n.ins.length r.2) (namedL (valuesL g) n.ins))) (fun r => []) [] (by kernel_rfl) (by kernel_rfl) (fun _ => rfl) ?hh0 ?eh0 ?ch0 (fun r => ?_)
          case hh0 =>
            first | (simp; done) | (rw [fill_size]; simp; done) | (rw [fill_size, fill_size]; simp; done) | (simp [fillA, Act.put]; done)
          case eh0 =>
            simp only [fillA, Act.put, fU1, fU2, fU3]
            (iterate 12 (first | refine owesb_skip rfl ?_ | (refine owesb_cons (fun w hw K hK => ?_) ?_; focus ((have hS := Lib.hid hw); go_split_ands; go_simp; (try simp only [fillA, Act.put, fU1, fU2, fU3]); exact hK _ hS.out))))
            exact True.intro
          case ch0 =>
            simp only [fillA, Act.put, fU1, fU2, fU3]
            refine ⟨_, rfl, fun w hw K hK => ?_⟩
            obtain ⟨b6w, d6w, p6w, z6w⟩ := hw
            go_simp
            refine (N9.out w p6w).mono ?_
            rintro e wz ⟨vz, rfl, oz, pz⟩
            have OZ := Lib.hid oz
            obtain ⟨Az, cz, rfl, _⟩ := oz
            rw [namedL_len] at OZ ⊢
            exact hK (Az, cz) _ ⟨box_past pz b6w (by omega), box_past pz d6w (by omega), p6w.trans pz, size_past pz z6w, OZ⟩
          refine goes_step (α := Option Addr × Nat) [4] [] 6 49 [6, 7, 8, 9, 10, 11] (fun s => .tuple #[.slice s.1 LR.length s.2, .int .i64 0]) (fun w' => (Bx w' P8 (nC n (.slice Ai n.ins.length ci) (.slice Aw n.ws.length cw) (.slice Ab n.bs.length cb))) /\ (Bx w' (P8 + 1) #[sa, sb]) /\ Past wr w' /\ P8 + 2 <= w'.heap.size /\ Hid (IsVals w' (.slice r.1 n.ins.length r.2) (namedL (valuesL g) n.ins))) (fun s w' => (Bx w' P8 (nC n (.slice Ai n.ins.length ci) (.slice Aw n.ws.length cw) (.slice Ab n.bs.length cb))) /\ (Bx w' (P8 + 1) #[sa, sb]) /\ Past wr w' /\ P8 + 2 <= w'.heap.size /\ Hid (Own8 w' P8 (.slice s.1 LR.length s.2) LR)) (fun s => [(42, .tuple #[.slice s.1 LR.length s.2, .int .i64 0]), (50, .slice s.1 LR.length s.2), (51, .int .i64 0), (12, .slice s.1 LR.length s.2), (13, .int .i64 0)]) [42, 50, 51, 12, 13] (by kernel_rfl) (by kernel_rfl) (fun _ => rfl) ?hh1 ?eh1 ?ch1 (fun s => ?_)
          case hh1 =>
            first | (simp; done) | (rw [fill_size]; simp; done) | (rw [fill_size, fill_size]; simp; done) | (simp [fillA, Act.put]; done)
          case eh1 =>
            simp only [fillA, Act.put, fU1, fU2, fU3]
            (iterate 12 (first | refine owesb_skip rfl ?_ | (refine owesb_cons (fun w hw K hK => ?_) ?_; focus ((have hS := Lib.hid hw); go_split_ands; go_simp; (try simp only [fillA, Act.put, fU1, fU2, fU3]); exact hK _ hS.out))))
            exact True.intro
          case ch1 =>
            simp only [fillA, Act.put, fU1, fU2, fU3]
            refine ⟨_, rfl, fun w hw K hK => ?_⟩
            obtain ⟨b6w, d6w, p6w, z6w, ozw⟩ := hw
            go_simp
            refine (KA.out _ w p6w ozw.out).mono ?_
            rintro e wz ⟨vz, rfl, oz, pz⟩
            obtain ⟨Az, cz, rfl, _⟩ := own_slice' oz
            exact hK (Az, cz) _ ⟨box_past pz b6w (by omega), box_past pz d6w (by omega), p6w.trans pz, size_past pz z6w, Lib.hid (own8_base oz (by omega))⟩
          refine goes_end [6, 4] (by kernel_rfl) ?ehz ?_
          case ehz =>
            simp only [fillA, Act.put, fU1, fU2, fU3]
            (iterate 12 (first | refine owesb_skip rfl ?_ | (refine owesb_cons (fun w hw K hK => ?_) ?_; focus ((have hS := Lib.hid hw); go_split_ands; go_simp; (try simp only [fillA, Act.put, fU1, fU2, fU3]); exact hK _ hS.out))))
            exact True.intro
          rintro w8 ⟨b6w, d6w, p8, z8, o8⟩
          simp only [fillA, Act.put, fU1, fU2, fU3]
          clear b7 d7 p7 z7 N9 KA b6w d6w
          have e2 : ((0 : Int) != 0) = false := by decide
          have OC8 := Lib.hid (OCH.out.past p8)
          have OA8 := Lib.hid (OAH.out.past p8)
          have HLT := Lib.hid (World.ownsRow.lt OC8.out)
          have q8' := p5.trans p8
          have b8 := box_past p8 b5 (by omega)
          have s3 : w3.heap.size <= w8.heap.size := q8'.2.2.1
          clear hv5 OCH OAH b5 q5 p8
          go_wp2_with (at_builtin; refine wpList_append_own _ rfl (.tmp 55) (.tmp 57) 30 rfl w3.heap.size 27 i0 _ 1 24 Tryz.underlying30 I1.out I2.out I3.out I4.out rfl (by decide) _ _ _ rfl (World.ownsRow.alloc OC8.out _) ⟨w8.heap.size, 0, none⟩ 1 1 [.slice s.1 LR.length s.2] rfl rfl (fun j u hu => cells_new1 w8 _ 27 j u hu) (fun u hu => by simp only [List.mem_singleton] at hu; subst hu; rfl) ?c4 ?c5 ?c6 ?_)
          case c4 => have := HWL2.out; unfold maxLen; omega
          case c5 => have := HWL2.out; omega
          case c6 => simp; omega
          intro v4 w9 hown9 hgrow _
          have q9 : Past w3 w9 := (q8'.alloc _).grownBy hgrow (fun j hj => (HLT.out j hj).1)
          have oc9 : Hid (OwnCells w9 w3.heap.size v4 (ws ++ [.slice s.1 LR.length s.2])) := Lib.hid (by
            unfold OwnCells
            simp only [List.length_append, List.length_cons, List.length_nil]
            exact hown9)
          have OAx : Own8 (w8.alloc (.cells #[.slice s.1 LR.length s.2] 27)) w3.heap.size (.slice s.1 LR.length s.2) LR := own8_base (World.ownsRow.alloc o8.out _) (by omega)
          have oa9 : Hid (AreOwn w9 w3.heap.size (ws ++ [.slice s.1 LR.length s.2]) (ds ++ [LR])) := Lib.hid ((AreOwn.snoc (OA8.out.past ((Past.refl _).alloc _)) OAx).grow (World.ownsRow.alloc OC8.out _) hgrow)
          clear hown9 hgrow OAx o8 OC8 OA8 HLT b8 q8'
          go_wp2_with fail
          go_roundw
          case rel => exact ⟨k + 1, _, _, by omega, by go_num, oc9, oa9, ST, GO, q9⟩
          case measure => simp [intOf]; omega
    . obtain rfl : k = g.nodes.length := by omega
      have hgo' := hgo.out
      rw [List.drop_length] at hgo'
      have GO : Hid (ds = evalL g ins) := Lib.hid hgo'
      have d2 : decide ((g.nodes.length : Int) < (g.nodes.length : Int)) = false := by simp
      clear hgo hgo'
      go_wp2_with fail
      go_ret2
      exact ⟨_, rfl, ⟨ws, own_more oc.out q3.2.2.1, by rw [<- GO.out]; exact oa.out.more q3.2.2.1⟩, q5⟩
end Go.Proofs.YtliijchcpooplaaGreat
