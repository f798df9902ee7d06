/- RegionNodes (quiltlaw12, P12.2): what a command of a node in DRAM reads and writes are its values, whole, at their places, and what it makes, and of a tile each row more is a row more. Conditions: the arguments are well formed and lie in memory as Go lays them. -/
import Derived.Test.YtgbedoffgahhaaaNT
import Derived.Test.YtgbedoffgahhaaaTv
import Derived.Test.YtgbedoffgahhaaaRows
import Derived.WalkKit
import Derived.ProofKit
import Derived.OpenShut
namespace Go.Proofs.Ytgbedoffgahhaaa
open Go.ChangeShapes Go.WideShapes Go.ChangeAt Go.RowKit
set_option maxRecDepth 20000
set_option linter.unusedVariables false
set_option linter.unusedSimpArgs false
theorem nums_one {w : World} {b : Nat} {x : Int} (h : (∀ o : Nat, w.cell? ⟨b, o, none⟩ = (#[.int .i64 x] : Array Value)[o]?)) (wf : (Lit.int .i64 x).wf = true) : IsNums .i64 w (.slice (some ⟨b, 0, none⟩) 1 1) [x] :=
  ⟨some ⟨b, 0, none⟩, 1, rfl, Nat.le_refl _, by unfold maxLen; decide, (fun h => by cases h), by simpa using wf, fun _ => ⟨b, 0, rfl, cell_lt (h 0), fun i hi => by
    obtain rfl : i = 0 := by simp at hi; omega
    exact h 0⟩⟩
def Bx4 (W w : World) (x : Value) : Prop := ∃ b, x = .pointer (some ⟨b, 0, none⟩) ∧ W.heap.size ≤ b ∧ (∃ p q r s : Value, (∀ o : Nat, w.cell? ⟨b, o, none⟩ = (#[p, q, r, s] : Array Value)[o]?)) ∧ (∀ o : Nat, w.frozen? ⟨b, o, none⟩ = false)
theorem Bx4.past {W w w' : World} {x : Value} (h : Bx4 W w x) (g : Past w w') : Bx4 W w' x := by
  obtain ⟨b, e, hb, ⟨p, q, r, s, hx⟩, hf⟩ := h
  exact ⟨b, e, hb, ⟨p, q, r, s, box_past g hx (cell_lt (hx 0))⟩, free_past g hf (cell_lt (hx 0))⟩
theorem box_upd4 {w : World} {b : Nat} {a0 a1 a2 a3 y0 y1 y2 y3 : Value} (h : (∀ o : Nat, w.cell? ⟨b, o, none⟩ = (#[a0, a1, a2, a3] : Array Value)[o]?)) : (∀ o : Nat, ((((w.setCell ⟨b, 0, none⟩ y0).setCell ⟨b, 1, none⟩ y1).setCell ⟨b, 2, none⟩ y2).setCell ⟨b, 3, none⟩ y3).cell? ⟨b, o, none⟩ = (#[y0, y1, y2, y3] : Array Value)[o]?) :=
  box_upd (box_upd (box_upd (box_upd h 0 (by simp) _) 1 (by simp) _) 2 (by simp) _) 3 (by simp) _
def IN (W : World) (q : Int) (cs : Array Value) (i : Nat) (v : Nat → Value) (w : World) : Prop := match i with
  | 18 => v 18 = .int .i64 q
  | 21 => Bx4 W w (v 21)
  | 22 => ∃ b, v 21 = .pointer (some ⟨b, 0, none⟩) ∧ (∀ o : Nat, w.cell? ⟨b, o, none⟩ = (cs : Array Value)[o]?) ∧ b < w.heap.size
  | _ => True
theorem IN_keep {W : World} {q : Int} {cs : Array Value} {w w' : World} {v : Nat → Value} {j : Nat} {x : Value} (g : Past w w') : ∀ i, i ≠ j → (j = 21 → i ≠ 22) → IN W q cs i v w → IN W q cs i (updV v j x) w' := by
  intro i hne hj h
  unfold IN at *
  split at h
  · rw [updV_ne v x hne]; exact h
  · rw [updV_ne v x hne]; exact h.past g
  · rw [updV_ne v x (fun e => hj e.symm rfl)]
    obtain ⟨b, e, hb, hl⟩ := h
    exact ⟨b, e, box_past g hb hl, Nat.lt_of_lt_of_le hl g.2.2.1⟩
  · trivial
theorem IN_store {W : World} {q : Int} {cs : Array Value} {w : World} {v : Nat → Value} {x y0 y1 y2 y3 : Value} (b : Nat) : ∀ i, i ≠ 22 → IN W q cs i v w → IN W q cs i (updV v 22 x) ((((w.setCell ⟨b, 0, none⟩ y0).setCell ⟨b, 1, none⟩ y1).setCell ⟨b, 2, none⟩ y2).setCell ⟨b, 3, none⟩ y3) := by
  intro i hne h
  unfold IN at *
  split at h
  · rw [updV_ne v x hne]; exact h
  · rw [updV_ne v x hne]
    obtain ⟨b', e, hb, ⟨p, q, r, s, hx⟩, hf⟩ := h
    refine ⟨b', e, hb, ?_, free_set (free_set (free_set (free_set hf)))⟩
    by_cases c : b = b'
    · subst c; exact ⟨_, _, _, _, box_upd4 hx⟩
    · exact ⟨_, _, _, _, box_set (box_set (box_set (box_set hx c) c) c) c⟩
  · exact absurd rfl hne
  · trivial
def JQ (q : Int) (n : Nat) (i : Nat) (x : Value) (w : World) : Prop := i = n → x = .int .i64 q
theorem JQ_past {q : Int} {n i : Nat} {x : Value} {w w' : World} (p : Past w w') (h : JQ q n i x w) : JQ q n i x w' := h
theorem box_setAll7 {w : World} {b b2 : Nat} {cs : Array Value} {y0 y1 y2 y3 y4 y5 y6 : Value} (h : (∀ o : Nat, w.cell? ⟨b2, o, none⟩ = (cs : Array Value)[o]?)) (hn : b ≠ b2) : (∀ o : Nat, (((((((w.setCell ⟨b, 0, none⟩ y0).setCell ⟨b, 1, none⟩ y1).setCell ⟨b, 2, none⟩ y2).setCell ⟨b, 3, none⟩ y3).setCell ⟨b, 4, none⟩ y4).setCell ⟨b, 5, none⟩ y5).setCell ⟨b, 6, none⟩ y6).cell? ⟨b2, o, none⟩ = (cs : Array Value)[o]?) :=
  box_set (box_set (box_set (box_set (box_set (box_set (box_set h hn) hn) hn) hn) hn) hn) hn
set_option maxHeartbeats 16000000 in
theorem nodes_walk (W : World) (vi : Value) (x : GraphD × List Int) (hvi : IsIm W vi x) (va : Value) (y : Int × Int × Int) (hva : va = .agg #[.int .u8 y.1, .int .u8 y.2.1, .int .u8 y.2.2] ∧ (Lit.int .u8 y.1).wf = true ∧ (Lit.int .u8 y.2.1).wf = true ∧ (Lit.int .u8 y.2.2).wf = true) : Calls Try.prog 6 #[vi, va] W fun e w' => e = .returned (.bool true) ∧ Past W w' := by
  obtain ⟨gg, pl⟩ := x
  obtain ⟨a0, a1, a2⟩ := y
  obtain ⟨rfl, ha0, ha1, ha2⟩ := hva
  have ba0 : 0 ≤ a0 ∧ a0 ≤ 255 := by simpa [Lit.wf, IntKind.min, IntKind.max, IntKind.bits, IntKind.signed] using ha0
  have ba1 : 0 ≤ a1 ∧ a1 ≤ 255 := by simpa [Lit.wf, IntKind.min, IntKind.max, IntKind.bits, IntKind.signed] using ha1
  have ba2 : 0 ≤ a2 ∧ a2 ≤ 255 := by simpa [Lit.wf, IntKind.min, IntKind.max, IntKind.bits, IntKind.signed] using ha2
  clear ha0 ha1 ha2
  dsimp only
  obtain ⟨iv, nv, ov, pv, B5, n5, c5, B6, n6, c6, B7, n7, c7, rfl, hg, hp⟩ := hvi
  dsimp only at hg hp
  have HG := Lib.hid hg
  have HP := Lib.hid hp
  obtain ⟨v0, v1, v2, e, hi, hn, ho⟩ := hg
  simp only [Value.agg.injEq, Array.mk.injEq, List.cons.injEq, and_true] at e
  obtain ⟨rfl, rfl, rfl⟩ := e
  obtain ⟨B1, c1, rfl, _⟩ := hi
  obtain ⟨B2, c2, rfl, _⟩ := hn
  obtain ⟨B3, c3, rfl, _⟩ := ho
  obtain ⟨B4, c4, rfl, _⟩ := hp
  obtain ⟨P, hP⟩ : ∃ P, W.heap.size = P := ⟨_, rfl⟩
  go_enter Try.func6, Try.ntmps6
  go_upto_region 1 with fail
  refine opq (fun w' => (∀ o : Nat, w'.cell? ⟨P, o, none⟩ = (#[.slice B1 gg.ins.length c1, .slice B2 gg.nodes.length c2, .slice B3 gg.outs.length c3, .slice B4 pl.length c4, .slice B5 n5 c5, .slice B6 n6 c6, .slice B7 n7 c7] : Array Value)[o]?) ∧ (∀ o : Nat, w'.frozen? ⟨P, o, none⟩ = false) ∧ (∀ o : Nat, w'.cell? ⟨P + 1, o, none⟩ = (#[.int .u8 a0, .int .u8 a1, .int .u8 a2] : Array Value)[o]?) ∧ Past W w' ∧ P + 2 ≤ w'.heap.size) (by subst hP; (exact kKeep)) ?_
  rintro w0 ⟨b0, f0, d0, p0, z0⟩
  try simp only [hP]
  have PW : W.heap.size ≤ P := by omega
  clear hP
  go_upto_region 2 with (go_at_call 7; (with_reducible refine (shown_any _).mono ?_); rintro e w1 ⟨rfl, p1⟩)
  have b1 := box_past p1 b0 (by omega)
  have f1 := free_past p1 f0 (by omega)
  have D1 := Lib.hid (box_past p1 d0 (by omega))
  have P1 := Lib.hid (p0.trans p1)
  have z1 : P + 2 ≤ w1.heap.size := Nat.le_trans z0 p1.2.2.1
  clear b0 f0 d0 p0 p1 z0
  go_upto_region 3 with (go_at_call 13; (with_reducible refine (less12_any gg pl _ _ _ _ _ _ _ _ (HG.out.grow P1.out) (HP.out.grow P1.out)).mono ?_); rintro e w2 ⟨A1, m1, k1, A2, m2, k2, A3, m3, k3, A4, m4, k4, rfl, ig, inn, p2⟩; have b2 := box_past p2 b1 (by omega); have f2 := free_past p2 f1 (by omega); have D2 := Lib.hid (box_past p2 D1.out (by omega)); have P2 := Lib.hid (P1.out.trans p2); have z2 := Nat.le_trans z1 p2.2.2.1; clear b1 f1 z1)
  have q9 := box_set7 b2 (y0 := .slice A1 m1 k1) (y1 := .slice A2 m2 k2) (y2 := .slice A3 m3 k3) (y3 := .slice A4 m4 k4) (y4 := .slice none 0 0) (y5 := .slice none 0 0) (y6 := .slice none 0 0)
  have sv := ((((((((Save.refl P w2).set 0 (.slice A1 m1 k1)).set 1 (.slice A2 m2 k2)).set 2 (.slice A3 m3 k3)).set 3 (.slice A4 m4 k4)).set 4 (.slice none 0 0)).set 5 (.slice none 0 0)).set 6 (.slice none 0 0))
  have IG := Lib.hid (graph_save ig (noInt7 b2) sv)
  have CUT := Lib.hid (cut_less gg)
  refine opq (fun w' => (∀ o : Nat, w'.cell? ⟨P, o, none⟩ = (#[.slice A1 m1 k1, .slice A2 m2 k2, .slice A3 m3 k3, .slice A4 m4 k4, .slice none 0 0, .slice none 0 0, .slice none 0 0] : Array Value)[o]?) ∧ (∀ o : Nat, w'.cell? ⟨P + 1, o, none⟩ = (#[.int .u8 a0, .int .u8 a1, .int .u8 a2] : Array Value)[o]?) ∧ Hid (IsGraph w' (.agg #[.slice A1 m1 k1, .slice A2 m2 k2, .slice A3 m3 k3]) (lessD gg)) ∧ Past W w' ∧ P + 2 ≤ w'.heap.size) ⟨q9, box_setAll7 D2.out (by omega), IG, by have := P2.out; (exact kKeep), by (exact kKeep)⟩ ?_
  rintro w3 ⟨b3, d3, IG3, p3, z3⟩
  clear b2 f2 D2 P2 z2 q9 sv IG ig inn p2
  obtain ⟨g, hgl⟩ : ∃ g, lessD gg = g := ⟨_, rfl⟩
  rw [hgl] at IG3 CUT
  clear hgl D1 P1 HG HP
  have HB3 := Lib.hid b3
  have D3 := Lib.hid d3
  have P3 := Lib.hid p3
  clear d3 p3
  go_upto_region 4 with (go_at_call 14; (with_reducible refine (rvalues_any g _ _ IG3.out CUT.out).mono ?_); rintro e w4 ⟨lv, q, rfl, hq, hvl, p4⟩)
  by_cases h0 : valuesE g = 0
  · obtain rfl := hq.2 h0
    have hv4 := hvl h0
    have IG4 := IG3.out.grow p4
    obtain ⟨v0, v1, v2, e, hi, hn, ho⟩ := id IG4
    simp only [Value.agg.injEq, Array.mk.injEq, List.cons.injEq, and_true] at e
    obtain ⟨rfl, rfl, rfl⟩ := e
    obtain ⟨_, _, e1, _⟩ := hi
    have hn' := hn
    obtain ⟨_, _, e2, _⟩ := hn
    simp only [Value.slice.injEq, true_and] at e1 e2
    obtain ⟨rfl, rfl, rfl⟩ := e1
    obtain ⟨rfl, rfl, rfl⟩ := e2
    obtain ⟨vs, hvs⟩ : ∃ vs, valuesL g = vs := ⟨_, rfl⟩
    rw [hvs] at hv4
    have HB4 := Lib.hid (box_past p4 HB3.out (by omega))
    have D4 := Lib.hid (box_past p4 D3.out (by omega))
    have P4 := Lib.hid (P3.out.trans p4)
    have z4 : P + 2 ≤ w4.heap.size := Nat.le_trans z3 p4.2.2.1
    have b4 := HB4.out
    have HVS := Lib.hid hvs
    have H0 := Lib.hid h0
    have G4 := Lib.hid IG4
    have N4 := Lib.hid hn'
    obtain ⟨Al, cl, rfl, _, _⟩ := hv4.form
    have HV4 := Lib.hid hv4
    clear hq hvl b3 z3 IG3 HB3 D3 P3 IG4 hn' ho hv4 h0 hvs p4
    by_cases hz : g.nodes.length = 0
    · have d1 : ((g.nodes.length : Int) == 0) = true := by rw [hz]; rfl
      go_wp2_with fail
      go_ret
      exact ⟨rfl, P4.out⟩
    have d1 : ((g.nodes.length : Int) == 0) = false := beq_eq_false_iff_ne.2 (by omega)
    have HF := Lib.hid (fun (k : Nat) (hk : k < g.nodes.length) => node_facts H0.out hk)
    have HF0 := HF.out 0 (by omega)
    rw [HVS.out] at HF0
    obtain ⟨l1, l2, l3, _, _⟩ := HF0
    have hvl : vs.length ≤ 16 := by omega
    have L1 := Lib.hid l1
    clear l1
    obtain ⟨X, hX⟩ : ∃ X, w4.heap.size = X := ⟨_, rfl⟩
    have hXP : P + 2 ≤ X := by omega
    go_upto_region 7 with fail
    refine opq (fun w' => (∀ o : Nat, w'.cell? ⟨X, o, none⟩ = (#[.slice A1 g.ins.length k1, .slice A2 g.nodes.length k2, .slice A3 m3 k3, .slice none 0 0, .slice none 0 0, .slice none 0 0, .slice none 0 0] : Array Value)[o]?) ∧ (∀ o : Nat, w'.frozen? ⟨X, o, none⟩ = false) ∧ Past w4 w' ∧ X + 1 ≤ w'.heap.size) (by subst hX; (exact kKeep)) ?_
    rintro w5 ⟨x5, fx5, p5, z5⟩
    have rX : w4.heap.size ≤ X := Nat.le_of_eq hX
    clear hX d1 b4
    go_wp2_with fail
    go_loopw [9] (fun i wr => ∃ (j : Nat) (A : Option Addr) (c : Nat), j ≤ vs.length ∧ i = .int .i64 j ∧ (∀ o : Nat, wr.cell? ⟨X, o, none⟩ = (#[.slice A1 g.ins.length k1, .slice A2 g.nodes.length k2, .slice A3 m3 k3, .slice A j c, .slice none 0 0, .slice none 0 0, .slice none 0 0] : Array Value)[o]?) ∧ (∀ o : Nat, wr.frozen? ⟨X, o, none⟩ = false) ∧ Hid (OwnI wr (X + 1) (.slice A j c) (placesL j)) ∧ Past w4 wr ∧ X + 1 ≤ wr.heap.size) (fun i _ => vs.length - (intOf i).toNat)
    case atStart => exact ⟨0, none, 0, by omega, rfl, x5, fx5, Lib.hid ⟨by simp [placesL], .inl ⟨rfl, rfl⟩⟩, p5, z5⟩
    case round =>
      clear x5 fx5 p5 z5
      obtain ⟨j, A, c, hj, rfl, x6, fx6, OWN, p6, z6⟩ := hrel
      by_cases l : j < vs.length
      · have LK := Lib.hid (places_len j)
        have HS := Lib.hid (places_succ j)
        have LT := Lib.hid (World.ownsRow.lt OWN.out)
        have WF := Lib.hid (show (Lit.int .i64 (2048 * (j : Int))).wf = true from wf64 (by omega))
        have P6 := Lib.hid p6
        have X6 := Lib.hid x6
        have F6 := Lib.hid fx6
        have zr := Lib.hid z6
        clear p6
        go_wp2_with (at_builtin; refine wpList_append_i rfl (.tmp 51) (.tmp 54) rfl (X + 1) _ _ rfl (OWN.out.past ((Past.refl _).alloc _)) [2048 * (j : Int)] (some ⟨wr.heap.size, 0, none⟩) 1 1 rfl (nums_one (box_new rfl) WF.out) ?c4 ?c5 ?_)
        case c4 => rw [LK.out]; simp; omega
        case c5 => simp; omega
        intro v7 w7 hown7 hgrow
        obtain ⟨A7, k7, rfl, _, _⟩ := own_slice' hown7
        have hlen : (placesL j ++ [2048 * (j : Int)]).length = j + 1 := by simp [placesL]
        rw [hlen] at hown7
        have hne : some X ≠ (Value.slice A j c).ownBlock := fun e => by have := (LT.out X e.symm).1; omega
        have x7 := box_grownBy hgrow (box_old X6.out (by have := zr.out; omega)) (by have := zr.out; simp; omega) hne
        have fx7 := free_grownBy' hgrow (free_alloc F6.out) (by have := zr.out; simp; omega) hne
        have HX7 := Lib.hid x7
        have HF7 := Lib.hid fx7
        have OW7 := Lib.hid (show OwnI w7 (X + 1) (.slice A7 (j + 1) k7) (placesL (j + 1)) by rw [HS.out]; exact hown7)
        have P7 := Lib.hid (show Past w4 w7 from (P6.out.alloc _).grownBy hgrow (fun jj hj => by have := (LT.out jj hj).1; omega))
        have Z7 := Lib.hid (show X + 1 ≤ w7.heap.size by have h1 := hgrow.size; have h2 := zr.out; simp at h1; omega)
        have LT7 := Lib.hid (World.ownsRow.lt OW7.out)
        clear hown7 hgrow hne x6 fx6 OWN LT
        go_wp2_with fail
        go_roundw
        case rel => exact ⟨j + 1, A7, k7, by omega, by go_num, box_upd HX7.out 3 (by simp) _, free_set HF7.out, Lib.hid (own_set_ne OW7.out (fun jj hj => by have := (LT7.out jj hj).1; omega)), P7.out.setCell (by simpa using rX) _, by simpa only [size_setCell] using Z7.out⟩
        case measure => simp [intOf]; omega
      · have e : j = vs.length := by omega
        subst e
        have HPL := Lib.hid (show IsNums .i64 wr (.slice A vs.length c) (placesL vs.length) from by
          have := numsI_of_own OWN.out (places_wf (by omega))
          exact this)
        have HX8 := Lib.hid x6
        have P8 := Lib.hid p6
        have b8 := box_past p6 HB4.out (by omega)
        have d8 := box_past p6 D4.out (by omega)
        have HB8 := Lib.hid b8
        have HD8 := Lib.hid d8
        have G8 := Lib.hid (G4.out.grow p6)
        have N8 := Lib.hid (N4.out.grow p6)
        have HV8 := Lib.hid (HV4.out.grow p6)
        clear x6 fx6 p6 OWN HB4 D4 HV4
        have nz : ((g.nodes.length : Int) == 0) = false := beq_eq_false_iff_ne.2 (by omega)
        obtain ⟨K, hK⟩ : ∃ K, a0 % (g.nodes.length : Int) = K := ⟨_, rfl⟩
        have hK1 : 0 ≤ K ∧ K < (g.nodes.length : Int) := by rw [← hK]; exact ⟨Int.emod_nonneg _ (by omega), Int.emod_lt_of_pos _ (by omega)⟩
        obtain ⟨k, rfl⟩ : ∃ k : Nat, K = k := ⟨K.toNat, by omega⟩
        go_upto_region 12 with fail
        simp only [hK]
        have hkn : k < g.nodes.length := by omega
        obtain ⟨y1, y2, y3, y4, y5⟩ := HF.out k hkn
        rw [HVS.out] at y1 y4
        obtain ⟨bn, on, hA2, hat⟩ : ∃ b off, A2 = some ⟨b, off, none⟩ ∧ NodeAt wr b (off + k * 14) (g.nodes.getD k default) := by
          obtain ⟨A', cap', e, _, _, _, _, h6⟩ := N8.out
          simp only [Value.slice.injEq] at e
          obtain ⟨rfl, _, rfl⟩ := e
          obtain ⟨b, off, e, hb, hc⟩ := h6 (by omega)
          exact ⟨b, off, e, hc k hkn⟩
        subst hA2
        obtain ⟨vin, vw, vb, hin, hcell⟩ := hat
        have cin : wr.cell? ⟨bn, on + k * 14 + 1, none⟩ = some vin := by rw [hcell 1 (by omega)]; rfl
        have XIN := Lib.hid hin.1
        obtain ⟨xs, hxs⟩ : ∃ xs, (g.nodes.getD k default).ins = xs := ⟨_, rfl⟩
        rw [hxs] at XIN y4 y5
        have HXS := Lib.hid hxs
        obtain ⟨Ax, cx, rfl, _, _⟩ := XIN.out.form'
        obtain ⟨bm, om, hAl, _, hva⟩ := HV8.out.at (k := g.ins.length + k) (by omega)
        subst hAl
        have hvm := hva wr (Past.refl wr)
        obtain ⟨s, hs⟩ : ∃ s, vs.getD (g.ins.length + k) default = s := ⟨_, rfl⟩
        rw [hs] at hvm
        have HSS := Lib.hid hs
        obtain ⟨o1, o2, o3, o4⟩ := hvm
        have i1 : (0 : Int) ≤ (k : Int) := by omega
        have i3 : (0 : Int) ≤ (g.ins.length : Int) + (k : Int) := by omega
        have i4 : (g.ins.length : Int) + (k : Int) < (vs.length : Int) := by rw [y1]; omega
        have Y1 := Lib.hid y1
        have Y4 := Lib.hid y4
        have YN := Lib.hid (show g.ins.length + k < vs.length by omega)
        have hkb : k ≤ 11 := by omega
        clear hcell hin hva hs hxs y1 y4 hK
        go_upto_region 14 with fail
        obtain ⟨M, hM⟩ : ∃ M, wr.heap.size = M := ⟨_, rfl⟩
        have hMX : X + 1 ≤ M := by omega
        refine opq (fun w' => (∀ o : Nat, w'.cell? ⟨P, o, none⟩ = (#[.slice A1 g.ins.length k1, .slice (some ⟨bn, on, none⟩) g.nodes.length k2, .slice A3 m3 k3, .slice A4 m4 k4, .slice none 0 0, .slice none 0 0, .slice none 0 0] : Array Value)[o]?) ∧ (∀ o : Nat, w'.cell? ⟨P + 1, o, none⟩ = (#[.int .u8 a0, .int .u8 a1, .int .u8 a2] : Array Value)[o]?) ∧ (∀ o : Nat, w'.cell? ⟨X, o, none⟩ = (#[.slice A1 g.ins.length k1, .slice (some ⟨bn, on, none⟩) g.nodes.length k2, .slice A3 m3 k3, .slice A vs.length c, .slice none 0 0, .slice none 0 0, .slice none 0 0] : Array Value)[o]?) ∧ (∀ o : Nat, w'.cell? ⟨M, o, none⟩ = (#[.int .i64 s.h, .int .i64 s.w, .int .i64 s.c] : Array Value)[o]?) ∧ Past wr w' ∧ M + 1 ≤ w'.heap.size) (by subst hM; have x8 := HX8.out; (exact kKeep)) ?_
        rintro w9 ⟨b9, d9, x9, m9, p9, z9⟩
        try simp only [hM]
        have P9 := Lib.hid (P8.out.trans p9)
        have HMV := Lib.hid (fun (j : Nat) (hj : j < vs.length) => (by have := (makes_facts H0.out).2.1 j (by rw [HVS.out]; exact hj); rw [HVS.out] at this; exact this : mayV (vs.getD j default)))
        have hsv : mayV s := by rw [← HSS.out]; exact HMV.out _ YN.out
        obtain ⟨sh1, sh2, _⟩ := id hsv
        have HSV := Lib.hid hsv
        obtain ⟨L, hL⟩ : ∃ L, kernL vs (placesL vs.length) xs (g.ins.length + k) = L := ⟨_, rfl⟩
        have KO := kern_ok (made := g.ins.length + k) hvl HMV.out (fun j hj => Y4.out j hj) YN.out
        rw [hL] at KO
        have OF1 := Lib.hid (fun w (p : Past wr w) => (show Calls Try.prog 15 #[.agg #[.slice A1 g.ins.length k1, .slice (some ⟨bn, on, none⟩) g.nodes.length k2, .slice A3 m3 k3, .slice A vs.length c, .slice none 0 0, .slice none 0 0, .slice none 0 0], .agg #[.int .i64 4, .int .i64 0, .int .i64 k, .int .i64 0, .int .i64 s.h, .int .i64 0, .int .i64 0, .int .i64 0, .int .i64 0, .int .i64 0, .int .i64 0, .int .i64 0, .int .i64 0, .int .i64 0]] w fun e w' => ∃ v, e = .returned (.tuple #[v, .int .i64 0]) ∧ IsSpans w' v L ∧ Past w w' from by
          refine (of_node g _ _ _ _ _ _ _ (placesL vs.length) (cmdK k s.h) rfl w (G8.out.grow p) CUT.out H0.out (HPL.out.grow p) (by rw [places_len, HVS.out]) (cmdK_may hkb sh1 sh2) k hkn rfl L (.inr ⟨rfl, by rw [HVS.out, HSS.out]; rfl, by rw [HVS.out, HXS.out]; exact hL.symm⟩) KO.2).mono ?_
          rintro e w2 ⟨v, rfl, ho, pz⟩
          rw [KO.1] at ho ⊢
          exact ⟨v, rfl, sps_of_own (ho rfl) KO.2, pz⟩))
        have LK := Lib.hid (show L.length = xs.length + 1 by rw [← hL]; exact kern_len _ _ _ _)
        have LA := Lib.hid (fun (j : Nat) (hj : j < xs.length) (m : Nat) (hm : xs.getD j 0 = m) => (show L.getD j default = ⟨0, 2048 * (m : Int), 2048 * (m : Int) + sizeI (vs.getD m default).h (vs.getD m default).w (vs.getD m default).c, false⟩ by
          have hml : m < vs.length := by have := (Y4.out j hj).2; rw [hm] at this; omega
          rw [← hL, kern_at hj, hm]
          exact whole_is hml hvl (HMV.out m hml)))
        have LL := Lib.hid (show L.getD xs.length default = ⟨0, 2048 * ((g.ins.length : Int) + (k : Int)), 2048 * ((g.ins.length : Int) + (k : Int)) + sizeI s.h s.w s.c, true⟩ by
          rw [← hL, kern_last, whole_is YN.out hvl (HMV.out _ YN.out), HSS.out]
          have : ((g.ins.length + k : Nat) : Int) = (g.ins.length : Int) + (k : Int) := by omega
          rw [this])
        have HX9 := Lib.hid x9
        have HB9 := Lib.hid b9
        have HD9 := Lib.hid d9
        have HM9 := Lib.hid m9
        clear KO hL hsv b8 d8 o1 o2 o3 o4 cin
        go_upto_region 15 with (go_at_call 15; (with_reducible refine (OF1.out _ p9).mono ?_); rintro e wa ⟨lv1, rfl, hl1, pa⟩)
        obtain ⟨As, cs, rfl, _, _⟩ := hl1.form
        have HLS := Lib.hid hl1
        have PA := Lib.hid (P9.out.trans pa)
        have XA := Lib.hid (box_past pa HX9.out (by omega))
        have BA := Lib.hid (box_past pa HB9.out (by omega))
        have DA := Lib.hid (box_past pa HD9.out (by omega))
        have MA := Lib.hid (box_past pa HM9.out (by omega))
        have za : M + 1 ≤ wa.heap.size := Nat.le_trans z9 pa.2.2.1
        have VA := Lib.hid (HV8.out.grow (p9.trans pa))
        have XI := Lib.hid (XIN.out.grow (p9.trans pa))
        have GA := Lib.hid (G8.out.grow (p9.trans pa))
        have HPA := Lib.hid (HPL.out.grow (p9.trans pa))
        have d15 : ((L.length : Int) != (xs.length : Int) + 1) = false := by rw [LK.out]; simp
        clear b9 d9 x9 m9 p9 z9 hl1 pa OF1 HX9 HB9 HD9 HM9 HX8 HB8 HD8 P8 P9 XIN HV8 N8 G8 HPL
        go_wp2_with fail
        clear d15
        go_loopw [4, 15] (fun s i wr => ∃ j : Nat, j ≤ xs.length ∧ s = .bool false ∧ i = .int .i64 j ∧ Hid (Past wa wr)) (fun _ i _ => xs.length - (intOf i).toNat)
        case atStart => exact ⟨0, by omega, rfl, rfl, Lib.hid (Past.refl _)⟩
        case round =>
          obtain ⟨j, hj, rfl, rfl, PR⟩ := hrel
          obtain ⟨wq, hwq⟩ : ∃ wq, wq = wr := ⟨_, rfl⟩
          by_cases l : j < xs.length
          · obtain ⟨bx, ox, rfl, _, hci⟩ := XI.out.at l
            have XC := Lib.hid hci
            obtain ⟨x0, x1⟩ := Y4.out j l
            obtain ⟨x, hx⟩ : ∃ x, xs.getD j 0 = x := ⟨_, rfl⟩
            rw [hx] at x0 x1 XC
            obtain ⟨m, rfl⟩ : ∃ m : Nat, x = m := ⟨x.toNat, by omega⟩
            have hm : m < vs.length := by omega
            have LJ := Lib.hid (LA.out j l m hx)
            obtain ⟨bv, ov', ev, _, hvat⟩ := VA.out.at hm
            simp only [Option.some.injEq, Addr.mk.injEq, and_true] at ev
            obtain ⟨rfl, rfl⟩ := ev
            obtain ⟨vm, hvm⟩ : ∃ vm, vs.getD m default = vm := ⟨_, rfl⟩
            rw [hvm] at hvat LJ
            have VC := Lib.hid hvat
            have hmv : mayV vm := by rw [← hvm]; exact HMV.out m hm
            obtain ⟨q, hq⟩ : ∃ q, q = sizeI vm.h vm.w vm.c := ⟨_, rfl⟩
            have hql := size_le hmv
            rw [← hq] at hql LJ
            have HQ := Lib.hid hq
            obtain ⟨bl, ol, rfl, _, hlat⟩ := HLS.out.at (k := j) (by rw [LK.out]; omega)
            rw [LJ.out] at hlat
            have LC := Lib.hid hlat
            have jl : (j : Int) < (L.length : Int) := by rw [LK.out]; omega
            have w1 := Lib.hid (show IntKind.i64.wrap (2048 * (m : Int)) = 2048 * (m : Int) by rw [IntKind.wrap_i64]; omega)
            have w2 := Lib.hid (show IntKind.i64.wrap (2048 * (m : Int) + q) = 2048 * (m : Int) + q by rw [IntKind.wrap_i64]; omega)
            have j1 : (0 : Int) ≤ (j : Int) := by omega
            have j2 : (j : Int) < (xs.length : Int) := by omega
            have m1' : (0 : Int) ≤ (m : Int) := by omega
            have m2' : (m : Int) < (vs.length : Int) := by omega
            clear hci hx hvat hvm hmv hq hlat hwq wq
            go_upto_region 20 with fail
            refine wp_region_lean (fun w => Past wr w) [(107, ?vn107), (108, ?vn108), (109, ?vn109), (110, ?vn110), (111, ?vn111), (112, ?vn112), (113, ?vn113), (114, ?vn114), (115, ?vn115), (116, ?vn116), (117, ?vn117), (118, ?vn118), (119, ?vn119), (120, ?vn120), (121, ?vn121), (122, ?vn122), (123, ?vn123), (124, ?vn124), (126, ?vn126), (127, ?vn127)] [(18, 125), (21, 16)] [22] (IN wr q #[.int .i64 0, .int .i64 (2048 * (m : Int)), .int .i64 (2048 * (m : Int) + q), .bool false]) [(19, [18]), (22, [21])] [] [(21, [22])] [22] (by kernel_rfl) (by kernel_rfl) (by kernel_rfl) ?dd (Past.refl wr) (fun _ h => h) ?ee ?ll ?nn
            case dd =>
              intro q hq
              simp only [List.mem_cons, List.not_mem_nil, or_false] at hq
              rcases hq with rfl | rfl <;> simp
            case ee =>
              simp only [latesV, List.map_cons, List.map_nil, List.cons_append, List.nil_append, List.append_nil, fillA, Act.put, List.setIfInBounds_toArray, List.set_cons_zero, List.set_cons_succ]
              refine early_cons (fun v w hw hd K hK => ?_) ?_
              focus
                go_simp
                (try simp only [Act.put, List.setIfInBounds_toArray, List.set_cons_zero, List.set_cons_succ])
                exact hK
              refine early_cons (fun v w hw hd K hK => ?_) ?_
              focus
                go_simp
                (try simp only [Act.put, List.setIfInBounds_toArray, List.set_cons_zero, List.set_cons_succ])
                exact hK
              refine early_cons (fun v w hw hd K hK => ?_) ?_
              focus
                go_simp
                (try simp only [Act.put, List.setIfInBounds_toArray, List.set_cons_zero, List.set_cons_succ])
                exact hK
              refine early_cons (fun v w hw hd K hK => ?_) ?_
              focus
                have y1 := XC.out w (PR.out.trans hw)
                go_simp
                (try simp only [Act.put, List.setIfInBounds_toArray, List.set_cons_zero, List.set_cons_succ])
                exact hK
              refine early_cons (fun v w hw hd K hK => ?_) ?_
              focus
                have y1 := w1.out
                go_simp
                (try simp only [Act.put, List.setIfInBounds_toArray, List.set_cons_zero, List.set_cons_succ])
                exact hK
              refine early_cons (fun v w hw hd K hK => ?_) ?_
              focus
                go_simp
                (try simp only [Act.put, List.setIfInBounds_toArray, List.set_cons_zero, List.set_cons_succ])
                exact hK
              refine early_cons (fun v w hw hd K hK => ?_) ?_
              focus
                go_simp
                (try simp only [Act.put, List.setIfInBounds_toArray, List.set_cons_zero, List.set_cons_succ])
                exact hK
              refine early_cons (fun v w hw hd K hK => ?_) ?_
              focus
                go_simp
                (try simp only [Act.put, List.setIfInBounds_toArray, List.set_cons_zero, List.set_cons_succ])
                exact hK
              refine early_cons (fun v w hw hd K hK => ?_) ?_
              focus
                have y1 := XC.out w (PR.out.trans hw)
                go_simp
                (try simp only [Act.put, List.setIfInBounds_toArray, List.set_cons_zero, List.set_cons_succ])
                exact hK
              refine early_cons (fun v w hw hd K hK => ?_) ?_
              focus
                have y1 := w1.out
                go_simp
                (try simp only [Act.put, List.setIfInBounds_toArray, List.set_cons_zero, List.set_cons_succ])
                exact hK
              refine early_cons (fun v w hw hd K hK => ?_) ?_
              focus
                go_simp
                (try simp only [Act.put, List.setIfInBounds_toArray, List.set_cons_zero, List.set_cons_succ])
                exact hK
              refine early_cons (fun v w hw hd K hK => ?_) ?_
              focus
                go_simp
                (try simp only [Act.put, List.setIfInBounds_toArray, List.set_cons_zero, List.set_cons_succ])
                exact hK
              refine early_cons (fun v w hw hd K hK => ?_) ?_
              focus
                go_simp
                (try simp only [Act.put, List.setIfInBounds_toArray, List.set_cons_zero, List.set_cons_succ])
                exact hK
              refine early_cons (fun v w hw hd K hK => ?_) ?_
              focus
                go_simp
                (try simp only [Act.put, List.setIfInBounds_toArray, List.set_cons_zero, List.set_cons_succ])
                exact hK
              refine early_cons (fun v w hw hd K hK => ?_) ?_
              focus
                have y1 := XC.out w (PR.out.trans hw)
                go_simp
                (try simp only [Act.put, List.setIfInBounds_toArray, List.set_cons_zero, List.set_cons_succ])
                exact hK
              refine early_cons (fun v w hw hd K hK => ?_) ?_
              focus
                go_simp
                (try simp only [Act.put, List.setIfInBounds_toArray, List.set_cons_zero, List.set_cons_succ])
                exact hK
              refine early_cons (fun v w hw hd K hK => ?_) ?_
              focus
                go_simp
                (try simp only [Act.put, List.setIfInBounds_toArray, List.set_cons_zero, List.set_cons_succ])
                exact hK
              refine early_cons (fun v w hw hd K hK => ?_) ?_
              focus
                obtain ⟨o1, o2, o3, o4⟩ := VC.out w (PR.out.trans hw)
                go_simp
                (try simp only [Act.put, List.setIfInBounds_toArray, List.set_cons_zero, List.set_cons_succ])
                exact hK
              refine early_skip rfl ?_
              refine early_cons (fun v w hw hd K hK => ?_) ?_
              focus
                have e18 : v 18 = .int .i64 q := hd 18 rfl
                rw [e18] at hK ⊢
                have y1 := w2.out
                go_simp
                (try simp only [Act.put, List.setIfInBounds_toArray, List.set_cons_zero, List.set_cons_succ])
                exact hK
              refine early_cons (fun v w hw hd K hK => ?_) ?_
              focus
                go_simp
                (try simp only [Act.put, List.setIfInBounds_toArray, List.set_cons_zero, List.set_cons_succ])
                exact hK
              refine early_skip rfl ?_
              refine early_skip rfl ?_
              exact True.intro
            case ll =>
              simp only [latesV, List.map_cons, List.map_nil, List.cons_append, List.nil_append, List.append_nil, fillA, Act.put, List.setIfInBounds_toArray, List.set_cons_zero, List.set_cons_succ]
              iterate 18 refine late_skip rfl ?_
              refine late_cons (fun v w hw hd => ⟨rfl, fun K hK => ?_⟩) ?_
              focus
                (try simp only [Act.put, List.setIfInBounds_toArray, List.set_cons_zero, List.set_cons_succ])
                go_simp
                refine (rsize_any vm.h vm.w vm.c q _ HQ).mono ?_
                rintro e w5 ⟨rfl, g5⟩
                exact hK _ _ (hw.trans (Grown.past g5)) (by show updV v 18 _ 18 = _; rw [updV_same]) (fun i hne _ _ hI => IN_keep (Grown.past g5) i hne (fun h => by omega) hI)
              iterate 2 refine late_skip rfl ?_
              refine late_cons (fun v w hw hd => ⟨rfl, fun K hK => ?_⟩) ?_
              focus
                (try simp only [Act.put, List.setIfInBounds_toArray, List.set_cons_zero, List.set_cons_succ])
                go_simp
                exact hK _ _ (hw.alloc _) (by show Bx4 _ _ (updV v 21 _ 21); rw [updV_same]; exact ⟨_, rfl, hw.2.2.1, ⟨_, _, _, _, box_new rfl⟩, by (exact kKeep)⟩) (fun i hne _ hl hI => IN_keep ((Past.refl w).alloc _) i hne (fun _ h => by subst h; exact absurd hl (by decide)) hI)
              refine late_cons (fun v w hw hd => ⟨rfl, fun K hK => ?_⟩) ?_
              focus
                (try simp only [Act.put, List.setIfInBounds_toArray, List.set_cons_zero, List.set_cons_succ])
                obtain ⟨b, e, hb, ⟨y0, y1, y2, y3, hx⟩, hf⟩ : Bx4 wr w (v 21) := hd 21 rfl
                have hbl := cell_lt (hx 0)
                have e' := e
                rw [e] at hK ⊢
                go_simp
                exact hK undef _ ((((hw.setCell (by simpa using hb) _).setCell (by simpa using hb) _).setCell (by simpa using hb) _).setCell (by simpa using hb) _) ⟨b, (updV_ne v undef (by decide)).trans e', box_upd4 hx, by simpa only [size_setCell] using hbl⟩ (fun i hne _ _ hI => IN_store b i hne hI)
              exact True.intro
            case nn =>
            intro v w8 hw hd
            simp only [latesV, List.map_cons, List.map_nil, List.cons_append, List.nil_append, List.append_nil, fillA, Act.put, List.setIfInBounds_toArray, List.set_cons_zero, List.set_cons_succ]
            obtain ⟨bw, e21, hbx, hbl⟩ : ∃ b, v 21 = .pointer (some ⟨b, 0, none⟩) ∧ (∀ o : Nat, w8.cell? ⟨b, o, none⟩ = (#[.int .i64 0, .int .i64 (2048 * (m : Int)), .int .i64 (2048 * (m : Int) + q), .bool false] : Array Value)[o]?) ∧ b < w8.heap.size := hd 22 rfl
            rw [e21]
            have PX := Lib.hid (PR.out.trans hw)
            obtain ⟨r0, r1, r2, r3⟩ := LC.out w8 PX.out
            clear hd hw e21
            go_upto_region 21 with fail
            go_quiet (fail)
            have PY := Lib.hid (show Past wa (w8.drewN nq) from PX.out.drewN)
            go_wp2_with fail
            go_roundw
            case rel => exact ⟨j + 1, by omega, rfl, by go_num, PY⟩
            case measure => simp [intOf]; omega
          · have e : j = xs.length := by omega
            subst e
            have PR2 := Lib.hid (PA.out.trans PR.out)
            have BR := Lib.hid (box_past PR.out BA.out (by omega))
            have DR := Lib.hid (box_past PR.out DA.out (by omega))
            have MR := Lib.hid (box_past PR.out MA.out (by omega))
            have XR := Lib.hid (box_past PR.out XA.out (by omega))
            have br := BR.out
            have mr := MR.out
            have zr : M + 1 ≤ wr.heap.size := Nat.le_trans za PR.out.2.2.1
            have GR := Lib.hid (GA.out.grow PR.out)
            have HPR := Lib.hid (HPA.out.grow PR.out)
            obtain ⟨bl, ol, rfl, _, hlat⟩ := HLS.out.at (k := xs.length) (by rw [LK.out]; omega)
            rw [LL.out] at hlat
            have LC := Lib.hid (fun w (p : Past wr w) => hlat w (PR.out.trans p))
            have jl : (xs.length : Int) < (L.length : Int) := by rw [LK.out]; omega
            have jl0 : (0 : Int) ≤ (xs.length : Int) := by omega
            clear hlat hwq wq BA DA MA XA GA HPA
            obtain ⟨q2, hq2⟩ : ∃ q, q = sizeI s.h s.w s.c := ⟨_, rfl⟩
            have hq2l := size_le HSV.out
            rw [← hq2] at hq2l LC
            have HQ2 := Lib.hid hq2
            have w3 := Lib.hid (show IntKind.i64.wrap (2048 * ((g.ins.length : Int) + (k : Int)) + q2) = 2048 * ((g.ins.length : Int) + (k : Int)) + q2 by rw [IntKind.wrap_i64]; omega)
            clear hq2
            go_upto_region 24 with fail
            refine wp_region_past wr [(141, ?vr141), (142, ?vr142), (143, ?vr143), (144, ?vr144), (145, ?vr145), (146, ?vr146), (147, ?vr147), (148, ?vr148), (150, ?vr150), (151, ?vr151), (152, ?vr152)] [(8, 149)] (JQ q2 8) [(9, [8])] [] (fun i x w w' p h => JQ_past p h) (by kernel_rfl) (by kernel_rfl) (by kernel_rfl) ?dr (Past.refl wr) ?er ?lr ?nr
            case dr =>
              intro q hq
              simp only [List.mem_cons, List.not_mem_nil, or_false] at hq
              rcases hq with rfl <;> simp
            case er =>
              simp only [latesV, List.map_cons, List.map_nil, List.cons_append, List.nil_append, List.append_nil, fillA, Act.put, List.setIfInBounds_toArray, List.set_cons_zero, List.set_cons_succ]
              iterate 4 (refine early_cons (fun v w hw hd K hK => ?_) ?_; focus (go_simp; (try simp only [Act.put, List.setIfInBounds_toArray, List.set_cons_zero, List.set_cons_succ]); exact hK))
              refine early_cons (fun v w hw hd K hK => ?_) ?_
              focus
                obtain ⟨r0, r1, r2, r3⟩ := LC.out w hw
                go_simp
                (try simp only [Act.put, List.setIfInBounds_toArray, List.set_cons_zero, List.set_cons_succ])
                exact hK
              iterate 2 (refine early_cons (fun v w hw hd K hK => ?_) ?_; focus (go_simp; (try simp only [Act.put, List.setIfInBounds_toArray, List.set_cons_zero, List.set_cons_succ]); exact hK))
              refine early_cons (fun v w hw hd K hK => ?_) ?_
              focus
                have mm := box_past hw MR.out (by omega)
                go_simp
                (try simp only [Act.put, List.setIfInBounds_toArray, List.set_cons_zero, List.set_cons_succ])
                exact hK
              refine early_skip rfl ?_
              refine early_cons (fun v w hw hd K hK => ?_) ?_
              focus
                have e8 : v 8 = .int .i64 q2 := hd 8 rfl rfl
                rw [e8] at hK ⊢
                have y1 := w3.out
                go_simp
                (try simp only [Act.put, List.setIfInBounds_toArray, List.set_cons_zero, List.set_cons_succ])
                exact hK
              iterate 2 (refine early_cons (fun v w hw hd K hK => ?_) ?_; focus (go_simp; (try simp only [Act.put, List.setIfInBounds_toArray, List.set_cons_zero, List.set_cons_succ]); exact hK))
              exact True.intro
            case lr =>
              simp only [latesV, List.map_cons, List.map_nil, List.cons_append, List.nil_append, List.append_nil, fillA, Act.put, List.setIfInBounds_toArray, List.set_cons_zero, List.set_cons_succ]
              refine lateP_skip rfl ?_
              refine lateP_skip rfl ?_
              refine lateP_skip rfl ?_
              refine lateP_skip rfl ?_
              refine lateP_skip rfl ?_
              refine lateP_skip rfl ?_
              refine lateP_skip rfl ?_
              refine lateP_skip rfl ?_
              refine lateP_cons (fun v w hw hd => ⟨rfl, fun K hK => ?_⟩) ?_
              focus
                (try simp only [Act.put, List.setIfInBounds_toArray, List.set_cons_zero, List.set_cons_succ])
                go_simp
                refine (rsize_any s.h s.w s.c q2 _ HQ2).mono ?_
                rintro e w5 ⟨rfl, g5⟩
                exact hK _ _ (Grown.past g5) (fun _ => rfl)
              refine lateP_skip rfl ?_
              refine lateP_skip rfl ?_
              refine lateP_skip rfl ?_
              exact True.intro
            case nr =>
              intro v w8 hw hd
              simp only [latesV, List.map_cons, List.map_nil, List.cons_append, List.nil_append, List.append_nil, fillA, Act.put, List.setIfInBounds_toArray, List.set_cons_zero, List.set_cons_succ]
              have PZ := Lib.hid (PR2.out.trans hw)
              have bz := box_past hw BR.out (by omega)
              have dz := box_past hw DR.out (by omega)
              have mz := box_past hw MR.out (by omega)
              have xz := box_past hw XR.out (by omega)
              have zz : M + 1 ≤ w8.heap.size := Nat.le_trans zr hw.2.2.1
              have GZ := Lib.hid (GR.out.grow hw)
              have HPZ := Lib.hid (HPR.out.grow hw)
              clear hd hw br mr BR DR MR XR GR HPR LC LL LA HLS jl jl0 zr
              obtain ⟨sh1, sh2, _⟩ := id HSV.out
              have nz1 : (s.h == 0) = false := beq_eq_false_iff_ne.2 (by omega)
              obtain ⟨fi, hfi⟩ : ∃ fi, a1 % s.h = fi := ⟨_, rfl⟩
              have hf1 : 0 ≤ fi ∧ fi < s.h := by rw [← hfi]; exact ⟨Int.emod_nonneg _ (by omega), Int.emod_lt_of_pos _ (by omega)⟩
              go_upto_region 27 with fail
              simp only [hfi]
              have nz2 : (s.h - fi == 0) = false := beq_eq_false_iff_ne.2 (by omega)
              obtain ⟨r0, hr0⟩ : ∃ r0, a2 % (s.h - fi) = r0 := ⟨_, rfl⟩
              have hr1 : 0 ≤ r0 ∧ r0 < s.h - fi := by rw [← hr0]; exact ⟨Int.emod_nonneg _ (by omega), Int.emod_lt_of_pos _ (by omega)⟩
              clear hfi
              go_upto_region 28 with fail
              try simp only [hr0]
              obtain ⟨ro, hro⟩ : ∃ ro, 1 + r0 = ro := ⟨_, rfl⟩
              simp only [hro]
              have hro1 : 1 ≤ ro ∧ fi + ro ≤ s.h ∧ ro ≤ 16 := by omega
              clear hr0 hro hr1 nz1 nz2
              obtain ⟨L2, hL2⟩ : ∃ L, tileL vs (cmdT k fi ro) xs (g.ins.length + k) = L := ⟨_, rfl⟩
              have TO := tile_ok (xs := xs) (k := k) (f := fi) (r := ro) (HMV.out _ YN.out) hro1.1 hro1.2.2 y5
              have RM := rows_made (HMV.out _ YN.out) hro1.1 hro1.2.2
              have TL := tile_last (vs := vs) (xs := xs) (k := k) (made := g.ins.length + k) (f := fi) (r := ro)
              rw [hL2, HSS.out] at TO
              rw [HSS.out] at RM
              rw [hL2, RM.1] at TL
              obtain ⟨rw', hrw⟩ : ∃ r, r = rowI s.h s.w s.c := ⟨_, rfl⟩
              rw [← hrw] at TO RM TL
              have HRW := Lib.hid hrw
              obtain ⟨pq, hpq⟩ : ∃ p, ro * rw' = p := ⟨_, rfl⟩
              rw [hpq] at TO RM TL
              have HTL := Lib.hid TL
              have HPQ := Lib.hid hpq
              clear hpq
              obtain ⟨_, rm1, rm2⟩ := RM
              have LK2 := Lib.hid (show L2.length = xs.length + 1 by rw [← hL2]; exact tile_len _ _ _ _)
              have OF2 := Lib.hid (show Calls Try.prog 15 #[.agg #[.slice A1 g.ins.length k1, .slice (some ⟨bn, on, none⟩) g.nodes.length k2, .slice A3 m3 k3, .slice A vs.length c, .slice none 0 0, .slice none 0 0, .slice none 0 0], .agg #[.int .i64 3, .int .i64 0, .int .i64 k, .int .i64 fi, .int .i64 ro, .int .i64 0, .int .i64 0, .int .i64 0, .int .i64 0, .int .i64 0, .int .i64 0, .int .i64 0, .int .i64 0, .int .i64 0]] w8 fun e w' => ∃ v, e = .returned (.tuple #[v, .int .i64 (firstE L2)]) ∧ (firstE L2 = 0 → IsSpans w' v L2) ∧ Past w8 w' from by
                refine (of_node g _ _ _ _ _ _ _ (placesL vs.length) (cmdT k fi ro) rfl w8 GZ.out CUT.out H0.out HPZ.out (by rw [places_len, HVS.out]) (cmdT_may hkb hf1.1 (by omega) hro1.1 hro1.2.2) k hkn rfl L2 (.inl ⟨rfl, ⟨hf1.1, by show fi ≤ 1000; omega, by show 0 ≤ ro; omega, by show ro ≤ 1000; omega⟩, by rw [HVS.out, HSS.out]; exact hro1.2.1, by rw [HVS.out, HXS.out]; exact hL2.symm⟩) TO.2).mono ?_
                rintro e w2 ⟨v, rfl, ho, pz⟩
                exact ⟨v, rfl, fun h => sps_of_own (ho h) TO.2, pz⟩)
              have FE := Lib.hid TO.1
              have MZ := Lib.hid mz
              clear TO TL hL2 hrw bz dz mz GZ HPZ
              go_upto_region 29 with (go_at_call 15; (with_reducible refine (OF2.out).mono ?_); rintro e wb ⟨lv2, rfl, hl2, pb⟩)
              have PB := Lib.hid (PZ.out.trans pb)
              have mb := box_past pb MZ.out (by omega)
              have HMB := Lib.hid mb
              have HL2 := Lib.hid hl2
              have zb : M + 1 ≤ wb.heap.size := Nat.le_trans zz pb.2.2.1
              clear hl2 pb xz OF2 MZ
              have wpq : wrap64 (ro * rw') = pq := by rw [HPQ.out]; unfold wrap64; omega
              by_cases big : 1024 < pq
              · have fe : firstE L2 = 23 := by rw [FE.out, if_pos big]
                rw [fe]
                have dbig : decide (1024 < pq) = true := by simpa using big
                go_wp2_with (go_at_call 17; (with_reducible refine (rrow_any s.h s.w s.c rw' _ HRW).mono ?_); rintro e wd ⟨rfl, gd⟩; have PD := Lib.hid (PB.out.trans (Grown.past gd)))
                go_ret
                exact ⟨rfl, P4.out.trans PD.out⟩
              · have fe : firstE L2 = 0 := by rw [FE.out, if_neg big]
                have IL2 := Lib.hid (HL2.out fe)
                rw [fe]
                have dbig : decide (1024 < pq) = false := by simpa using big
                obtain ⟨As2, cs2, rfl, _, _⟩ := IL2.out.form
                go_upto_region 31 with (go_at_call 17; (with_reducible refine (rrow_any s.h s.w s.c rw' _ HRW).mono ?_); rintro e wd ⟨rfl, gd⟩; have PD := Lib.hid (PB.out.trans (Grown.past gd)); have HMD := Lib.hid (box_grown gd HMB.out (by omega)); have IL3 := Lib.hid (IL2.out.grow (Grown.past gd)); have zd := Nat.le_trans zb (Grown.past gd).2.2.1; clear mb)
                obtain ⟨bz2, oz2, rfl, _, hl2at⟩ := IL3.out.at (k := xs.length) (by rw [LK2.out]; omega)
                rw [HTL.out] at hl2at
                have LC2 := Lib.hid hl2at
                have jl2 : (xs.length : Int) < (L2.length : Int) := by rw [LK2.out]; omega
                have jl0 : (0 : Int) ≤ (xs.length : Int) := by omega
                have d31 : ((L2.length : Int) == (xs.length : Int) + 1) = true := by rw [LK2.out]; simp
                have w5' := Lib.hid (show IntKind.i64.wrap ((xs.length : Int) + 1) = (xs.length : Int) + 1 by rw [IntKind.wrap_i64]; omega)
                have w4' := Lib.hid (show IntKind.i64.wrap (ro * rw') = pq by rw [IntKind.wrap_i64]; have h := wpq; unfold wrap64 at h; exact h)
                clear hl2at fe dbig wpq
                refine wp_region_past wd [(187, ?vt187), (188, ?vt188), (189, ?vt189), (190, ?vt190), (191, ?vt191), (192, ?vt192), (193, ?vt193), (194, ?vt194), (195, ?vt195), (196, ?vt196), (197, ?vt197), (198, ?vt198), (199, ?vt199), (200, ?vt200), (201, ?vt201), (202, ?vt202), (203, ?vt203), (204, ?vt204), (205, ?vt205), (206, ?vt206), (207, ?vt207), (209, ?vt209), (210, ?vt210), (211, ?vt211), (212, ?vt212), (4, ?vt4)] [(21, 208)] (JQ rw' 21) [(22, [21])] [] (fun i x w w' p h => JQ_past p h) (by kernel_rfl) (by kernel_rfl) (by kernel_rfl) ?dt (Past.refl wd) ?et ?lt ?nt
                case dt =>
                  intro q hq
                  simp only [List.mem_cons, List.not_mem_nil, or_false] at hq
                  rcases hq with rfl <;> simp
                case et =>
                  simp only [latesV, List.map_cons, List.map_nil, List.cons_append, List.nil_append, List.append_nil, fillA, Act.put, List.setIfInBounds_toArray, List.set_cons_zero, List.set_cons_succ]
                  iterate 10 (refine early_cons (fun v w hw hd K hK => ?_) ?_; focus (go_simp; (try simp only [Act.put, List.setIfInBounds_toArray, List.set_cons_zero, List.set_cons_succ]); exact hK))
                  refine early_cons (fun v w hw hd K hK => ?_) ?_
                  focus
                    have y1 := w5'.out
                    go_simp
                    (try simp only [Act.put, List.setIfInBounds_toArray, List.set_cons_zero, List.set_cons_succ])
                    exact hK
                  iterate 7 (refine early_cons (fun v w hw hd K hK => ?_) ?_; focus (go_simp; (try simp only [Act.put, List.setIfInBounds_toArray, List.set_cons_zero, List.set_cons_succ]); exact hK))
                  refine early_cons (fun v w hw hd K hK => ?_) ?_
                  focus
                    obtain ⟨c0, c1', c2', c3'⟩ := LC2.out w hw
                    go_simp
                    (try simp only [Act.put, List.setIfInBounds_toArray, List.set_cons_zero, List.set_cons_succ])
                    exact hK
                  (refine early_cons (fun v w hw hd K hK => ?_) ?_; focus (go_simp; (try simp only [Act.put, List.setIfInBounds_toArray, List.set_cons_zero, List.set_cons_succ]); exact hK))
                  refine early_cons (fun v w hw hd K hK => ?_) ?_
                  focus
                    have mm := box_past hw HMD.out (by omega)
                    go_simp
                    (try simp only [Act.put, List.setIfInBounds_toArray, List.set_cons_zero, List.set_cons_succ])
                    exact hK
                  refine early_skip rfl ?_
                  refine early_cons (fun v w hw hd K hK => ?_) ?_
                  focus
                    have e21 : v 21 = .int .i64 rw' := hd 21 rfl rfl
                    rw [e21] at hK ⊢
                    have y1 := w4'.out
                    go_simp
                    (try simp only [Act.put, List.setIfInBounds_toArray, List.set_cons_zero, List.set_cons_succ])
                    exact hK
                  iterate 4 (refine early_cons (fun v w hw hd K hK => ?_) ?_; focus (go_simp; (try simp only [Act.put, List.setIfInBounds_toArray, List.set_cons_zero, List.set_cons_succ]); exact hK))
                  exact True.intro
                case lt =>
                  simp only [latesV, List.map_cons, List.map_nil, List.cons_append, List.nil_append, List.append_nil, fillA, Act.put, List.setIfInBounds_toArray, List.set_cons_zero, List.set_cons_succ]
                  refine lateP_skip rfl ?_
                  refine lateP_skip rfl ?_
                  refine lateP_skip rfl ?_
                  refine lateP_skip rfl ?_
                  refine lateP_skip rfl ?_
                  refine lateP_skip rfl ?_
                  refine lateP_skip rfl ?_
                  refine lateP_skip rfl ?_
                  refine lateP_skip rfl ?_
                  refine lateP_skip rfl ?_
                  refine lateP_skip rfl ?_
                  refine lateP_skip rfl ?_
                  refine lateP_skip rfl ?_
                  refine lateP_skip rfl ?_
                  refine lateP_skip rfl ?_
                  refine lateP_skip rfl ?_
                  refine lateP_skip rfl ?_
                  refine lateP_skip rfl ?_
                  refine lateP_skip rfl ?_
                  refine lateP_skip rfl ?_
                  refine lateP_skip rfl ?_
                  refine lateP_cons (fun v w hw hd => ⟨rfl, fun K hK => ?_⟩) ?_
                  focus
                    (try simp only [Act.put, List.setIfInBounds_toArray, List.set_cons_zero, List.set_cons_succ])
                    go_simp
                    refine (rrow_any s.h s.w s.c rw' _ HRW).mono ?_
                    rintro e w5 ⟨rfl, g5⟩
                    exact hK _ _ (Grown.past g5) (fun _ => rfl)
                  refine lateP_skip rfl ?_
                  refine lateP_skip rfl ?_
                  refine lateP_skip rfl ?_
                  refine lateP_skip rfl ?_
                  refine lateP_skip rfl ?_
                  exact True.intro
                case nt =>
                  intro v w8 hw hd
                  simp only [latesV, List.map_cons, List.map_nil, List.cons_append, List.nil_append, List.append_nil, fillA, Act.put, List.setIfInBounds_toArray, List.set_cons_zero, List.set_cons_succ]
                  go_wp2_with fail
                  go_ret
                  exact ⟨rfl, P4.out.trans (PD.out.trans hw)⟩
  · have q0 : q ≠ 0 := fun h => h0 (hq.1 h)
    have d1 : (q != 0) = true := by simp [q0]
    clear hq hvl h0
    go_wp2_with fail
    go_ret
    exact ⟨rfl, P3.out.trans p4⟩
end Go.Proofs.Ytgbedoffgahhaaa

namespace Go.Proofs.Ytgbedoffgahhaaa.regionNodes
open Go.ChangeShapes Go.WideShapes Go.ChangeAt Go.RowKit Go.Proofs.Ytgbedoffgahhaaa
set_option linter.unusedVariables false

theorem own : ownKnob Try.prog.godebug = none := by kernel_rfl

set_option maxHeartbeats 400000 in
set_option maxRecDepth 100000 in
theorem lifted (os : Os) (started : os.Started) (H : Type) (enc : TypeId × Value → H) :
    ReturnsInHanded {} Try.checked os 6 .any (Rows.regionNodesSpec.pre6 enc Try.prog Try.f6 Rows.regionNodesRow.domain false) (Rows.regionNodesSpec.post enc Try.prog Try.f6 false true false false) := by
  refine returnsInHanded_of_change (C := Try.checked) own started (by kernel_rfl) Try.func6
    (ChangeSpec.witness6 (enc := enc) (C := Try.checked) false ⟨#[], #[.agg #[.slice none 0 0, .slice none 0 0, .slice none 0 0, .slice none 0 0, .slice none 0 0, .slice none 0 0, .slice none 0 0], .agg #[.int .u8 0, .int .u8 0, .int .u8 0]], []⟩ 8 (by kernel_rfl) (by kernel_rfl) (by kernel_rfl) (by kernel_rfl)) ?_
  intro W base args ds gs before hval0 hW hcnd _
  have hval : ∀ (j : Nat) t v, Try.f6.params[j]? = some t → args[j]? = some v → Value.okWide Try.prog W .any base t v := hval0
  have hW' := hW
  obtain ⟨p, q, hA0, hV, rfl, hfz, hnd⟩ := hW
  have hA : DataW.TrodAll enc Try.prog W 0 (fun _ => true) true Try.f6.params.toList args.toList ds p := hA0
  rw [Try.params6] at hA hval
  obtain ⟨v0, vs0, d0, ds0, p0, q0, hargs, rfl, rfl, h0, r0⟩ := trodAll_cons hA
  obtain ⟨v1, vs1, d1, ds1, p1, q1, rfl, rfl, rfl, h1, r1⟩ := trodAll_cons r0
  obtain ⟨rfl, rfl, rfl⟩ := trodAll_nil r1
  obtain rfl : args = #[v0, v1] := by cases args; simp_all
  obtain ⟨rfl, rfl⟩ := trodVars_none hV
  obtain ⟨g0, hg0⟩ := open_im (hval 0 40 v0 rfl rfl) h0
  obtain ⟨g1, hg1⟩ := open_bytes3 (hval 1 41 v1 rfl rfl) h1
  clear hA0 hval0
  refine (nodes_walk W v0 g0 hg0 v1 g1 hg1).mono fun e W' ⟨he, hg⟩ => ?_
  subst he
  exact ⟨_, rfl, _, _, _, [], (p0 ++ (p1 ++ [])), [], hW', (trodAll_cons_mk (shut_bool Try.underlying4 _) trodAll_mk0), (trodAll_cons_mk (stays (by kernel_rfl) (of_decide_eq_true (by kernel_rfl)) h0 hg (fun x hx => by simpa using hW'.lt x (List.mem_append_left _ (List.mem_append_left _ hx))) (fun x hx => by simpa using hW'.lt x (List.mem_append_left _ (List.mem_append_left _ hx)))) (trodAll_cons_mk (stays (by kernel_rfl) (of_decide_eq_true (by kernel_rfl)) h1 hg (fun x hx => by simpa using hW'.lt x (List.mem_append_left _ (List.mem_append_right _ (List.mem_append_left _ hx)))) (fun x hx => by simpa using hW'.lt x (List.mem_append_left _ (List.mem_append_right _ (List.mem_append_left _ hx))))) trodAll_mk0)), rfl, hg.frame _, fun h => by cases h⟩

theorem over : Rows.regionNodesRow.holds Try.pinned (OpenSpec.ofChange Rows.regionNodesSpec) :=
  OpenClaim.holds_of_wide 6 Try.f6 rfl rfl rfl rfl rfl rfl rfl ⟨rfl, rfl, rfl, rfl, rfl⟩ rfl rfl rfl rfl rfl (by kernel_rfl) Try.func6 (by kernel_rfl)
    (of_decide_eq_true (by kernel_rfl)) (by unfold Func.isWrapper; first | (rw [if_pos (by decide +kernel)]; kernel_rfl) | (rw [if_neg (by decide +kernel)]; exact ⟨rfl, rfl⟩))
    (fun os started H enc _ => lifted os started H enc)

/-- THE STATEMENT -/
theorem proved : Rows.RegionNodesSaid :=
  over
#print axioms proved
end Go.Proofs.Ytgbedoffgahhaaa.regionNodes
