/- RegionParts: its walk. -/
import Derived.Test.YtgbedoffgahhaaaSU
import Derived.Test.YtgbedoffgahhaaaFixU
import Derived.Test.YtgbedoffgahhaaaSO
namespace Go.Proofs.Ytgbedoffgahhaaa
open Go.ChangeShapes Go.WideShapes Go.ChangeAt Go.RowKit
set_option maxRecDepth 20000
set_option linter.unusedVariables false
set_option linter.unusedSimpArgs false
theorem IsSpans.wfAt {W : World} {v : Value} {xs : List SpD} (h : IsSpans W v xs) {k : Nat} (hk : k < xs.length) : SpWf (xs.getD k default) := by
  obtain ⟨A', cap', e, h2, h3, h4, h5, h6⟩ := h
  have : xs.getD k default ∈ xs := by simp [List.getD, hk]
  exact h5 _ this
theorem IsSpans.wfs {W : World} {v : Value} {xs : List SpD} (h : IsSpans W v xs) : ∀ x ∈ xs, SpWf x := by
  obtain ⟨A', cap', e, h2, h3, h4, h5, h6⟩ := h
  exact h5
theorem wf64 {x : Int} (h : -9223372036854775808 ≤ x ∧ x ≤ 9223372036854775807) : (Lit.int .i64 x).wf = true := by simpa [Lit.wf, IntKind.min, IntKind.max, IntKind.bits, IntKind.signed] using h
/-- What of the two rows has been held against each other. -/
def metD (a b : List SpD) (k n : Nat) : Bool := clashD (a.take k) b || (decide (k < a.length) && (b.take n).any fun y => meets (a.getD k default) y)
theorem met_zero (a b : List SpD) : metD a b 0 0 = false := by simp [metD, clashD]
theorem any_take_succ (p : SpD → Bool) (l : List SpD) {k : Nat} (h : k < l.length) : (l.take (k + 1)).any p = ((l.take k).any p || p (l.getD k default)) := by
  rw [List.take_add_one, List.any_append]
  simp [List.getD, List.getElem?_eq_getElem h]
theorem met_round {a b : List SpD} {k n : Nat} (hk : k < a.length) (hn : n < b.length) : metD a b k (n + 1) = (metD a b k n || meets (a.getD k default) (b.getD n default)) := by
  unfold metD
  rw [any_take_succ _ b hn]
  simp [hk, Bool.or_assoc]
theorem met_next {a b : List SpD} {k : Nat} (hk : k < a.length) : metD a b (k + 1) 0 = metD a b k b.length := by
  unfold metD
  have e : clashD (a.take (k + 1)) b = (clashD (a.take k) b || b.any fun y => meets (a.getD k default) y) := any_take_succ _ a hk
  rw [e]
  simp [hk]
theorem met_end (a b : List SpD) (n : Nat) : metD a b a.length n = clashD a b := by
  unfold metD; simp
theorem clash_one (x y : SpD) : clashD [x] [y] = meets x y := by simp [clashD]
theorem reads_no (l : List SpD) (h : ∀ x ∈ l, x.w = false) : clashD l l = false := by
  unfold clashD
  rw [List.any_eq_false]
  intro x hx
  simp only [Bool.not_eq_true]
  rw [List.any_eq_false]
  intro y hy
  unfold meets
  rw [h x hx, h y hy]
  simp
/-- The span, as it is read. -/
def rdOf (x : SpD) : SpD := { x with w := false }
theorem box_upd {w : World} {b : Nat} {cs : Array Value} (h : (∀ o : Nat, w.cell? ⟨b, o, none⟩ = (cs : Array Value)[o]?)) (i : Nat) (hi : i < cs.size) (u : Value) : (∀ o : Nat, (w.setCell ⟨b, i, none⟩ u).cell? ⟨b, o, none⟩ = ((cs.setIfInBounds i u) : Array Value)[o]?) := by
  intro o
  by_cases c : o = i
  · subst c
    rw [Array.getElem?_setIfInBounds_self_of_lt hi]
    exact World.cell?_setCell_same w _ _ ((h o).trans (Array.getElem?_eq_getElem hi))
  · rw [World.cell?_setCell_other _ _ _ _ (by simp [c]), Array.getElem?_setIfInBounds_ne (fun e => c e.symm)]
    exact h o
def JV (s r : SpD) (u : Bool) (i : Nat) (x : Value) (w : World) : Prop := match i with
  | 6 => IsSpans w x [s]
  | 11 => IsSpans w x [r]
  | 12 => x = .bool u
  | _ => True
theorem JV_past {s r : SpD} {u : Bool} {i : Nat} {x : Value} {w w' : World} (p : Past w w') (h : JV s r u i x w) : JV s r u i x w' := by
  unfold JV at *
  split at h
  · exact IsSpans.grow h p
  · exact IsSpans.grow h p
  · exact h
  · exact h
set_option maxHeartbeats 4000000 in
theorem parts_walk (W : World) (va : Value) (a : List SpD) (hva : IsSpans W va a) (vb : Value) (b : List SpD) (hvb : IsSpans W vb b) (at' : Int) (hat : (Lit.int .i64 at').wf = true) : Calls Try.prog 4 #[va, vb, .int .i64 at'] W fun e w' => e = .returned (.bool true) ∧ Past W w' := by
  have HA := Lib.hid hva
  have HB := Lib.hid hvb
  obtain ⟨A0, ca0, rfl, _, _⟩ := hva.form
  obtain ⟨B0, cb0, rfl, _, _⟩ := hvb.form
  clear hva hvb
  go_enter Try.func4, Try.ntmps4
  go_upto_region 2 with (go_at_call 7; (with_reducible refine (shown_any _).mono ?_); rintro e w1 ⟨rfl, p1⟩)
  have HA1 := Lib.hid (HA.out.grow p1)
  have HB1 := Lib.hid (HB.out.grow p1)
  clear HA HB
  go_upto_region 3 with (go_at_call 8; (with_reducible refine (few_any a _ _ HA1.out).mono ?_); rintro e w2 ⟨va, rfl, ha, rfl⟩)
  go_upto_region 4 with (go_at_call 8; (with_reducible refine (few_any b _ _ HB1.out).mono ?_); rintro e w2 ⟨vb, rfl, hb, rfl⟩)
  obtain ⟨x, hx⟩ : ∃ x, a.take 40 = x := ⟨_, rfl⟩
  obtain ⟨y, hy⟩ : ∃ y, b.take 40 = y := ⟨_, rfl⟩
  rw [hx] at ha
  rw [hy] at hb
  have HX := Lib.hid ha
  have HY := Lib.hid hb
  have lx : x.length ≤ 40 := by rw [← hx, List.length_take]; omega
  have ly : y.length ≤ 40 := by rw [← hy, List.length_take]; omega
  obtain ⟨A, ca, rfl, _, _⟩ := ha.form
  obtain ⟨B, cb, rfl, _, _⟩ := hb.form
  have P1 := Lib.hid p1
  clear ha hb hx hy HA1 HB1 p1
  go_wp2_with fail
  go_loopw [8, 9, 10] (fun m i j wr => ∃ (k : Nat) (t : Bool), k ≤ x.length ∧ m = .bool t ∧ i = .int .i64 k ∧ Hid (t = metD x y k 0) ∧ Hid (Past w2 wr)) (fun _ i _ _ => x.length - (intOf i).toNat)
  case atStart => exact ⟨0, false, by omega, rfl, rfl, Lib.hid (met_zero x y).symm, Lib.hid (Past.refl _)⟩
  case round =>
    obtain ⟨k, t, hk, rfl, rfl, HT, PR⟩ := hrel
    obtain ⟨w8, h8⟩ : ∃ w8, w8 = wr := ⟨_, rfl⟩
    subst h8
    by_cases l : k < x.length
    · obtain ⟨bb, off, rfl, _, hc⟩ := HX.out.at l
      obtain ⟨s, hs⟩ : ∃ s, x.getD k default = s := ⟨_, rfl⟩
      rw [hs] at hc
      have HC := Lib.hid hc
      have HS := Lib.hid hs
      have WS := Lib.hid (show SpWf s by rw [← hs]; exact HX.out.wfAt l)
      clear hc hs
      have i1 : (0 : Int) ≤ (k : Int) := by omega
      have i2 : (k : Int) < (x.length : Int) := by omega
      go_wp2_with fail
      go_loopw [8, 10] (fun m j wr => ∃ (n : Nat) (t : Bool), n ≤ y.length ∧ m = .bool t ∧ j = .int .i64 n ∧ Hid (t = metD x y k n) ∧ Hid (Past w2 wr)) (fun _ j _ => y.length - (intOf j).toNat)
      case atStart => exact ⟨0, t, by omega, rfl, rfl, HT, PR⟩
      case round =>
        clear HT PR
        obtain ⟨n, t, hn, rfl, rfl, HT, PR⟩ := hrel
        by_cases l2 : n < y.length
        · obtain ⟨bc, off2, rfl, _, hc2⟩ := HY.out.at l2
          obtain ⟨r, hr⟩ : ∃ r, y.getD n default = r := ⟨_, rfl⟩
          rw [hr] at hc2
          have HC2 := Lib.hid hc2
          have WR := Lib.hid (show SpWf r by rw [← hr]; exact HY.out.wfAt l2)
          have NX := Lib.hid (show metD x y k (n + 1) = (metD x y k n || meets s r) by rw [met_round l l2, HS.out, hr])
          clear hc2 hr
          have j1 : (0 : Int) ≤ (n : Int) := by omega
          have j2 : (n : Int) < (y.length : Int) := by omega
          obtain ⟨u, hu⟩ : ∃ u, u = meets s r := ⟨_, rfl⟩
          have HU := Lib.hid (hu.trans (clash_one s r).symm)
          have HU' := Lib.hid hu
          clear hu
          go_upto_region 11 with fail
          obtain ⟨m0, m1, m2, m3⟩ := HC.out wr PR.out
          obtain ⟨n0, n1, n2, n3⟩ := HC2.out wr PR.out
          have CL := Lib.hid (fun w p q (hp : (∀ o : Nat, w.cell? ⟨p, o, none⟩ = (#[.int .i64 s.m, .int .i64 s.f, .int .i64 s.t, .bool s.w] : Array Value)[o]?)) (hq : (∀ o : Nat, w.cell? ⟨q, o, none⟩ = (#[.int .i64 r.m, .int .i64 r.f, .int .i64 r.t, .bool r.w] : Array Value)[o]?)) => clashS_any [s] [r] _ _ u w (spans_lit hp WS.out) (spans_lit hq WR.out) HU)
          cases t with
          | true =>
            go_region
            go_wp2_with fail
            go_roundw
            case rel => exact ⟨n + 1, true, by omega, rfl, by go_num, Lib.hid (by rw [NX.out, ← HT.out]; rfl), Lib.hid PR.out.drew⟩
            case measure => simp [intOf]; omega
          | false =>
            refine wp_region_lastn 14 _ rfl (by kernel_rfl) (by kernel_rfl) ?za
            case za =>
              simp only [List.take_succ_cons, List.take_zero]
              refine any_past wr [(35, ?va35), (36, ?va36), (37, ?va37), (38, ?va38), (39, ?va39), (40, ?va40), (42, ?va42), (43, ?va43), (44, ?va44), (45, ?va45), (48, ?va48)] [(6, 41), (11, 46), (12, 47)] (JV s r u) [(12, [6, 11]), (13, [12])] [] (fun i x w w' p h => JV_past p h) (by kernel_rfl) (by kernel_rfl) ?da (Past.refl wr) ?ea ?la ?na
              case da =>
                intro q hq
                simp only [List.mem_cons, List.not_mem_nil, or_false] at hq
                rcases hq with rfl | rfl | rfl <;> simp
              case ea =>
                simp only [latesV, List.map_cons, List.map_nil, List.cons_append, List.nil_append, List.append_nil, fillA, Act.put, List.setIfInBounds_toArray, List.set_cons_zero, List.set_cons_succ]
                iterate 5 (refine early_cons (fun v w hw hd K hK => ?_) ?_; focus (go_simp; (try simp only [Act.put, List.setIfInBounds_toArray, List.set_cons_zero, List.set_cons_succ]); exact hK))
                refine early_cons (fun v w hw hd K hK => ?_) ?_
                focus
                  obtain ⟨m0, m1, m2, m3⟩ := HC.out w (PR.out.trans hw)
                  go_simp
                  (try simp only [Act.put, List.setIfInBounds_toArray, List.set_cons_zero, List.set_cons_succ])
                  exact hK
                refine early_skip rfl ?_
                iterate 3 (refine early_cons (fun v w hw hd K hK => ?_) ?_; focus (go_simp; (try simp only [Act.put, List.setIfInBounds_toArray, List.set_cons_zero, List.set_cons_succ]); exact hK))
                refine early_cons (fun v w hw hd K hK => ?_) ?_
                focus
                  obtain ⟨n0, n1, n2, n3⟩ := HC2.out w (PR.out.trans hw)
                  go_simp
                  (try simp only [Act.put, List.setIfInBounds_toArray, List.set_cons_zero, List.set_cons_succ])
                  exact hK
                refine early_skip rfl ?_
                refine early_skip rfl ?_
                refine early_cons (fun v w hw hd K hK => ?_) ?_
                focus
                  have e12 : v 12 = .bool u := hd 12 rfl
                  rw [e12] at hK ⊢
                  go_simp
                  (try simp only [Act.put, List.setIfInBounds_toArray, List.set_cons_zero, List.set_cons_succ])
                  exact hK
                exact True.intro
              case la =>
                simp only [latesV, List.map_cons, List.map_nil, List.cons_append, List.nil_append, List.append_nil, fillA, Act.put, List.setIfInBounds_toArray, List.set_cons_zero, List.set_cons_succ]
                refine lateP_skip rfl ?_
                refine lateP_skip rfl ?_
                refine lateP_skip rfl ?_
                refine lateP_skip rfl ?_
                refine lateP_skip rfl ?_
                refine lateP_skip rfl ?_
                refine lateP_cons (fun v w hw hd => ⟨rfl, fun K hK => ?_⟩) ?_
                focus
                  (try simp only [Act.put, List.setIfInBounds_toArray, List.set_cons_zero, List.set_cons_succ])
                  go_simp
                  exact hK _ _ ((Past.refl _).alloc _) (show JV s r u 6 _ _ from spans_lit (x := s) kKeep WS.out)
                refine lateP_skip rfl ?_
                refine lateP_skip rfl ?_
                refine lateP_skip rfl ?_
                refine lateP_skip rfl ?_
                refine lateP_cons (fun v w hw hd => ⟨rfl, fun K hK => ?_⟩) ?_
                focus
                  (try simp only [Act.put, List.setIfInBounds_toArray, List.set_cons_zero, List.set_cons_succ])
                  go_simp
                  exact hK _ _ ((Past.refl _).alloc _) (show JV s r u 11 _ _ from spans_lit (x := r) kKeep WR.out)
                refine lateP_cons (fun v w hw hd => ⟨rfl, fun K hK => ?_⟩) ?_
                focus
                  (try simp only [Act.put, List.setIfInBounds_toArray, List.set_cons_zero, List.set_cons_succ])
                  have h6 : IsSpans w (v 6) [s] := hd 6 rfl
                  have h11 : IsSpans w (v 11) [r] := hd 11 rfl
                  go_simp
                  refine (clashS_any [s] [r] (v 6) (v 11) u w h6 h11 HU).mono ?_
                  rintro e w5 ⟨rfl, g⟩
                  exact hK _ _ (Grown.past g) (show JV s r u 12 _ w5 from rfl)
                refine lateP_skip rfl ?_
                exact True.intro
              case na =>
                intro v w8 hw hd
                simp only [latesV, List.map_cons, List.map_nil, List.cons_append, List.nil_append, List.append_nil, fillA, Act.put, List.setIfInBounds_toArray, List.set_cons_zero, List.set_cons_succ]
                show Oper.wp _ _ _ _ _ _
                go_wp2_with fail
                go_roundw
                case rel => exact ⟨n + 1, u, by omega, rfl, by go_num, Lib.hid (by rw [NX.out, ← HT.out, ← HU'.out]; rfl), Lib.hid (PR.out.trans hw)⟩
                case measure => simp [intOf]; omega
        · have e : n = y.length := by omega
          subst e
          go_wp2_with fail
          go_roundw
          case rel => exact ⟨k + 1, t, by omega, rfl, by go_num, Lib.hid (by rw [HT.out, met_next l]), PR⟩
          case measure => simp [intOf]; omega
    · have e : k = x.length := by omega
      have HM := Lib.hid (show t = clashD x y by rw [HT.out, e, met_end])
      clear e HT
      go_upto_region 13 with fail
      refine opq (fun w' => OwnSps w' w8.heap.size (.slice (some ⟨w8.heap.size, 0, none⟩) 0 0) [] ∧ Past w2 w' ∧ w8.heap.size ≤ w'.heap.size) ⟨ownSps_new (Nat.le_refl _), PR.out.alloc _, by simp⟩ ?_
      rintro w3 ⟨own3, p3, z3⟩
      have Z3 := Lib.hid z3
      have OWN3 := Lib.hid own3
      have P3 := Lib.hid p3
      have SZ := Lib.hid PR.out.2.2.1
      clear own3 p3 z3
      obtain ⟨Z, hZ⟩ : ∃ Z, w8.heap.size = Z := ⟨_, rfl⟩
      rw [hZ] at OWN3 SZ Z3
      simp only [hZ]
      clear hZ
      go_wp2_with fail
      go_loopw [11, 12] (fun v i wr => ∃ k : Nat, k ≤ x.length ∧ i = .int .i64 k ∧ Hid (OwnSps wr Z v ((x.take k).map rdOf)) ∧ Hid (Past w2 wr) ∧ Hid (Z ≤ wr.heap.size)) (fun _ i _ => x.length - (intOf i).toNat)
      case atStart => exact ⟨0, by omega, rfl, OWN3, P3, Z3⟩
      case round =>
        clear OWN3 P3
        obtain ⟨k, hk, rfl, OWN, PR, ZS⟩ := hrel
        by_cases l : k < x.length
        · obtain ⟨bb, off, rfl, _, hc⟩ := HX.out.at l
          obtain ⟨s, hs⟩ : ∃ s, x.getD k default = s := ⟨_, rfl⟩
          rw [hs] at hc
          obtain ⟨m0, m1, m2, m3⟩ := hc wr PR.out
          have HS := Lib.hid (show (x.take (k + 1)).map rdOf = (x.take k).map rdOf ++ [rdOf s] by
            rw [List.take_add_one, List.map_append, ← hs]
            simp [List.getD, List.getElem?_eq_getElem l])
          clear hc hs
          have i1 : (0 : Int) ≤ (k : Int) := by omega
          have i2 : (k : Int) < (x.length : Int) := by omega
          have LK := Lib.hid (show ((x.take k).map rdOf).length = k by simp; omega)
          go_upto_region 17 with fail
          refine opq (fun w' => (∀ o : Nat, w'.cell? ⟨wr.heap.size, o, none⟩ = (#[.int .i64 s.m, .int .i64 s.f, .int .i64 s.t, .bool s.w] : Array Value)[o]?) ∧ (∀ o : Nat, w'.frozen? ⟨wr.heap.size, o, none⟩ = false) ∧ Past wr w') kKeep ?_
          rintro w4 ⟨b4, f4, p4⟩
          go_upto_region 18 with fail
          refine opq (fun w' => (∀ o : Nat, w'.cell? ⟨wr.heap.size, o, none⟩ = (#[.int .i64 (rdOf s).m, .int .i64 (rdOf s).f, .int .i64 (rdOf s).t, .bool (rdOf s).w] : Array Value)[o]?) ∧ Past wr w') ⟨box_upd b4 3 (by simp) _, by (exact kKeep)⟩ ?_
          rintro w5 ⟨b5, p5⟩
          have OWN5 := Lib.hid (OWN.out.past p5)
          have P5 := Lib.hid (PR.out.trans p5)
          have Z5 := Lib.hid (Nat.le_trans ZS.out p5.2.2.1)
          have LT := Lib.hid (World.ownsRow.lt OWN5.out)
          clear p5 b4 f4 p4 m0 m1 m2 m3 OWN
          go_wp2_with (at_builtin; refine wpList_append_sp rfl (.tmp 61) (.tmp 63) rfl Z _ _ rfl (OWN5.out.past ((Past.refl _).alloc _)) (rdOf s) w5.heap.size 1 rfl (box_new rfl) ?c4 ?c5 ?_)
          case c4 => first | omega | (rw [LK.out]; omega)
          case c5 => have := Z5.out; first | omega | (simp; omega)
          intro v4 w6 hown6 hgrow
          have P6 := Lib.hid (show Past w2 w6 from (P5.out.alloc _).grownBy hgrow (fun j hj => Nat.le_trans SZ.out (LT.out j hj).1))
          have Z6 := Lib.hid (show Z ≤ w6.heap.size by have h1 := Z5.out; have h2 := hgrow.size; simp at h2; omega)
          have OWN6 := Lib.hid (show OwnSps w6 Z v4 ((x.take (k + 1)).map rdOf) by rw [HS.out]; first | exact hown6 | (rw [List.map_take]; exact hown6))
          clear hown6 hgrow b5
          go_wp2_with fail
          go_roundw
          case rel => exact ⟨k + 1, by omega, by go_num, OWN6, P6, Z6⟩
          case measure => simp [intOf]; omega
        · have e : k = x.length := by omega
          subst e
          have WFX := Lib.hid HX.out.wfs
          have RS := Lib.hid (show IsSpans wr u11 (x.map rdOf) from sps_of_own (by have := OWN.out; rw [List.take_length] at this; exact this) (fun z hz => by
            obtain ⟨s, hs, rfl⟩ := List.mem_map.1 hz
            exact WFX.out s hs))
          have NO := Lib.hid (show false = clashD (x.map rdOf) (x.map rdOf) from (reads_no _ (fun z hz => by
            obtain ⟨s, hs, rfl⟩ := List.mem_map.1 hz
            rfl)).symm)
          obtain ⟨q0, q1⟩ := mask_bd at' 1023 (by omega) (by omega)
          obtain ⟨P, hP⟩ : ∃ P, bits .and .i64 at' 1023 = P := ⟨_, rfl⟩
          rw [hP] at q0 q1
          have X2 := Lib.hid (HX.out.grow PR.out)
          have Y2 := Lib.hid (HY.out.grow PR.out)
          clear OWN ZS WFX
          have w01 : SpWf ⟨1, 0, P, true⟩ := ⟨wf64 (x := 1) (by omega), wf64 (x := 0) (by omega), wf64 (x := P) (by omega)⟩
          have w02 : SpWf ⟨1, P, 1024, true⟩ := ⟨wf64 (x := 1) (by omega), wf64 (x := P) (by omega), wf64 (x := 1024) (by omega)⟩
          have W1 := Lib.hid w01
          have W2 := Lib.hid w02
          have W3 := Lib.hid (show SpWf ⟨0, 0, 1024, true⟩ by unfold SpWf; decide)
          have C1 := Lib.hid (show false = clashD [⟨1, 0, P, true⟩] [⟨1, P, 1024, true⟩] by rw [clash_one]; simp [meets]; omega)
          have C2 := Lib.hid (show false = clashD [⟨1, 0, P, true⟩] [⟨0, 0, 1024, true⟩] by rw [clash_one]; simp [meets])
          have C3 := Lib.hid (show true = clashD [⟨1, P, 1024, true⟩] [⟨1, P, 1024, true⟩] by rw [clash_one]; simp [meets]; omega)
          obtain ⟨g, hg⟩ : ∃ g, decide ((0 : Int) < P) = g := ⟨_, rfl⟩
          have C4 := Lib.hid (show g = clashD [⟨1, 0, P, true⟩] [⟨1, 0, P, true⟩] by rw [clash_one, ← hg]; simp [meets])
          clear w01 w02 q0 q1
          go_upto_region 23 with fail
          refine opq (fun w' => (∀ o : Nat, w'.cell? ⟨wr.heap.size, o, none⟩ = (#[.int .i64 1, .int .i64 0, .int .i64 P, .bool true] : Array Value)[o]?) ∧ (∀ o : Nat, w'.cell? ⟨wr.heap.size + 1, o, none⟩ = (#[.int .i64 1, .int .i64 P, .int .i64 1024, .bool true] : Array Value)[o]?) ∧ (∀ o : Nat, w'.cell? ⟨wr.heap.size + 1 + 1, o, none⟩ = (#[.int .i64 0, .int .i64 0, .int .i64 1024, .bool true] : Array Value)[o]?) ∧ Past wr w') kKeep ?_
          rintro w7 ⟨b1, b2, b3, p7⟩
          have S1 := Lib.hid (spans_lit (x := ⟨1, 0, P, true⟩) b1 W1.out)
          have S2 := Lib.hid (spans_lit (x := ⟨1, P, 1024, true⟩) b2 W2.out)
          have S3 := Lib.hid (spans_lit (x := ⟨0, 0, 1024, true⟩) b3 W3.out)
          have X7 := Lib.hid (X2.out.grow p7)
          have Y7 := Lib.hid (Y2.out.grow p7)
          have R7 := Lib.hid (RS.out.grow p7)
          have P7 := Lib.hid (PR.out.trans p7)
          clear b1 b2 b3 p7 X2 Y2 RS
          have tt : (t == t) = true := by simp
          have gg : (g == g) = true := by simp
          go_wp2_with (first
            | (go_at_call 11; (with_reducible refine (clashS_any x y _ _ t _ X7.out Y7.out HM).mono ?_); rintro e w4 ⟨rfl, g4⟩; have R8 := Lib.hid (R7.out.grow (Grown.past g4)); clear X7 Y7 R7)
            | (go_at_call 11; (with_reducible refine (clashS_any _ _ _ _ false _ R8.out R8.out NO).mono ?_); rintro e w5 ⟨rfl, g5⟩; have q5 := (Grown.past g4).trans (Grown.past g5); have T1 := Lib.hid (S1.out.grow q5); have T2 := Lib.hid (S2.out.grow q5); have T3 := Lib.hid (S3.out.grow q5); have P8 := Lib.hid (P7.out.trans q5); clear R8 S1 S2 S3 q5 g4 g5)
            | (go_at_call 11; (with_reducible refine (clashS_any _ _ _ _ false _ T1.out T2.out C1).mono ?_); rintro e w6 ⟨rfl, g6⟩; have q6 := Grown.past g6; have U1 := Lib.hid (T1.out.grow q6); have U2 := Lib.hid (T2.out.grow q6); have U3 := Lib.hid (T3.out.grow q6); have P9 := Lib.hid (P8.out.trans q6); clear T1 T2 T3 q6 g6)
            | (go_at_call 11; (with_reducible refine (clashS_any _ _ _ _ false _ U1.out U3.out C2).mono ?_); rintro e w9 ⟨rfl, g9⟩; have q9 := Grown.past g9; have V1 := Lib.hid (U1.out.grow q9); have V2 := Lib.hid (U2.out.grow q9); have P10 := Lib.hid (P9.out.trans q9); clear U1 U2 U3 q9 g9)
            | (go_at_call 11; (with_reducible refine (clashS_any _ _ _ _ true _ V2.out V2.out C3).mono ?_); rintro e wa ⟨rfl, ga⟩; have qa := Grown.past ga; have Z1 := Lib.hid (V1.out.grow qa); have P11 := Lib.hid (P10.out.trans qa); clear V1 V2 qa ga)
            | (go_at_call 11; (with_reducible refine (clashS_any _ _ _ _ g _ Z1.out Z1.out C4).mono ?_); rintro e wb ⟨rfl, gb⟩; have P12 := Lib.hid (P11.out.trans (Grown.past gb)); clear Z1 gb))
          go_ret
          exact ⟨rfl, P1.out.trans P12.out⟩
end Go.Proofs.Ytgbedoffgahhaaa
