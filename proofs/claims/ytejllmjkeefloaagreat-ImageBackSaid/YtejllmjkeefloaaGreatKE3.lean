/- slices.EqualFunc over nodes; graph.Same: by sameNode's contract. -/
import Derived.Test.YtejllmjkeefloaaGreatKP1
import Derived.Test.YtejllmjkeefloaaGreatKE1
import Derived.Test.YtejllmjkeefloaaGreatKC2
import Derived.Test.YtejllmjkeefloaaGreatKR3Node
namespace Go.Proofs.YtejllmjkeefloaaGreat
open Go.ChangeShapes Go.WideShapes Go.ChangeAt Go.RowKit
set_option maxRecDepth 20000
set_option linter.unusedVariables false

/-- What is asked of sameNode. -/
def SameNodeOk : Prop := ∀ (a b : NodeD) (va vb : Value) (t : Bool) (w : World), IsNode w va a → IsNode w vb b → (t = true ↔ a = b) → Calls Tryz.prog 60 #[va, vb] w fun e w' => e = .returned (.bool t) ∧ Grown w w'
set_option maxHeartbeats 4000000 in
theorem equal_nodes (hF : SameNodeOk) (w : World) (v u : Value) (xs ys : List NodeD) (t : Bool) (hv : IsNodes w v xs) (hu : IsNodes w u ys) (ht : Hid (t = true ↔ xs = ys)) :
    Calls Tryz.prog 59 #[v, u, .func (.func 60) #[] #[]] w fun e w' => e = .returned (.bool t) ∧ Grown w w' := by
  obtain ⟨A, c1, rfl, a1, a2, a3, a4, a5⟩ := hv
  obtain ⟨B, c2, rfl, b1, b2, b3, b4, b5⟩ := hu
  have HF := Lib.hid hF
  have A5 := Lib.hid a5
  have B5 := Lib.hid b5
  have A4 := Lib.hid a4
  have B4 := Lib.hid b4
  have hm : maxLen ≤ 9223372036854775807 := by decide
  have hl1 : xs.length ≤ 9223372036854775807 := by omega
  have hl2 : ys.length ≤ 9223372036854775807 := by omega
  clear hm a2 b2 a3 b3 a4 b4 a5 b5 hF
  by_cases hl : xs.length = ys.length
  · obtain ⟨len, hlen⟩ : ∃ n, xs.length = n := ⟨_, rfl⟩
    have hlen' : ys.length = len := by omega
    have HE := nodes_ext hl
    rw [hlen] at hl1 a1 HE
    rw [hlen'] at hl2 b1
    rw [hlen, hlen']
    have HE := Lib.hid HE
    have HX := Lib.hid hlen
    have HY := Lib.hid hlen'
    clear hlen hlen' hl hl2
    have e9 : ((len : Int) != (len : Int)) = false := by simp
    go_enter Tryz.func59, Tryz.ntmps59
    go_wp2_with fail
    go_loopw [7, 8, 9, 17] (fun _ _ _ i wr => ∃ k : Nat, k ≤ len ∧ i = .int .i64 k ∧ Hid (∀ j, j < k → xs.getD j default = ys.getD j default) ∧ Grown w wr) (fun _ _ _ i _ => len - (intOf i).toNat)
    case atStart => exact ⟨0, by omega, rfl, Lib.hid (fun j h => by omega), Grown.refl _⟩
    case round =>
      obtain ⟨k, hk, rfl, hx, hg⟩ := hrel
      by_cases l : k < len
      · obtain ⟨p, o, rfl, hp, hc⟩ := A5.out (by rw [HX.out]; omega)
        obtain ⟨p', o', rfl, hp', hc'⟩ := B5.out (by rw [HY.out]; omega)
        obtain ⟨vi, vw, vb, hin, hcell⟩ := (hc k (by rw [HX.out]; exact l)).grow hp (Grown.past hg)
        obtain ⟨ui, uw, ub, hin', hcell'⟩ := (hc' k (by rw [HY.out]; exact l)).grow hp' (Grown.past hg)
        obtain ⟨a, ha⟩ : ∃ a, xs.getD k default = a := ⟨_, rfl⟩
        obtain ⟨b, hb⟩ : ∃ b, ys.getD k default = b := ⟨_, rfl⟩
        have ma : NodeWf a := A4.out a (by rw [← ha]; simp [List.getD, show k < xs.length by rw [HX.out]; exact l])
        have mb : NodeWf b := B4.out b (by rw [← hb]; simp [List.getD, show k < ys.length by rw [HY.out]; exact l])
        rw [ha] at hin hcell
        rw [hb] at hin' hcell'
        obtain ⟨Ai, ci, rfl⟩ := nums_slice hin.1
        obtain ⟨Aw, cw, rfl⟩ := nums_slice hin.2.1
        obtain ⟨Ab, cb, rfl⟩ := nums_slice hin.2.2
        obtain ⟨Bi, di, rfl⟩ := nums_slice hin'.1
        obtain ⟨Bw, dw, rfl⟩ := nums_slice hin'.2.1
        obtain ⟨Bb, db, rfl⟩ := nums_slice hin'.2.2
        have NA := Lib.hid (fun w' (g : Past wr w') => (show IsNode w' (.agg #[.int .i64 a.op, .slice Ai a.ins.length ci, .int .i64 a.k, .int .i64 a.stride, .int .i64 a.pad, .int .i64 a.out, .int .i64 a.mul, .int .i64 a.shift, .int .i64 a.zero, .int .i64 a.th, .int .i64 a.tw, .int .i64 a.tc, .slice Aw a.ws.length cw, .slice Ab a.bs.length cb]) a from ⟨_, _, _, rfl, hin.grow g, ma⟩))
        have NB := Lib.hid (fun w' (g : Past wr w') => (show IsNode w' (.agg #[.int .i64 b.op, .slice Bi b.ins.length di, .int .i64 b.k, .int .i64 b.stride, .int .i64 b.pad, .int .i64 b.out, .int .i64 b.mul, .int .i64 b.shift, .int .i64 b.zero, .int .i64 b.th, .int .i64 b.tw, .int .i64 b.tc, .slice Bw b.ws.length dw, .slice Bb b.bs.length db]) b from ⟨_, _, _, rfl, hin'.grow g, mb⟩))
        have x0 := hcell 0 (by omega)
        have x1 := hcell 1 (by omega)
        have x2 := hcell 2 (by omega)
        have x3 := hcell 3 (by omega)
        have x4 := hcell 4 (by omega)
        have x5 := hcell 5 (by omega)
        have x6 := hcell 6 (by omega)
        have x7 := hcell 7 (by omega)
        have x8 := hcell 8 (by omega)
        have x9 := hcell 9 (by omega)
        have x10 := hcell 10 (by omega)
        have x11 := hcell 11 (by omega)
        have x12 := hcell 12 (by omega)
        have x13 := hcell 13 (by omega)
        have y0 := hcell' 0 (by omega)
        have y1 := hcell' 1 (by omega)
        have y2 := hcell' 2 (by omega)
        have y3 := hcell' 3 (by omega)
        have y4 := hcell' 4 (by omega)
        have y5 := hcell' 5 (by omega)
        have y6 := hcell' 6 (by omega)
        have y7 := hcell' 7 (by omega)
        have y8 := hcell' 8 (by omega)
        have y9 := hcell' 9 (by omega)
        have y10 := hcell' 10 (by omega)
        have y11 := hcell' 11 (by omega)
        have y12 := hcell' 12 (by omega)
        have y13 := hcell' 13 (by omega)
        simp only [nodeCells, List.getElem?_cons_zero, List.getElem?_cons_succ, Nat.add_zero] at x0 x1 x2 x3 x4 x5 x6 x7 x8 x9 x10 x11 x12 x13 y0 y1 y2 y3 y4 y5 y6 y7 y8 y9 y10 y11 y12 y13
        have i1 : (0 : Int) ≤ (k : Int) := by omega
        have i2 : (k : Int) < (len : Int) := by omega
        have q1 : p < wr.heap.size := Nat.lt_of_lt_of_le hp hg.2.2
        have q2 : p' < wr.heap.size := Nat.lt_of_lt_of_le hp' hg.2.2
        have q3 : p ≠ wr.heap.size := by omega
        have q4 : p' ≠ wr.heap.size := by omega
        obtain ⟨tk, htk⟩ : ∃ t : Bool, (t = true ↔ a = b) := by
          rcases Classical.em (a = b) with h | h
          · exact ⟨true, by simp [h]⟩
          · exact ⟨false, by simp [h]⟩
        have HK := Lib.hid htk
        have HA := Lib.hid ha
        have HB := Lib.hid hb
        clear hin hin' hcell hcell' hc hc' htk ha hb ma mb
        obtain ⟨P, hP⟩ : ∃ P, wr.heap.size = P := ⟨_, rfl⟩
        go_upto_region 6 with fail
        refine opq (fun w' => (∀ o : Nat, w'.cell? ⟨P, o, none⟩ = (#[.int .i64 a.op, .slice Ai a.ins.length ci, .int .i64 a.k, .int .i64 a.stride, .int .i64 a.pad, .int .i64 a.out, .int .i64 a.mul, .int .i64 a.shift, .int .i64 a.zero, .int .i64 a.th, .int .i64 a.tw, .int .i64 a.tc, .slice Aw a.ws.length cw, .slice Ab a.bs.length cb] : Array Value)[o]?) ∧ Grown w w' ∧ Past wr w' ∧ P + 1 ≤ w'.heap.size ∧ w'.cell? ⟨p', o' + k * 14, none⟩ = some (.int .i64 b.op) ∧ w'.cell? ⟨p', o' + k * 14 + 1, none⟩ = some (.slice Bi b.ins.length di) ∧ w'.cell? ⟨p', o' + k * 14 + 2, none⟩ = some (.int .i64 b.k) ∧ w'.cell? ⟨p', o' + k * 14 + 3, none⟩ = some (.int .i64 b.stride) ∧ w'.cell? ⟨p', o' + k * 14 + 4, none⟩ = some (.int .i64 b.pad) ∧ w'.cell? ⟨p', o' + k * 14 + 5, none⟩ = some (.int .i64 b.out) ∧ w'.cell? ⟨p', o' + k * 14 + 6, none⟩ = some (.int .i64 b.mul) ∧ w'.cell? ⟨p', o' + k * 14 + 7, none⟩ = some (.int .i64 b.shift) ∧ w'.cell? ⟨p', o' + k * 14 + 8, none⟩ = some (.int .i64 b.zero) ∧ w'.cell? ⟨p', o' + k * 14 + 9, none⟩ = some (.int .i64 b.th) ∧ w'.cell? ⟨p', o' + k * 14 + 10, none⟩ = some (.int .i64 b.tw) ∧ w'.cell? ⟨p', o' + k * 14 + 11, none⟩ = some (.int .i64 b.tc) ∧ w'.cell? ⟨p', o' + k * 14 + 12, none⟩ = some (.slice Bw b.ws.length dw) ∧ w'.cell? ⟨p', o' + k * 14 + 13, none⟩ = some (.slice Bb b.bs.length db)) ?_ ?_
        · have p0 : Past wr wr := Past.refl _
          subst hP
          refine ⟨by (exact kKeep), by (exact kKeep), by (exact kKeep), by (exact kKeep), ?_⟩
          (exact kKeep)
        clear x0 x1 x2 x3 x4 x5 x6 x7 x8 x9 x10 x11 x12 x13 y0 y1 y2 y3 y4 y5 y6 y7 y8 y9 y10 y11 y12 y13
        rintro w0 ⟨b1, g1, p1, s1, y0, y1, y2, y3, y4, y5, y6, y7, y8, y9, y10, y11, y12, y13⟩
        have q5 : p' + 1 ≤ P := by omega
        clear hP q1 q2 q3 q4
        obtain ⟨P2, hP2⟩ : ∃ P2, w0.heap.size = P2 := ⟨_, rfl⟩
        have q6 : P + 1 ≤ P2 := by omega
        go_upto_region 7 with fail
        refine opq (fun w' => (∀ o : Nat, w'.cell? ⟨P, o, none⟩ = (#[.int .i64 a.op, .slice Ai a.ins.length ci, .int .i64 a.k, .int .i64 a.stride, .int .i64 a.pad, .int .i64 a.out, .int .i64 a.mul, .int .i64 a.shift, .int .i64 a.zero, .int .i64 a.th, .int .i64 a.tw, .int .i64 a.tc, .slice Aw a.ws.length cw, .slice Ab a.bs.length cb] : Array Value)[o]?) ∧ (∀ o : Nat, w'.cell? ⟨P2, o, none⟩ = (#[.int .i64 b.op, .slice Bi b.ins.length di, .int .i64 b.k, .int .i64 b.stride, .int .i64 b.pad, .int .i64 b.out, .int .i64 b.mul, .int .i64 b.shift, .int .i64 b.zero, .int .i64 b.th, .int .i64 b.tw, .int .i64 b.tc, .slice Bw b.ws.length dw, .slice Bb b.bs.length db] : Array Value)[o]?) ∧ Grown w w' ∧ Past wr w') ?_ ?_
        · subst hP2
          (exact kKeep)
        clear hP2 b1 g1 p1 s1 y0 y1 y2 y3 y4 y5 y6 y7 y8 y9 y10 y11 y12 y13
        rintro w1 ⟨b1, b2, g1, p1⟩
        have C := Lib.hid (HF.out a b _ _ tk w1 (NA.out w1 p1) (NB.out w1 p1) HK.out)
        have hE : ∀ (xs : Array Value) (w : World), (callFunc 60 xs).run Tryz.prog w = .ok (.enter 60 xs) w := fun xs w => by kernel_rfl
        go_wp2_with fail
        refine C.out.mono ?_
        rintro e w2 ⟨rfl, g2⟩
        have g3 := grown_trans g1 g2
        clear hE
        cases tk with
        | true =>
          have E : Hid (∀ j, j < k + 1 → xs.getD j default = ys.getD j default) := Lib.hid (fun j h => by
            by_cases c : j = k
            · rw [c, HA.out, HB.out, HK.out.mp rfl]
            · exact hx.out j (by omega))
          go_wp2_with fail
          go_roundw
          case rel =>
            exact ⟨k + 1, by omega, by go_num, E, g3⟩
          case measure => simp [intOf]; omega
        | false =>
          obtain rfl : t = false := Bool.eq_false_iff.mpr (fun h => by
            have := (HE.out.mp (ht.out.mp h)) k l
            rw [HA.out, HB.out] at this
            have := HK.out.mpr this
            cases this)
          go_wp2_with fail
          go_ret
          exact ⟨rfl, g3⟩
      · have T : t = true := ht.out.2 (HE.out.2 (fun j h => hx.out j (by omega)))
        subst T
        go_wp2_with fail
        go_ret
        exact ⟨rfl, hg⟩
  · have T : t = false := by
      cases t with
      | false => rfl
      | true => exact absurd (congrArg List.length (ht.out.1 rfl)) hl
    subst T
    have e0 : ((xs.length : Int) == (ys.length : Int)) = false := by simp only [beq_eq_false_iff_ne, ne_eq]; omega
    have e9 : ((xs.length : Int) != (ys.length : Int)) = true := by simp [bne, e0]
    go_enter Tryz.func59, Tryz.ntmps59
    go_wp2_with fail
    go_ret
    exact ⟨rfl, Grown.refl _⟩
set_option maxHeartbeats 4000000 in
theorem same_any (hF : SameNodeOk) (a b : GraphD) (va vb : Value) (t : Bool) (W : World) (ha : IsGraph W va a) (hb : IsGraph W vb b) (ht : t = true ↔ a = b) : Calls Tryz.prog 25 #[va, vb] W fun e w' => e = .returned (.bool t) ∧ Grown W w' := by
  obtain ⟨iv, nv, ov, rfl, hi, hn, ho⟩ := ha
  obtain ⟨iu, nu, ou, rfl, hi', hn', ho'⟩ := hb
  rw [graph_eq] at ht
  have HT := Lib.hid ht
  clear ht
  have HI := Lib.hid hi
  have HN := Lib.hid hn
  have HO := Lib.hid ho
  have HI' := Lib.hid hi'
  have HN' := Lib.hid hn'
  have HO' := Lib.hid ho'
  obtain ⟨A1, c1, rfl, _, _, _, _, _⟩ := hi
  obtain ⟨A2, c2, rfl, _, _, _, _, _⟩ := hn
  obtain ⟨A3, c3, rfl, _, _, _, _, _⟩ := ho
  obtain ⟨B1, d1, rfl, _, _, _, _, _⟩ := hi'
  obtain ⟨B2, d2, rfl, _, _, _, _, _⟩ := hn'
  obtain ⟨B3, d3, rfl, _, _, _, _, _⟩ := ho'
  obtain ⟨t1, ht1⟩ := bool_any (a.ins = b.ins)
  obtain ⟨t2, ht2⟩ := bool_any (a.nodes = b.nodes)
  obtain ⟨t3, ht3⟩ := bool_any (a.outs = b.outs)
  have K : Hid (t = true ↔ t1 = true ∧ t2 = true ∧ t3 = true) := Lib.hid (by rw [ht1, ht2, ht3]; exact HT.out)
  have C1 := Lib.hid (fun w (g : Grown W w) => equal_vals w _ _ a.ins b.ins t1 (HI.out.grow (Grown.past g)) (HI'.out.grow (Grown.past g)) (Lib.hid ht1))
  have C2 := Lib.hid (fun w (g : Grown W w) => equal_nodes hF w _ _ a.nodes b.nodes t2 (HN.out.grow (Grown.past g)) (HN'.out.grow (Grown.past g)) (Lib.hid ht2))
  have C3 := Lib.hid (fun w (g : Grown W w) => equal_ints w _ _ a.outs b.outs t3 (HO.out.grow (Grown.past g)) (HO'.out.grow (Grown.past g)) (Lib.hid ht3))
  clear ht1 ht2 ht3 hF HT
  go_enter Tryz.func25, Tryz.ntmps25
  go_upto_region 1 with fail
  refine opq (fun w' => (∀ o : Nat, w'.cell? ⟨W.heap.size, o, none⟩ = (#[.slice A1 a.ins.length c1, .slice A2 a.nodes.length c2, .slice A3 a.outs.length c3] : Array Value)[o]?) ∧ (∀ o : Nat, w'.cell? ⟨W.heap.size + 1, o, none⟩ = (#[.slice B1 b.ins.length d1, .slice B2 b.nodes.length d2, .slice B3 b.outs.length d3] : Array Value)[o]?) ∧ Grown W w' ∧ W.heap.size + 2 ≤ w'.heap.size) ?_ ?_
  · (exact kKeep)
  rintro w1 ⟨b1, b2, g1, s1⟩
  go_wp2_with fail
  refine (C1.out _ g1).mono ?_
  rintro e w2 ⟨rfl, g⟩
  obtain ⟨b3, b4, g2, s2⟩ : (∀ o : Nat, w2.cell? ⟨W.heap.size, o, none⟩ = (#[.slice A1 a.ins.length c1, .slice A2 a.nodes.length c2, .slice A3 a.outs.length c3] : Array Value)[o]?) ∧ (∀ o : Nat, w2.cell? ⟨W.heap.size + 1, o, none⟩ = (#[.slice B1 b.ins.length d1, .slice B2 b.nodes.length d2, .slice B3 b.outs.length d3] : Array Value)[o]?) ∧ Grown W w2 ∧ W.heap.size + 2 ≤ w2.heap.size := by (exact kKeep)
  clear b1 b2 g1 s1 g
  cases t1 with
  | false =>
    obtain rfl : t = false := Bool.eq_false_iff.mpr (fun h => by have := (K.out.mp h).1; cases this)
    go_wp2_with fail
    go_ret
    exact ⟨rfl, g2⟩
  | true =>
    go_wp2_with fail
    refine (C2.out _ g2).mono ?_
    rintro e w3 ⟨rfl, g⟩
    obtain ⟨b5, b6, g3, s3⟩ : (∀ o : Nat, w3.cell? ⟨W.heap.size, o, none⟩ = (#[.slice A1 a.ins.length c1, .slice A2 a.nodes.length c2, .slice A3 a.outs.length c3] : Array Value)[o]?) ∧ (∀ o : Nat, w3.cell? ⟨W.heap.size + 1, o, none⟩ = (#[.slice B1 b.ins.length d1, .slice B2 b.nodes.length d2, .slice B3 b.outs.length d3] : Array Value)[o]?) ∧ Grown W w3 ∧ W.heap.size + 2 ≤ w3.heap.size := by (exact kKeep)
    clear b3 b4 g2 s2 g
    cases t2 with
    | false =>
      obtain rfl : t = false := Bool.eq_false_iff.mpr (fun h => by have := (K.out.mp h).2.1; cases this)
      go_wp2_with fail
      go_ret
      exact ⟨rfl, g3⟩
    | true =>
      go_wp2_with fail
      refine (C3.out _ g3).mono ?_
      rintro e w4 ⟨rfl, g⟩
      have g4 := grown_trans g3 g
      obtain rfl : t3 = t := by
        have := K.out
        cases t <;> cases t3
        · rfl
        · exact absurd (this.mpr ⟨by trivial, by trivial, rfl⟩) (by simp)
        · exact absurd (this.mp rfl).2.2 (by simp)
        · rfl
      go_wp2_with fail
      go_ret
      exact ⟨rfl, g4⟩
end Go.Proofs.YtejllmjkeefloaaGreat
