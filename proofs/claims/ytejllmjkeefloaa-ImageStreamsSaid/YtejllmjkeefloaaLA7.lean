/- quiltlaw09's less: an image of at most 6 values, 14 nodes, 6 that come out, 30 places, streams of 300 commands. -/
import Derived.Deep.DeepCutAuto
import Derived.Test.YtejllmjkeefloaaLA0
import Derived.Test.YtejllmjkeefloaaLN20
namespace Go.Proofs.Ytejllmjkeefloaa
open Go.ChangeShapes Go.WideShapes Go.ChangeAt Go.RowKit
set_option maxRecDepth 20000
set_option linter.unusedVariables false
set_option linter.unusedSimpArgs false

theorem box_set7 {w : World} {b : Nat} {x0 x1 x2 x3 x4 x5 x6 y0 y1 y2 y3 y4 y5 y6 : Value} (h : (∀ o : Nat, w.cell? ⟨b, o, none⟩ = (#[x0, x1, x2, x3, x4, x5, x6] : Array Value)[o]?)) : (∀ o : Nat, (((((((w.setCell ⟨b, 0, none⟩ y0).setCell ⟨b, 1, none⟩ y1).setCell ⟨b, 2, none⟩ y2).setCell ⟨b, 3, none⟩ y3).setCell ⟨b, 4, none⟩ y4).setCell ⟨b, 5, none⟩ y5).setCell ⟨b, 6, none⟩ y6).cell? ⟨b, o, none⟩ = (#[y0, y1, y2, y3, y4, y5, y6] : Array Value)[o]?) := by
  have h0 := box_at h 0 (by simp) y0
  rw [show (#[x0, x1, x2, x3, x4, x5, x6] : Array Value).setIfInBounds 0 y0 = #[y0, x1, x2, x3, x4, x5, x6] from rfl] at h0
  have h1 := box_at h0 1 (by simp) y1
  rw [show (#[y0, x1, x2, x3, x4, x5, x6] : Array Value).setIfInBounds 1 y1 = #[y0, y1, x2, x3, x4, x5, x6] from rfl] at h1
  have h2 := box_at h1 2 (by simp) y2
  rw [show (#[y0, y1, x2, x3, x4, x5, x6] : Array Value).setIfInBounds 2 y2 = #[y0, y1, y2, x3, x4, x5, x6] from rfl] at h2
  have h3 := box_at h2 3 (by simp) y3
  rw [show (#[y0, y1, y2, x3, x4, x5, x6] : Array Value).setIfInBounds 3 y3 = #[y0, y1, y2, y3, x4, x5, x6] from rfl] at h3
  have h4 := box_at h3 4 (by simp) y4
  rw [show (#[y0, y1, y2, y3, x4, x5, x6] : Array Value).setIfInBounds 4 y4 = #[y0, y1, y2, y3, y4, x5, x6] from rfl] at h4
  have h5 := box_at h4 5 (by simp) y5
  rw [show (#[y0, y1, y2, y3, y4, x5, x6] : Array Value).setIfInBounds 5 y5 = #[y0, y1, y2, y3, y4, y5, x6] from rfl] at h5
  have h6 := box_at h5 6 (by simp) y6
  rw [show (#[y0, y1, y2, y3, y4, y5, x6] : Array Value).setIfInBounds 6 y6 = #[y0, y1, y2, y3, y4, y5, y6] from rfl] at h6
  exact h6
theorem noInt7 {w : World} {B : Nat} {a0 a1 a2 a3 a4 a5 a6 : Option Addr} {l0 l1 l2 l3 l4 l5 l6 c0 c1 c2 c3 c4 c5 c6 : Nat} (h : (∀ o : Nat, w.cell? ⟨B, o, none⟩ = (#[.slice a0 l0 c0, .slice a1 l1 c1, .slice a2 l2 c2, .slice a3 l3 c3, .slice a4 l4 c4, .slice a5 l5 c5, .slice a6 l6 c6] : Array Value)[o]?)) : NoInt w B := by
  intro o k n
  rw [h o]
  match o with
  | 0 => simp
  | 1 => simp
  | 2 => simp
  | 3 => simp
  | 4 => simp
  | 5 => simp
  | 6 => simp
  | o + 7 => simp
theorem len_min {α : Type} (l : List α) (m : Nat) : (l.take m).length = min m l.length := List.length_take ..
theorem cmds_cap {w : World} {A : Option Addr} {len cap : Nat} {l : List (List Int)} (h : Q8.IsCmds w (.slice A len cap) l) : l.length ≤ cap ∧ cap ≤ maxLen ∧ (0 < l.length → ∃ b off, A = some ⟨b, off, none⟩) := by
  obtain ⟨A', c', e, h1, h2, h3⟩ := h.form
  simp only [Value.slice.injEq] at e
  obtain ⟨rfl, rfl, rfl⟩ := e
  refine ⟨h1, h2, fun hp => ?_⟩
  obtain ⟨b, off, e, _⟩ := h.at 0 hp
  exact ⟨b, off, e⟩
theorem nums_cap {k : IntKind} {w : World} {A : Option Addr} {len cap : Nat} {l : List Int} (h : IsNums k w (.slice A len cap) l) : l.length ≤ cap ∧ cap ≤ maxLen ∧ (0 < l.length → ∃ b off, A = some ⟨b, off, none⟩) := by
  obtain ⟨A', c', e, h1, h2, h3, h4, h5⟩ := h
  simp only [Value.slice.injEq] at e
  obtain ⟨rfl, rfl, rfl⟩ := e
  refine ⟨h1, h2, fun hp => ?_⟩
  obtain ⟨b, off, e, _⟩ := h5 hp
  exact ⟨b, off, e⟩
theorem cmds_cut' {w : World} {A : Option Addr} {len cap : Nat} {l : List (List Int)} (m : Nat) (h : Q8.IsCmds w (.slice A len cap) l) : Q8.IsCmds w (.slice A (l.take m).length cap) (l.take m) := by
  by_cases c : m ≤ l.length
  · have := h.cut m c
    rwa [List.length_take, Nat.min_eq_left c]
  · rw [List.take_of_length_le (by omega)]
    obtain ⟨A', c', e, _⟩ := h.form
    simp only [Value.slice.injEq] at e
    obtain ⟨rfl, rfl, rfl⟩ := e
    exact h
def cutI (im : ImgD) : ImgD := ⟨lessD im.g, im.pl.take 30, im.s0.take 300, im.s1.take 300, im.s2.take 300⟩
set_option maxHeartbeats 8000000 in
theorem less9_any (im : ImgD) (v : Value) (W : World) (h : IsImg W v im) : Calls Try.prog 14 #[v] W fun e w' => ∃ v', e = .returned v' ∧ IsImg w' v' (cutI im) ∧ Past W w' := by
  obtain ⟨A1, c1, A2, c2, A3, c3, A4, c4, A5, c5, A6, c6, A7, c7, rfl, hg, hp, h0, h1, h2⟩ := h.form
  obtain ⟨LP, hLP⟩ : ∃ n, (im.pl.take 30).length = n := ⟨_, rfl⟩
  obtain ⟨T0, hT0⟩ : ∃ n, (im.s0.take 300).length = n := ⟨_, rfl⟩
  obtain ⟨T1, hT1⟩ : ∃ n, (im.s1.take 300).length = n := ⟨_, rfl⟩
  obtain ⟨T2, hT2⟩ : ∃ n, (im.s2.take 300).length = n := ⟨_, rfl⟩
  have IPL := Lib.hid (fun w (p : Past W w) => nums_cut' 30 (hp.grow p))
  have IS0 := Lib.hid (fun w (p : Past W w) => cmds_cut' 300 (h0.grow p))
  have IS1 := Lib.hid (fun w (p : Past W w) => cmds_cut' 300 (h1.grow p))
  have IS2 := Lib.hid (fun w (p : Past W w) => cmds_cut' 300 (h2.grow p))
  rw [hLP] at IPL
  rw [hT0] at IS0
  rw [hT1] at IS1
  rw [hT2] at IS2
  have HLP := Lib.hid (hLP.symm.trans (len_min _ _))
  have HT0 := Lib.hid (hT0.symm.trans (len_min _ _))
  have HT1 := Lib.hid (hT1.symm.trans (len_min _ _))
  have HT2 := Lib.hid (hT2.symm.trans (len_min _ _))
  have CPL := Lib.hid (nums_cap hp)
  have CP0 := Lib.hid (cmds_cap h0)
  have CP1 := Lib.hid (cmds_cap h1)
  have CP2 := Lib.hid (cmds_cap h2)
  have mp : im.pl.length ≤ 9223372036854775807 := by have := CPL.out.1; have := CPL.out.2.1; unfold maxLen at this; omega
  have ms0 : im.s0.length ≤ 9223372036854775807 := by have := CP0.out.1; have := CP0.out.2.1; unfold maxLen at this; omega
  have ms1 : im.s1.length ≤ 9223372036854775807 := by have := CP1.out.1; have := CP1.out.2.1; unfold maxLen at this; omega
  have ms2 : im.s2.length ≤ 9223372036854775807 := by have := CP2.out.1; have := CP2.out.2.1; unfold maxLen at this; omega
  have HG := Lib.hid hg
  clear h hg hp h0 h1 h2 hLP hT0 hT1 hT2
  obtain ⟨Q, hQ⟩ : ∃ Q, W.heap.size = Q := ⟨_, rfl⟩
  obtain ⟨R, hR⟩ : ∃ R, Q + 1 = R := ⟨_, rfl⟩
  obtain ⟨G, hG⟩ : ∃ G, R + 1 = G := ⟨_, rfl⟩
  go_enter Try.func14, Try.ntmps14
  go_upto_region 1 with fail
  refine opq (fun w' => (∀ o : Nat, w'.cell? ⟨Q, o, none⟩ = (#[.slice A1 im.g.ins.length c1, .slice A2 im.g.nodes.length c2, .slice A3 im.g.outs.length c3, .slice A4 im.pl.length c4, .slice A5 im.s0.length c5, .slice A6 im.s1.length c6, .slice A7 im.s2.length c7] : Array Value)[o]?) ∧ (∀ o : Nat, w'.cell? ⟨R, o, none⟩ = (#[.slice none 0 0, .slice none 0 0, .slice none 0 0, .slice none 0 0, .slice none 0 0, .slice none 0 0, .slice none 0 0] : Array Value)[o]?) ∧ (∀ o : Nat, w'.frozen? ⟨R, o, none⟩ = false) ∧ Past W w' ∧ w'.heap.size = G) (by
    subst hG
    subst hR
    subst hQ
    exact ⟨by (exact kKeep), by (exact kKeep), by (exact kKeep), by (exact kKeep), by simp⟩) ?_
  rintro W1 ⟨m1, q1, e1, p1, z1⟩
  try rw [hQ]
  try rw [hR]
  have hg := HG.out.grow p1
  have PW := Lib.hid p1
  have M1 := Lib.hid m1
  obtain ⟨av, bv, cv0, ev, hi, hn, ho⟩ := hg
  simp only [Value.agg.injEq, Array.mk.injEq, List.cons.injEq, and_true] at ev
  obtain ⟨rfl, rfl, rfl⟩ := ev
  have HI := Lib.hid hi
  have HO := Lib.hid ho
  obtain ⟨_, _, ei, i1, i2, _, _, i5⟩ := hi
  simp only [Value.slice.injEq, true_and] at ei
  obtain ⟨rfl, rfl⟩ := ei
  obtain ⟨_, _, en, n1, n2, _, nw, n5⟩ := hn
  simp only [Value.slice.injEq, true_and] at en
  obtain ⟨rfl, rfl⟩ := en
  obtain ⟨_, _, eo, o1, o2, _, _, o5⟩ := ho
  simp only [Value.slice.injEq, true_and] at eo
  obtain ⟨rfl, rfl⟩ := eo
  have m1 : im.g.ins.length ≤ 9223372036854775807 := by unfold maxLen at i2; omega
  have m2 : im.g.nodes.length ≤ 9223372036854775807 := by unfold maxLen at n2; omega
  have m3 : im.g.outs.length ≤ 9223372036854775807 := by unfold maxLen at o2; omega
  have I5 := Lib.hid (fun h => i5 h)
  have O5 := Lib.hid (fun h => o5 h)
  have N5 := Lib.hid n5
  have NW := Lib.hid nw
  have hc1 : im.g.ins.length ≤ c1 := i1
  have hc3 : im.g.outs.length ≤ c3 := o1
  obtain ⟨k0, hi0, hz0, hz1, hz2⟩ := info_parts infoNode'
  have I1 := Lib.hid hi0
  have I2 := Lib.hid hz0
  have I3 := Lib.hid hz1
  have I4 := Lib.hid hz2
  have Q1 := Lib.hid q1
  have m0 := M1.out
  clear hi0 hz0 hz1 hz2 i1 i2 n1 n2 o1 o2 i5 o5 n5 nw
  go_upto_region 2 with fail
  refine opq (fun w' => (∀ o : Nat, w'.cell? ⟨G, o, none⟩ = (#[.slice A1 im.g.ins.length c1, .slice A2 im.g.nodes.length c2, .slice A3 im.g.outs.length c3] : Array Value)[o]?) ∧ (∀ o : Nat, w'.frozen? ⟨G, o, none⟩ = false) ∧ (∀ o : Nat, w'.cell? ⟨R, o, none⟩ = (#[.slice none 0 0, .slice none 0 0, .slice none 0 0, .slice none 0 0, .slice none 0 0, .slice none 0 0, .slice none 0 0] : Array Value)[o]?) ∧ (∀ o : Nat, w'.frozen? ⟨R, o, none⟩ = false) ∧ Past W1 w' ∧ G + 1 ≤ w'.heap.size) (by
    exact ⟨by (exact kKeep), by (exact kKeep), by (exact kKeep), by (exact kKeep), by (exact kKeep), by simp; omega⟩) ?_
  rintro w0 ⟨b0, f0, q0, e0, p0, s0⟩
  try rw [z1]
  clear q1 e1 p1 m0 Q1
  go_upto_if  14 with fail
  go_cut [] (fun w' => (∀ o : Nat, w'.cell? ⟨G, o, none⟩ = (#[.slice A1 (im.g.ins.take 6).length c1, .slice A2 im.g.nodes.length c2, .slice A3 im.g.outs.length c3] : Array Value)[o]?) ∧ (∀ o : Nat, w'.frozen? ⟨G, o, none⟩ = false) ∧ (∀ o : Nat, w'.cell? ⟨R, o, none⟩ = (#[.slice none 0 0, .slice none 0 0, .slice none 0 0, .slice none 0 0, .slice none 0 0, .slice none 0 0, .slice none 0 0] : Array Value)[o]?) ∧ (∀ o : Nat, w'.frozen? ⟨R, o, none⟩ = false) ∧ Past W1 w' ∧ G + 1 ≤ w'.heap.size)
  case first =>
    by_cases h : 6 < im.g.ins.length
    · obtain ⟨b, off, rfl, _⟩ := I5.out (by omega)
      have e : (im.g.ins.take 6).length = 6 := by simp; omega
      go_wp2_with fail
      go_meet
      exact ⟨by rw [e]; exact box_at b0 0 (by simp) _, by (exact kKeep), by (exact kKeep), by (exact kKeep), by (exact kKeep), by simpa only [size_setCell] using s0⟩
    · have e : im.g.ins.take 6 = im.g.ins := List.take_of_length_le (by omega)
      go_wp2_with fail
      go_meet
      exact ⟨by rw [e]; exact b0, f0, q0, e0, p0, s0⟩
  case rest =>
    clear b0 f0 q0 e0 p0 s0 I5
    obtain ⟨b0, f0, q0, e0, p0, s0⟩ := hcut
    go_upto_if  22 with fail
    go_cut [] (fun w' => (∀ o : Nat, w'.cell? ⟨G, o, none⟩ = (#[.slice A1 (im.g.ins.take 6).length c1, .slice A2 im.g.nodes.length c2, .slice A3 (im.g.outs.take 6).length c3] : Array Value)[o]?) ∧ (∀ o : Nat, w'.frozen? ⟨G, o, none⟩ = false) ∧ (∀ o : Nat, w'.cell? ⟨R, o, none⟩ = (#[.slice none 0 0, .slice none 0 0, .slice none 0 0, .slice none 0 0, .slice none 0 0, .slice none 0 0, .slice none 0 0] : Array Value)[o]?) ∧ (∀ o : Nat, w'.frozen? ⟨R, o, none⟩ = false) ∧ Past W1 w' ∧ G + 1 ≤ w'.heap.size)
    case first =>
      by_cases h : 6 < im.g.outs.length
      · obtain ⟨b, off, rfl, _⟩ := O5.out (by omega)
        have e : (im.g.outs.take 6).length = 6 := by simp; omega
        go_wp2_with fail
        go_meet
        exact ⟨by rw [e]; exact box_at b0 2 (by simp) _, by (exact kKeep), by (exact kKeep), by (exact kKeep), by (exact kKeep), by simpa only [size_setCell] using s0⟩
      · have e : im.g.outs.take 6 = im.g.outs := List.take_of_length_le (by omega)
        go_wp2_with fail
        go_meet
        exact ⟨by rw [e]; exact b0, f0, q0, e0, p0, s0⟩
    case rest =>
      clear b0 f0 q0 e0 p0 s0 O5
      obtain ⟨b0, f0, q0, e0, p0, s0⟩ := hcut
      have V1 := Lib.hid (vals_cut' 6 HI.out)
      have V3 := Lib.hid (nums_cut' 6 HO.out)
      obtain ⟨L1, hL1⟩ : ∃ n, (im.g.ins.take 6).length = n := ⟨_, rfl⟩
      obtain ⟨L3, hL3⟩ : ∃ n, (im.g.outs.take 6).length = n := ⟨_, rfl⟩
      rw [hL1] at b0 V1
      rw [hL3] at b0 V3
      have HL := Lib.hid (And.intro hL1 hL3)
      clear hL1 hL3 HI HO
      go_upto_region  7 with fail
      obtain ⟨P3, hP3⟩ : ∃ n, wc.heap.size = n := ⟨_, rfl⟩
      refine opq (fun w' => (∀ o : Nat, w'.cell? ⟨G, o, none⟩ = (#[.slice A1 L1 c1, .slice A2 im.g.nodes.length c2, .slice A3 L3 c3] : Array Value)[o]?) ∧ (∀ o : Nat, w'.frozen? ⟨G, o, none⟩ = false) ∧ (∀ o : Nat, w'.cell? ⟨R, o, none⟩ = (#[.slice none 0 0, .slice none 0 0, .slice none 0 0, .slice none 0 0, .slice none 0 0, .slice none 0 0, .slice none 0 0] : Array Value)[o]?) ∧ (∀ o : Nat, w'.frozen? ⟨R, o, none⟩ = false) ∧ Past W1 w' ∧ G + 2 ≤ w'.heap.size ∧ Hid (w'.ownsRow (G + 1) 70 14 (.slice (some ⟨P3, 0, none⟩) 0 0) 0 [])) (by
        subst hP3
        exact ⟨by (exact kKeep), by (exact kKeep), by (exact kKeep), by (exact kKeep), by (exact kKeep), by simp; omega, Lib.hid (World.ownsRow_made wc #[] 0 (by omega) (by simp) (by simp))⟩) ?_
      rintro w1 ⟨b1, f1, q1, e1, p1, s1, ow1⟩
      try rw [hP3]
      clear b0 f0 q0 e0 p0 s0 hP3
      obtain ⟨N, hN⟩ : ∃ N, N = min im.g.nodes.length 14 := ⟨_, rfl⟩
      go_wp2_with fail
      go_loopw [4, 5] (fun v i wr => ∃ (k : Nat) (xs : List Value), k ≤ N ∧ i = .int .i64 k ∧ Hid (wr.ownsRow (G + 1) 70 14 v k xs) ∧ Hid (RowsO W1 ((im.g.nodes.take k).map fewD) xs) ∧ (∀ o : Nat, wr.cell? ⟨G, o, none⟩ = (#[.slice A1 L1 c1, .slice A2 im.g.nodes.length c2, .slice A3 L3 c3] : Array Value)[o]?) ∧ (∀ o : Nat, wr.frozen? ⟨G, o, none⟩ = false) ∧ (∀ o : Nat, wr.cell? ⟨R, o, none⟩ = (#[.slice none 0 0, .slice none 0 0, .slice none 0 0, .slice none 0 0, .slice none 0 0, .slice none 0 0, .slice none 0 0] : Array Value)[o]?) ∧ (∀ o : Nat, wr.frozen? ⟨R, o, none⟩ = false) ∧ Past W1 wr ∧ G + 2 ≤ wr.heap.size) (fun _ i _ => N - (intOf i).toNat)
      case atStart => exact ⟨0, [], by omega, rfl, ow1, Lib.hid (fun j hj => by simp at hj), b1, f1, q1, e1, p1, s1⟩
      case round =>
        clear ow1 b1 f1 q1 e1 p1 s1
        obtain ⟨k, xs, hk, rfl, own, rows, b1, f1, q1, e1, p1, s1⟩ := hrel
        by_cases h : k < N
        · have h1 : k < im.g.nodes.length := by omega
          have h2 : k < 14 := by omega
          obtain ⟨nb, no, rfl, hnb, hnc⟩ := N5.out (by omega)
          obtain ⟨vi, vw, vb, hin, hcell⟩ := hnc k h1
          obtain ⟨n, hnk⟩ : ∃ n, im.g.nodes.getD k default = n := ⟨_, rfl⟩
          rw [hnk] at hin hcell
          have IN := Lib.hid hin
          obtain ⟨Ai, ci, rfl, f3, f4, _, _, f7⟩ := hin.1
          obtain ⟨Aw, cw, rfl, f5, f6, _, _, f8⟩ := hin.2.1
          obtain ⟨Ab, cb, rfl, f9, f10, _, _, f11⟩ := hin.2.2
          have hi1 : n.ins.length ≤ 9223372036854775807 := by unfold maxLen at f4; omega
          have hi2 : n.ws.length ≤ 9223372036854775807 := by unfold maxLen at f6; omega
          have hi3 : n.bs.length ≤ 9223372036854775807 := by unfold maxLen at f10; omega
          have F7 := Lib.hid (fun h => f7 h)
          have F8 := Lib.hid (fun h => f8 h)
          have F11 := Lib.hid (fun h => f11 h)
          have hcell := fun j (hj : j < 14) => (p1.cell hnb).trans (hcell j hj)
          have x0 := hcell 0 (by omega)
          have x1 := hcell 1 (by omega)
          have x2 := hcell 2 (by omega)
          have x3 := hcell 3 (by omega)
          have x4 := hcell 4 (by omega)
          have x5 := hcell 5 (by omega)
          have x6 := hcell 6 (by omega)
          have x7 := hcell 7 (by omega)
          have x8 := hcell 8 (by omega)
          have x9 := hcell 9 (by omega)
          have x10 := hcell 10 (by omega)
          have x11 := hcell 11 (by omega)
          have x12 := hcell 12 (by omega)
          have x13 := hcell 13 (by omega)
          simp only [nodeCells, List.getElem?_cons_zero, List.getElem?_cons_succ, Nat.add_zero] at x0 x1 x2 x3 x4 x5 x6 x7 x8 x9 x10 x11 x12 x13
          have NK := Lib.hid hnk
          have n1 : G ≠ wr.heap.size := by omega
          have n2 : G < wr.heap.size := by omega
          have i1 : (0 : Int) ≤ (k : Int) := by omega
          have i2 : (k : Int) < (im.g.nodes.length : Int) := by omega
          obtain ⟨P8, hP8⟩ : ∃ P8, wr.heap.size = P8 := ⟨_, rfl⟩
          clear hnk hnc hin hcell f7 f8 f11 f4 f6 f10
          go_upto_region  11 with fail
          refine opq (fun w' => (∀ o : Nat, w'.cell? ⟨P8, o, none⟩ = (#[.int .i64 n.op, (.slice Ai n.ins.length ci), .int .i64 n.k, .int .i64 n.stride, .int .i64 n.pad, .int .i64 n.out, .int .i64 n.mul, .int .i64 n.shift, .int .i64 n.zero, .int .i64 n.th, .int .i64 n.tw, .int .i64 n.tc, (.slice Aw n.ws.length cw), (.slice Ab n.bs.length cb)] : Array Value)[o]?) ∧ (∀ o : Nat, w'.frozen? ⟨P8, o, none⟩ = false) ∧ (∀ o : Nat, w'.cell? ⟨G, o, none⟩ = (#[.slice A1 L1 c1, .slice (some ⟨nb, no, none⟩) im.g.nodes.length c2, .slice A3 L3 c3] : Array Value)[o]?) ∧ (∀ o : Nat, w'.frozen? ⟨G, o, none⟩ = false) ∧ (∀ o : Nat, w'.cell? ⟨R, o, none⟩ = (#[.slice none 0 0, .slice none 0 0, .slice none 0 0, .slice none 0 0, .slice none 0 0, .slice none 0 0, .slice none 0 0] : Array Value)[o]?) ∧ (∀ o : Nat, w'.frozen? ⟨R, o, none⟩ = false) ∧ Past W1 w' ∧ P8 + 1 ≤ w'.heap.size ∧ Hid (w'.ownsRow (G + 1) 70 14 u4 k xs)) (by
            subst hP8
            exact ⟨by (exact kKeep), by (exact kKeep), by (exact kKeep), by (exact kKeep), by (exact kKeep), by (exact kKeep), by (exact kKeep), by simp, Lib.hid (World.ownsRow.alloc own.out _)⟩) ?_
          rintro w2 ⟨y2, z2, b2, f2, q2, e2, p2, s2, ow2⟩
          have hP : G + 2 ≤ P8 := by omega
          have HLT0 : Hid (∀ j, u4.ownBlock = some j → G + 1 ≤ j ∧ j < P8) := Lib.hid (by
            intro j hj
            have := World.ownsRow.lt own.out j hj
            omega)
          clear x0 x1 x2 x3 x4 x5 x6 x7 x8 x9 x10 x11 x12 x13 own b1 f1 q1 e1 p1 s1 hP8 n1 n2
          go_upto_if  47 with fail
          go_cut [] (fun w' => (∀ o : Nat, w'.cell? ⟨P8, o, none⟩ = (#[.int .i64 n.op, (.slice Ai (n.ins.take 20).length ci), .int .i64 n.k, .int .i64 n.stride, .int .i64 n.pad, .int .i64 n.out, .int .i64 n.mul, .int .i64 n.shift, .int .i64 n.zero, .int .i64 n.th, .int .i64 n.tw, .int .i64 n.tc, (.slice Aw n.ws.length cw), (.slice Ab n.bs.length cb)] : Array Value)[o]?) ∧ (∀ o : Nat, w'.frozen? ⟨P8, o, none⟩ = false) ∧ (∀ o : Nat, w'.cell? ⟨G, o, none⟩ = (#[.slice A1 L1 c1, .slice (some ⟨nb, no, none⟩) im.g.nodes.length c2, .slice A3 L3 c3] : Array Value)[o]?) ∧ (∀ o : Nat, w'.frozen? ⟨G, o, none⟩ = false) ∧ (∀ o : Nat, w'.cell? ⟨R, o, none⟩ = (#[.slice none 0 0, .slice none 0 0, .slice none 0 0, .slice none 0 0, .slice none 0 0, .slice none 0 0, .slice none 0 0] : Array Value)[o]?) ∧ (∀ o : Nat, w'.frozen? ⟨R, o, none⟩ = false) ∧ Past W1 w' ∧ P8 + 1 ≤ w'.heap.size ∧ Hid (w'.ownsRow (G + 1) 70 14 u4 k xs))
          case first =>
            by_cases hc : 20 < n.ins.length
            · obtain ⟨b, off, rfl, _⟩ := F7.out (by omega)
              have e : (n.ins.take 20).length = 20 := by simp; omega
              have hcap2 : 20 ≤ ci := by
                obtain ⟨_, _, hv, hcap, _, _, _, _⟩ := IN.out.1
                simp only [Value.slice.injEq] at hv
                omega
              go_wp2_with fail
              go_meet
              exact ⟨by rw [e]; exact box_at y2 1 (by simp) _, by (exact kKeep), by (exact kKeep), by (exact kKeep), by (exact kKeep), by (exact kKeep), by (exact kKeep), by simpa only [size_setCell] using s2, Lib.hid (own_set_ne ow2.out (fun j hj => by have := (HLT0.out j hj).2; omega))⟩
            · have e : n.ins.take 20 = n.ins := List.take_of_length_le (by omega)
              go_wp2_with fail
              go_meet
              exact ⟨by rw [e]; exact y2, z2, b2, f2, q2, e2, p2, s2, ow2⟩
          case rest =>
            clear y2 z2 b2 f2 q2 e2 p2 s2 ow2 F7
            obtain ⟨y2, z2, b2, f2, q2, e2, p2, s2, ow2⟩ := hcut
            go_upto_if  55 with fail
            go_cut [] (fun w' => (∀ o : Nat, w'.cell? ⟨P8, o, none⟩ = (#[.int .i64 n.op, (.slice Ai (n.ins.take 20).length ci), .int .i64 n.k, .int .i64 n.stride, .int .i64 n.pad, .int .i64 n.out, .int .i64 n.mul, .int .i64 n.shift, .int .i64 n.zero, .int .i64 n.th, .int .i64 n.tw, .int .i64 n.tc, (.slice Aw (n.ws.take 5000).length cw), (.slice Ab n.bs.length cb)] : Array Value)[o]?) ∧ (∀ o : Nat, w'.frozen? ⟨P8, o, none⟩ = false) ∧ (∀ o : Nat, w'.cell? ⟨G, o, none⟩ = (#[.slice A1 L1 c1, .slice (some ⟨nb, no, none⟩) im.g.nodes.length c2, .slice A3 L3 c3] : Array Value)[o]?) ∧ (∀ o : Nat, w'.frozen? ⟨G, o, none⟩ = false) ∧ (∀ o : Nat, w'.cell? ⟨R, o, none⟩ = (#[.slice none 0 0, .slice none 0 0, .slice none 0 0, .slice none 0 0, .slice none 0 0, .slice none 0 0, .slice none 0 0] : Array Value)[o]?) ∧ (∀ o : Nat, w'.frozen? ⟨R, o, none⟩ = false) ∧ Past W1 w' ∧ P8 + 1 ≤ w'.heap.size ∧ Hid (w'.ownsRow (G + 1) 70 14 u4 k xs))
            case first =>
              by_cases hc : 5000 < n.ws.length
              · obtain ⟨b, off, rfl, _⟩ := F8.out (by omega)
                have e : (n.ws.take 5000).length = 5000 := by simp; omega
                have hcap2 : 5000 ≤ cw := by
                  obtain ⟨_, _, hv, hcap, _, _, _, _⟩ := IN.out.2.1
                  simp only [Value.slice.injEq] at hv
                  omega
                go_wp2_with fail
                go_meet
                exact ⟨by rw [e]; exact box_at y2 12 (by simp) _, by (exact kKeep), by (exact kKeep), by (exact kKeep), by (exact kKeep), by (exact kKeep), by (exact kKeep), by simpa only [size_setCell] using s2, Lib.hid (own_set_ne ow2.out (fun j hj => by have := (HLT0.out j hj).2; omega))⟩
              · have e : n.ws.take 5000 = n.ws := List.take_of_length_le (by omega)
                go_wp2_with fail
                go_meet
                exact ⟨by rw [e]; exact y2, z2, b2, f2, q2, e2, p2, s2, ow2⟩
            case rest =>
              clear y2 z2 b2 f2 q2 e2 p2 s2 ow2 F8
              obtain ⟨y2, z2, b2, f2, q2, e2, p2, s2, ow2⟩ := hcut
              go_upto_if  63 with fail
              go_cut [] (fun w' => (∀ o : Nat, w'.cell? ⟨P8, o, none⟩ = (#[.int .i64 n.op, (.slice Ai (n.ins.take 20).length ci), .int .i64 n.k, .int .i64 n.stride, .int .i64 n.pad, .int .i64 n.out, .int .i64 n.mul, .int .i64 n.shift, .int .i64 n.zero, .int .i64 n.th, .int .i64 n.tw, .int .i64 n.tc, (.slice Aw (n.ws.take 5000).length cw), (.slice Ab (n.bs.take 20).length cb)] : Array Value)[o]?) ∧ (∀ o : Nat, w'.frozen? ⟨P8, o, none⟩ = false) ∧ (∀ o : Nat, w'.cell? ⟨G, o, none⟩ = (#[.slice A1 L1 c1, .slice (some ⟨nb, no, none⟩) im.g.nodes.length c2, .slice A3 L3 c3] : Array Value)[o]?) ∧ (∀ o : Nat, w'.frozen? ⟨G, o, none⟩ = false) ∧ (∀ o : Nat, w'.cell? ⟨R, o, none⟩ = (#[.slice none 0 0, .slice none 0 0, .slice none 0 0, .slice none 0 0, .slice none 0 0, .slice none 0 0, .slice none 0 0] : Array Value)[o]?) ∧ (∀ o : Nat, w'.frozen? ⟨R, o, none⟩ = false) ∧ Past W1 w' ∧ P8 + 1 ≤ w'.heap.size ∧ Hid (w'.ownsRow (G + 1) 70 14 u4 k xs))
              case first =>
                by_cases hc : 20 < n.bs.length
                · obtain ⟨b, off, rfl, _⟩ := F11.out (by omega)
                  have e : (n.bs.take 20).length = 20 := by simp; omega
                  have hcap2 : 20 ≤ cb := by
                    obtain ⟨_, _, hv, hcap, _, _, _, _⟩ := IN.out.2.2
                    simp only [Value.slice.injEq] at hv
                    omega
                  go_wp2_with fail
                  go_meet
                  exact ⟨by rw [e]; exact box_at y2 13 (by simp) _, by (exact kKeep), by (exact kKeep), by (exact kKeep), by (exact kKeep), by (exact kKeep), by (exact kKeep), by simpa only [size_setCell] using s2, Lib.hid (own_set_ne ow2.out (fun j hj => by have := (HLT0.out j hj).2; omega))⟩
                · have e : n.bs.take 20 = n.bs := List.take_of_length_le (by omega)
                  go_wp2_with fail
                  go_meet
                  exact ⟨by rw [e]; exact y2, z2, b2, f2, q2, e2, p2, s2, ow2⟩
              case rest =>
                clear y2 z2 b2 f2 q2 e2 p2 s2 ow2 F11
                obtain ⟨y2, z2, b2, f2, q2, e2, p2, s2, ow2⟩ := hcut
                have IF : Hid (NodeIn W1 (fewD n) (.slice Ai (n.ins.take 20).length ci) (.slice Aw (n.ws.take 5000).length cw) (.slice Ab (n.bs.take 20).length cb)) := Lib.hid ⟨nums_cut' 20 IN.out.1, nums_cut' 5000 IN.out.2.1, nums_cut' 20 IN.out.2.2⟩
                obtain ⟨La, hLa⟩ : ∃ m, (n.ins.take 20).length = m := ⟨_, rfl⟩
                obtain ⟨Lw, hLw⟩ : ∃ m, (n.ws.take 5000).length = m := ⟨_, rfl⟩
                obtain ⟨Lb, hLb⟩ : ∃ m, (n.bs.take 20).length = m := ⟨_, rfl⟩
                rw [hLa, hLw, hLb] at y2 IF
                clear hLa hLw hLb
                have HXL := Lib.hid ow2.out.1
                go_wp2_with (at_builtin; refine wpList_append_own _ rfl (.tmp  68) (.tmp  70) 26 rfl (G + 1) 70 k0 _ 14 160 Try.underlying26 I1.out I2.out I3.out I4.out rfl (by decide) _ _ _ rfl (World.ownsRow.alloc ow2.out _) ⟨wc.heap.size, 0, none⟩ 1 1 (nodeCells (fewD n) (.slice Ai La ci) (.slice Aw Lw cw) (.slice Ab Lb cb)) rfl rfl (fun j u hu => cells_new' wc _ 70 j u hu) (node_cells_one IF.out) ?c4 ?c5 ?c6 ?_)
                case c4 => unfold maxLen; omega
                case c5 => omega
                case c6 => first | omega | (simp; omega)
                intro v4 w4 hown4 hgrow _
                have hr4 : ∀ j, u4.ownBlock = some j → G + 1 ≤ j := fun j hj => (HLT0.out j hj).1
                have b4 := box_grownBy hgrow (box_old b2 (by omega)) (by simp; omega) (fun e => by have := hr4 _ e.symm; omega)
                have f4 := free_grownBy' hgrow (free_alloc f2) (by simp; omega) (fun e => by have := hr4 _ e.symm; omega)
                have q4 := box_grownBy hgrow (box_old q2 (by omega)) (by simp; omega) (fun e => by have := hr4 _ e.symm; omega)
                have e4 := free_grownBy' hgrow (free_alloc e2) (by simp; omega) (fun e => by have := hr4 _ e.symm; omega)
                have p4 : Past W1 w4 := (p2.alloc _).grownBy hgrow (fun j hj => by have := hr4 j hj; omega)
                have s4 : G + 2 ≤ w4.heap.size := by have := hgrow.size; simp only [World.size_alloc] at this; omega
                have ow4 := Lib.hid hown4
                have rows4 : Hid (RowsO W1 ((im.g.nodes.take (k + 1)).map fewD) (xs ++ (nodeCells (fewD n) (.slice Ai La ci) (.slice Aw Lw cw) (.slice Ab Lb cb)))) := Lib.hid (by
                  rw [few_take _ _ h1, NK.out]
                  exact rows.out.more (by rw [HXL.out]; simp; omega) IF.out)
                clear hown4 hgrow hr4 y2 z2 b2 f2 q2 e2 p2 s2 ow2 IF HXL HLT0 rows
                go_wp2_with fail
                go_roundw
                case rel => exact ⟨k + 1, xs ++ (nodeCells (fewD n) (.slice Ai La ci) (.slice Aw Lw cw) (.slice Ab Lb cb)), by omega, by go_num, ow4, rows4, b4, f4, q4, e4, p4, s4⟩
                case measure => simp [intOf]; omega
        · obtain ⟨Av, cv, rfl, _, _⟩ := own_slice' own.out
          have hkl : ((im.g.nodes.take 14).map fewD).length = k := by simp; omega
          have htk : im.g.nodes.take k = im.g.nodes.take 14 := by
            by_cases c : im.g.nodes.length ≤ 14
            · rw [List.take_of_length_le (by omega), List.take_of_length_le (by omega)]
            · congr 1; omega
          have rows' := rows.out
          rw [htk] at rows'
          have FIN : Hid (∀ (w : World) (A : Option Addr) (c : Nat), w.ownsRow (G + 1) 70 14 (.slice A k c) k xs → Past W1 w → IsGraph w (.agg #[.slice A1 L1 c1, .slice A k c, .slice A3 L3 c3]) (lessD im.g)) := Lib.hid (by
            intro w A c ho p
            refine ⟨_, _, _, rfl, V1.out.grow p, ?_, V3.out.grow p⟩
            refine nodes_of_rowsO (base := G + 1) (by rw [show (lessD im.g).nodes.length = k from hkl]; exact ho) rows' p (fun n hn => ?_)
            obtain ⟨m, hm, rfl⟩ := List.mem_map.1 hn
            exact NW.out m (List.mem_of_mem_take hm))
          clear hkl htk rows' rows
          by_cases hx : k < im.g.nodes.length
          · have hx2 : ¬ k < 14 := by omega
            have d1 : decide ((k : Int) < 14) = false := by simp; omega
            go_upto_region 19 with fail
            have hGO : G + 2 ≤ wr.heap.size := s1
            have HLT : Hid (∀ j, (Value.slice Av k cv).ownBlock = some j → G + 1 ≤ j ∧ j < wr.heap.size) := Lib.hid (World.ownsRow.lt own.out)
            obtain ⟨O, hO⟩ : ∃ O, wr.heap.size = O := ⟨_, rfl⟩
            rw [hO] at HLT hGO s1
            have m1 := box_past p1 M1.out (by omega)
            refine opq (fun w' => (∀ o : Nat, w'.cell? ⟨G, o, none⟩ = (#[.slice A1 L1 c1, .slice Av k cv, .slice A3 L3 c3] : Array Value)[o]?) ∧ (∀ o : Nat, w'.cell? ⟨R, o, none⟩ = (#[.slice none 0 0, .slice none 0 0, .slice none 0 0, .slice none 0 0, .slice none 0 0, .slice none 0 0, .slice none 0 0] : Array Value)[o]?) ∧ (∀ o : Nat, w'.frozen? ⟨R, o, none⟩ = false) ∧ (∀ o : Nat, w'.cell? ⟨Q, o, none⟩ = (#[.slice A1 im.g.ins.length c1, .slice A2 im.g.nodes.length c2, .slice A3 im.g.outs.length c3, .slice A4 im.pl.length c4, .slice A5 im.s0.length c5, .slice A6 im.s1.length c6, .slice A7 im.s2.length c7] : Array Value)[o]?) ∧ Past W1 w' ∧ w'.heap.size = O ∧ Hid (w'.ownsRow (G + 1) 70 14 (.slice Av k cv) k xs)) ⟨box_at b1 1 (by simp) _, by (exact kKeep), by (exact kKeep), by (exact kKeep), by (exact kKeep), by simpa [World.setCell] using hO, Lib.hid (own_set_ne own.out (fun j hj => by have := (HLT.out j hj).1; omega))⟩ ?_
            clear b1 f1 q1 e1 m1 p1 s1 own hO
            rintro w3 ⟨g3, q3, e3, m3, p3, hO, ow3⟩
            go_upto_region 20 with fail
            refine opq (fun w' => (∀ o : Nat, w'.cell? ⟨O, o, none⟩ = (#[.slice A1 L1 c1, .slice Av k cv, .slice A3 L3 c3, .slice A4 im.pl.length c4, .slice none 0 0, .slice none 0 0, .slice none 0 0] : Array Value)[o]?) ∧ (∀ o : Nat, w'.frozen? ⟨O, o, none⟩ = false) ∧ (∀ o : Nat, w'.cell? ⟨R, o, none⟩ = (#[.slice none 0 0, .slice none 0 0, .slice none 0 0, .slice none 0 0, .slice none 0 0, .slice none 0 0, .slice none 0 0] : Array Value)[o]?) ∧ (∀ o : Nat, w'.frozen? ⟨R, o, none⟩ = false) ∧ (∀ o : Nat, w'.cell? ⟨Q, o, none⟩ = (#[.slice A1 im.g.ins.length c1, .slice A2 im.g.nodes.length c2, .slice A3 im.g.outs.length c3, .slice A4 im.pl.length c4, .slice A5 im.s0.length c5, .slice A6 im.s1.length c6, .slice A7 im.s2.length c7] : Array Value)[o]?) ∧ Past W1 w' ∧ O + 1 ≤ w'.heap.size ∧ Hid (w'.ownsRow (G + 1) 70 14 (.slice Av k cv) k xs)) (by
              subst hO
              exact ⟨by (exact kKeep), by (exact kKeep), by (exact kKeep), by (exact kKeep), by (exact kKeep), by (exact kKeep), by simp, Lib.hid (World.ownsRow.alloc ow3.out _)⟩) ?_
            rintro w4 ⟨b0, f0, q0, e0, m0, p0, s0, ow0⟩
            try rw [hO]
            clear g3 q3 e3 m3 p3 ow3 hO
            go_upto_if 81 with fail
            go_cut [] (fun w' => (∀ o : Nat, w'.cell? ⟨O, o, none⟩ = (#[.slice A1 L1 c1, .slice Av k cv, .slice A3 L3 c3, .slice A4 LP c4, .slice none 0 0, .slice none 0 0, .slice none 0 0] : Array Value)[o]?) ∧ (∀ o : Nat, w'.frozen? ⟨O, o, none⟩ = false) ∧ (∀ o : Nat, w'.cell? ⟨R, o, none⟩ = (#[.slice none 0 0, .slice none 0 0, .slice none 0 0, .slice none 0 0, .slice none 0 0, .slice none 0 0, .slice none 0 0] : Array Value)[o]?) ∧ (∀ o : Nat, w'.frozen? ⟨R, o, none⟩ = false) ∧ (∀ o : Nat, w'.cell? ⟨Q, o, none⟩ = (#[.slice A1 im.g.ins.length c1, .slice A2 im.g.nodes.length c2, .slice A3 im.g.outs.length c3, .slice A4 im.pl.length c4, .slice A5 im.s0.length c5, .slice A6 im.s1.length c6, .slice A7 im.s2.length c7] : Array Value)[o]?) ∧ Past W1 w' ∧ O + 1 ≤ w'.heap.size ∧ Hid (w'.ownsRow (G + 1) 70 14 (.slice Av k cv) k xs))
            case first =>
              by_cases h : 30 < im.pl.length
              · have e : LP = 30 := by have := HLP.out; omega
                have hcap : 30 ≤ c4 := by have := CPL.out.1; omega
                obtain ⟨b, off, hA⟩ := CPL.out.2.2 (by omega)
                subst hA
                go_wp2_with fail
                go_meet
                exact ⟨by rw [e]; exact box_at b0 3 (by simp) _, by (exact kKeep), by (exact kKeep), by (exact kKeep), by (exact kKeep), by (exact kKeep), by simpa only [size_setCell] using s0, Lib.hid (own_set_ne ow0.out (fun j hj => by have := (HLT.out j hj).2; omega))⟩
              · have e : LP = im.pl.length := by have := HLP.out; omega
                go_wp2_with fail
                go_meet
                exact ⟨by rw [e]; exact b0, f0, q0, e0, m0, p0, s0, ow0⟩
            case rest =>
              clear b0 f0 q0 e0 m0 p0 s0 ow0
              obtain ⟨b0, f0, q0, e0, m0, p0, s0, ow0⟩ := hcut
              go_wp2_with fail
              go_loopw [8] (fun j wr => (j = .int .i64 0 ∧ (∀ o : Nat, wr.cell? ⟨O, o, none⟩ = (#[.slice A1 L1 c1, .slice Av k cv, .slice A3 L3 c3, .slice A4 LP c4, .slice none 0 0, .slice none 0 0, .slice none 0 0] : Array Value)[o]?) ∧ (∀ o : Nat, wr.frozen? ⟨O, o, none⟩ = false) ∧ (∀ o : Nat, wr.cell? ⟨R, o, none⟩ = (#[.slice none 0 0, .slice none 0 0, .slice none 0 0, .slice none 0 0, .slice none 0 0, .slice none 0 0, .slice none 0 0] : Array Value)[o]?) ∧ (∀ o : Nat, wr.frozen? ⟨R, o, none⟩ = false) ∧ (∀ o : Nat, wr.cell? ⟨Q, o, none⟩ = (#[.slice A1 im.g.ins.length c1, .slice A2 im.g.nodes.length c2, .slice A3 im.g.outs.length c3, .slice A4 im.pl.length c4, .slice A5 im.s0.length c5, .slice A6 im.s1.length c6, .slice A7 im.s2.length c7] : Array Value)[o]?) ∧ Past W1 wr ∧ O + 1 ≤ wr.heap.size ∧ Hid (wr.ownsRow (G + 1) 70 14 (.slice Av k cv) k xs)) ∨ (j = .int .i64 1 ∧ (∀ o : Nat, wr.cell? ⟨O, o, none⟩ = (#[.slice A1 L1 c1, .slice Av k cv, .slice A3 L3 c3, .slice A4 LP c4, .slice A5 T0 c5, .slice none 0 0, .slice none 0 0] : Array Value)[o]?) ∧ (∀ o : Nat, wr.frozen? ⟨O, o, none⟩ = false) ∧ (∀ o : Nat, wr.cell? ⟨R, o, none⟩ = (#[.slice none 0 0, .slice none 0 0, .slice none 0 0, .slice none 0 0, .slice none 0 0, .slice none 0 0, .slice none 0 0] : Array Value)[o]?) ∧ (∀ o : Nat, wr.frozen? ⟨R, o, none⟩ = false) ∧ (∀ o : Nat, wr.cell? ⟨Q, o, none⟩ = (#[.slice A1 im.g.ins.length c1, .slice A2 im.g.nodes.length c2, .slice A3 im.g.outs.length c3, .slice A4 im.pl.length c4, .slice A5 im.s0.length c5, .slice A6 im.s1.length c6, .slice A7 im.s2.length c7] : Array Value)[o]?) ∧ Past W1 wr ∧ O + 1 ≤ wr.heap.size ∧ Hid (wr.ownsRow (G + 1) 70 14 (.slice Av k cv) k xs)) ∨ (j = .int .i64 2 ∧ (∀ o : Nat, wr.cell? ⟨O, o, none⟩ = (#[.slice A1 L1 c1, .slice Av k cv, .slice A3 L3 c3, .slice A4 LP c4, .slice A5 T0 c5, .slice A6 T1 c6, .slice none 0 0] : Array Value)[o]?) ∧ (∀ o : Nat, wr.frozen? ⟨O, o, none⟩ = false) ∧ (∀ o : Nat, wr.cell? ⟨R, o, none⟩ = (#[.slice none 0 0, .slice none 0 0, .slice none 0 0, .slice none 0 0, .slice none 0 0, .slice none 0 0, .slice none 0 0] : Array Value)[o]?) ∧ (∀ o : Nat, wr.frozen? ⟨R, o, none⟩ = false) ∧ (∀ o : Nat, wr.cell? ⟨Q, o, none⟩ = (#[.slice A1 im.g.ins.length c1, .slice A2 im.g.nodes.length c2, .slice A3 im.g.outs.length c3, .slice A4 im.pl.length c4, .slice A5 im.s0.length c5, .slice A6 im.s1.length c6, .slice A7 im.s2.length c7] : Array Value)[o]?) ∧ Past W1 wr ∧ O + 1 ≤ wr.heap.size ∧ Hid (wr.ownsRow (G + 1) 70 14 (.slice Av k cv) k xs)) ∨ (j = .int .i64 3 ∧ (∀ o : Nat, wr.cell? ⟨O, o, none⟩ = (#[.slice A1 L1 c1, .slice Av k cv, .slice A3 L3 c3, .slice A4 LP c4, .slice A5 T0 c5, .slice A6 T1 c6, .slice A7 T2 c7] : Array Value)[o]?) ∧ (∀ o : Nat, wr.frozen? ⟨O, o, none⟩ = false) ∧ (∀ o : Nat, wr.cell? ⟨R, o, none⟩ = (#[.slice none 0 0, .slice none 0 0, .slice none 0 0, .slice none 0 0, .slice none 0 0, .slice none 0 0, .slice none 0 0] : Array Value)[o]?) ∧ (∀ o : Nat, wr.frozen? ⟨R, o, none⟩ = false) ∧ (∀ o : Nat, wr.cell? ⟨Q, o, none⟩ = (#[.slice A1 im.g.ins.length c1, .slice A2 im.g.nodes.length c2, .slice A3 im.g.outs.length c3, .slice A4 im.pl.length c4, .slice A5 im.s0.length c5, .slice A6 im.s1.length c6, .slice A7 im.s2.length c7] : Array Value)[o]?) ∧ Past W1 wr ∧ O + 1 ≤ wr.heap.size ∧ Hid (wr.ownsRow (G + 1) 70 14 (.slice Av k cv) k xs))) (fun j _ => 3 - (intOf j).toNat)
              case atStart => exact .inl ⟨rfl, b0, f0, q0, e0, m0, p0, s0, ow0⟩
              case round =>
                clear b0 f0 q0 e0 m0 p0 s0 ow0
                rcases hrel with ⟨rfl, b0, f0, q0, e0, m0, p0, s0, ow0⟩ | ⟨rfl, b0, f0, q0, e0, m0, p0, s0, ow0⟩ | ⟨rfl, b0, f0, q0, e0, m0, p0, s0, ow0⟩ | ⟨rfl, b0, f0, q0, e0, m0, p0, s0, ow0⟩
                · go_upto_if 102 with fail
                  have c0 := box_at b0 4 (by simp) (.slice A5 im.s0.length c5)
                  refine opq (fun w' => (∀ o : Nat, w'.cell? ⟨O, o, none⟩ = (#[.slice A1 L1 c1, .slice Av k cv, .slice A3 L3 c3, .slice A4 LP c4, .slice A5 im.s0.length c5, .slice none 0 0, .slice none 0 0] : Array Value)[o]?) ∧ (∀ o : Nat, w'.frozen? ⟨O, o, none⟩ = false) ∧ (∀ o : Nat, w'.cell? ⟨R, o, none⟩ = (#[.slice none 0 0, .slice none 0 0, .slice none 0 0, .slice none 0 0, .slice none 0 0, .slice none 0 0, .slice none 0 0] : Array Value)[o]?) ∧ (∀ o : Nat, w'.frozen? ⟨R, o, none⟩ = false) ∧ (∀ o : Nat, w'.cell? ⟨Q, o, none⟩ = (#[.slice A1 im.g.ins.length c1, .slice A2 im.g.nodes.length c2, .slice A3 im.g.outs.length c3, .slice A4 im.pl.length c4, .slice A5 im.s0.length c5, .slice A6 im.s1.length c6, .slice A7 im.s2.length c7] : Array Value)[o]?) ∧ Past W1 w' ∧ O + 1 ≤ w'.heap.size ∧ Hid (w'.ownsRow (G + 1) 70 14 (.slice Av k cv) k xs)) ⟨c0, by (exact kKeep), by (exact kKeep), by (exact kKeep), by (exact kKeep), by (exact kKeep), by simpa only [size_setCell] using s0, Lib.hid (own_set_ne ow0.out (fun j hj => by have := (HLT.out j hj).2; omega))⟩ ?_
                  clear b0 f0 q0 e0 m0 p0 s0 ow0 c0
                  rintro w5 ⟨b0, f0, q0, e0, m0, p0, s0, ow0⟩
                  by_cases h : 300 < im.s0.length
                  · have e : T0 = 300 := by have := HT0.out; omega
                    have hcap : 300 ≤ c5 := by have := CP0.out.1; omega
                    obtain ⟨b, off, hA⟩ := CP0.out.2.2 (by omega)
                    subst hA
                    go_wp2_with fail
                    go_roundw
                    case rel => exact .inr (.inl ⟨rfl, by rw [e]; exact box_at b0 4 (by simp) _, by (exact kKeep), by (exact kKeep), by (exact kKeep), by (exact kKeep), by (exact kKeep), by simpa only [size_setCell] using s0, Lib.hid (own_set_ne ow0.out (fun j hj => by have := (HLT.out j hj).2; omega))⟩)
                    case measure => simp [intOf]
                  · have e : T0 = im.s0.length := by have := HT0.out; omega
                    go_wp2_with fail
                    go_roundw
                    case rel => exact .inr (.inl ⟨rfl, by rw [e]; exact b0, f0, q0, e0, m0, p0, s0, ow0⟩)
                    case measure => simp [intOf]
                · go_upto_if 102 with fail
                  have c0 := box_at b0 5 (by simp) (.slice A6 im.s1.length c6)
                  refine opq (fun w' => (∀ o : Nat, w'.cell? ⟨O, o, none⟩ = (#[.slice A1 L1 c1, .slice Av k cv, .slice A3 L3 c3, .slice A4 LP c4, .slice A5 T0 c5, .slice A6 im.s1.length c6, .slice none 0 0] : Array Value)[o]?) ∧ (∀ o : Nat, w'.frozen? ⟨O, o, none⟩ = false) ∧ (∀ o : Nat, w'.cell? ⟨R, o, none⟩ = (#[.slice none 0 0, .slice none 0 0, .slice none 0 0, .slice none 0 0, .slice none 0 0, .slice none 0 0, .slice none 0 0] : Array Value)[o]?) ∧ (∀ o : Nat, w'.frozen? ⟨R, o, none⟩ = false) ∧ (∀ o : Nat, w'.cell? ⟨Q, o, none⟩ = (#[.slice A1 im.g.ins.length c1, .slice A2 im.g.nodes.length c2, .slice A3 im.g.outs.length c3, .slice A4 im.pl.length c4, .slice A5 im.s0.length c5, .slice A6 im.s1.length c6, .slice A7 im.s2.length c7] : Array Value)[o]?) ∧ Past W1 w' ∧ O + 1 ≤ w'.heap.size ∧ Hid (w'.ownsRow (G + 1) 70 14 (.slice Av k cv) k xs)) ⟨c0, by (exact kKeep), by (exact kKeep), by (exact kKeep), by (exact kKeep), by (exact kKeep), by simpa only [size_setCell] using s0, Lib.hid (own_set_ne ow0.out (fun j hj => by have := (HLT.out j hj).2; omega))⟩ ?_
                  clear b0 f0 q0 e0 m0 p0 s0 ow0 c0
                  rintro w5 ⟨b0, f0, q0, e0, m0, p0, s0, ow0⟩
                  by_cases h : 300 < im.s1.length
                  · have e : T1 = 300 := by have := HT1.out; omega
                    have hcap : 300 ≤ c6 := by have := CP1.out.1; omega
                    obtain ⟨b, off, hA⟩ := CP1.out.2.2 (by omega)
                    subst hA
                    go_wp2_with fail
                    go_roundw
                    case rel => exact .inr (.inr (.inl ⟨rfl, by rw [e]; exact box_at b0 5 (by simp) _, by (exact kKeep), by (exact kKeep), by (exact kKeep), by (exact kKeep), by (exact kKeep), by simpa only [size_setCell] using s0, Lib.hid (own_set_ne ow0.out (fun j hj => by have := (HLT.out j hj).2; omega))⟩))
                    case measure => simp [intOf]
                  · have e : T1 = im.s1.length := by have := HT1.out; omega
                    go_wp2_with fail
                    go_roundw
                    case rel => exact .inr (.inr (.inl ⟨rfl, by rw [e]; exact b0, f0, q0, e0, m0, p0, s0, ow0⟩))
                    case measure => simp [intOf]
                · go_upto_if 102 with fail
                  have c0 := box_at b0 6 (by simp) (.slice A7 im.s2.length c7)
                  refine opq (fun w' => (∀ o : Nat, w'.cell? ⟨O, o, none⟩ = (#[.slice A1 L1 c1, .slice Av k cv, .slice A3 L3 c3, .slice A4 LP c4, .slice A5 T0 c5, .slice A6 T1 c6, .slice A7 im.s2.length c7] : Array Value)[o]?) ∧ (∀ o : Nat, w'.frozen? ⟨O, o, none⟩ = false) ∧ (∀ o : Nat, w'.cell? ⟨R, o, none⟩ = (#[.slice none 0 0, .slice none 0 0, .slice none 0 0, .slice none 0 0, .slice none 0 0, .slice none 0 0, .slice none 0 0] : Array Value)[o]?) ∧ (∀ o : Nat, w'.frozen? ⟨R, o, none⟩ = false) ∧ (∀ o : Nat, w'.cell? ⟨Q, o, none⟩ = (#[.slice A1 im.g.ins.length c1, .slice A2 im.g.nodes.length c2, .slice A3 im.g.outs.length c3, .slice A4 im.pl.length c4, .slice A5 im.s0.length c5, .slice A6 im.s1.length c6, .slice A7 im.s2.length c7] : Array Value)[o]?) ∧ Past W1 w' ∧ O + 1 ≤ w'.heap.size ∧ Hid (w'.ownsRow (G + 1) 70 14 (.slice Av k cv) k xs)) ⟨c0, by (exact kKeep), by (exact kKeep), by (exact kKeep), by (exact kKeep), by (exact kKeep), by simpa only [size_setCell] using s0, Lib.hid (own_set_ne ow0.out (fun j hj => by have := (HLT.out j hj).2; omega))⟩ ?_
                  clear b0 f0 q0 e0 m0 p0 s0 ow0 c0
                  rintro w5 ⟨b0, f0, q0, e0, m0, p0, s0, ow0⟩
                  by_cases h : 300 < im.s2.length
                  · have e : T2 = 300 := by have := HT2.out; omega
                    have hcap : 300 ≤ c7 := by have := CP2.out.1; omega
                    obtain ⟨b, off, hA⟩ := CP2.out.2.2 (by omega)
                    subst hA
                    go_wp2_with fail
                    go_roundw
                    case rel => exact .inr (.inr (.inr ⟨rfl, by rw [e]; exact box_at b0 6 (by simp) _, by (exact kKeep), by (exact kKeep), by (exact kKeep), by (exact kKeep), by (exact kKeep), by simpa only [size_setCell] using s0, Lib.hid (own_set_ne ow0.out (fun j hj => by have := (HLT.out j hj).2; omega))⟩))
                    case measure => simp [intOf]
                  · have e : T2 = im.s2.length := by have := HT2.out; omega
                    go_wp2_with fail
                    go_roundw
                    case rel => exact .inr (.inr (.inr ⟨rfl, by rw [e]; exact b0, f0, q0, e0, m0, p0, s0, ow0⟩))
                    case measure => simp [intOf]
                · go_wp2_with fail
                  have q9 := box_set7 q0 (y0 := .slice A1 L1 c1) (y1 := .slice Av k cv) (y2 := .slice A3 L3 c3) (y3 := .slice A4 LP c4) (y4 := .slice A5 T0 c5) (y5 := .slice A6 T1 c6) (y6 := .slice A7 T2 c7)
                  have IG0 := FIN.out _ _ _ ow0.out p0
                  have sv := ((((((((Save.refl R wr).set 0 (.slice A1 L1 c1)).set 1 (.slice Av k cv)).set 2 (.slice A3 L3 c3)).set 3 (.slice A4 LP c4)).set 4 (.slice A5 T0 c5)).set 5 (.slice A6 T1 c6)).set 6 (.slice A7 T2 c7))
                  have IG := Lib.hid (graph_save IG0 (noInt7 q0) sv)
                  have pW := PW.out.trans p0
                  have p9 : Past W (((((((wr.setCell ⟨R, 0, none⟩ (.slice A1 L1 c1)).setCell ⟨R, 1, none⟩ (.slice Av k cv)).setCell ⟨R, 2, none⟩ (.slice A3 L3 c3)).setCell ⟨R, 3, none⟩ (.slice A4 LP c4)).setCell ⟨R, 4, none⟩ (.slice A5 T0 c5)).setCell ⟨R, 5, none⟩ (.slice A6 T1 c6)).setCell ⟨R, 6, none⟩ (.slice A7 T2 c7)) := ((((((((((((((pW).setCell (p := ⟨R, 0, none⟩) (by simp only; omega) _)).setCell (p := ⟨R, 1, none⟩) (by simp only; omega) _)).setCell (p := ⟨R, 2, none⟩) (by simp only; omega) _)).setCell (p := ⟨R, 3, none⟩) (by simp only; omega) _)).setCell (p := ⟨R, 4, none⟩) (by simp only; omega) _)).setCell (p := ⟨R, 5, none⟩) (by simp only; omega) _)).setCell (p := ⟨R, 6, none⟩) (by simp only; omega) _)
                  clear q0 b0 f0 e0 m0 p0 s0 ow0 IG0 sv pW
                  generalize (((((((wr.setCell ⟨R, 0, none⟩ (.slice A1 L1 c1)).setCell ⟨R, 1, none⟩ (.slice Av k cv)).setCell ⟨R, 2, none⟩ (.slice A3 L3 c3)).setCell ⟨R, 3, none⟩ (.slice A4 LP c4)).setCell ⟨R, 4, none⟩ (.slice A5 T0 c5)).setCell ⟨R, 5, none⟩ (.slice A6 T1 c6)).setCell ⟨R, 6, none⟩ (.slice A7 T2 c7)) = w9 at *
                  have IP := IPL.out _ p9
                  have J0 := IS0.out _ p9
                  have J1 := IS1.out _ p9
                  have J2 := IS2.out _ p9
                  exact bodyPost_ret (v := .agg #[.slice A1 L1 c1, .slice Av k cv, .slice A3 L3 c3, .slice A4 LP c4, .slice A5 T0 c5, .slice A6 T1 c6, .slice A7 T2 c7]) (by simp [results, Try.results14, go_sem, q9]) rfl ⟨_, rfl, ⟨_, _, _, _, _, _, _, rfl, IG.out, IP, J0, J1, J2⟩, p9⟩
          · have d1 : decide ((k : Int) < (im.g.nodes.length : Int)) = false := by simp; omega
            go_upto_region 19 with fail
            have hGO : G + 2 ≤ wr.heap.size := s1
            have HLT : Hid (∀ j, (Value.slice Av k cv).ownBlock = some j → G + 1 ≤ j ∧ j < wr.heap.size) := Lib.hid (World.ownsRow.lt own.out)
            obtain ⟨O, hO⟩ : ∃ O, wr.heap.size = O := ⟨_, rfl⟩
            rw [hO] at HLT hGO s1
            have m1 := box_past p1 M1.out (by omega)
            refine opq (fun w' => (∀ o : Nat, w'.cell? ⟨G, o, none⟩ = (#[.slice A1 L1 c1, .slice Av k cv, .slice A3 L3 c3] : Array Value)[o]?) ∧ (∀ o : Nat, w'.cell? ⟨R, o, none⟩ = (#[.slice none 0 0, .slice none 0 0, .slice none 0 0, .slice none 0 0, .slice none 0 0, .slice none 0 0, .slice none 0 0] : Array Value)[o]?) ∧ (∀ o : Nat, w'.frozen? ⟨R, o, none⟩ = false) ∧ (∀ o : Nat, w'.cell? ⟨Q, o, none⟩ = (#[.slice A1 im.g.ins.length c1, .slice A2 im.g.nodes.length c2, .slice A3 im.g.outs.length c3, .slice A4 im.pl.length c4, .slice A5 im.s0.length c5, .slice A6 im.s1.length c6, .slice A7 im.s2.length c7] : Array Value)[o]?) ∧ Past W1 w' ∧ w'.heap.size = O ∧ Hid (w'.ownsRow (G + 1) 70 14 (.slice Av k cv) k xs)) ⟨box_at b1 1 (by simp) _, by (exact kKeep), by (exact kKeep), by (exact kKeep), by (exact kKeep), by simpa [World.setCell] using hO, Lib.hid (own_set_ne own.out (fun j hj => by have := (HLT.out j hj).1; omega))⟩ ?_
            clear b1 f1 q1 e1 m1 p1 s1 own hO
            rintro w3 ⟨g3, q3, e3, m3, p3, hO, ow3⟩
            go_upto_region 20 with fail
            refine opq (fun w' => (∀ o : Nat, w'.cell? ⟨O, o, none⟩ = (#[.slice A1 L1 c1, .slice Av k cv, .slice A3 L3 c3, .slice A4 im.pl.length c4, .slice none 0 0, .slice none 0 0, .slice none 0 0] : Array Value)[o]?) ∧ (∀ o : Nat, w'.frozen? ⟨O, o, none⟩ = false) ∧ (∀ o : Nat, w'.cell? ⟨R, o, none⟩ = (#[.slice none 0 0, .slice none 0 0, .slice none 0 0, .slice none 0 0, .slice none 0 0, .slice none 0 0, .slice none 0 0] : Array Value)[o]?) ∧ (∀ o : Nat, w'.frozen? ⟨R, o, none⟩ = false) ∧ (∀ o : Nat, w'.cell? ⟨Q, o, none⟩ = (#[.slice A1 im.g.ins.length c1, .slice A2 im.g.nodes.length c2, .slice A3 im.g.outs.length c3, .slice A4 im.pl.length c4, .slice A5 im.s0.length c5, .slice A6 im.s1.length c6, .slice A7 im.s2.length c7] : Array Value)[o]?) ∧ Past W1 w' ∧ O + 1 ≤ w'.heap.size ∧ Hid (w'.ownsRow (G + 1) 70 14 (.slice Av k cv) k xs)) (by
              subst hO
              exact ⟨by (exact kKeep), by (exact kKeep), by (exact kKeep), by (exact kKeep), by (exact kKeep), by (exact kKeep), by simp, Lib.hid (World.ownsRow.alloc ow3.out _)⟩) ?_
            rintro w4 ⟨b0, f0, q0, e0, m0, p0, s0, ow0⟩
            try rw [hO]
            clear g3 q3 e3 m3 p3 ow3 hO
            go_upto_if 81 with fail
            go_cut [] (fun w' => (∀ o : Nat, w'.cell? ⟨O, o, none⟩ = (#[.slice A1 L1 c1, .slice Av k cv, .slice A3 L3 c3, .slice A4 LP c4, .slice none 0 0, .slice none 0 0, .slice none 0 0] : Array Value)[o]?) ∧ (∀ o : Nat, w'.frozen? ⟨O, o, none⟩ = false) ∧ (∀ o : Nat, w'.cell? ⟨R, o, none⟩ = (#[.slice none 0 0, .slice none 0 0, .slice none 0 0, .slice none 0 0, .slice none 0 0, .slice none 0 0, .slice none 0 0] : Array Value)[o]?) ∧ (∀ o : Nat, w'.frozen? ⟨R, o, none⟩ = false) ∧ (∀ o : Nat, w'.cell? ⟨Q, o, none⟩ = (#[.slice A1 im.g.ins.length c1, .slice A2 im.g.nodes.length c2, .slice A3 im.g.outs.length c3, .slice A4 im.pl.length c4, .slice A5 im.s0.length c5, .slice A6 im.s1.length c6, .slice A7 im.s2.length c7] : Array Value)[o]?) ∧ Past W1 w' ∧ O + 1 ≤ w'.heap.size ∧ Hid (w'.ownsRow (G + 1) 70 14 (.slice Av k cv) k xs))
            case first =>
              by_cases h : 30 < im.pl.length
              · have e : LP = 30 := by have := HLP.out; omega
                have hcap : 30 ≤ c4 := by have := CPL.out.1; omega
                obtain ⟨b, off, hA⟩ := CPL.out.2.2 (by omega)
                subst hA
                go_wp2_with fail
                go_meet
                exact ⟨by rw [e]; exact box_at b0 3 (by simp) _, by (exact kKeep), by (exact kKeep), by (exact kKeep), by (exact kKeep), by (exact kKeep), by simpa only [size_setCell] using s0, Lib.hid (own_set_ne ow0.out (fun j hj => by have := (HLT.out j hj).2; omega))⟩
              · have e : LP = im.pl.length := by have := HLP.out; omega
                go_wp2_with fail
                go_meet
                exact ⟨by rw [e]; exact b0, f0, q0, e0, m0, p0, s0, ow0⟩
            case rest =>
              clear b0 f0 q0 e0 m0 p0 s0 ow0
              obtain ⟨b0, f0, q0, e0, m0, p0, s0, ow0⟩ := hcut
              go_wp2_with fail
              go_loopw [8] (fun j wr => (j = .int .i64 0 ∧ (∀ o : Nat, wr.cell? ⟨O, o, none⟩ = (#[.slice A1 L1 c1, .slice Av k cv, .slice A3 L3 c3, .slice A4 LP c4, .slice none 0 0, .slice none 0 0, .slice none 0 0] : Array Value)[o]?) ∧ (∀ o : Nat, wr.frozen? ⟨O, o, none⟩ = false) ∧ (∀ o : Nat, wr.cell? ⟨R, o, none⟩ = (#[.slice none 0 0, .slice none 0 0, .slice none 0 0, .slice none 0 0, .slice none 0 0, .slice none 0 0, .slice none 0 0] : Array Value)[o]?) ∧ (∀ o : Nat, wr.frozen? ⟨R, o, none⟩ = false) ∧ (∀ o : Nat, wr.cell? ⟨Q, o, none⟩ = (#[.slice A1 im.g.ins.length c1, .slice A2 im.g.nodes.length c2, .slice A3 im.g.outs.length c3, .slice A4 im.pl.length c4, .slice A5 im.s0.length c5, .slice A6 im.s1.length c6, .slice A7 im.s2.length c7] : Array Value)[o]?) ∧ Past W1 wr ∧ O + 1 ≤ wr.heap.size ∧ Hid (wr.ownsRow (G + 1) 70 14 (.slice Av k cv) k xs)) ∨ (j = .int .i64 1 ∧ (∀ o : Nat, wr.cell? ⟨O, o, none⟩ = (#[.slice A1 L1 c1, .slice Av k cv, .slice A3 L3 c3, .slice A4 LP c4, .slice A5 T0 c5, .slice none 0 0, .slice none 0 0] : Array Value)[o]?) ∧ (∀ o : Nat, wr.frozen? ⟨O, o, none⟩ = false) ∧ (∀ o : Nat, wr.cell? ⟨R, o, none⟩ = (#[.slice none 0 0, .slice none 0 0, .slice none 0 0, .slice none 0 0, .slice none 0 0, .slice none 0 0, .slice none 0 0] : Array Value)[o]?) ∧ (∀ o : Nat, wr.frozen? ⟨R, o, none⟩ = false) ∧ (∀ o : Nat, wr.cell? ⟨Q, o, none⟩ = (#[.slice A1 im.g.ins.length c1, .slice A2 im.g.nodes.length c2, .slice A3 im.g.outs.length c3, .slice A4 im.pl.length c4, .slice A5 im.s0.length c5, .slice A6 im.s1.length c6, .slice A7 im.s2.length c7] : Array Value)[o]?) ∧ Past W1 wr ∧ O + 1 ≤ wr.heap.size ∧ Hid (wr.ownsRow (G + 1) 70 14 (.slice Av k cv) k xs)) ∨ (j = .int .i64 2 ∧ (∀ o : Nat, wr.cell? ⟨O, o, none⟩ = (#[.slice A1 L1 c1, .slice Av k cv, .slice A3 L3 c3, .slice A4 LP c4, .slice A5 T0 c5, .slice A6 T1 c6, .slice none 0 0] : Array Value)[o]?) ∧ (∀ o : Nat, wr.frozen? ⟨O, o, none⟩ = false) ∧ (∀ o : Nat, wr.cell? ⟨R, o, none⟩ = (#[.slice none 0 0, .slice none 0 0, .slice none 0 0, .slice none 0 0, .slice none 0 0, .slice none 0 0, .slice none 0 0] : Array Value)[o]?) ∧ (∀ o : Nat, wr.frozen? ⟨R, o, none⟩ = false) ∧ (∀ o : Nat, wr.cell? ⟨Q, o, none⟩ = (#[.slice A1 im.g.ins.length c1, .slice A2 im.g.nodes.length c2, .slice A3 im.g.outs.length c3, .slice A4 im.pl.length c4, .slice A5 im.s0.length c5, .slice A6 im.s1.length c6, .slice A7 im.s2.length c7] : Array Value)[o]?) ∧ Past W1 wr ∧ O + 1 ≤ wr.heap.size ∧ Hid (wr.ownsRow (G + 1) 70 14 (.slice Av k cv) k xs)) ∨ (j = .int .i64 3 ∧ (∀ o : Nat, wr.cell? ⟨O, o, none⟩ = (#[.slice A1 L1 c1, .slice Av k cv, .slice A3 L3 c3, .slice A4 LP c4, .slice A5 T0 c5, .slice A6 T1 c6, .slice A7 T2 c7] : Array Value)[o]?) ∧ (∀ o : Nat, wr.frozen? ⟨O, o, none⟩ = false) ∧ (∀ o : Nat, wr.cell? ⟨R, o, none⟩ = (#[.slice none 0 0, .slice none 0 0, .slice none 0 0, .slice none 0 0, .slice none 0 0, .slice none 0 0, .slice none 0 0] : Array Value)[o]?) ∧ (∀ o : Nat, wr.frozen? ⟨R, o, none⟩ = false) ∧ (∀ o : Nat, wr.cell? ⟨Q, o, none⟩ = (#[.slice A1 im.g.ins.length c1, .slice A2 im.g.nodes.length c2, .slice A3 im.g.outs.length c3, .slice A4 im.pl.length c4, .slice A5 im.s0.length c5, .slice A6 im.s1.length c6, .slice A7 im.s2.length c7] : Array Value)[o]?) ∧ Past W1 wr ∧ O + 1 ≤ wr.heap.size ∧ Hid (wr.ownsRow (G + 1) 70 14 (.slice Av k cv) k xs))) (fun j _ => 3 - (intOf j).toNat)
              case atStart => exact .inl ⟨rfl, b0, f0, q0, e0, m0, p0, s0, ow0⟩
              case round =>
                clear b0 f0 q0 e0 m0 p0 s0 ow0
                rcases hrel with ⟨rfl, b0, f0, q0, e0, m0, p0, s0, ow0⟩ | ⟨rfl, b0, f0, q0, e0, m0, p0, s0, ow0⟩ | ⟨rfl, b0, f0, q0, e0, m0, p0, s0, ow0⟩ | ⟨rfl, b0, f0, q0, e0, m0, p0, s0, ow0⟩
                · go_upto_if 102 with fail
                  have c0 := box_at b0 4 (by simp) (.slice A5 im.s0.length c5)
                  refine opq (fun w' => (∀ o : Nat, w'.cell? ⟨O, o, none⟩ = (#[.slice A1 L1 c1, .slice Av k cv, .slice A3 L3 c3, .slice A4 LP c4, .slice A5 im.s0.length c5, .slice none 0 0, .slice none 0 0] : Array Value)[o]?) ∧ (∀ o : Nat, w'.frozen? ⟨O, o, none⟩ = false) ∧ (∀ o : Nat, w'.cell? ⟨R, o, none⟩ = (#[.slice none 0 0, .slice none 0 0, .slice none 0 0, .slice none 0 0, .slice none 0 0, .slice none 0 0, .slice none 0 0] : Array Value)[o]?) ∧ (∀ o : Nat, w'.frozen? ⟨R, o, none⟩ = false) ∧ (∀ o : Nat, w'.cell? ⟨Q, o, none⟩ = (#[.slice A1 im.g.ins.length c1, .slice A2 im.g.nodes.length c2, .slice A3 im.g.outs.length c3, .slice A4 im.pl.length c4, .slice A5 im.s0.length c5, .slice A6 im.s1.length c6, .slice A7 im.s2.length c7] : Array Value)[o]?) ∧ Past W1 w' ∧ O + 1 ≤ w'.heap.size ∧ Hid (w'.ownsRow (G + 1) 70 14 (.slice Av k cv) k xs)) ⟨c0, by (exact kKeep), by (exact kKeep), by (exact kKeep), by (exact kKeep), by (exact kKeep), by simpa only [size_setCell] using s0, Lib.hid (own_set_ne ow0.out (fun j hj => by have := (HLT.out j hj).2; omega))⟩ ?_
                  clear b0 f0 q0 e0 m0 p0 s0 ow0 c0
                  rintro w5 ⟨b0, f0, q0, e0, m0, p0, s0, ow0⟩
                  by_cases h : 300 < im.s0.length
                  · have e : T0 = 300 := by have := HT0.out; omega
                    have hcap : 300 ≤ c5 := by have := CP0.out.1; omega
                    obtain ⟨b, off, hA⟩ := CP0.out.2.2 (by omega)
                    subst hA
                    go_wp2_with fail
                    go_roundw
                    case rel => exact .inr (.inl ⟨rfl, by rw [e]; exact box_at b0 4 (by simp) _, by (exact kKeep), by (exact kKeep), by (exact kKeep), by (exact kKeep), by (exact kKeep), by simpa only [size_setCell] using s0, Lib.hid (own_set_ne ow0.out (fun j hj => by have := (HLT.out j hj).2; omega))⟩)
                    case measure => simp [intOf]
                  · have e : T0 = im.s0.length := by have := HT0.out; omega
                    go_wp2_with fail
                    go_roundw
                    case rel => exact .inr (.inl ⟨rfl, by rw [e]; exact b0, f0, q0, e0, m0, p0, s0, ow0⟩)
                    case measure => simp [intOf]
                · go_upto_if 102 with fail
                  have c0 := box_at b0 5 (by simp) (.slice A6 im.s1.length c6)
                  refine opq (fun w' => (∀ o : Nat, w'.cell? ⟨O, o, none⟩ = (#[.slice A1 L1 c1, .slice Av k cv, .slice A3 L3 c3, .slice A4 LP c4, .slice A5 T0 c5, .slice A6 im.s1.length c6, .slice none 0 0] : Array Value)[o]?) ∧ (∀ o : Nat, w'.frozen? ⟨O, o, none⟩ = false) ∧ (∀ o : Nat, w'.cell? ⟨R, o, none⟩ = (#[.slice none 0 0, .slice none 0 0, .slice none 0 0, .slice none 0 0, .slice none 0 0, .slice none 0 0, .slice none 0 0] : Array Value)[o]?) ∧ (∀ o : Nat, w'.frozen? ⟨R, o, none⟩ = false) ∧ (∀ o : Nat, w'.cell? ⟨Q, o, none⟩ = (#[.slice A1 im.g.ins.length c1, .slice A2 im.g.nodes.length c2, .slice A3 im.g.outs.length c3, .slice A4 im.pl.length c4, .slice A5 im.s0.length c5, .slice A6 im.s1.length c6, .slice A7 im.s2.length c7] : Array Value)[o]?) ∧ Past W1 w' ∧ O + 1 ≤ w'.heap.size ∧ Hid (w'.ownsRow (G + 1) 70 14 (.slice Av k cv) k xs)) ⟨c0, by (exact kKeep), by (exact kKeep), by (exact kKeep), by (exact kKeep), by (exact kKeep), by simpa only [size_setCell] using s0, Lib.hid (own_set_ne ow0.out (fun j hj => by have := (HLT.out j hj).2; omega))⟩ ?_
                  clear b0 f0 q0 e0 m0 p0 s0 ow0 c0
                  rintro w5 ⟨b0, f0, q0, e0, m0, p0, s0, ow0⟩
                  by_cases h : 300 < im.s1.length
                  · have e : T1 = 300 := by have := HT1.out; omega
                    have hcap : 300 ≤ c6 := by have := CP1.out.1; omega
                    obtain ⟨b, off, hA⟩ := CP1.out.2.2 (by omega)
                    subst hA
                    go_wp2_with fail
                    go_roundw
                    case rel => exact .inr (.inr (.inl ⟨rfl, by rw [e]; exact box_at b0 5 (by simp) _, by (exact kKeep), by (exact kKeep), by (exact kKeep), by (exact kKeep), by (exact kKeep), by simpa only [size_setCell] using s0, Lib.hid (own_set_ne ow0.out (fun j hj => by have := (HLT.out j hj).2; omega))⟩))
                    case measure => simp [intOf]
                  · have e : T1 = im.s1.length := by have := HT1.out; omega
                    go_wp2_with fail
                    go_roundw
                    case rel => exact .inr (.inr (.inl ⟨rfl, by rw [e]; exact b0, f0, q0, e0, m0, p0, s0, ow0⟩))
                    case measure => simp [intOf]
                · go_upto_if 102 with fail
                  have c0 := box_at b0 6 (by simp) (.slice A7 im.s2.length c7)
                  refine opq (fun w' => (∀ o : Nat, w'.cell? ⟨O, o, none⟩ = (#[.slice A1 L1 c1, .slice Av k cv, .slice A3 L3 c3, .slice A4 LP c4, .slice A5 T0 c5, .slice A6 T1 c6, .slice A7 im.s2.length c7] : Array Value)[o]?) ∧ (∀ o : Nat, w'.frozen? ⟨O, o, none⟩ = false) ∧ (∀ o : Nat, w'.cell? ⟨R, o, none⟩ = (#[.slice none 0 0, .slice none 0 0, .slice none 0 0, .slice none 0 0, .slice none 0 0, .slice none 0 0, .slice none 0 0] : Array Value)[o]?) ∧ (∀ o : Nat, w'.frozen? ⟨R, o, none⟩ = false) ∧ (∀ o : Nat, w'.cell? ⟨Q, o, none⟩ = (#[.slice A1 im.g.ins.length c1, .slice A2 im.g.nodes.length c2, .slice A3 im.g.outs.length c3, .slice A4 im.pl.length c4, .slice A5 im.s0.length c5, .slice A6 im.s1.length c6, .slice A7 im.s2.length c7] : Array Value)[o]?) ∧ Past W1 w' ∧ O + 1 ≤ w'.heap.size ∧ Hid (w'.ownsRow (G + 1) 70 14 (.slice Av k cv) k xs)) ⟨c0, by (exact kKeep), by (exact kKeep), by (exact kKeep), by (exact kKeep), by (exact kKeep), by simpa only [size_setCell] using s0, Lib.hid (own_set_ne ow0.out (fun j hj => by have := (HLT.out j hj).2; omega))⟩ ?_
                  clear b0 f0 q0 e0 m0 p0 s0 ow0 c0
                  rintro w5 ⟨b0, f0, q0, e0, m0, p0, s0, ow0⟩
                  by_cases h : 300 < im.s2.length
                  · have e : T2 = 300 := by have := HT2.out; omega
                    have hcap : 300 ≤ c7 := by have := CP2.out.1; omega
                    obtain ⟨b, off, hA⟩ := CP2.out.2.2 (by omega)
                    subst hA
                    go_wp2_with fail
                    go_roundw
                    case rel => exact .inr (.inr (.inr ⟨rfl, by rw [e]; exact box_at b0 6 (by simp) _, by (exact kKeep), by (exact kKeep), by (exact kKeep), by (exact kKeep), by (exact kKeep), by simpa only [size_setCell] using s0, Lib.hid (own_set_ne ow0.out (fun j hj => by have := (HLT.out j hj).2; omega))⟩))
                    case measure => simp [intOf]
                  · have e : T2 = im.s2.length := by have := HT2.out; omega
                    go_wp2_with fail
                    go_roundw
                    case rel => exact .inr (.inr (.inr ⟨rfl, by rw [e]; exact b0, f0, q0, e0, m0, p0, s0, ow0⟩))
                    case measure => simp [intOf]
                · go_wp2_with fail
                  have q9 := box_set7 q0 (y0 := .slice A1 L1 c1) (y1 := .slice Av k cv) (y2 := .slice A3 L3 c3) (y3 := .slice A4 LP c4) (y4 := .slice A5 T0 c5) (y5 := .slice A6 T1 c6) (y6 := .slice A7 T2 c7)
                  have IG0 := FIN.out _ _ _ ow0.out p0
                  have sv := ((((((((Save.refl R wr).set 0 (.slice A1 L1 c1)).set 1 (.slice Av k cv)).set 2 (.slice A3 L3 c3)).set 3 (.slice A4 LP c4)).set 4 (.slice A5 T0 c5)).set 5 (.slice A6 T1 c6)).set 6 (.slice A7 T2 c7))
                  have IG := Lib.hid (graph_save IG0 (noInt7 q0) sv)
                  have pW := PW.out.trans p0
                  have p9 : Past W (((((((wr.setCell ⟨R, 0, none⟩ (.slice A1 L1 c1)).setCell ⟨R, 1, none⟩ (.slice Av k cv)).setCell ⟨R, 2, none⟩ (.slice A3 L3 c3)).setCell ⟨R, 3, none⟩ (.slice A4 LP c4)).setCell ⟨R, 4, none⟩ (.slice A5 T0 c5)).setCell ⟨R, 5, none⟩ (.slice A6 T1 c6)).setCell ⟨R, 6, none⟩ (.slice A7 T2 c7)) := ((((((((((((((pW).setCell (p := ⟨R, 0, none⟩) (by simp only; omega) _)).setCell (p := ⟨R, 1, none⟩) (by simp only; omega) _)).setCell (p := ⟨R, 2, none⟩) (by simp only; omega) _)).setCell (p := ⟨R, 3, none⟩) (by simp only; omega) _)).setCell (p := ⟨R, 4, none⟩) (by simp only; omega) _)).setCell (p := ⟨R, 5, none⟩) (by simp only; omega) _)).setCell (p := ⟨R, 6, none⟩) (by simp only; omega) _)
                  clear q0 b0 f0 e0 m0 p0 s0 ow0 IG0 sv pW
                  generalize (((((((wr.setCell ⟨R, 0, none⟩ (.slice A1 L1 c1)).setCell ⟨R, 1, none⟩ (.slice Av k cv)).setCell ⟨R, 2, none⟩ (.slice A3 L3 c3)).setCell ⟨R, 3, none⟩ (.slice A4 LP c4)).setCell ⟨R, 4, none⟩ (.slice A5 T0 c5)).setCell ⟨R, 5, none⟩ (.slice A6 T1 c6)).setCell ⟨R, 6, none⟩ (.slice A7 T2 c7)) = w9 at *
                  have IP := IPL.out _ p9
                  have J0 := IS0.out _ p9
                  have J1 := IS1.out _ p9
                  have J2 := IS2.out _ p9
                  exact bodyPost_ret (v := .agg #[.slice A1 L1 c1, .slice Av k cv, .slice A3 L3 c3, .slice A4 LP c4, .slice A5 T0 c5, .slice A6 T1 c6, .slice A7 T2 c7]) (by simp [results, Try.results14, go_sem, q9]) rfl ⟨_, rfl, ⟨_, _, _, _, _, _, _, rfl, IG.out, IP, J0, J1, J2⟩, p9⟩
end Go.Proofs.Ytejllmjkeefloaa
