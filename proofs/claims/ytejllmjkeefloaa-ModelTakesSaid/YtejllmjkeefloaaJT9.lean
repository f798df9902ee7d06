/- The reference of layer 4: Whole. -/
import Derived.Deep.DeepCutAuto
import Derived.Test.YtejllmjkeefloaaJT8
namespace Go.Proofs.Ytejllmjkeefloaa
open Go.ChangeShapes Go.WideShapes Go.ChangeAt Go.RowKit
set_option maxRecDepth 20000
set_option linter.unusedVariables false
set_option linter.unusedSimpArgs false
set_option maxHeartbeats 8000000 in
theorem qwhole_any (bv : Value) (bs : List Int) (W : World) (hb : IsNums .u8 W bv bs) (hl : bs.length ≤ 100000) : Calls Try.prog 11 #[bv] W (WholePost bs W) := by
  have HB := Lib.hid hb
  obtain ⟨A, cap, rfl, _, _, _, _, _⟩ := hb
  have hm : bs.length ≤ 9223372036854775807 := by omega
  have TK := Lib.hid (fun w (p : Past W w) => qtake_any _ bs w (HB.out.grow p) hl)
  unfold TakePost at TK
  obtain ⟨r, hr⟩ : ∃ x, graphR ⟨bs, false⟩ = x := ⟨_, rfl⟩
  have HR := Lib.hid hr
  rw [hr] at TK
  clear hr
  go_enter Try.func11, Try.ntmps11
  go_upto_region 1 with fail
  obtain ⟨Q, hQ⟩ : ∃ Q, W.heap.size = Q := ⟨_, rfl⟩
  refine opq (fun w' => (∀ o : Nat, w'.cell? ⟨Q, o, none⟩ = (#[.slice none 0 0, .slice none 0 0, .slice none 0 0] : Array Value)[o]?) ∧ (∀ o : Nat, w'.frozen? ⟨Q, o, none⟩ = false) ∧ Past W w' ∧ Q + 1 ≤ w'.heap.size) (by
    subst hQ
    exact ⟨by (exact kKeep), by (exact kKeep), by (exact kKeep), by (exact kKeep)⟩) ?_
  rintro w0 ⟨q0, f0, p0, s0⟩
  try rw [hQ]
  go_wp2_with fail
  refine (TK.out _ p0).mono ?_
  rintro e w1 H
  rcases H with ⟨hT, gv, rfl, ig, pp1⟩ | ⟨hT, rfl, pp1⟩
  · have q1 := box_past pp1 q0 (by omega)
    have f1 := free_past pp1 f0 (by omega)
    have p1 := p0.trans pp1
    have s1 : Q + 1 ≤ w1.heap.size := by have := pp1.2.2.1; omega
    have IG := Lib.hid ig
    have HT := Lib.hid hT
    obtain ⟨iv, nv, ov, rfl, hi, hn, ho⟩ := ig
    obtain ⟨A1, c1, rfl, _, _, _, _, _⟩ := hi
    obtain ⟨A2, c2, rfl, _, _, _, _, _⟩ := hn
    obtain ⟨A3, c3, rfl, _, _, _, _, _⟩ := ho
    clear q0 f0 p0 s0 pp1 TK hT
    obtain ⟨S, hS⟩ : ∃ S, w1.heap.size = S := ⟨_, rfl⟩
    go_upto_region 2 with fail
    refine opq (fun w' => (∀ o : Nat, w'.cell? ⟨Q, o, none⟩ = (#[.slice none 0 0, .slice none 0 0, .slice none 0 0] : Array Value)[o]?) ∧ (∀ o : Nat, w'.frozen? ⟨Q, o, none⟩ = false) ∧ (∀ o : Nat, w'.cell? ⟨S, o, none⟩ = (#[.slice A1 r.1.ins.length c1, .slice A2 r.1.nodes.length c2, .slice A3 r.1.outs.length c3] : Array Value)[o]?) ∧ Past W w' ∧ Past w1 w' ∧ S + 1 ≤ w'.heap.size) (by
      subst hS
      exact ⟨by (exact kKeep), by (exact kKeep), by (exact kKeep), by (exact kKeep), by (exact kKeep), by (exact kKeep)⟩) ?_
    rintro w2 ⟨q2, f2, x2, p2, pp2, s2⟩
    have IG2 := Lib.hid (IG.out.grow pp2)
    have hQS : Q + 1 ≤ S := by omega
    clear q1 f1 p1 s1 pp2 IG
    by_cases h0 : r.2.rest.length = 0
    · have e1 : (((bs.length : Int) - (r.2.rest.length : Int)) != (bs.length : Int)) = false := by rw [h0]; simp
      have YW : Hid (WholeP bs) := Lib.hid ⟨HT.out, by rw [HR.out]; exact List.eq_nil_of_length_eq_zero h0⟩
      clear h0
      go_wp2_with fail
      have hN : NoInt w2 Q := noInt_box q2
      have IG4 := Lib.hid (graph_save IG2.out hN (((Save.refl Q w2).set 0 (.slice A1 r.1.ins.length c1)).set 1 (.slice A2 r.1.nodes.length c2) |>.set 2 (.slice A3 r.1.outs.length c3)))
      have b4 := box_set3 (y0 := .slice A1 r.1.ins.length c1) (y1 := .slice A2 r.1.nodes.length c2) (y2 := .slice A3 r.1.outs.length c3) q2
      have p4 : Past W (((w2.setCell ⟨Q, 0, none⟩ (.slice A1 r.1.ins.length c1)).setCell ⟨Q, 1, none⟩ (.slice A2 r.1.nodes.length c2)).setCell ⟨Q, 2, none⟩ (.slice A3 r.1.outs.length c3)) := ((p2.setCell (p := ⟨Q, 0, none⟩) (by simp only; omega) _).setCell (p := ⟨Q, 1, none⟩) (by simp only; omega) _).setCell (p := ⟨Q, 2, none⟩) (by simp only; omega) _
      clear q2 p2 hN x2 f2
      generalize (((w2.setCell ⟨Q, 0, none⟩ (.slice A1 r.1.ins.length c1)).setCell ⟨Q, 1, none⟩ (.slice A2 r.1.nodes.length c2)).setCell ⟨Q, 2, none⟩ (.slice A3 r.1.outs.length c3)) = w9 at *
      exact bodyPost_ret (v := .tuple #[.agg #[.slice A1 r.1.ins.length c1, .slice A2 r.1.nodes.length c2, .slice A3 r.1.outs.length c3], .int .i64 0]) (by simp [results, Try.results11, go_sem, b4]) rfl (.inl ⟨YW.out, by rw [HR.out]; exact ⟨_, rfl, IG4.out, p4⟩⟩)
    · have e1 : (((bs.length : Int) - (r.2.rest.length : Int)) != (bs.length : Int)) = true := by simp; omega
      have NT : Hid (¬ WholeP bs) := Lib.hid (fun f => h0 (by have := f.2; rw [HR.out] at this; rw [this]; rfl))
      clear h0
      go_wp2_with fail
      have b4 := box_set3 (y0 := .slice none 0 0) (y1 := .slice none 0 0) (y2 := .slice none 0 0) q2
      have p4 : Past W (((w2.setCell ⟨Q, 0, none⟩ (.slice none 0 0)).setCell ⟨Q, 1, none⟩ (.slice none 0 0)).setCell ⟨Q, 2, none⟩ (.slice none 0 0)) := ((p2.setCell (p := ⟨Q, 0, none⟩) (by simp only; omega) _).setCell (p := ⟨Q, 1, none⟩) (by simp only; omega) _).setCell (p := ⟨Q, 2, none⟩) (by simp only; omega) _
      clear q2 p2
      generalize (((w2.setCell ⟨Q, 0, none⟩ (.slice none 0 0)).setCell ⟨Q, 1, none⟩ (.slice none 0 0)).setCell ⟨Q, 2, none⟩ (.slice none 0 0)) = w9 at *
      exact bodyPost_ret (v := .tuple #[.agg #[.slice none 0 0, .slice none 0 0, .slice none 0 0], .int .i64 2]) (by simp [results, Try.results11, go_sem, b4]) rfl (.inr ⟨NT.out, rfl, p4⟩)
  · have q1 := box_past pp1 q0 (by omega)
    have f1 := free_past pp1 f0 (by omega)
    have p1 := p0.trans pp1
    have s1 : Q + 1 ≤ w1.heap.size := by have := pp1.2.2.1; omega
    have NT : Hid (¬ WholeP bs) := Lib.hid (fun f => hT f.1)
    clear q0 f0 p0 s0 pp1 TK hT
    obtain ⟨S, hS⟩ : ∃ S, w1.heap.size = S := ⟨_, rfl⟩
    go_upto_region 2 with fail
    refine opq (fun w' => (∀ o : Nat, w'.cell? ⟨Q, o, none⟩ = (#[.slice none 0 0, .slice none 0 0, .slice none 0 0] : Array Value)[o]?) ∧ (∀ o : Nat, w'.frozen? ⟨Q, o, none⟩ = false) ∧ Past W w' ∧ S + 1 ≤ w'.heap.size) (by
      subst hS
      exact ⟨by (exact kKeep), by (exact kKeep), by (exact kKeep), by (exact kKeep)⟩) ?_
    rintro w2 ⟨q2, f2, p2, s2⟩
    have hQS : Q + 1 ≤ S := by omega
    clear q1 f1 p1 s1
    go_wp2_with fail
    have b4 := box_set3 (y0 := .slice none 0 0) (y1 := .slice none 0 0) (y2 := .slice none 0 0) q2
    have p4 : Past W (((w2.setCell ⟨Q, 0, none⟩ (.slice none 0 0)).setCell ⟨Q, 1, none⟩ (.slice none 0 0)).setCell ⟨Q, 2, none⟩ (.slice none 0 0)) := ((p2.setCell (p := ⟨Q, 0, none⟩) (by simp only; omega) _).setCell (p := ⟨Q, 1, none⟩) (by simp only; omega) _).setCell (p := ⟨Q, 2, none⟩) (by simp only; omega) _
    clear q2 p2
    generalize (((w2.setCell ⟨Q, 0, none⟩ (.slice none 0 0)).setCell ⟨Q, 1, none⟩ (.slice none 0 0)).setCell ⟨Q, 2, none⟩ (.slice none 0 0)) = w9 at *
    exact bodyPost_ret (v := .tuple #[.agg #[.slice none 0 0, .slice none 0 0, .slice none 0 0], .int .i64 2]) (by simp [results, Try.results11, go_sem, b4]) rfl (.inr ⟨NT.out, rfl, p4⟩)
end Go.Proofs.Ytejllmjkeefloaa
