/- Take. Whole. A graph that may be has numbers that have room in their bytes; what was put and what is taken. -/
import Derived.Test.YtejllmjkeefloaaJN13
import Derived.Test.YtejllmjkeefloaaJP2
namespace Go.Proofs.Ytejllmjkeefloaa
open Go.ChangeShapes Go.WideShapes Go.ChangeAt Go.RowKit
set_option maxRecDepth 20000
set_option linter.unusedVariables false

/-- P4.2: a graph and what is left; or none. -/
def TookP (bs : List Int) : Prop := (graphR ⟨bs, false⟩).2.short = false ∧ valuesE (graphR ⟨bs, false⟩).1 = 0
def TakePost (bs : List Int) (W : World) (e : Ending) (w' : World) : Prop :=
  (TookP bs ∧ ∃ gv, e = .returned (.tuple #[gv, .int .i64 ((bs.length : Int) - ((graphR ⟨bs, false⟩).2.rest.length : Int)), .int .i64 0]) ∧ IsGraph w' gv (graphR ⟨bs, false⟩).1 ∧ Past W w') ∨
  (¬ TookP bs ∧ e = .returned (.tuple #[.agg #[.slice none 0 0, .slice none 0 0, .slice none 0 0], .int .i64 0, .int .i64 2]) ∧ Past W w')
theorem bytes_of_nums {w : World} {A : Option Addr} {cap n : Nat} {bs : List Int} (h : IsNums .u8 w (.slice A n cap) bs) : n = bs.length ∧ Bytes w w.heap.size A cap bs := by
  obtain ⟨A', cap', e, h2, h3, h4, h5, h6⟩ := h
  simp only [Value.slice.injEq] at e
  obtain ⟨rfl, rfl, rfl⟩ := e
  exact ⟨rfl, h2, h3, h5, fun hp => by
    obtain ⟨b, off, e, hb, hc⟩ := h6 hp
    exact ⟨b, off, e, hb, hc⟩⟩
theorem graph_save {B : Nat} {w w' : World} {v : Value} {g : GraphD} (h : IsGraph w v g) (hN : NoInt w B) (k : Save B w w') : IsGraph w' v g := by
  obtain ⟨a, b, c, rfl, h1, h2, h3⟩ := h
  exact ⟨a, b, c, rfl, vals_save h1 hN k, nodes_save h2 hN k, nums_save h3 hN k⟩
set_option maxHeartbeats 8000000 in
theorem take_any (bv : Value) (bs : List Int) (W : World) (hb : IsNums .u8 W bv bs) (hl : bs.length ≤ 1000000000) : Calls Try.prog 8 #[bv] W (TakePost bs W) := by
  have hb0 := hb
  obtain ⟨A, cap, rfl, _, _, _, _, _⟩ := hb
  have BY := Lib.hid (bytes_of_nums hb0).2
  have hm : bs.length ≤ 9223372036854775807 := by omega
  have HB := Lib.hid hb0
  clear hb0
  obtain ⟨r, hr⟩ : ∃ x, graphR ⟨bs, false⟩ = x := ⟨_, rfl⟩
  have HR := Lib.hid hr
  have CU : Hid (Cut r.1) := Lib.hid (by rw [← hr]; exact graphR_cut _ BY.out.bytesP)
  have CG := Lib.hid (fun w P (k : RdAt w W.heap.size P ⟨bs, false⟩) => graph_rd W.heap.size P ⟨bs, false⟩ w k)
  rw [hr] at CG
  clear hr
  go_enter Try.func8, Try.ntmps8
  go_upto_region 2 with fail
  obtain ⟨Q, hQ⟩ : ∃ Q, W.heap.size = Q := ⟨_, rfl⟩
  refine opq (fun w' => (∀ o : Nat, w'.cell? ⟨Q, o, none⟩ = (#[.slice none 0 0, .slice none 0 0, .slice none 0 0] : Array Value)[o]?) ∧ (∀ o : Nat, w'.frozen? ⟨Q, o, none⟩ = false) ∧ Hid (RdAt w' W.heap.size (Q + 1) ⟨bs, false⟩) ∧ Past W w' ∧ Q + 2 ≤ w'.heap.size) (by
    subst hQ
    exact ⟨by (exact kKeep), by (exact kKeep), Lib.hid ⟨A, cap, by (exact kKeep), by (exact kKeep), BY.out.keep (P := W.heap.size + 1) (Keep.of_past (((Past.refl W).alloc _).alloc _)) (by omega) (Nat.le_refl _), by omega, by simp⟩, by (exact kKeep), by (exact kKeep)⟩) ?_
  rintro w0 ⟨q0, f0, R0, p0, s0⟩
  try rw [hQ]
  try simp only [World.size_alloc, hQ]
  go_wp2_with fail
  refine (CG.out _ _ R0.out).mono ?_
  rintro e w1 ⟨gv, rfl, ig, r1, k1⟩
  have IG := Lib.hid ig
  have q1 := box_keep k1 q0 (by omega) (by omega)
  have f1 := free_keep k1 f0 (by omega) (by omega)
  have p1 := k1.past p0 (by omega)
  have s1 : Q + 2 ≤ w1.heap.size := by have := k1.2.2.1; omega
  obtain ⟨iv, nv, ov, rfl, hi, hn, ho⟩ := ig
  obtain ⟨A1, c1, rfl, _, _, _, _, _⟩ := hi
  obtain ⟨A2, c2, rfl, _, _, _, _, _⟩ := hn
  obtain ⟨A3, c3, rfl, _, _, _, _, _⟩ := ho
  obtain ⟨AR, cr, rb, rf, rby, _, _⟩ := r1
  clear q0 f0 R0 p0 s0 k1 CG
  obtain ⟨S, hS⟩ : ∃ S, w1.heap.size = S := ⟨_, rfl⟩
  go_upto_region 3 with fail
  refine opq (fun w' => (∀ o : Nat, w'.cell? ⟨Q, o, none⟩ = (#[.slice none 0 0, .slice none 0 0, .slice none 0 0] : Array Value)[o]?) ∧ (∀ o : Nat, w'.frozen? ⟨Q, o, none⟩ = false) ∧ (∀ o : Nat, w'.cell? ⟨Q + 1, o, none⟩ = (#[.slice AR r.2.rest.length cr, .bool r.2.short] : Array Value)[o]?) ∧ (∀ o : Nat, w'.cell? ⟨S, o, none⟩ = (#[.slice A1 r.1.ins.length c1, .slice A2 r.1.nodes.length c2, .slice A3 r.1.outs.length c3] : Array Value)[o]?) ∧ Past W w' ∧ Past w1 w' ∧ S + 1 ≤ w'.heap.size) (by
    subst hS
    exact ⟨by (exact kKeep), by (exact kKeep), by (exact kKeep), by (exact kKeep), by (exact kKeep), by (exact kKeep), by (exact kKeep)⟩) ?_
  rintro w2 ⟨q2, f2, rb2, x2, p2, pp2, s2⟩
  have IG2 := Lib.hid (IG.out.grow pp2)
  have hQS : Q + 2 ≤ S := by omega
  have hrl : r.2.rest.length ≤ 9223372036854775807 := by have := rby.1; have := rby.2.1; unfold maxLen at this; omega
  clear q1 f1 rb rf p1 s1 pp2 hS IG rby
  rcases Bool.eq_false_or_eq_true r.2.short with hs | hs
  · rw [hs] at rb2
    have NT : Hid (¬ TookP bs) := Lib.hid (by unfold TookP; rw [HR.out]; intro f; rw [hs] at f; cases f.1)
    go_wp2_with fail
    have b4 := box_set3 (y0 := .slice none 0 0) (y1 := .slice none 0 0) (y2 := .slice none 0 0) q2
    have p4 : Past W (((w2.setCell ⟨Q, 0, none⟩ (.slice none 0 0)).setCell ⟨Q, 1, none⟩ (.slice none 0 0)).setCell ⟨Q, 2, none⟩ (.slice none 0 0)) := ((p2.setCell (p := ⟨Q, 0, none⟩) (by simp only; omega) _).setCell (p := ⟨Q, 1, none⟩) (by simp only; omega) _).setCell (p := ⟨Q, 2, none⟩) (by simp only; omega) _
    clear q2 p2
    generalize (((w2.setCell ⟨Q, 0, none⟩ (.slice none 0 0)).setCell ⟨Q, 1, none⟩ (.slice none 0 0)).setCell ⟨Q, 2, none⟩ (.slice none 0 0)) = w9 at *
    exact bodyPost_ret (v := .tuple #[.agg #[.slice none 0 0, .slice none 0 0, .slice none 0 0], .int .i64 0, .int .i64 2]) (by simp [results, Try.results8, go_sem, b4]) rfl (.inr ⟨NT.out, rfl, p4⟩)
  · rw [hs] at rb2
    have CK := Lib.hid (check_any r.1 _ w2 IG2.out CU.out)
    obtain ⟨q, hq⟩ : ∃ q, valuesE r.1 = q := ⟨_, rfl⟩
    rw [hq] at CK
    have HQ := Lib.hid hq
    have HS := Lib.hid hs
    clear hq hs
    go_wp2_with fail
    refine CK.out.mono ?_
    rintro e w3 ⟨rfl, pp3⟩
    have q3 := box_past pp3 q2 (by omega)
    have rb3 := box_past pp3 rb2 (by omega)
    have x3 := box_past pp3 x2 (by omega)
    have p3 := p2.trans pp3
    have f3 := free_past pp3 f2 (by omega)
    have s3 : S + 1 ≤ w3.heap.size := by have := pp3.2.2.1; omega
    have IG3 := Lib.hid (IG2.out.grow pp3)
    clear q2 rb2 x2 p2 f2 s2 pp3 IG2 CK
    cases e0 : (q == 0) with
    | false =>
      have e1 : (q != 0) = true := by simp [bne, e0]
      have q0 : q ≠ 0 := by simpa using e0
      have NT : Hid (¬ TookP bs) := Lib.hid (by unfold TookP; rw [HR.out, HQ.out]; exact fun f => q0 f.2)
      clear q0
      go_wp2_with fail
      have b4 := box_set3 (y0 := .slice none 0 0) (y1 := .slice none 0 0) (y2 := .slice none 0 0) q3
      have p4 : Past W (((w3.setCell ⟨Q, 0, none⟩ (.slice none 0 0)).setCell ⟨Q, 1, none⟩ (.slice none 0 0)).setCell ⟨Q, 2, none⟩ (.slice none 0 0)) := ((p3.setCell (p := ⟨Q, 0, none⟩) (by simp only; omega) _).setCell (p := ⟨Q, 1, none⟩) (by simp only; omega) _).setCell (p := ⟨Q, 2, none⟩) (by simp only; omega) _
      clear q3 p3
      generalize (((w3.setCell ⟨Q, 0, none⟩ (.slice none 0 0)).setCell ⟨Q, 1, none⟩ (.slice none 0 0)).setCell ⟨Q, 2, none⟩ (.slice none 0 0)) = w9 at *
      exact bodyPost_ret (v := .tuple #[.agg #[.slice none 0 0, .slice none 0 0, .slice none 0 0], .int .i64 0, .int .i64 2]) (by simp [results, Try.results8, go_sem, b4]) rfl (.inr ⟨NT.out, rfl, p4⟩)
    | true =>
      have e1 : (q != 0) = false := by simp [bne, e0]
      have q0 : q = 0 := by simpa using e0
      subst q0
      have YT : Hid (TookP bs) := Lib.hid (by unfold TookP; rw [HR.out]; exact ⟨HS.out, HQ.out⟩)
      clear e0
      go_upto_region 5 with fail
      go_region
      all_goals
        have hN : NoInt w3 Q := noInt_box q3
        have IG4 := Lib.hid ((graph_save IG3.out hN ((((Save.refl Q w3).set 0 (.slice A1 r.1.ins.length c1)).set 1 (.slice A2 r.1.nodes.length c2)).set 2 (.slice A3 r.1.outs.length c3))).grow (Past.drew (Past.refl _)))
        have b4 := box_drew (box_set3 (y0 := .slice A1 r.1.ins.length c1) (y1 := .slice A2 r.1.nodes.length c2) (y2 := .slice A3 r.1.outs.length c3) q3)
        have p4 : Past W (((w3.setCell ⟨Q, 0, none⟩ (.slice A1 r.1.ins.length c1)).setCell ⟨Q, 1, none⟩ (.slice A2 r.1.nodes.length c2)).setCell ⟨Q, 2, none⟩ (.slice A3 r.1.outs.length c3)).drew := (((p3.setCell (p := ⟨Q, 0, none⟩) (by simp only; omega) _).setCell (p := ⟨Q, 1, none⟩) (by simp only; omega) _).setCell (p := ⟨Q, 2, none⟩) (by simp only; omega) _).drew
        clear q3 p3 hN x3 rb3 f3
        generalize (((w3.setCell ⟨Q, 0, none⟩ (.slice A1 r.1.ins.length c1)).setCell ⟨Q, 1, none⟩ (.slice A2 r.1.nodes.length c2)).setCell ⟨Q, 2, none⟩ (.slice A3 r.1.outs.length c3)).drew = w9 at *
        go_wp2_with fail
        exact bodyPost_ret (v := .tuple #[.agg #[.slice A1 r.1.ins.length c1, .slice A2 r.1.nodes.length c2, .slice A3 r.1.outs.length c3], .int .i64 ((bs.length : Int) - (r.2.rest.length : Int)), .int .i64 0]) (by simp [results, Try.results8, go_sem, b4]) rfl (.inl ⟨YT.out, by rw [HR.out]; exact ⟨_, rfl, IG4.out, p4⟩⟩)
end Go.Proofs.Ytejllmjkeefloaa

namespace Go.Proofs.Ytejllmjkeefloaa
open Go.ChangeShapes Go.WideShapes Go.ChangeAt Go.RowKit
set_option maxRecDepth 20000
set_option linter.unusedVariables false

def WholeP (bs : List Int) : Prop := TookP bs ∧ (graphR ⟨bs, false⟩).2.rest = []
def WholePost (bs : List Int) (W : World) (e : Ending) (w' : World) : Prop :=
  (WholeP bs ∧ ∃ gv, e = .returned (.tuple #[gv, .int .i64 0]) ∧ IsGraph w' gv (graphR ⟨bs, false⟩).1 ∧ Past W w') ∨
  (¬ WholeP bs ∧ e = .returned (.tuple #[.agg #[.slice none 0 0, .slice none 0 0, .slice none 0 0], .int .i64 2]) ∧ Past W w')
set_option maxHeartbeats 8000000 in
theorem whole_any (bv : Value) (bs : List Int) (W : World) (hb : IsNums .u8 W bv bs) (hl : bs.length ≤ 1000000000) : Calls Try.prog 10 #[bv] W (WholePost bs W) := by
  have HB := Lib.hid hb
  obtain ⟨A, cap, rfl, _, _, _, _, _⟩ := hb
  have hm : bs.length ≤ 9223372036854775807 := by omega
  have TK := Lib.hid (fun w (p : Past W w) => take_any _ bs w (HB.out.grow p) hl)
  unfold TakePost at TK
  obtain ⟨r, hr⟩ : ∃ x, graphR ⟨bs, false⟩ = x := ⟨_, rfl⟩
  have HR := Lib.hid hr
  rw [hr] at TK
  clear hr
  go_enter Try.func10, Try.ntmps10
  go_upto_region 1 with fail
  obtain ⟨Q, hQ⟩ : ∃ Q, W.heap.size = Q := ⟨_, rfl⟩
  refine opq (fun w' => (∀ o : Nat, w'.cell? ⟨Q, o, none⟩ = (#[.slice none 0 0, .slice none 0 0, .slice none 0 0] : Array Value)[o]?) ∧ (∀ o : Nat, w'.frozen? ⟨Q, o, none⟩ = false) ∧ Past W w' ∧ Q + 1 ≤ w'.heap.size) (by
    subst hQ
    exact ⟨by (exact kKeep), by (exact kKeep), by (exact kKeep), by (exact kKeep)⟩) ?_
  rintro w0 ⟨q0, f0, p0, s0⟩
  try rw [hQ]
  go_wp2_with fail
  refine (TK.out _ p0).mono ?_
  rintro e w1 H
  rcases H with ⟨hT, gv, rfl, ig, pp1⟩ | ⟨hT, rfl, pp1⟩
  · have q1 := box_past pp1 q0 (by omega)
    have f1 := free_past pp1 f0 (by omega)
    have p1 := p0.trans pp1
    have s1 : Q + 1 ≤ w1.heap.size := by have := pp1.2.2.1; omega
    have IG := Lib.hid ig
    have HT := Lib.hid hT
    obtain ⟨iv, nv, ov, rfl, hi, hn, ho⟩ := ig
    obtain ⟨A1, c1, rfl, _, _, _, _, _⟩ := hi
    obtain ⟨A2, c2, rfl, _, _, _, _, _⟩ := hn
    obtain ⟨A3, c3, rfl, _, _, _, _, _⟩ := ho
    clear q0 f0 p0 s0 pp1 TK hT
    obtain ⟨S, hS⟩ : ∃ S, w1.heap.size = S := ⟨_, rfl⟩
    go_upto_region 2 with fail
    refine opq (fun w' => (∀ o : Nat, w'.cell? ⟨Q, o, none⟩ = (#[.slice none 0 0, .slice none 0 0, .slice none 0 0] : Array Value)[o]?) ∧ (∀ o : Nat, w'.frozen? ⟨Q, o, none⟩ = false) ∧ (∀ o : Nat, w'.cell? ⟨S, o, none⟩ = (#[.slice A1 r.1.ins.length c1, .slice A2 r.1.nodes.length c2, .slice A3 r.1.outs.length c3] : Array Value)[o]?) ∧ Past W w' ∧ Past w1 w' ∧ S + 1 ≤ w'.heap.size) (by
      subst hS
      exact ⟨by (exact kKeep), by (exact kKeep), by (exact kKeep), by (exact kKeep), by (exact kKeep), by (exact kKeep)⟩) ?_
    rintro w2 ⟨q2, f2, x2, p2, pp2, s2⟩
    have IG2 := Lib.hid (IG.out.grow pp2)
    have hQS : Q + 1 ≤ S := by omega
    clear q1 f1 p1 s1 pp2 IG
    by_cases h0 : r.2.rest.length = 0
    · have e1 : (((bs.length : Int) - (r.2.rest.length : Int)) != (bs.length : Int)) = false := by rw [h0]; simp
      have YW : Hid (WholeP bs) := Lib.hid ⟨HT.out, by rw [HR.out]; exact List.eq_nil_of_length_eq_zero h0⟩
      clear h0
      go_wp2_with fail
      have hN : NoInt w2 Q := noInt_box q2
      have IG4 := Lib.hid (graph_save IG2.out hN (((Save.refl Q w2).set 0 (.slice A1 r.1.ins.length c1)).set 1 (.slice A2 r.1.nodes.length c2) |>.set 2 (.slice A3 r.1.outs.length c3)))
      have b4 := box_set3 (y0 := .slice A1 r.1.ins.length c1) (y1 := .slice A2 r.1.nodes.length c2) (y2 := .slice A3 r.1.outs.length c3) q2
      have p4 : Past W (((w2.setCell ⟨Q, 0, none⟩ (.slice A1 r.1.ins.length c1)).setCell ⟨Q, 1, none⟩ (.slice A2 r.1.nodes.length c2)).setCell ⟨Q, 2, none⟩ (.slice A3 r.1.outs.length c3)) := ((p2.setCell (p := ⟨Q, 0, none⟩) (by simp only; omega) _).setCell (p := ⟨Q, 1, none⟩) (by simp only; omega) _).setCell (p := ⟨Q, 2, none⟩) (by simp only; omega) _
      clear q2 p2 hN x2 f2
      generalize (((w2.setCell ⟨Q, 0, none⟩ (.slice A1 r.1.ins.length c1)).setCell ⟨Q, 1, none⟩ (.slice A2 r.1.nodes.length c2)).setCell ⟨Q, 2, none⟩ (.slice A3 r.1.outs.length c3)) = w9 at *
      exact bodyPost_ret (v := .tuple #[.agg #[.slice A1 r.1.ins.length c1, .slice A2 r.1.nodes.length c2, .slice A3 r.1.outs.length c3], .int .i64 0]) (by simp [results, Try.results10, go_sem, b4]) rfl (.inl ⟨YW.out, by rw [HR.out]; exact ⟨_, rfl, IG4.out, p4⟩⟩)
    · have e1 : (((bs.length : Int) - (r.2.rest.length : Int)) != (bs.length : Int)) = true := by simp; omega
      have NT : Hid (¬ WholeP bs) := Lib.hid (fun f => h0 (by have := f.2; rw [HR.out] at this; rw [this]; rfl))
      clear h0
      go_wp2_with fail
      have b4 := box_set3 (y0 := .slice none 0 0) (y1 := .slice none 0 0) (y2 := .slice none 0 0) q2
      have p4 : Past W (((w2.setCell ⟨Q, 0, none⟩ (.slice none 0 0)).setCell ⟨Q, 1, none⟩ (.slice none 0 0)).setCell ⟨Q, 2, none⟩ (.slice none 0 0)) := ((p2.setCell (p := ⟨Q, 0, none⟩) (by simp only; omega) _).setCell (p := ⟨Q, 1, none⟩) (by simp only; omega) _).setCell (p := ⟨Q, 2, none⟩) (by simp only; omega) _
      clear q2 p2
      generalize (((w2.setCell ⟨Q, 0, none⟩ (.slice none 0 0)).setCell ⟨Q, 1, none⟩ (.slice none 0 0)).setCell ⟨Q, 2, none⟩ (.slice none 0 0)) = w9 at *
      exact bodyPost_ret (v := .tuple #[.agg #[.slice none 0 0, .slice none 0 0, .slice none 0 0], .int .i64 2]) (by simp [results, Try.results10, go_sem, b4]) rfl (.inr ⟨NT.out, rfl, p4⟩)
  · have q1 := box_past pp1 q0 (by omega)
    have f1 := free_past pp1 f0 (by omega)
    have p1 := p0.trans pp1
    have s1 : Q + 1 ≤ w1.heap.size := by have := pp1.2.2.1; omega
    have NT : Hid (¬ WholeP bs) := Lib.hid (fun f => hT f.1)
    clear q0 f0 p0 s0 pp1 TK hT
    obtain ⟨S, hS⟩ : ∃ S, w1.heap.size = S := ⟨_, rfl⟩
    go_upto_region 2 with fail
    refine opq (fun w' => (∀ o : Nat, w'.cell? ⟨Q, o, none⟩ = (#[.slice none 0 0, .slice none 0 0, .slice none 0 0] : Array Value)[o]?) ∧ (∀ o : Nat, w'.frozen? ⟨Q, o, none⟩ = false) ∧ Past W w' ∧ S + 1 ≤ w'.heap.size) (by
      subst hS
      exact ⟨by (exact kKeep), by (exact kKeep), by (exact kKeep), by (exact kKeep)⟩) ?_
    rintro w2 ⟨q2, f2, p2, s2⟩
    have hQS : Q + 1 ≤ S := by omega
    clear q1 f1 p1 s1
    go_wp2_with fail
    have b4 := box_set3 (y0 := .slice none 0 0) (y1 := .slice none 0 0) (y2 := .slice none 0 0) q2
    have p4 : Past W (((w2.setCell ⟨Q, 0, none⟩ (.slice none 0 0)).setCell ⟨Q, 1, none⟩ (.slice none 0 0)).setCell ⟨Q, 2, none⟩ (.slice none 0 0)) := ((p2.setCell (p := ⟨Q, 0, none⟩) (by simp only; omega) _).setCell (p := ⟨Q, 1, none⟩) (by simp only; omega) _).setCell (p := ⟨Q, 2, none⟩) (by simp only; omega) _
    clear q2 p2
    generalize (((w2.setCell ⟨Q, 0, none⟩ (.slice none 0 0)).setCell ⟨Q, 1, none⟩ (.slice none 0 0)).setCell ⟨Q, 2, none⟩ (.slice none 0 0)) = w9 at *
    exact bodyPost_ret (v := .tuple #[.agg #[.slice none 0 0, .slice none 0 0, .slice none 0 0], .int .i64 2]) (by simp [results, Try.results10, go_sem, b4]) rfl (.inr ⟨NT.out, rfl, p4⟩)
end Go.Proofs.Ytejllmjkeefloaa

namespace Go.Proofs.Ytejllmjkeefloaa
open Go.ChangeShapes Go.WideShapes Go.ChangeAt Go.RowKit
set_option maxRecDepth 20000
set_option linter.unusedVariables false

/-- What is taken was put so. -/
theorem put_took {bs : List Int} (hb : bytesP bs) (T : TookP bs) : bs = graphB (graphR ⟨bs, false⟩).1 ++ (graphR ⟨bs, false⟩).2.rest ∧ okG (graphR ⟨bs, false⟩).1 := by
  obtain ⟨_, h2, h3⟩ := graphR_inv.at ⟨bs, false⟩ hb T.1
  exact ⟨h3, h2⟩
end Go.Proofs.Ytejllmjkeefloaa
