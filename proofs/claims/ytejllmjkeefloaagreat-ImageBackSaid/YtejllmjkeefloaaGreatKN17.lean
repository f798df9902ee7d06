/- Take. Whole. A graph that may be has numbers that have room in their bytes; what was put and what is taken. -/
import Derived.Test.YtejllmjkeefloaaGreatKN13
import Derived.Test.YtejllmjkeefloaaGreatKV4
namespace Go.Proofs.YtejllmjkeefloaaGreat
open Go.ChangeShapes Go.WideShapes Go.ChangeAt Go.RowKit
set_option maxRecDepth 20000
set_option linter.unusedVariables false

/-- P4.2: a graph and what is left; or none. -/
def TookP (bs : List Int) : Prop := (graphR ⟨bs, false⟩).2.short = false ∧ valuesE (graphR ⟨bs, false⟩).1 = 0
def TakePost (bs : List Int) (W : World) (e : Ending) (w' : World) : Prop :=
  (TookP bs ∧ ∃ gv, e = .returned (.tuple #[gv, .int .i64 ((bs.length : Int) - ((graphR ⟨bs, false⟩).2.rest.length : Int)), .int .i64 0]) ∧ IsGraph w' gv (graphR ⟨bs, false⟩).1 ∧ Past W w') ∨
  (¬ TookP bs ∧ e = .returned (.tuple #[.agg #[.slice none 0 0, .slice none 0 0, .slice none 0 0], .int .i64 0, .int .i64 2]) ∧ Past W w')
theorem bytes_of_nums {w : World} {A : Option Addr} {cap n : Nat} {bs : List Int} (h : IsNums .u8 w (.slice A n cap) bs) : n = bs.length ∧ Bytes w w.heap.size A cap bs := by
  obtain ⟨A', cap', e, h2, h3, h4, h5, h6⟩ := h
  simp only [Value.slice.injEq] at e
  obtain ⟨rfl, rfl, rfl⟩ := e
  exact ⟨rfl, h2, h3, h5, fun hp => by
    obtain ⟨b, off, e, hb, hc⟩ := h6 hp
    exact ⟨b, off, e, hb, hc⟩⟩
theorem graph_save {B : Nat} {w w' : World} {v : Value} {g : GraphD} (h : IsGraph w v g) (hN : NoInt w B) (k : Save B w w') : IsGraph w' v g := by
  obtain ⟨a, b, c, rfl, h1, h2, h3⟩ := h
  exact ⟨a, b, c, rfl, vals_save h1 hN k, nodes_save h2 hN k, nums_save h3 hN k⟩
set_option maxHeartbeats 8000000 in
theorem take_any (bv : Value) (bs : List Int) (W : World) (hb : IsNums .u8 W bv bs) (hl : bs.length ≤ 1000000000) : Calls Tryz.prog 29 #[bv] W (TakePost bs W) := by
  have hb0 := hb
  obtain ⟨A, cap, rfl, _, _, _, _, _⟩ := hb
  have BY := Lib.hid (bytes_of_nums hb0).2
  have hm : bs.length ≤ 9223372036854775807 := by omega
  have HB := Lib.hid hb0
  clear hb0
  obtain ⟨r, hr⟩ : ∃ x, graphR ⟨bs, false⟩ = x := ⟨_, rfl⟩
  have HR := Lib.hid hr
  have CU : Hid (Cut r.1) := Lib.hid (by rw [← hr]; exact graphR_cut _ BY.out.bytesP)
  have CG := Lib.hid (fun w P (k : RdAt w W.heap.size P ⟨bs, false⟩) => graph_rd W.heap.size P ⟨bs, false⟩ w k)
  rw [hr] at CG
  clear hr
  go_enter Tryz.func29, Tryz.ntmps29
  go_upto_region 2 with fail
  obtain ⟨Q, hQ⟩ : ∃ Q, W.heap.size = Q := ⟨_, rfl⟩
  refine opq (fun w' => (∀ o : Nat, w'.cell? ⟨Q, o, none⟩ = (#[.slice none 0 0, .slice none 0 0, .slice none 0 0] : Array Value)[o]?) ∧ (∀ o : Nat, w'.frozen? ⟨Q, o, none⟩ = false) ∧ Hid (RdAt w' W.heap.size (Q + 1) ⟨bs, false⟩) ∧ Past W w' ∧ Q + 2 ≤ w'.heap.size) (by
    subst hQ
    exact ⟨by (exact kKeep), by (exact kKeep), Lib.hid ⟨A, cap, by (exact kKeep), by (exact kKeep), BY.out.keep (P := W.heap.size + 1) (Keep.of_past (((Past.refl W).alloc _).alloc _)) (by omega) (Nat.le_refl _), by omega, by simp⟩, by (exact kKeep), by (exact kKeep)⟩) ?_
  rintro w0 ⟨q0, f0, R0, p0, s0⟩
  try rw [hQ]
  try simp only [World.size_alloc, hQ]
  go_wp2_with fail
  refine (CG.out _ _ R0.out).mono ?_
  rintro e w1 ⟨gv, rfl, ig, r1, k1⟩
  have IG := Lib.hid ig
  have q1 := box_keep k1 q0 (by omega) (by omega)
  have f1 := free_keep k1 f0 (by omega) (by omega)
  have p1 := k1.past p0 (by omega)
  have s1 : Q + 2 ≤ w1.heap.size := by have := k1.2.2.1; omega
  obtain ⟨iv, nv, ov, rfl, hi, hn, ho⟩ := ig
  obtain ⟨A1, c1, rfl, _, _, _, _, _⟩ := hi
  obtain ⟨A2, c2, rfl, _, _, _, _, _⟩ := hn
  obtain ⟨A3, c3, rfl, _, _, _, _, _⟩ := ho
  obtain ⟨AR, cr, rb, rf, rby, _, _⟩ := r1
  clear q0 f0 R0 p0 s0 k1 CG
  obtain ⟨S, hS⟩ : ∃ S, w1.heap.size = S := ⟨_, rfl⟩
  go_upto_region 3 with fail
  refine opq (fun w' => (∀ o : Nat, w'.cell? ⟨Q, o, none⟩ = (#[.slice none 0 0, .slice none 0 0, .slice none 0 0] : Array Value)[o]?) ∧ (∀ o : Nat, w'.frozen? ⟨Q, o, none⟩ = false) ∧ (∀ o : Nat, w'.cell? ⟨Q + 1, o, none⟩ = (#[.slice AR r.2.rest.length cr, .bool r.2.short] : Array Value)[o]?) ∧ (∀ o : Nat, w'.cell? ⟨S, o, none⟩ = (#[.slice A1 r.1.ins.length c1, .slice A2 r.1.nodes.length c2, .slice A3 r.1.outs.length c3] : Array Value)[o]?) ∧ Past W w' ∧ Past w1 w' ∧ S + 1 ≤ w'.heap.size) (by
    subst hS
    exact ⟨by (exact kKeep), by (exact kKeep), by (exact kKeep), by (exact kKeep), by (exact kKeep), by (exact kKeep), by (exact kKeep)⟩) ?_
  rintro w2 ⟨q2, f2, rb2, x2, p2, pp2, s2⟩
  have IG2 := Lib.hid (IG.out.grow pp2)
  have hQS : Q + 2 ≤ S := by omega
  have hrl : r.2.rest.length ≤ 9223372036854775807 := by have := rby.1; have := rby.2.1; unfold maxLen at this; omega
  clear q1 f1 rb rf p1 s1 pp2 hS IG rby
  rcases Bool.eq_false_or_eq_true r.2.short with hs | hs
  · rw [hs] at rb2
    have NT : Hid (¬ TookP bs) := Lib.hid (by unfold TookP; rw [HR.out]; intro f; rw [hs] at f; cases f.1)
    go_wp2_with fail
    have b4 := box_set3 (y0 := .slice none 0 0) (y1 := .slice none 0 0) (y2 := .slice none 0 0) q2
    have p4 : Past W (((w2.setCell ⟨Q, 0, none⟩ (.slice none 0 0)).setCell ⟨Q, 1, none⟩ (.slice none 0 0)).setCell ⟨Q, 2, none⟩ (.slice none 0 0)) := ((p2.setCell (p := ⟨Q, 0, none⟩) (by simp only; omega) _).setCell (p := ⟨Q, 1, none⟩) (by simp only; omega) _).setCell (p := ⟨Q, 2, none⟩) (by simp only; omega) _
    clear q2 p2
    generalize (((w2.setCell ⟨Q, 0, none⟩ (.slice none 0 0)).setCell ⟨Q, 1, none⟩ (.slice none 0 0)).setCell ⟨Q, 2, none⟩ (.slice none 0 0)) = w9 at *
    exact bodyPost_ret (v := .tuple #[.agg #[.slice none 0 0, .slice none 0 0, .slice none 0 0], .int .i64 0, .int .i64 2]) (by simp [results, Tryz.results29, go_sem, b4]) rfl (.inr ⟨NT.out, rfl, p4⟩)
  · rw [hs] at rb2
    have CK := Lib.hid (check_any r.1 _ w2 IG2.out CU.out)
    obtain ⟨q, hq⟩ : ∃ q, valuesE r.1 = q := ⟨_, rfl⟩
    rw [hq] at CK
    have HQ := Lib.hid hq
    have HS := Lib.hid hs
    clear hq hs
    go_wp2_with fail
    refine CK.out.mono ?_
    rintro e w3 ⟨rfl, pp3⟩
    have q3 := box_past pp3 q2 (by omega)
    have rb3 := box_past pp3 rb2 (by omega)
    have x3 := box_past pp3 x2 (by omega)
    have p3 := p2.trans pp3
    have f3 := free_past pp3 f2 (by omega)
    have s3 : S + 1 ≤ w3.heap.size := by have := pp3.2.2.1; omega
    have IG3 := Lib.hid (IG2.out.grow pp3)
    clear q2 rb2 x2 p2 f2 s2 pp3 IG2 CK
    cases e0 : (q == 0) with
    | false =>
      have e1 : (q != 0) = true := by simp [bne, e0]
      have q0 : q ≠ 0 := by simpa using e0
      have NT : Hid (¬ TookP bs) := Lib.hid (by unfold TookP; rw [HR.out, HQ.out]; exact fun f => q0 f.2)
      clear q0
      go_wp2_with fail
      have b4 := box_set3 (y0 := .slice none 0 0) (y1 := .slice none 0 0) (y2 := .slice none 0 0) q3
      have p4 : Past W (((w3.setCell ⟨Q, 0, none⟩ (.slice none 0 0)).setCell ⟨Q, 1, none⟩ (.slice none 0 0)).setCell ⟨Q, 2, none⟩ (.slice none 0 0)) := ((p3.setCell (p := ⟨Q, 0, none⟩) (by simp only; omega) _).setCell (p := ⟨Q, 1, none⟩) (by simp only; omega) _).setCell (p := ⟨Q, 2, none⟩) (by simp only; omega) _
      clear q3 p3
      generalize (((w3.setCell ⟨Q, 0, none⟩ (.slice none 0 0)).setCell ⟨Q, 1, none⟩ (.slice none 0 0)).setCell ⟨Q, 2, none⟩ (.slice none 0 0)) = w9 at *
      exact bodyPost_ret (v := .tuple #[.agg #[.slice none 0 0, .slice none 0 0, .slice none 0 0], .int .i64 0, .int .i64 2]) (by simp [results, Tryz.results29, go_sem, b4]) rfl (.inr ⟨NT.out, rfl, p4⟩)
    | true =>
      have e1 : (q != 0) = false := by simp [bne, e0]
      have q0 : q = 0 := by simpa using e0
      subst q0
      have YT : Hid (TookP bs) := Lib.hid (by unfold TookP; rw [HR.out]; exact ⟨HS.out, HQ.out⟩)
      clear e0
      go_upto_region 5 with fail
      go_region
      all_goals
        have hN : NoInt w3 Q := noInt_box q3
        have IG4 := Lib.hid ((graph_save IG3.out hN ((((Save.refl Q w3).set 0 (.slice A1 r.1.ins.length c1)).set 1 (.slice A2 r.1.nodes.length c2)).set 2 (.slice A3 r.1.outs.length c3))).grow (Past.drew (Past.refl _)))
        have b4 := box_drew (box_set3 (y0 := .slice A1 r.1.ins.length c1) (y1 := .slice A2 r.1.nodes.length c2) (y2 := .slice A3 r.1.outs.length c3) q3)
        have p4 : Past W (((w3.setCell ⟨Q, 0, none⟩ (.slice A1 r.1.ins.length c1)).setCell ⟨Q, 1, none⟩ (.slice A2 r.1.nodes.length c2)).setCell ⟨Q, 2, none⟩ (.slice A3 r.1.outs.length c3)).drew := (((p3.setCell (p := ⟨Q, 0, none⟩) (by simp only; omega) _).setCell (p := ⟨Q, 1, none⟩) (by simp only; omega) _).setCell (p := ⟨Q, 2, none⟩) (by simp only; omega) _).drew
        clear q3 p3 hN x3 rb3 f3
        generalize (((w3.setCell ⟨Q, 0, none⟩ (.slice A1 r.1.ins.length c1)).setCell ⟨Q, 1, none⟩ (.slice A2 r.1.nodes.length c2)).setCell ⟨Q, 2, none⟩ (.slice A3 r.1.outs.length c3)).drew = w9 at *
        go_wp2_with fail
        exact bodyPost_ret (v := .tuple #[.agg #[.slice A1 r.1.ins.length c1, .slice A2 r.1.nodes.length c2, .slice A3 r.1.outs.length c3], .int .i64 ((bs.length : Int) - (r.2.rest.length : Int)), .int .i64 0]) (by simp [results, Tryz.results29, go_sem, b4]) rfl (.inl ⟨YT.out, by rw [HR.out]; exact ⟨_, rfl, IG4.out, p4⟩⟩)
end Go.Proofs.YtejllmjkeefloaaGreat

namespace Go.Proofs.YtejllmjkeefloaaGreat
open Go.ChangeShapes Go.WideShapes Go.ChangeAt Go.RowKit
set_option maxRecDepth 20000
set_option linter.unusedVariables false

end Go.Proofs.YtejllmjkeefloaaGreat

namespace Go.Proofs.YtejllmjkeefloaaGreat
open Go.ChangeShapes Go.WideShapes Go.ChangeAt Go.RowKit
set_option maxRecDepth 20000
set_option linter.unusedVariables false

theorem opD_bd (o : Int) (h : hasOp o) : ((0 ≤ (opD o).k1 ∧ (opD o).k2 ≤ 3) ∧ (0 ≤ (opD o).s1 ∧ (opD o).s2 ≤ 2) ∧ (0 ≤ (opD o).p1 ∧ (opD o).p2 ≤ 1) ∧ (0 ≤ (opD o).o1 ∧ (opD o).o2 ≤ 8)) ∧ (opD o).vals ≤ 2 ∧ ((opD o).resh = true → o = 11) := by
  obtain ⟨h1, h2⟩ := h
  rcases (show o = 1 ∨ o = 2 ∨ o = 3 ∨ o = 4 ∨ o = 5 ∨ o = 6 ∨ o = 7 ∨ o = 8 ∨ o = 9 ∨ o = 10 ∨ o = 11 ∨ o = 12 by omega) with rfl | rfl | rfl | rfl | rfl | rfl | rfl | rfl | rfl | rfl | rfl | rfl <;> decide
theorem valueE_ok {n : NodeD} {vs : List ValD} (e : valueE n vs = 0) : (hasOp n.op ∧ takesP (opD n.op) n vs) ∧ mayT (madeS n vs) ∧ (n.bs.length : Int) = (wantS n (vs.getD 0 default) (madeS n vs).2.2).2 := by
  unfold valueE at e
  by_cases c1 : hasOp n.op ∧ takesP (opD n.op) n vs
  · rw [if_neg (fun f => f c1)] at e
    by_cases c2 : ∀ j, j < vs.length → mayV (vs.getD j default)
    · rw [if_neg (fun f => f c2)] at e
      by_cases c3 : mayT (madeS n vs)
      · rw [if_neg (fun f => f c3)] at e
        by_cases c4 : (n.ws.length : Int) = (wantS n (vs.getD 0 default) (madeS n vs).2.2).1 ∧ (n.bs.length : Int) = (wantS n (vs.getD 0 default) (madeS n vs).2.2).2 ∧ ∀ j, j < n.bs.length → nearB (n.bs.getD j 0)
        · exact ⟨c1, c3, c4.2.1⟩
        · rw [if_pos c4] at e; cases e
      · rw [if_pos c3] at e; cases e
    · rw [if_pos c2] at e; cases e
  · rw [if_pos c1] at e; cases e
theorem want_bd (n : NodeD) (x : ValD) (c : Int) (h : 1 ≤ c ∧ c ≤ 8) : (wantS n x c).2 ≤ 8 := by
  unfold wantS
  split
  · exact h.2
  · split
    · exact h.2
    · split
      · exact h.2
      · split <;> simp
theorem lit_i8 {x : Int} (h : (Lit.int .i8 x).wf = true) : -128 ≤ x ∧ x < 128 := by
  have : -128 ≤ x ∧ x ≤ 127 := by simpa [Lit.wf, IntKind.min, IntKind.max, IntKind.bits, IntKind.signed] using h
  omega
theorem lit_i32 {x : Int} (h : (Lit.int .i32 x).wf = true) : -2147483648 ≤ x ∧ x < 2147483648 := by
  have : -2147483648 ≤ x ∧ x ≤ 2147483647 := by simpa [Lit.wf, IntKind.min, IntKind.max, IntKind.bits, IntKind.signed] using h
  omega
theorem node_okN {n : NodeD} {vs : List ValD} (e : valueE n vs = 0) (hl : vs.length = n.ins.length) (hin : ∀ x ∈ n.ins, 0 ≤ x ∧ x < 256) (hw : n.ws.length ≤ 4096) (wf : wfN n) : okN n := by
  obtain ⟨⟨ho, ht⟩, hm, hb⟩ := valueE_ok e
  obtain ⟨⟨b1, b2, b3, b4⟩, b5, b6⟩ := opD_bd n.op ho
  obtain ⟨t1, _, t3, t4⟩ := ht
  obtain ⟨⟨m1, m2⟩, ⟨m3, m4⟩, m5, m6⟩ := t3
  obtain ⟨⟨⟨k1, k2⟩, ⟨k3, k4⟩, ⟨k5, k6⟩, k7, k8⟩, _, k9⟩ := t4
  obtain ⟨o1, o2⟩ := ho
  have hc : 1 ≤ (madeS n vs).2.2 ∧ (madeS n vs).2.2 ≤ 8 := ⟨hm.2.2.2.2.1, hm.2.2.2.2.2⟩
  have hbl := want_bd n (vs.getD 0 default) _ hc
  rw [← hb] at hbl
  have hT : (0 ≤ n.th ∧ n.th < 256) ∧ (0 ≤ n.tw ∧ n.tw < 256) ∧ (0 ≤ n.tc ∧ n.tc < 256) := by
    rcases k9 with k | ⟨k, k', k''⟩
    · have h11 := b6 k
      unfold madeS at hm
      simp only [h11] at hm
      simp only [show ¬ ((11 : Int) = 1) by decide, show ¬ ((11 : Int) = 2 ∨ (11 : Int) = 4 ∨ (11 : Int) = 5) by decide, show ¬ ((11 : Int) = 3) by decide, show ¬ ((11 : Int) = 9) by decide, show ¬ ((11 : Int) = 10) by decide, if_false, if_true] at hm
      split at hm
      · obtain ⟨q1, q2, q3, q4, q5, q6⟩ := hm
        simp only at q1 q2 q3 q4 q5 q6
        omega
      · obtain ⟨q1, _⟩ := hm
        simp only at q1
        omega
    · rw [k, k', k'']; omega
  refine ⟨?_, ⟨?_, ?_⟩, ?_, ?_, ?_, ?_, ?_, ?_, ?_, ?_, ?_, ?_, ⟨?_, ?_⟩, ?_, ?_⟩
  · simp only [okB, Int.reducePow]; omega
  · simp only [Int.reducePow]; omega
  · intro x hx; simpa only [okB, Int.reducePow] using hin x hx
  · simp only [okB, Int.reducePow]; omega
  · simp only [okB, Int.reducePow]; omega
  · simp only [okB, Int.reducePow]; omega
  · simp only [okB, Int.reducePow]; omega
  · simp only [okB, Int.reducePow]; omega
  · simp only [okB, Int.reducePow]; omega
  · unfold okS; omega
  · simpa only [okB, Int.reducePow] using hT.1
  · simpa only [okB, Int.reducePow] using hT.2.1
  · simpa only [okB, Int.reducePow] using hT.2.2
  · simp only [Int.reducePow]; omega
  · intro x hx; exact lit_i8 (wf.2.2.1 x hx)
  · simp only [Int.reducePow]; omega
  · intro x hx; exact lit_i32 (wf.2.2.2 x hx)
theorem mem_getD {α : Type} [Inhabited α] {xs : List α} {x : α} (h : x ∈ xs) (d : α) : ∃ j, j < xs.length ∧ xs.getD j d = x := by
  obtain ⟨j, hj, rfl⟩ := List.getElem_of_mem h
  exact ⟨j, hj, by simp [List.getD, hj]⟩
theorem goS_okN (ns : List NodeD) : ∀ (l r : List ValD), goS ns l = (0, r) → l.length + ns.length ≤ 200 → sumW ns ≤ 4096 → (∀ n ∈ ns, wfN n) → ∀ n ∈ ns, okN n := by
  induction ns with
  | nil => intro l r _ _ _ _ n hn; simp at hn
  | cons n ns ih =>
    intro l r h hl hs wf
    simp only [List.length_cons] at hl
    simp only [sumW] at hs
    by_cases hp : namedP l n.ins
    · by_cases he : valueE n (namedL l n.ins) = 0
      · rw [goS_ok hp he] at h
        intro m hm
        rcases List.mem_cons.1 hm with rfl | hm
        · refine node_okN he (by simp [namedL]) (fun x hx => ?_) (by omega) (wf _ (List.mem_cons_self ..))
          obtain ⟨j, hj, rfl⟩ := mem_getD hx 0
          have := hp j hj
          omega
        · exact ih _ r h (by simp only [List.length_append, List.length_cons, List.length_nil]; omega) (by omega) (fun n hn => wf n (List.mem_cons_of_mem _ hn)) m hm
      · rw [goS_err hp he] at h
        simp only [Prod.mk.injEq] at h
        exact absurd h.1 he
    · rw [goS_no hp] at h
      simp at h
theorem okG_of {g : GraphD} (h : valuesE g = 0) (wf : ∀ n ∈ g.nodes, wfN n) : okG g := by
  obtain ⟨hb, hg, hs, ho⟩ := values_ok h
  obtain ⟨⟨_, l1, l2, _, l3⟩, hv, hz⟩ := begins_ok hb
  have hL := (makes_facts h).1
  refine ⟨⟨by omega, fun v hv' => ?_⟩, ⟨by omega, goS_okN g.nodes g.ins _ hg (by omega) hs wf⟩, ⟨by simp only [Int.reducePow]; omega, fun x hx => ?_⟩⟩
  · obtain ⟨j, hj, rfl⟩ := mem_getD hv' default
    obtain ⟨a1, a2, a3, a4, a5, a6⟩ := hv j hj
    have := hz j hj
    refine ⟨?_, ?_, ?_, ?_⟩
    · simp only [okB, Int.reducePow]; omega
    · simp only [okB, Int.reducePow]; omega
    · simp only [okB, Int.reducePow]; omega
    · unfold okS; omega
  · obtain ⟨j, hj, rfl⟩ := mem_getD hx 0
    have := ho j hj
    rw [hL] at this
    simp only [okB, Int.reducePow]
    omega
theorem wf_of_nums {k : IntKind} {w : World} {v : Value} {xs : List Int} (h : IsNums k w v xs) : ∀ x ∈ xs, (Lit.int k x).wf = true := by
  obtain ⟨_, _, _, _, _, _, h5, _⟩ := h
  exact h5
theorem wf_of_graph {w : World} {v : Value} {g : GraphD} (h : IsGraph w v g) : ∀ n ∈ g.nodes, wfN n := by
  obtain ⟨a, b, c, rfl, _, hn, _⟩ := h
  obtain ⟨A, cap, _, _, _, _, h5, h6⟩ := hn
  intro n hn
  obtain ⟨j, hj, rfl⟩ := mem_getD hn default
  obtain ⟨b', off, _, _, hc⟩ := h6 (by omega)
  obtain ⟨vi, vw, vb, hin, _⟩ := hc j hj
  exact ⟨h5 _ hn, wf_of_nums hin.1, wf_of_nums hin.2.1, wf_of_nums hin.2.2⟩
/-- What was put is read as it was. -/
theorem read_put {g : GraphD} (ok : okG g) (rest : List Int) : graphR ⟨graphB g ++ rest, false⟩ = (g, ⟨rest, false⟩) := graphR_inv.forth g rest ok
theorem took_put {g : GraphD} (h : valuesE g = 0) (ok : okG g) (rest : List Int) : TookP (graphB g ++ rest) := by
  unfold TookP
  rw [read_put ok rest]
  exact ⟨rfl, h⟩
/-- What is taken was put so. -/
theorem put_took {bs : List Int} (hb : bytesP bs) (T : TookP bs) : bs = graphB (graphR ⟨bs, false⟩).1 ++ (graphR ⟨bs, false⟩).2.rest ∧ okG (graphR ⟨bs, false⟩).1 := by
  obtain ⟨_, h2, h3⟩ := graphR_inv.at ⟨bs, false⟩ hb T.1
  exact ⟨h3, h2⟩
end Go.Proofs.YtejllmjkeefloaaGreat
