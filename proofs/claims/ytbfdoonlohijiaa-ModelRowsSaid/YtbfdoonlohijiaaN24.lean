/- The walk of ModelRows. -/
import Derived.Test.YtbfdoonlohijiaaN21
import Derived.Deep.DeepCutAuto
import Derived.Laws.Strings
namespace Go.Proofs.Ytbfdoonlohijiaa
open Go.ChangeShapes Go.WideShapes Go.ChangeAt Go.RowKit
set_option maxRecDepth 20000
set_option linter.unusedVariables false

theorem nums_drop {k : IntKind} {w : World} {b off len cap : Nat} {xs : List Int} (m : Nat) (hm : m ≤ xs.length) (h : IsNums k w (.slice (some ⟨b, off, none⟩) len cap) xs) : IsNums k w (.slice (some ⟨b, off + m, none⟩) (len - m) (cap - m)) (xs.drop m) := by
  obtain ⟨A', cap', e, h2, h3, h4, h5, h6⟩ := h
  simp only [Value.slice.injEq] at e
  obtain ⟨rfl, rfl, rfl⟩ := e
  refine ⟨some ⟨b, off + m, none⟩, cap - m, by rw [List.length_drop], by rw [List.length_drop]; omega, by omega, (fun h => by cases h), fun x hx => h5 x (List.mem_of_mem_drop hx), fun hp => ?_⟩
  rw [List.length_drop] at hp
  obtain ⟨b', off', e, hb, hc⟩ := h6 (by omega)
  simp only [Option.some.injEq, Addr.mk.injEq, and_true] at e
  obtain ⟨rfl, rfl⟩ := e
  refine ⟨b, off + m, rfl, hb, fun i hi => ?_⟩
  rw [List.length_drop] at hi
  rw [Nat.add_assoc, hc (m + i) (by omega)]
  simp [List.getD]

theorem str_toList_inj {a b : ByteArray} (h : a.toList = b.toList) : a = b := by
  rw [ByteArray.toList_eq, ByteArray.toList_eq] at h
  cases a
  cases b
  congr 1
  exact Array.toList_inj.1 h

theorem put_slice {w : World} {g : GraphD} {base : Nat} {v : Value} (ob : OwnB w base v (graphB g)) {L : Nat} (hL : (graphB g).length = L) : ∃ b off c, v = .slice (some ⟨b, off, none⟩) L c ∧ b < w.heap.size ∧ L ≤ c ∧ c ≤ maxLen := by
  have L3 := graphB_pos g
  obtain ⟨A, cap, e, h2, h3, _, _, h6⟩ := ownB_nums ob (graphB_bytes g)
  obtain ⟨b, o, rfl, hb, _⟩ := h6 (by omega)
  exact ⟨b, o, cap, by rw [e, hL], hb, by omega, h3⟩

set_option maxHeartbeats 8000000 in
theorem rows_walk (W : World) (va : Value) (a : GraphD) (ha : IsGraph W va a) (vb : Value) (b : GraphD) (hb : IsGraph W vb b) : Calls Try.prog 6 #[va, vb] W fun e w' => e = .returned (.bool true) ∧ Past W w' := by
  have HA := Lib.hid ha
  have HB := Lib.hid hb
  obtain ⟨iv, nv, ov, rfl, hi, hn, ho⟩ := ha
  obtain ⟨A1, ka1, rfl, _, _, _, _, _⟩ := hi
  obtain ⟨A2, ka2, rfl, _, _, _, _, _⟩ := hn
  obtain ⟨A3, ka3, rfl, _, _, _, _, _⟩ := ho
  obtain ⟨iv, nv, ov, rfl, hi, hn, ho⟩ := hb
  obtain ⟨B1, kb1, rfl, _, _, _, _, _⟩ := hi
  obtain ⟨B2, kb2, rfl, _, _, _, _, _⟩ := hn
  obtain ⟨B3, kb3, rfl, _, _, _, _, _⟩ := ho
  have LA := Lib.hid (fun w (p : Past W w) => less_any a _ w (HA.out.grow p))
  have LB := Lib.hid (fun w (p : Past W w) => less_any b _ w (HB.out.grow p))
  obtain ⟨g, hg⟩ : ∃ g, lessD a = g := ⟨_, rfl⟩
  obtain ⟨h, hh⟩ : ∃ g, lessD b = g := ⟨_, rfl⟩
  have CG : Hid (Cut g) := Lib.hid (by rw [← hg]; exact cut_lessD a)
  have CH : Hid (Cut h) := Lib.hid (by rw [← hh]; exact cut_lessD b)
  have LEG : Hid ((graphB g).length ≤ 100000) := Lib.hid (by rw [← hg]; exact lessD_len a)
  have LEH : Hid ((graphB h).length ≤ 100000) := Lib.hid (by rw [← hh]; exact lessD_len b)
  rw [hg] at LA
  rw [hh] at LB
  clear hg hh
  obtain ⟨Q, hQ⟩ : ∃ Q, W.heap.size = Q := ⟨_, rfl⟩
  go_enter Try.func6, Try.ntmps6
  go_upto_region 1 with fail
  refine opq (fun w' => (∀ o : Nat, w'.cell? ⟨Q, o, none⟩ = (#[.slice A1 a.ins.length ka1, .slice A2 a.nodes.length ka2, .slice A3 a.outs.length ka3] : Array Value)[o]?) ∧ (∀ o : Nat, w'.frozen? ⟨Q, o, none⟩ = false) ∧ (∀ o : Nat, w'.cell? ⟨Q + 1, o, none⟩ = (#[.slice B1 b.ins.length kb1, .slice B2 b.nodes.length kb2, .slice B3 b.outs.length kb3] : Array Value)[o]?) ∧ (∀ o : Nat, w'.frozen? ⟨Q + 1, o, none⟩ = false) ∧ Past W w' ∧ Q + 2 ≤ w'.heap.size) (by
    subst hQ
    exact ⟨by ((repeat (first | (with_reducible assumption) | (with_reducible refine box_set ?_ (by first | (simp; done) | (dsimp only; omega) | (simp; omega))) | (with_reducible refine free_set ?_) | (with_reducible refine Past.setCell ?_ (by first | (simp; done) | (dsimp only; omega) | (simp; omega)) _) | (with_reducible refine box_new (by first | omega | (simp; done) | (simp; omega))) | (with_reducible refine box_old ?_ (by first | omega | (simp; done) | (simp; omega))) | (with_reducible refine free_alloc ?_) | (with_reducible refine free_new (by first | omega | (simp; done) | (simp; omega))) | (with_reducible refine Past.alloc ?_ _) | (with_reducible exact Past.refl _) | (simp only [World.size_alloc]; omega) | omega)); done), by ((repeat (first | (with_reducible assumption) | (with_reducible refine box_set ?_ (by first | (simp; done) | (dsimp only; omega) | (simp; omega))) | (with_reducible refine free_set ?_) | (with_reducible refine Past.setCell ?_ (by first | (simp; done) | (dsimp only; omega) | (simp; omega)) _) | (with_reducible refine box_new (by first | omega | (simp; done) | (simp; omega))) | (with_reducible refine box_old ?_ (by first | omega | (simp; done) | (simp; omega))) | (with_reducible refine free_alloc ?_) | (with_reducible refine free_new (by first | omega | (simp; done) | (simp; omega))) | (with_reducible refine Past.alloc ?_ _) | (with_reducible exact Past.refl _) | (simp only [World.size_alloc]; omega) | omega)); done), by ((repeat (first | (with_reducible assumption) | (with_reducible refine box_set ?_ (by first | (simp; done) | (dsimp only; omega) | (simp; omega))) | (with_reducible refine free_set ?_) | (with_reducible refine Past.setCell ?_ (by first | (simp; done) | (dsimp only; omega) | (simp; omega)) _) | (with_reducible refine box_new (by first | omega | (simp; done) | (simp; omega))) | (with_reducible refine box_old ?_ (by first | omega | (simp; done) | (simp; omega))) | (with_reducible refine free_alloc ?_) | (with_reducible refine free_new (by first | omega | (simp; done) | (simp; omega))) | (with_reducible refine Past.alloc ?_ _) | (with_reducible exact Past.refl _) | (simp only [World.size_alloc]; omega) | omega)); done), by ((repeat (first | (with_reducible assumption) | (with_reducible refine box_set ?_ (by first | (simp; done) | (dsimp only; omega) | (simp; omega))) | (with_reducible refine free_set ?_) | (with_reducible refine Past.setCell ?_ (by first | (simp; done) | (dsimp only; omega) | (simp; omega)) _) | (with_reducible refine box_new (by first | omega | (simp; done) | (simp; omega))) | (with_reducible refine box_old ?_ (by first | omega | (simp; done) | (simp; omega))) | (with_reducible refine free_alloc ?_) | (with_reducible refine free_new (by first | omega | (simp; done) | (simp; omega))) | (with_reducible refine Past.alloc ?_ _) | (with_reducible exact Past.refl _) | (simp only [World.size_alloc]; omega) | omega)); done), by ((repeat (first | (with_reducible assumption) | (with_reducible refine box_set ?_ (by first | (simp; done) | (dsimp only; omega) | (simp; omega))) | (with_reducible refine free_set ?_) | (with_reducible refine Past.setCell ?_ (by first | (simp; done) | (dsimp only; omega) | (simp; omega)) _) | (with_reducible refine box_new (by first | omega | (simp; done) | (simp; omega))) | (with_reducible refine box_old ?_ (by first | omega | (simp; done) | (simp; omega))) | (with_reducible refine free_alloc ?_) | (with_reducible refine free_new (by first | omega | (simp; done) | (simp; omega))) | (with_reducible refine Past.alloc ?_ _) | (with_reducible exact Past.refl _) | (simp only [World.size_alloc]; omega) | omega)); done), by simp⟩) ?_
  rintro w0 ⟨b0, f0, d0, e0, p0, s0⟩
  try simp only [World.size_alloc, hQ]
  go_wp2_with fail
  refine (shown_any _).mono ?_
  rintro e w1 ⟨rfl, q1⟩
  obtain ⟨b1, f1, d1, e1, p1, s1⟩ : (∀ o : Nat, w1.cell? ⟨Q, o, none⟩ = (#[.slice A1 a.ins.length ka1, .slice A2 a.nodes.length ka2, .slice A3 a.outs.length ka3] : Array Value)[o]?) ∧ (∀ o : Nat, w1.frozen? ⟨Q, o, none⟩ = false) ∧ (∀ o : Nat, w1.cell? ⟨Q + 1, o, none⟩ = (#[.slice B1 b.ins.length kb1, .slice B2 b.nodes.length kb2, .slice B3 b.outs.length kb3] : Array Value)[o]?) ∧ (∀ o : Nat, w1.frozen? ⟨Q + 1, o, none⟩ = false) ∧ Past W w1 ∧ Q + 2 ≤ w1.heap.size := ⟨box_past q1 b0 (by omega), free_past q1 f0 (by omega), box_past q1 d0 (by omega), free_past q1 e0 (by omega), p0.trans q1, by have := q1.2.2.1; omega⟩
  clear b0 f0 d0 e0 p0 s0 q1
  go_wp2_with fail
  refine (LA.out w1 p1).mono ?_
  rintro e w2 ⟨gv, rfl, ig2, q2⟩
  obtain ⟨b2, f2, d2, e2, p2, s2⟩ : (∀ o : Nat, w2.cell? ⟨Q, o, none⟩ = (#[.slice A1 a.ins.length ka1, .slice A2 a.nodes.length ka2, .slice A3 a.outs.length ka3] : Array Value)[o]?) ∧ (∀ o : Nat, w2.frozen? ⟨Q, o, none⟩ = false) ∧ (∀ o : Nat, w2.cell? ⟨Q + 1, o, none⟩ = (#[.slice B1 b.ins.length kb1, .slice B2 b.nodes.length kb2, .slice B3 b.outs.length kb3] : Array Value)[o]?) ∧ (∀ o : Nat, w2.frozen? ⟨Q + 1, o, none⟩ = false) ∧ Past W w2 ∧ Q + 2 ≤ w2.heap.size := ⟨box_past q2 b1 (by omega), free_past q2 f1 (by omega), box_past q2 d1 (by omega), free_past q2 e1 (by omega), p1.trans q2, by have := q2.2.2.1; omega⟩
  have IG2 := Lib.hid ig2
  obtain ⟨iv, nv, ov, rfl, hi, hn, ho⟩ := ig2
  obtain ⟨D1, kd1, rfl, _, _, _, _, _⟩ := hi
  obtain ⟨D2, kd2, rfl, _, _, _, _, _⟩ := hn
  obtain ⟨D3, kd3, rfl, _, _, _, _, _⟩ := ho
  have WFG := Lib.hid (wf_of_graph IG2.out)
  clear b1 f1 d1 e1 p1 s1 q2 LA HA
  go_upto_region 3 with fail
  refine opq (fun w' => (∀ o : Nat, w'.cell? ⟨Q, o, none⟩ = (#[.slice D1 g.ins.length kd1, .slice D2 g.nodes.length kd2, .slice D3 g.outs.length kd3] : Array Value)[o]?) ∧ (∀ o : Nat, w'.frozen? ⟨Q, o, none⟩ = false) ∧ (∀ o : Nat, w'.cell? ⟨Q + 1, o, none⟩ = (#[.slice B1 b.ins.length kb1, .slice B2 b.nodes.length kb2, .slice B3 b.outs.length kb3] : Array Value)[o]?) ∧ (∀ o : Nat, w'.frozen? ⟨Q + 1, o, none⟩ = false) ∧ Past W w' ∧ Q + 2 ≤ w'.heap.size ∧ Hid (IsGraph w' (.agg #[.slice D1 g.ins.length kd1, .slice D2 g.nodes.length kd2, .slice D3 g.outs.length kd3]) g)) (by
    exact ⟨box_set3 b2, by ((repeat (first | (with_reducible assumption) | (with_reducible refine box_set ?_ (by first | (simp; done) | (dsimp only; omega) | (simp; omega))) | (with_reducible refine free_set ?_) | (with_reducible refine Past.setCell ?_ (by first | (simp; done) | (dsimp only; omega) | (simp; omega)) _) | (with_reducible refine box_new (by first | omega | (simp; done) | (simp; omega))) | (with_reducible refine box_old ?_ (by first | omega | (simp; done) | (simp; omega))) | (with_reducible refine free_alloc ?_) | (with_reducible refine free_new (by first | omega | (simp; done) | (simp; omega))) | (with_reducible refine Past.alloc ?_ _) | (with_reducible exact Past.refl _) | (simp only [World.size_alloc]; omega) | omega)); done), by ((repeat (first | (with_reducible assumption) | (with_reducible refine box_set ?_ (by first | (simp; done) | (dsimp only; omega) | (simp; omega))) | (with_reducible refine free_set ?_) | (with_reducible refine Past.setCell ?_ (by first | (simp; done) | (dsimp only; omega) | (simp; omega)) _) | (with_reducible refine box_new (by first | omega | (simp; done) | (simp; omega))) | (with_reducible refine box_old ?_ (by first | omega | (simp; done) | (simp; omega))) | (with_reducible refine free_alloc ?_) | (with_reducible refine free_new (by first | omega | (simp; done) | (simp; omega))) | (with_reducible refine Past.alloc ?_ _) | (with_reducible exact Past.refl _) | (simp only [World.size_alloc]; omega) | omega)); done), by ((repeat (first | (with_reducible assumption) | (with_reducible refine box_set ?_ (by first | (simp; done) | (dsimp only; omega) | (simp; omega))) | (with_reducible refine free_set ?_) | (with_reducible refine Past.setCell ?_ (by first | (simp; done) | (dsimp only; omega) | (simp; omega)) _) | (with_reducible refine box_new (by first | omega | (simp; done) | (simp; omega))) | (with_reducible refine box_old ?_ (by first | omega | (simp; done) | (simp; omega))) | (with_reducible refine free_alloc ?_) | (with_reducible refine free_new (by first | omega | (simp; done) | (simp; omega))) | (with_reducible refine Past.alloc ?_ _) | (with_reducible exact Past.refl _) | (simp only [World.size_alloc]; omega) | omega)); done), by ((repeat (first | (with_reducible assumption) | (with_reducible refine box_set ?_ (by first | (simp; done) | (dsimp only; omega) | (simp; omega))) | (with_reducible refine free_set ?_) | (with_reducible refine Past.setCell ?_ (by first | (simp; done) | (dsimp only; omega) | (simp; omega)) _) | (with_reducible refine box_new (by first | omega | (simp; done) | (simp; omega))) | (with_reducible refine box_old ?_ (by first | omega | (simp; done) | (simp; omega))) | (with_reducible refine free_alloc ?_) | (with_reducible refine free_new (by first | omega | (simp; done) | (simp; omega))) | (with_reducible refine Past.alloc ?_ _) | (with_reducible exact Past.refl _) | (simp only [World.size_alloc]; omega) | omega)); done), by simpa only [size_setCell] using s2, Lib.hid (graph_save IG2.out (noInt_box b2) ((((Save.refl Q w2).set 0 _).set 1 _).set 2 _))⟩) ?_
  rintro w3 ⟨b3, f3, d3', e3, p3, s3, IG3⟩
  clear b2 f2 d2 e2 p2 s2 IG2
  go_wp2_with fail
  refine (LB.out w3 p3).mono ?_
  rintro e w4 ⟨hv, rfl, ih4, q4⟩
  obtain ⟨b4, d4, e4, p4, s4⟩ : (∀ o : Nat, w4.cell? ⟨Q, o, none⟩ = (#[.slice D1 g.ins.length kd1, .slice D2 g.nodes.length kd2, .slice D3 g.outs.length kd3] : Array Value)[o]?) ∧ (∀ o : Nat, w4.cell? ⟨Q + 1, o, none⟩ = (#[.slice B1 b.ins.length kb1, .slice B2 b.nodes.length kb2, .slice B3 b.outs.length kb3] : Array Value)[o]?) ∧ (∀ o : Nat, w4.frozen? ⟨Q + 1, o, none⟩ = false) ∧ Past W w4 ∧ Q + 2 ≤ w4.heap.size := ⟨box_past q4 b3 (by omega), box_past q4 d3' (by omega), free_past q4 e3 (by omega), p3.trans q4, by have := q4.2.2.1; omega⟩
  have IG4 := Lib.hid (IG3.out.grow q4)
  have IH4 := Lib.hid ih4
  obtain ⟨iv, nv, ov, rfl, hi, hn, ho⟩ := ih4
  obtain ⟨E1, ke1, rfl, _, _, _, _, _⟩ := hi
  obtain ⟨E2, ke2, rfl, _, _, _, _, _⟩ := hn
  obtain ⟨E3, ke3, rfl, _, _, _, _, _⟩ := ho
  have WFH := Lib.hid (wf_of_graph IH4.out)
  clear b3 f3 d3' e3 p3 s3 q4 LB HB IG3
  go_upto_region 4 with fail
  refine opq (fun w' => (∀ o : Nat, w'.cell? ⟨Q, o, none⟩ = (#[.slice D1 g.ins.length kd1, .slice D2 g.nodes.length kd2, .slice D3 g.outs.length kd3] : Array Value)[o]?) ∧ (∀ o : Nat, w'.cell? ⟨Q + 1, o, none⟩ = (#[.slice E1 h.ins.length ke1, .slice E2 h.nodes.length ke2, .slice E3 h.outs.length ke3] : Array Value)[o]?) ∧ Past W w' ∧ Q + 2 ≤ w'.heap.size ∧ Hid (IsGraph w' (.agg #[.slice D1 g.ins.length kd1, .slice D2 g.nodes.length kd2, .slice D3 g.outs.length kd3]) g) ∧ Hid (IsGraph w' (.agg #[.slice E1 h.ins.length ke1, .slice E2 h.nodes.length ke2, .slice E3 h.outs.length ke3]) h)) (by
    exact ⟨by ((repeat (first | (with_reducible assumption) | (with_reducible refine box_set ?_ (by first | (simp; done) | (dsimp only; omega) | (simp; omega))) | (with_reducible refine free_set ?_) | (with_reducible refine Past.setCell ?_ (by first | (simp; done) | (dsimp only; omega) | (simp; omega)) _) | (with_reducible refine box_new (by first | omega | (simp; done) | (simp; omega))) | (with_reducible refine box_old ?_ (by first | omega | (simp; done) | (simp; omega))) | (with_reducible refine free_alloc ?_) | (with_reducible refine free_new (by first | omega | (simp; done) | (simp; omega))) | (with_reducible refine Past.alloc ?_ _) | (with_reducible exact Past.refl _) | (simp only [World.size_alloc]; omega) | omega)); done), box_set3 d4, by ((repeat (first | (with_reducible assumption) | (with_reducible refine box_set ?_ (by first | (simp; done) | (dsimp only; omega) | (simp; omega))) | (with_reducible refine free_set ?_) | (with_reducible refine Past.setCell ?_ (by first | (simp; done) | (dsimp only; omega) | (simp; omega)) _) | (with_reducible refine box_new (by first | omega | (simp; done) | (simp; omega))) | (with_reducible refine box_old ?_ (by first | omega | (simp; done) | (simp; omega))) | (with_reducible refine free_alloc ?_) | (with_reducible refine free_new (by first | omega | (simp; done) | (simp; omega))) | (with_reducible refine Past.alloc ?_ _) | (with_reducible exact Past.refl _) | (simp only [World.size_alloc]; omega) | omega)); done), by simpa only [size_setCell] using s4, Lib.hid (graph_save IG4.out (noInt_box d4) ((((Save.refl (Q + 1) w4).set 0 _).set 1 _).set 2 _)), Lib.hid (graph_save IH4.out (noInt_box d4) ((((Save.refl (Q + 1) w4).set 0 _).set 1 _).set 2 _))⟩) ?_
  rintro w5 ⟨b5, d5, p5, s5, IG5, IH5⟩
  clear b4 d4 e4 p4 s4 IG4 IH4
  have PA := Lib.hid (put_any g _ w5 IG5.out CG.out (by have := LEG.out; omega))
  have PB := Lib.hid (fun w (p : Past w5 w) => put_any h _ w (IH5.out.grow p) CH.out (by have := LEH.out; omega))
  go_wp2_with fail
  refine PA.out.mono ?_
  rintro e w6 H
  rcases H with ⟨hEg, v, rfl, ob, q6⟩ | ⟨hE, rfl, q6⟩
  rotate_left
  · obtain ⟨q, hq⟩ : ∃ q, valuesE g = q := ⟨_, rfl⟩
    rw [hq] at hE
    rw [hq]
    have e1 : (q != 0) = true := by simpa [bne] using hE
    have p6 := p5.trans q6
    have d6 := box_past q6 d5 (by omega)
    clear hq hE PA b5 d5 p5
    go_wp2_with fail
    refine (PB.out w6 q6).mono ?_
    rintro e w7 H
    have fin : ∃ x y, e = .returned (.tuple #[x, .int .i64 y]) ∧ Past w6 w7 := by
      rcases H with ⟨_, v, rfl, _, q7⟩ | ⟨_, rfl, q7⟩
      · exact ⟨_, _, rfl, q7⟩
      · exact ⟨_, _, rfl, q7⟩
    clear H PB
    obtain ⟨x, y, rfl, q7⟩ := fin
    have p7 := p6.trans q7
    clear q7 p6 d6 q6
    go_wp2_with fail
    go_ret
    exact ⟨rfl, p7⟩
  · have p6 := p5.trans q6
    have OKG := Lib.hid (okG_of hEg WFG.out)
    have HEG := Lib.hid hEg
    have IG6 := Lib.hid (IG5.out.grow q6)
    have IH6 := Lib.hid (IH5.out.grow q6)
    have BG := Lib.hid (ownB_nums ob (graphB_bytes g))
    have b6 := box_past q6 b5 (by omega)
    have d6 := box_past q6 d5 (by omega)
    have s6 : Q + 2 ≤ w6.heap.size := by have := q6.2.2.1; omega
    have LG3 := graphB_pos g
    obtain ⟨L, hL⟩ : ∃ L, (graphB g).length = L := ⟨_, rfl⟩
    have HLL := Lib.hid hL
    have hL5 : L ≤ 100000 := by have := LEG.out; omega
    obtain ⟨bb, off, cb, rfl, _, ucb, ucm⟩ := put_slice ob hL
    have PB' := Lib.hid (PB.out w6 q6)
    clear ob q6 b5 d5 p5 s5 PA PB hEg IG5 IH5 hL
    rw [HLL.out] at LG3
    go_wp2_with fail
    refine PB'.out.mono ?_
    rintro e w7 H
    rcases H with ⟨hEh, v, rfl, ob, q7⟩ | ⟨hE, rfl, q7⟩
    rotate_left
    · obtain ⟨q, hq⟩ : ∃ q, valuesE h = q := ⟨_, rfl⟩
      rw [hq] at hE
      rw [hq]
      have e1 : (q != 0) = true := by simpa [bne] using hE
      have p7 := p6.trans q7
      clear hq hE PB' b6 d6 p6 q7
      go_wp2_with fail
      go_ret
      exact ⟨rfl, p7⟩
    · have p7 := p6.trans q7
      have OKH := Lib.hid (okG_of hEh WFH.out)
      have HEH := Lib.hid hEh
      have IG7 := Lib.hid (IG6.out.grow q7)
      have IH7 := Lib.hid (IH6.out.grow q7)
      have BG7 := Lib.hid (BG.out.grow q7)
      have BH7 := Lib.hid (ownB_nums ob (graphB_bytes h))
      have b7 := box_past q7 b6 (by omega)
      have d7 := box_past q7 d6 (by omega)
      have s7 : Q + 2 ≤ w7.heap.size := by have := q7.2.2.1; omega
      have LH3 := graphB_pos h
      obtain ⟨M, hM⟩ : ∃ L, (graphB h).length = L := ⟨_, rfl⟩
      have HMM := Lib.hid hM
      have hM5 : M ≤ 100000 := by have := LEH.out; omega
      obtain ⟨bh, ofh, ch, rfl, _, uch, uchm⟩ := put_slice ob hM
      clear ob q7 b6 d6 p6 s6 PB' hEh IG6 IH6 hM BG
      rw [HMM.out] at LH3
      obtain ⟨i0, hi0, hz0, hz1, hz2⟩ := info_parts info8
      have I1 := Lib.hid hi0
      have I2 := Lib.hid hz0
      have I3 := Lib.hid hz1
      have I4 := Lib.hid hz2
      clear hi0 hz0 hz1 hz2
      go_wp2_with (at_builtin; refine wpList_append_own _ rfl (.tmp 44) (.tmp 45) 22 rfl w7.heap.size 5 i0 _ 1 1 Try.underlying22 I1.out I2.out I3.out I4.out rfl (by decide) _ 0 [] rfl (World.ownsRow_made w7 #[] 0 (Nat.le_refl _) (by simp) (by simp)) ⟨bb, off, none⟩ L cb ((graphB g).map (Value.int .u8)) rfl (by simp [HLL.out]) (news_bytes (BG7.out.grow ((Past.refl w7).alloc _))) (bytes_one _) ?c4 ?c5 ?c6 ?_)
      case c4 => unfold maxLen; omega
      case c5 => omega
      case c6 => simp
      intro v8 w8 own8 grow8 _
      have r8 : Past w7 w8 := ((Past.refl w7).alloc _).grownBy grow8 (fun j hj => by simp [Value.ownBlock] at hj; omega)
      have O8 := Lib.hid own8
      have SZ8 : w7.heap.size ≤ w8.heap.size := r8.2.2.1
      clear own8 grow8
      go_wp2_with (at_builtin; refine wpList_append_own _ rfl (.tmp 46) (.tmp 47) 22 rfl w7.heap.size 5 i0 _ 1 1 Try.underlying22 I1.out I2.out I3.out I4.out rfl (by decide) _ _ _ rfl O8.out ⟨bh, ofh, none⟩ M ch ((graphB h).map (Value.int .u8)) rfl (by simp [HMM.out]) (news_bytes (BH7.out.grow r8)) (bytes_one _) ?c4 ?c5 ?c6 ?_)
      case c4 => unfold maxLen; omega
      case c5 => omega
      case c6 => omega
      intro v9 w9 own9 grow9 _
      have r9 : Past w7 w9 := r8.grownBy grow9 (fun j hj => (World.ownsRow.lt O8.out j hj).1)
      have NB := Lib.hid (nums_byte (n := 0 + L + M) (xs := graphB g ++ graphB h) (by simp [HLL.out, HMM.out]) (by simpa using own9) (bytesP_app (graphB_bytes g) (graphB_bytes h)))
      have p9 := p7.trans r9
      have b9 := box_past r9 b7 (by omega)
      have d9 := box_past r9 d7 (by omega)
      have s9 : Q + 2 ≤ w9.heap.size := by have := r9.2.2.1; omega
      obtain ⟨nb, no, nc, rfl, unc, uncm⟩ : ∃ b o c, v9 = .slice (some ⟨b, o, none⟩) (L + M) c ∧ L + M ≤ c ∧ c ≤ maxLen := by
        obtain ⟨A, cap, e, h2, h3, _, _, h6⟩ := NB.out
        have hl : (graphB g ++ graphB h).length = L + M := by simp [HLL.out, HMM.out]
        obtain ⟨b, o, rfl, _, _⟩ := h6 (by omega)
        exact ⟨b, o, cap, by rw [e, hl], by omega, h3⟩
      have IG9 := Lib.hid (IG7.out.grow r9)
      have IH9 := Lib.hid (IH7.out.grow r9)
      have BG9 := Lib.hid (BG7.out.grow r9)
      have BH9 := Lib.hid (BH7.out.grow r9)
      clear r8 r9 O8 SZ8 own9 grow9 p7 b7 d7 s7 IG7 IH7 BG7 BH7
      have TY := Lib.hid (take_yes HEG.out OKG.out NB.out (by simp [HLL.out, HMM.out]; omega))
      go_wp2_with fail
      refine TY.out.mono ?_
      rintro e w10 ⟨gx, rfl, ix, q10⟩
      rw [HLL.out]
      have IX := Lib.hid ix
      obtain ⟨iv, nv, ov, rfl, hi, hn, ho⟩ := ix
      obtain ⟨X1, kx1, rfl, _, _, _, _, _⟩ := hi
      obtain ⟨X2, kx2, rfl, _, _, _, _, _⟩ := hn
      obtain ⟨X3, kx3, rfl, _, _, _, _, _⟩ := ho

      obtain ⟨PX, hPX⟩ : ∃ n, w10.heap.size = n := ⟨_, rfl⟩
      go_upto_region 10 with fail
      refine opq (fun w' => (∀ o : Nat, w'.cell? ⟨Q, o, none⟩ = (#[.slice D1 g.ins.length kd1, .slice D2 g.nodes.length kd2, .slice D3 g.outs.length kd3] : Array Value)[o]?) ∧ (∀ o : Nat, w'.cell? ⟨Q + 1, o, none⟩ = (#[.slice E1 h.ins.length ke1, .slice E2 h.nodes.length ke2, .slice E3 h.outs.length ke3] : Array Value)[o]?) ∧ (∀ o : Nat, w'.cell? ⟨PX, o, none⟩ = (#[.slice X1 g.ins.length kx1, .slice X2 g.nodes.length kx2, .slice X3 g.outs.length kx3] : Array Value)[o]?) ∧ Past W w' ∧ Past w9 w' ∧ Past w10 w' ∧ PX + 1 ≤ w'.heap.size) (by
        have b10 := box_past q10 b9 (by omega)
        have d10 := box_past q10 d9 (by omega)
        have p10 := p9.trans q10
        have s10 : Q + 2 ≤ w10.heap.size := by have := q10.2.2.1; omega
        subst hPX
        exact ⟨by ((repeat (first | (with_reducible assumption) | (with_reducible refine box_set ?_ (by first | (simp; done) | (dsimp only; omega) | (simp; omega))) | (with_reducible refine free_set ?_) | (with_reducible refine Past.setCell ?_ (by first | (simp; done) | (dsimp only; omega) | (simp; omega)) _) | (with_reducible refine box_new (by first | omega | (simp; done) | (simp; omega))) | (with_reducible refine box_old ?_ (by first | omega | (simp; done) | (simp; omega))) | (with_reducible refine free_alloc ?_) | (with_reducible refine free_new (by first | omega | (simp; done) | (simp; omega))) | (with_reducible refine Past.alloc ?_ _) | (with_reducible exact Past.refl _) | (simp only [World.size_alloc]; omega) | omega)); done), by ((repeat (first | (with_reducible assumption) | (with_reducible refine box_set ?_ (by first | (simp; done) | (dsimp only; omega) | (simp; omega))) | (with_reducible refine free_set ?_) | (with_reducible refine Past.setCell ?_ (by first | (simp; done) | (dsimp only; omega) | (simp; omega)) _) | (with_reducible refine box_new (by first | omega | (simp; done) | (simp; omega))) | (with_reducible refine box_old ?_ (by first | omega | (simp; done) | (simp; omega))) | (with_reducible refine free_alloc ?_) | (with_reducible refine free_new (by first | omega | (simp; done) | (simp; omega))) | (with_reducible refine Past.alloc ?_ _) | (with_reducible exact Past.refl _) | (simp only [World.size_alloc]; omega) | omega)); done), by ((repeat (first | (with_reducible assumption) | (with_reducible refine box_set ?_ (by first | (simp; done) | (dsimp only; omega) | (simp; omega))) | (with_reducible refine free_set ?_) | (with_reducible refine Past.setCell ?_ (by first | (simp; done) | (dsimp only; omega) | (simp; omega)) _) | (with_reducible refine box_new (by first | omega | (simp; done) | (simp; omega))) | (with_reducible refine box_old ?_ (by first | omega | (simp; done) | (simp; omega))) | (with_reducible refine free_alloc ?_) | (with_reducible refine free_new (by first | omega | (simp; done) | (simp; omega))) | (with_reducible refine Past.alloc ?_ _) | (with_reducible exact Past.refl _) | (simp only [World.size_alloc]; omega) | omega)); done), by ((repeat (first | (with_reducible assumption) | (with_reducible refine box_set ?_ (by first | (simp; done) | (dsimp only; omega) | (simp; omega))) | (with_reducible refine free_set ?_) | (with_reducible refine Past.setCell ?_ (by first | (simp; done) | (dsimp only; omega) | (simp; omega)) _) | (with_reducible refine box_new (by first | omega | (simp; done) | (simp; omega))) | (with_reducible refine box_old ?_ (by first | omega | (simp; done) | (simp; omega))) | (with_reducible refine free_alloc ?_) | (with_reducible refine free_new (by first | omega | (simp; done) | (simp; omega))) | (with_reducible refine Past.alloc ?_ _) | (with_reducible exact Past.refl _) | (simp only [World.size_alloc]; omega) | omega)); done), by ((repeat (first | (with_reducible assumption) | (with_reducible refine box_set ?_ (by first | (simp; done) | (dsimp only; omega) | (simp; omega))) | (with_reducible refine free_set ?_) | (with_reducible refine Past.setCell ?_ (by first | (simp; done) | (dsimp only; omega) | (simp; omega)) _) | (with_reducible refine box_new (by first | omega | (simp; done) | (simp; omega))) | (with_reducible refine box_old ?_ (by first | omega | (simp; done) | (simp; omega))) | (with_reducible refine free_alloc ?_) | (with_reducible refine free_new (by first | omega | (simp; done) | (simp; omega))) | (with_reducible refine Past.alloc ?_ _) | (with_reducible exact Past.refl _) | (simp only [World.size_alloc]; omega) | omega)); done), by ((repeat (first | (with_reducible assumption) | (with_reducible refine box_set ?_ (by first | (simp; done) | (dsimp only; omega) | (simp; omega))) | (with_reducible refine free_set ?_) | (with_reducible refine Past.setCell ?_ (by first | (simp; done) | (dsimp only; omega) | (simp; omega)) _) | (with_reducible refine box_new (by first | omega | (simp; done) | (simp; omega))) | (with_reducible refine box_old ?_ (by first | omega | (simp; done) | (simp; omega))) | (with_reducible refine free_alloc ?_) | (with_reducible refine free_new (by first | omega | (simp; done) | (simp; omega))) | (with_reducible refine Past.alloc ?_ _) | (with_reducible exact Past.refl _) | (simp only [World.size_alloc]; omega) | omega)); done), by simp⟩) ?_
      rintro w11 ⟨b11, d11, x11, p11, pp11, pq11, s11⟩
      have hQX : Q + 1 < PX := by have := q10.2.2.1; omega
      have hne : nc ≠ L := by omega
      have ND := Lib.hid (by
        have := nums_drop L (by simp [HLL.out]) NB.out
        have e1 : (graphB g ++ graphB h).drop L = graphB h := by rw [← HLL.out, List.drop_left]
        rw [e1, show L + M - L = M by omega] at this
        exact this)
      have TZ := Lib.hid (take_yes (rest := []) HEH.out OKH.out (by rw [List.append_nil]; exact ND.out.grow pp11) (by simp [HMM.out]; omega))
      have eML : L + M - L = M := by omega
      clear b9 d9 p9 s9 q10 hPX TY
      go_wp2_with fail
      refine TZ.out.mono ?_
      rintro e w12 ⟨gz, rfl, iz, q12⟩
      rw [HMM.out]
      have IZ := Lib.hid iz
      obtain ⟨iv, nv, ov, rfl, hi, hn, ho⟩ := iz
      obtain ⟨Z1, kz1, rfl, _, _, _, _, _⟩ := hi
      obtain ⟨Z2, kz2, rfl, _, _, _, _, _⟩ := hn
      obtain ⟨Z3, kz3, rfl, _, _, _, _, _⟩ := ho
      obtain ⟨PZ, hPZ⟩ : ∃ n, w12.heap.size = n := ⟨_, rfl⟩
      go_upto_region 13 with fail
      refine opq (fun w' => (∀ o : Nat, w'.cell? ⟨Q, o, none⟩ = (#[.slice D1 g.ins.length kd1, .slice D2 g.nodes.length kd2, .slice D3 g.outs.length kd3] : Array Value)[o]?) ∧ (∀ o : Nat, w'.cell? ⟨Q + 1, o, none⟩ = (#[.slice E1 h.ins.length ke1, .slice E2 h.nodes.length ke2, .slice E3 h.outs.length ke3] : Array Value)[o]?) ∧ (∀ o : Nat, w'.cell? ⟨PX, o, none⟩ = (#[.slice X1 g.ins.length kx1, .slice X2 g.nodes.length kx2, .slice X3 g.outs.length kx3] : Array Value)[o]?) ∧ (∀ o : Nat, w'.cell? ⟨PZ, o, none⟩ = (#[.slice Z1 h.ins.length kz1, .slice Z2 h.nodes.length kz2, .slice Z3 h.outs.length kz3] : Array Value)[o]?) ∧ Past W w' ∧ Past w9 w' ∧ Past w10 w' ∧ Past w12 w' ∧ PZ + 1 ≤ w'.heap.size) (by
        have b12 := box_past q12 b11 (by omega)
        have d12 := box_past q12 d11 (by omega)
        have x12 := box_past q12 x11 (by omega)
        have p12 := p11.trans q12
        have pp12 := pp11.trans q12
        have pq12 := pq11.trans q12
        have s12 : PX + 1 ≤ w12.heap.size := by have := q12.2.2.1; omega
        subst hPZ
        exact ⟨by ((repeat (first | (with_reducible assumption) | (with_reducible refine box_set ?_ (by first | (simp; done) | (dsimp only; omega) | (simp; omega))) | (with_reducible refine free_set ?_) | (with_reducible refine Past.setCell ?_ (by first | (simp; done) | (dsimp only; omega) | (simp; omega)) _) | (with_reducible refine box_new (by first | omega | (simp; done) | (simp; omega))) | (with_reducible refine box_old ?_ (by first | omega | (simp; done) | (simp; omega))) | (with_reducible refine free_alloc ?_) | (with_reducible refine free_new (by first | omega | (simp; done) | (simp; omega))) | (with_reducible refine Past.alloc ?_ _) | (with_reducible exact Past.refl _) | (simp only [World.size_alloc]; omega) | omega)); done), by ((repeat (first | (with_reducible assumption) | (with_reducible refine box_set ?_ (by first | (simp; done) | (dsimp only; omega) | (simp; omega))) | (with_reducible refine free_set ?_) | (with_reducible refine Past.setCell ?_ (by first | (simp; done) | (dsimp only; omega) | (simp; omega)) _) | (with_reducible refine box_new (by first | omega | (simp; done) | (simp; omega))) | (with_reducible refine box_old ?_ (by first | omega | (simp; done) | (simp; omega))) | (with_reducible refine free_alloc ?_) | (with_reducible refine free_new (by first | omega | (simp; done) | (simp; omega))) | (with_reducible refine Past.alloc ?_ _) | (with_reducible exact Past.refl _) | (simp only [World.size_alloc]; omega) | omega)); done), by ((repeat (first | (with_reducible assumption) | (with_reducible refine box_set ?_ (by first | (simp; done) | (dsimp only; omega) | (simp; omega))) | (with_reducible refine free_set ?_) | (with_reducible refine Past.setCell ?_ (by first | (simp; done) | (dsimp only; omega) | (simp; omega)) _) | (with_reducible refine box_new (by first | omega | (simp; done) | (simp; omega))) | (with_reducible refine box_old ?_ (by first | omega | (simp; done) | (simp; omega))) | (with_reducible refine free_alloc ?_) | (with_reducible refine free_new (by first | omega | (simp; done) | (simp; omega))) | (with_reducible refine Past.alloc ?_ _) | (with_reducible exact Past.refl _) | (simp only [World.size_alloc]; omega) | omega)); done), by ((repeat (first | (with_reducible assumption) | (with_reducible refine box_set ?_ (by first | (simp; done) | (dsimp only; omega) | (simp; omega))) | (with_reducible refine free_set ?_) | (with_reducible refine Past.setCell ?_ (by first | (simp; done) | (dsimp only; omega) | (simp; omega)) _) | (with_reducible refine box_new (by first | omega | (simp; done) | (simp; omega))) | (with_reducible refine box_old ?_ (by first | omega | (simp; done) | (simp; omega))) | (with_reducible refine free_alloc ?_) | (with_reducible refine free_new (by first | omega | (simp; done) | (simp; omega))) | (with_reducible refine Past.alloc ?_ _) | (with_reducible exact Past.refl _) | (simp only [World.size_alloc]; omega) | omega)); done), by ((repeat (first | (with_reducible assumption) | (with_reducible refine box_set ?_ (by first | (simp; done) | (dsimp only; omega) | (simp; omega))) | (with_reducible refine free_set ?_) | (with_reducible refine Past.setCell ?_ (by first | (simp; done) | (dsimp only; omega) | (simp; omega)) _) | (with_reducible refine box_new (by first | omega | (simp; done) | (simp; omega))) | (with_reducible refine box_old ?_ (by first | omega | (simp; done) | (simp; omega))) | (with_reducible refine free_alloc ?_) | (with_reducible refine free_new (by first | omega | (simp; done) | (simp; omega))) | (with_reducible refine Past.alloc ?_ _) | (with_reducible exact Past.refl _) | (simp only [World.size_alloc]; omega) | omega)); done), by ((repeat (first | (with_reducible assumption) | (with_reducible refine box_set ?_ (by first | (simp; done) | (dsimp only; omega) | (simp; omega))) | (with_reducible refine free_set ?_) | (with_reducible refine Past.setCell ?_ (by first | (simp; done) | (dsimp only; omega) | (simp; omega)) _) | (with_reducible refine box_new (by first | omega | (simp; done) | (simp; omega))) | (with_reducible refine box_old ?_ (by first | omega | (simp; done) | (simp; omega))) | (with_reducible refine free_alloc ?_) | (with_reducible refine free_new (by first | omega | (simp; done) | (simp; omega))) | (with_reducible refine Past.alloc ?_ _) | (with_reducible exact Past.refl _) | (simp only [World.size_alloc]; omega) | omega)); done), by ((repeat (first | (with_reducible assumption) | (with_reducible refine box_set ?_ (by first | (simp; done) | (dsimp only; omega) | (simp; omega))) | (with_reducible refine free_set ?_) | (with_reducible refine Past.setCell ?_ (by first | (simp; done) | (dsimp only; omega) | (simp; omega)) _) | (with_reducible refine box_new (by first | omega | (simp; done) | (simp; omega))) | (with_reducible refine box_old ?_ (by first | omega | (simp; done) | (simp; omega))) | (with_reducible refine free_alloc ?_) | (with_reducible refine free_new (by first | omega | (simp; done) | (simp; omega))) | (with_reducible refine Past.alloc ?_ _) | (with_reducible exact Past.refl _) | (simp only [World.size_alloc]; omega) | omega)); done), by ((repeat (first | (with_reducible assumption) | (with_reducible refine box_set ?_ (by first | (simp; done) | (dsimp only; omega) | (simp; omega))) | (with_reducible refine free_set ?_) | (with_reducible refine Past.setCell ?_ (by first | (simp; done) | (dsimp only; omega) | (simp; omega)) _) | (with_reducible refine box_new (by first | omega | (simp; done) | (simp; omega))) | (with_reducible refine box_old ?_ (by first | omega | (simp; done) | (simp; omega))) | (with_reducible refine free_alloc ?_) | (with_reducible refine free_new (by first | omega | (simp; done) | (simp; omega))) | (with_reducible refine Past.alloc ?_ _) | (with_reducible exact Past.refl _) | (simp only [World.size_alloc]; omega) | omega)); done), by simp⟩) ?_
      rintro w13 ⟨b13, d13, x13, z13, p13, pp13, pq13, pr13, s13⟩
      have hXZ : PX < PZ := by have := q12.2.2.1; omega
      clear b11 d11 x11 p11 pp11 pq11 s11 q12 hPZ TZ ND hne
      have WN := Lib.hid (whole_no (not_whole OKG.out (graphB h) (fun f => by have := LH3; rw [← HMM.out, f] at this; simp at this)) (NB.out.grow pp13) (by simp [HLL.out, HMM.out]; omega))
      go_wp2_with fail
      refine WN.out.mono ?_
      rintro e w14 ⟨rfl, q14⟩
      go_upto_region 14 with fail
      refine opq (fun w' => (∀ o : Nat, w'.cell? ⟨Q, o, none⟩ = (#[.slice D1 g.ins.length kd1, .slice D2 g.nodes.length kd2, .slice D3 g.outs.length kd3] : Array Value)[o]?) ∧ (∀ o : Nat, w'.cell? ⟨Q + 1, o, none⟩ = (#[.slice E1 h.ins.length ke1, .slice E2 h.nodes.length ke2, .slice E3 h.outs.length ke3] : Array Value)[o]?) ∧ (∀ o : Nat, w'.cell? ⟨PX, o, none⟩ = (#[.slice X1 g.ins.length kx1, .slice X2 g.nodes.length kx2, .slice X3 g.outs.length kx3] : Array Value)[o]?) ∧ (∀ o : Nat, w'.cell? ⟨PZ, o, none⟩ = (#[.slice Z1 h.ins.length kz1, .slice Z2 h.nodes.length kz2, .slice Z3 h.outs.length kz3] : Array Value)[o]?) ∧ Past W w' ∧ Past w9 w' ∧ Past w10 w' ∧ Past w12 w' ∧ PZ + 1 ≤ w'.heap.size) (by
        have b14 := box_past q14 b13 (by omega)
        have d14 := box_past q14 d13 (by omega)
        have x14 := box_past q14 x13 (by omega)
        have z14 := box_past q14 z13 (by omega)
        have p14 := p13.trans q14
        have pp14 := pp13.trans q14
        have pq14 := pq13.trans q14
        have pr14 := pr13.trans q14
        have s14 : PZ + 1 ≤ w14.heap.size := by have := q14.2.2.1; omega
        exact ⟨by ((repeat (first | (with_reducible assumption) | (with_reducible refine box_set ?_ (by first | (simp; done) | (dsimp only; omega) | (simp; omega))) | (with_reducible refine free_set ?_) | (with_reducible refine Past.setCell ?_ (by first | (simp; done) | (dsimp only; omega) | (simp; omega)) _) | (with_reducible refine box_new (by first | omega | (simp; done) | (simp; omega))) | (with_reducible refine box_old ?_ (by first | omega | (simp; done) | (simp; omega))) | (with_reducible refine free_alloc ?_) | (with_reducible refine free_new (by first | omega | (simp; done) | (simp; omega))) | (with_reducible refine Past.alloc ?_ _) | (with_reducible exact Past.refl _) | (simp only [World.size_alloc]; omega) | omega)); done), by ((repeat (first | (with_reducible assumption) | (with_reducible refine box_set ?_ (by first | (simp; done) | (dsimp only; omega) | (simp; omega))) | (with_reducible refine free_set ?_) | (with_reducible refine Past.setCell ?_ (by first | (simp; done) | (dsimp only; omega) | (simp; omega)) _) | (with_reducible refine box_new (by first | omega | (simp; done) | (simp; omega))) | (with_reducible refine box_old ?_ (by first | omega | (simp; done) | (simp; omega))) | (with_reducible refine free_alloc ?_) | (with_reducible refine free_new (by first | omega | (simp; done) | (simp; omega))) | (with_reducible refine Past.alloc ?_ _) | (with_reducible exact Past.refl _) | (simp only [World.size_alloc]; omega) | omega)); done), by ((repeat (first | (with_reducible assumption) | (with_reducible refine box_set ?_ (by first | (simp; done) | (dsimp only; omega) | (simp; omega))) | (with_reducible refine free_set ?_) | (with_reducible refine Past.setCell ?_ (by first | (simp; done) | (dsimp only; omega) | (simp; omega)) _) | (with_reducible refine box_new (by first | omega | (simp; done) | (simp; omega))) | (with_reducible refine box_old ?_ (by first | omega | (simp; done) | (simp; omega))) | (with_reducible refine free_alloc ?_) | (with_reducible refine free_new (by first | omega | (simp; done) | (simp; omega))) | (with_reducible refine Past.alloc ?_ _) | (with_reducible exact Past.refl _) | (simp only [World.size_alloc]; omega) | omega)); done), by ((repeat (first | (with_reducible assumption) | (with_reducible refine box_set ?_ (by first | (simp; done) | (dsimp only; omega) | (simp; omega))) | (with_reducible refine free_set ?_) | (with_reducible refine Past.setCell ?_ (by first | (simp; done) | (dsimp only; omega) | (simp; omega)) _) | (with_reducible refine box_new (by first | omega | (simp; done) | (simp; omega))) | (with_reducible refine box_old ?_ (by first | omega | (simp; done) | (simp; omega))) | (with_reducible refine free_alloc ?_) | (with_reducible refine free_new (by first | omega | (simp; done) | (simp; omega))) | (with_reducible refine Past.alloc ?_ _) | (with_reducible exact Past.refl _) | (simp only [World.size_alloc]; omega) | omega)); done), by ((repeat (first | (with_reducible assumption) | (with_reducible refine box_set ?_ (by first | (simp; done) | (dsimp only; omega) | (simp; omega))) | (with_reducible refine free_set ?_) | (with_reducible refine Past.setCell ?_ (by first | (simp; done) | (dsimp only; omega) | (simp; omega)) _) | (with_reducible refine box_new (by first | omega | (simp; done) | (simp; omega))) | (with_reducible refine box_old ?_ (by first | omega | (simp; done) | (simp; omega))) | (with_reducible refine free_alloc ?_) | (with_reducible refine free_new (by first | omega | (simp; done) | (simp; omega))) | (with_reducible refine Past.alloc ?_ _) | (with_reducible exact Past.refl _) | (simp only [World.size_alloc]; omega) | omega)); done), by ((repeat (first | (with_reducible assumption) | (with_reducible refine box_set ?_ (by first | (simp; done) | (dsimp only; omega) | (simp; omega))) | (with_reducible refine free_set ?_) | (with_reducible refine Past.setCell ?_ (by first | (simp; done) | (dsimp only; omega) | (simp; omega)) _) | (with_reducible refine box_new (by first | omega | (simp; done) | (simp; omega))) | (with_reducible refine box_old ?_ (by first | omega | (simp; done) | (simp; omega))) | (with_reducible refine free_alloc ?_) | (with_reducible refine free_new (by first | omega | (simp; done) | (simp; omega))) | (with_reducible refine Past.alloc ?_ _) | (with_reducible exact Past.refl _) | (simp only [World.size_alloc]; omega) | omega)); done), by ((repeat (first | (with_reducible assumption) | (with_reducible refine box_set ?_ (by first | (simp; done) | (dsimp only; omega) | (simp; omega))) | (with_reducible refine free_set ?_) | (with_reducible refine Past.setCell ?_ (by first | (simp; done) | (dsimp only; omega) | (simp; omega)) _) | (with_reducible refine box_new (by first | omega | (simp; done) | (simp; omega))) | (with_reducible refine box_old ?_ (by first | omega | (simp; done) | (simp; omega))) | (with_reducible refine free_alloc ?_) | (with_reducible refine free_new (by first | omega | (simp; done) | (simp; omega))) | (with_reducible refine Past.alloc ?_ _) | (with_reducible exact Past.refl _) | (simp only [World.size_alloc]; omega) | omega)); done), by ((repeat (first | (with_reducible assumption) | (with_reducible refine box_set ?_ (by first | (simp; done) | (dsimp only; omega) | (simp; omega))) | (with_reducible refine free_set ?_) | (with_reducible refine Past.setCell ?_ (by first | (simp; done) | (dsimp only; omega) | (simp; omega)) _) | (with_reducible refine box_new (by first | omega | (simp; done) | (simp; omega))) | (with_reducible refine box_old ?_ (by first | omega | (simp; done) | (simp; omega))) | (with_reducible refine free_alloc ?_) | (with_reducible refine free_new (by first | omega | (simp; done) | (simp; omega))) | (with_reducible refine Past.alloc ?_ _) | (with_reducible exact Past.refl _) | (simp only [World.size_alloc]; omega) | omega)); done), by simp; omega⟩) ?_
      rintro w15 ⟨b15, d15, x15, z15, p15, pp15, pq15, pr15, s15⟩
      clear b13 d13 x13 z13 p13 pp13 pq13 pr13 s13 q14 WN
      have S1 := Lib.hid (rsame_any g g _ _ true w15 (IX.out.grow pq15) (IG9.out.grow pp15) (by simp))
      go_wp2_with fail
      refine S1.out.mono ?_
      rintro e w16 ⟨rfl, g16⟩
      have q16 := Grown.past g16
      obtain ⟨b16, d16, z16, p16, pp16, pr16, s16⟩ : (∀ o : Nat, w16.cell? ⟨Q, o, none⟩ = (#[.slice D1 g.ins.length kd1, .slice D2 g.nodes.length kd2, .slice D3 g.outs.length kd3] : Array Value)[o]?) ∧ (∀ o : Nat, w16.cell? ⟨Q + 1, o, none⟩ = (#[.slice E1 h.ins.length ke1, .slice E2 h.nodes.length ke2, .slice E3 h.outs.length ke3] : Array Value)[o]?) ∧ (∀ o : Nat, w16.cell? ⟨PZ, o, none⟩ = (#[.slice Z1 h.ins.length kz1, .slice Z2 h.nodes.length kz2, .slice Z3 h.outs.length kz3] : Array Value)[o]?) ∧ Past W w16 ∧ Past w9 w16 ∧ Past w12 w16 ∧ PZ + 1 ≤ w16.heap.size := ⟨box_past q16 b15 (by omega), box_past q16 d15 (by omega), box_past q16 z15 (by omega), p15.trans q16, pp15.trans q16, pr15.trans q16, by have := q16.2.2.1; omega⟩
      clear b15 d15 x15 z15 p15 pp15 pq15 pr15 s15 q16 g16 S1
      have S2 := Lib.hid (rsame_any h h _ _ true w16 (IZ.out.grow pr16) (IH9.out.grow pp16) (by simp))
      go_wp2_with fail
      refine S2.out.mono ?_
      rintro e w17 ⟨rfl, g17⟩
      have q17 := Grown.past g17
      obtain ⟨b17, d17, p17, pp17, s17⟩ : (∀ o : Nat, w17.cell? ⟨Q, o, none⟩ = (#[.slice D1 g.ins.length kd1, .slice D2 g.nodes.length kd2, .slice D3 g.outs.length kd3] : Array Value)[o]?) ∧ (∀ o : Nat, w17.cell? ⟨Q + 1, o, none⟩ = (#[.slice E1 h.ins.length ke1, .slice E2 h.nodes.length ke2, .slice E3 h.outs.length ke3] : Array Value)[o]?) ∧ Past W w17 ∧ Past w9 w17 ∧ PZ + 1 ≤ w17.heap.size := ⟨box_past q17 b16 (by omega), box_past q17 d16 (by omega), p16.trans q17, pp16.trans q17, by have := q17.2.2.1; omega⟩
      clear b16 d16 z16 p16 pp16 pr16 s16 q17 g17 S2
      obtain ⟨t, ht⟩ := bool_any (g = h)
      have HT := Lib.hid ht
      have S3 := Lib.hid (rsame_any g h _ _ t w17 (IG9.out.grow pp17) (IH9.out.grow pp17) ht)
      clear ht
      go_wp2_with fail
      refine S3.out.mono ?_
      rintro e w18 ⟨rfl, g18⟩
      have q18 := Grown.past g18
      have p18 := p17.trans q18
      have pp18 := pp17.trans q18
      have t1 := str_of_nums (BG9.out.grow pp18)
      have t2 := str_of_nums (BH9.out.grow pp18)
      obtain ⟨sx, hsx⟩ : ∃ s, strOfNums (graphB g) = s := ⟨_, rfl⟩
      obtain ⟨sy, hsy⟩ : ∃ s, strOfNums (graphB h) = s := ⟨_, rfl⟩
      rw [hsx] at t1
      rw [hsy] at t2
      have HS : Hid (t = true ↔ sx = sy) := Lib.hid (by
        rw [HT.out, ← hsx, ← hsy]
        constructor
        · rintro rfl; rfl
        · intro e; exact graphB_inj OKG.out OKH.out (str_inj (graphB_bytes g) (graphB_bytes h) e))
      clear b17 d17 p17 pp17 s17 q18 g18 S3 pp18 hsx hsy
      by_cases hs : sx = sy
      · obtain rfl : t = true := HS.out.mpr hs
        subst hs
        go_wp2_with fail
        go_ret
        exact ⟨rfl, p18⟩
      · have t0 : t = false := by
          rcases Bool.eq_false_or_eq_true t with k | k
          · exact absurd (HS.out.mp k) hs
          · exact k
        subst t0
        have hs2 : (sx.toList == sy.toList) = false := beq_eq_false_iff_ne.2 (fun e => hs (str_toList_inj e))
        go_wp2_with fail
        go_ret
        exact ⟨rfl, p18⟩
end Go.Proofs.Ytbfdoonlohijiaa
