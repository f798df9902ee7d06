/- The walk of GraphUses. -/
import Derived.Test.YtpfenpfnflkfiaaU4
import Derived.Test.YtpfenpfnflkfiaaL1
import Derived.Test.YtpfenpfnflkfiaaFix
namespace Go.Proofs.Ytpfenpfnflkfiaa
open Go.ChangeShapes Go.WideShapes Go.ChangeAt Go.RowKit
set_option maxRecDepth 20000
set_option linter.unusedVariables false

/-- A row of Bools at block S. -/
def RowB (w : World) (S : Nat) (B : List Bool) : Prop := w.heap[S]? = some (.cells (B.map Value.bool).toArray 4 (0, 0))
theorem RowB.cell {w : World} {P : Nat} {L : List Bool} (h : RowB w P L) (j : Nat) (hj : j < L.length) : w.cell? ⟨P, j, none⟩ = some (.bool (L.getD j false)) := by
  unfold World.cell?
  simp only [show w.heap[P]? = _ from h]
  simp [List.getD, hj]
theorem RowB.free {w : World} {P : Nat} {L : List Bool} (h : RowB w P L) (j : Nat) : w.frozen? ⟨P, j, none⟩ = false := by
  unfold World.frozen?
  simp only [show w.heap[P]? = _ from h]
  simp
theorem RowB.lt {w : World} {P : Nat} {L : List Bool} (h : RowB w P L) : P < w.heap.size := (Array.getElem?_eq_some_iff.1 h).1
theorem RowB.set {w : World} {P : Nat} {L : List Bool} (h : RowB w P L) (j : Nat) (x : Bool) : RowB (w.setCell ⟨P, j, none⟩ (.bool x)) P (L.set j x) := by
  have hP := h.lt
  unfold RowB
  unfold World.setCell
  simp only [Array.getElem?_modify, if_true, show w.heap[P]? = _ from h]
  simp [List.map_set]

/-- Seen behind nodes below i, and behind the first k In of node i. -/
def InP (g : GraphD) (N : Nat) (L : List Int) (i k : Nat) (B : List Bool) : Prop :=
  B.length = N ∧ ∀ v : Nat, v < N → (B.getD v false = true ↔ (∃ i', i' < i ∧ (v : Int) ∈ (g.nodes.getD i' default).ins ∧ L.getD v 0 = (i' : Int)) ∨ (L.getD v 0 = (i : Int) ∧ (v : Int) ∈ (g.nodes.getD i default).ins.take k))
def OutP (g : GraphD) (N : Nat) (L : List Int) (k : Nat) (B : List Bool) : Prop :=
  B.length = N ∧ ∀ v : Nat, v < N → (B.getD v false = true ↔ (∃ i', i' < g.nodes.length ∧ (v : Int) ∈ (g.nodes.getD i' default).ins ∧ L.getD v 0 = (i' : Int)) ∨ (v : Int) ∈ g.outs.take k)

theorem mem_take_more {l : List Int} {k : Nat} (h : k < l.length) (x : Int) : x ∈ l.take (k + 1) ↔ x ∈ l.take k ∨ x = l.getD k 0 := by
  rw [List.take_succ_eq_append_getElem h, List.mem_append]
  simp [List.getD, h]
theorem set_getD (B : List Bool) (m v : Nat) (b : Bool) (hm : m < B.length) : (B.set m b).getD v false = if v = m then b else B.getD v false := by
  by_cases c : v = m
  · subst c; rw [if_pos rfl]; simp [List.getD, hm]
  · rw [if_neg c]; simp [List.getD, List.getElem?_set_ne (fun e => c e.symm)]

theorem InP.zero (g : GraphD) (N : Nat) (L : List Int) : InP g N L 0 0 (List.replicate N false) := by
  refine ⟨by simp, fun v hv => ?_⟩
  simp [List.getD, hv]
theorem InP.more {g : GraphD} {N i k m : Nat} {L : List Int} {B : List Bool} (h : InP g N L i k B) (hk : k < (g.nodes.getD i default).ins.length) (hm : (g.nodes.getD i default).ins.getD k 0 = (m : Int)) (hmN : m < N) (b : Bool) (hb : b = true ↔ (B.getD m false = true ∨ L.getD m 0 = (i : Int))) : InP g N L i (k + 1) (B.set m b) := by
  refine ⟨by simpa using h.1, fun v hv => ?_⟩
  rw [set_getD _ _ _ _ (by rw [h.1]; exact hmN), mem_take_more hk, hm]
  by_cases c : v = m
  · subst c
    rw [if_pos rfl, hb, h.2 v hv]
    constructor
    · rintro ((h1 | h1) | h1)
      · exact .inl h1
      · exact .inr ⟨h1.1, .inr rfl⟩
      · exact .inr ⟨h1, .inr rfl⟩
    · rintro (h1 | h1)
      · exact .inl (.inl h1)
      · exact .inr h1.1
  · rw [if_neg c, h.2 v hv]
    have : ¬ (v : Int) = (m : Int) := by omega
    simp [this]
theorem InP.next {g : GraphD} {N i : Nat} {L : List Int} {B : List Bool} (h : InP g N L i (g.nodes.getD i default).ins.length B) : InP g N L (i + 1) 0 B := by
  refine ⟨h.1, fun v hv => ?_⟩
  rw [h.2 v hv, List.take_of_length_le (Nat.le_refl _)]
  simp only [List.take_zero, List.not_mem_nil, and_false, or_false]
  constructor
  · rintro (⟨i', h1, h2, h3⟩ | ⟨h1, h2⟩)
    · exact ⟨i', by omega, h2, h3⟩
    · exact ⟨i, by omega, h2, h1⟩
  · rintro ⟨i', h1, h2, h3⟩
    by_cases c : i' = i
    · subst c; exact .inr ⟨h3, h2⟩
    · exact .inl ⟨i', by omega, h2, h3⟩
theorem InP.outs {g : GraphD} {N : Nat} {L : List Int} {B : List Bool} (h : InP g N L g.nodes.length 0 B) : OutP g N L 0 B := by
  refine ⟨h.1, fun v hv => ?_⟩
  rw [h.2 v hv]
  simp
theorem OutP.more {g : GraphD} {N k m : Nat} {L : List Int} {B : List Bool} (h : OutP g N L k B) (hk : k < g.outs.length) (hm : g.outs.getD k 0 = (m : Int)) (hmN : m < N) : OutP g N L (k + 1) (B.set m true) := by
  refine ⟨by simpa using h.1, fun v hv => ?_⟩
  rw [set_getD _ _ _ _ (by rw [h.1]; exact hmN), mem_take_more hk, hm]
  by_cases c : v = m
  · subst c; rw [if_pos rfl]; simp
  · rw [if_neg c, h.2 v hv]
    have : ¬ (v : Int) = (m : Int) := by omega
    simp [this]
theorem OutP.done {g : GraphD} {N : Nat} {L : List Int} {B : List Bool} (h : OutP g N L g.outs.length B) (lp : LastP g N L) (v : Nat) (hv : v < N) : B.getD v false = true ↔ 0 ≤ L.getD v 0 := by
  rw [h.2 v hv, List.take_of_length_le (Nat.le_refl _)]
  constructor
  · rintro (⟨i', h1, h2, h3⟩ | h1)
    · omega
    · rw [lp.2.2.1 v h1 hv]; omega
  · intro h0
    rcases lp.2.2.2 v hv h0 with h1 | ⟨i, h1, h2, h3⟩
    · exact .inr h1
    · exact .inl ⟨i, h1, h2, h3⟩

theorem infoB : (Try.prog.info? 4).map (fun i => (i.zero, i.size, i.bytes)) = some (some (.bool false), 1, 1) := by kernel_rfl
theorem graph_saveU {B : Nat} {w w' : World} {v : Value} {g : GraphD} (h : IsGraph w v g) (hN : NoInt w B) (s : Save B w w') : IsGraph w' v g := by
  obtain ⟨iv, nv, ov, rfl, hi, hn, ho⟩ := h
  exact ⟨iv, nv, ov, rfl, vals_save hi hN s, nodes_save hn hN s, nums_save ho hN s⟩

set_option maxHeartbeats 8000000 in
theorem uses_walk (W : World) (va : Value) (a : GraphD) (ha : IsGraph W va a) : Calls Try.prog 7 #[va] W fun e w' => e = .returned (.bool true) ∧ Past W w' := by
  have HA := Lib.hid ha
  obtain ⟨iv, nv, ov, rfl, hi, hn, ho⟩ := ha
  obtain ⟨A1, c1, rfl, _, _, _, _, _⟩ := hi
  obtain ⟨A2, c2, rfl, _, _, _, _, _⟩ := hn
  obtain ⟨A3, c3, rfl, _, _, _, _, _⟩ := ho
  have LS := Lib.hid (fun w (p : Past W w) => less_any w _ a (HA.out.grow p))
  obtain ⟨g, hg⟩ : ∃ g, lessD a = g := ⟨_, rfl⟩
  have CU : Hid (Cut g) := Lib.hid (hg ▸ cut_less a)
  rw [hg] at LS
  clear hg
  obtain ⟨Q, hQ⟩ : ∃ Q, W.heap.size = Q := ⟨_, rfl⟩
  go_enter Try.func7, Try.ntmps7
  go_upto_region 1 with fail
  refine opq (fun w' => (∀ o : Nat, w'.cell? ⟨Q, o, none⟩ = (#[.slice A1 a.ins.length c1, .slice A2 a.nodes.length c2, .slice A3 a.outs.length c3] : Array Value)[o]?) ∧ (∀ o : Nat, w'.frozen? ⟨Q, o, none⟩ = false) ∧ Past W w' ∧ Q + 1 ≤ w'.heap.size) (by
    subst hQ
    exact ⟨by ((repeat (first | (with_reducible assumption) | (with_reducible refine box_set ?_ (by first | (simp; done) | (dsimp only; omega) | (simp; omega))) | (with_reducible refine free_set ?_) | (with_reducible refine Past.setCell ?_ (by first | (simp; done) | (dsimp only; omega) | (simp; omega)) _) | (with_reducible refine box_new (by first | omega | (simp; done) | (simp; omega))) | (with_reducible refine box_old ?_ (by first | omega | (simp; done) | (simp; omega))) | (with_reducible refine free_alloc ?_) | (with_reducible refine free_new (by first | omega | (simp; done) | (simp; omega))) | (with_reducible refine Past.alloc ?_ _) | (with_reducible exact Past.refl _) | (simp only [World.size_alloc]; omega) | omega)); done), by ((repeat (first | (with_reducible assumption) | (with_reducible refine box_set ?_ (by first | (simp; done) | (dsimp only; omega) | (simp; omega))) | (with_reducible refine free_set ?_) | (with_reducible refine Past.setCell ?_ (by first | (simp; done) | (dsimp only; omega) | (simp; omega)) _) | (with_reducible refine box_new (by first | omega | (simp; done) | (simp; omega))) | (with_reducible refine box_old ?_ (by first | omega | (simp; done) | (simp; omega))) | (with_reducible refine free_alloc ?_) | (with_reducible refine free_new (by first | omega | (simp; done) | (simp; omega))) | (with_reducible refine Past.alloc ?_ _) | (with_reducible exact Past.refl _) | (simp only [World.size_alloc]; omega) | omega)); done), by ((repeat (first | (with_reducible assumption) | (with_reducible refine box_set ?_ (by first | (simp; done) | (dsimp only; omega) | (simp; omega))) | (with_reducible refine free_set ?_) | (with_reducible refine Past.setCell ?_ (by first | (simp; done) | (dsimp only; omega) | (simp; omega)) _) | (with_reducible refine box_new (by first | omega | (simp; done) | (simp; omega))) | (with_reducible refine box_old ?_ (by first | omega | (simp; done) | (simp; omega))) | (with_reducible refine free_alloc ?_) | (with_reducible refine free_new (by first | omega | (simp; done) | (simp; omega))) | (with_reducible refine Past.alloc ?_ _) | (with_reducible exact Past.refl _) | (simp only [World.size_alloc]; omega) | omega)); done), by simp⟩) ?_
  rintro w0 ⟨b0, f0, p0, s0⟩
  try rw [hQ]
  go_wp2_with fail
  refine (shown_any _).mono ?_
  rintro e w1 ⟨rfl, g1⟩
  have q1 := Grown.past g1
  obtain ⟨b1, f1, p1, s1⟩ : (∀ o : Nat, w1.cell? ⟨Q, o, none⟩ = (#[.slice A1 a.ins.length c1, .slice A2 a.nodes.length c2, .slice A3 a.outs.length c3] : Array Value)[o]?) ∧ (∀ o : Nat, w1.frozen? ⟨Q, o, none⟩ = false) ∧ Past W w1 ∧ Q + 1 ≤ w1.heap.size := ⟨box_past q1 b0 (by omega), free_past q1 f0 (by omega), p0.trans q1, by have := q1.2.2.1; omega⟩
  clear b0 f0 p0 s0 q1 g1
  go_wp2_with fail
  refine (LS.out w1 p1).mono ?_
  rintro e w2 ⟨gv, rfl, ig2, q2⟩
  obtain ⟨b2, f2, p2, s2⟩ : (∀ o : Nat, w2.cell? ⟨Q, o, none⟩ = (#[.slice A1 a.ins.length c1, .slice A2 a.nodes.length c2, .slice A3 a.outs.length c3] : Array Value)[o]?) ∧ (∀ o : Nat, w2.frozen? ⟨Q, o, none⟩ = false) ∧ Past W w2 ∧ Q + 1 ≤ w2.heap.size := ⟨box_past q2 b1 (by omega), free_past q2 f1 (by omega), p1.trans q2, by have := q2.2.2.1; omega⟩
  have IG2 := Lib.hid ig2
  obtain ⟨iv, nv, ov, rfl, hi, hn, ho⟩ := ig2
  obtain ⟨D1, d1, rfl, _, _, _, _, _⟩ := hi
  obtain ⟨D2, d2, rfl, _, _, _, _, _⟩ := hn
  obtain ⟨D3, d3, rfl, _, _, _, _, _⟩ := ho
  clear b1 f1 p1 s1 q2 LS HA
  go_upto_region 3 with fail
  refine opq (fun w' => (∀ o : Nat, w'.cell? ⟨Q, o, none⟩ = (#[.slice D1 g.ins.length d1, .slice D2 g.nodes.length d2, .slice D3 g.outs.length d3] : Array Value)[o]?) ∧ Past W w' ∧ Q + 1 ≤ w'.heap.size ∧ Hid (IsGraph w' (.agg #[.slice D1 g.ins.length d1, .slice D2 g.nodes.length d2, .slice D3 g.outs.length d3]) g)) (by
    exact ⟨box_set3 b2, by ((repeat (first | (with_reducible assumption) | (with_reducible refine box_set ?_ (by first | (simp; done) | (dsimp only; omega) | (simp; omega))) | (with_reducible refine free_set ?_) | (with_reducible refine Past.setCell ?_ (by first | (simp; done) | (dsimp only; omega) | (simp; omega)) _) | (with_reducible refine box_new (by first | omega | (simp; done) | (simp; omega))) | (with_reducible refine box_old ?_ (by first | omega | (simp; done) | (simp; omega))) | (with_reducible refine free_alloc ?_) | (with_reducible refine free_new (by first | omega | (simp; done) | (simp; omega))) | (with_reducible refine Past.alloc ?_ _) | (with_reducible exact Past.refl _) | (simp only [World.size_alloc]; omega) | omega)); done), by simpa [World.setCell] using s2, Lib.hid (graph_saveU IG2.out (noInt_box b2) ((((Save.refl Q w2).set 0 _).set 1 _).set 2 _))⟩) ?_
  rintro w3 ⟨b3, p3, s3, IG3⟩
  have CK := Lib.hid (check_any g _ w3 IG3.out CU.out)
  clear b2 f2 p2 s2 IG2
  obtain ⟨q, hq⟩ : ∃ q, valuesE g = q := ⟨_, rfl⟩
  rw [hq] at CK
  go_wp2_with fail
  refine CK.out.mono ?_
  rintro e w4 ⟨rfl, q4⟩
  have p4 := p3.trans q4
  have b4 := box_past q4 b3 (by omega)
  have s4 : Q + 1 ≤ w4.heap.size := by have := q4.2.2.1; omega
  have IG4 := Lib.hid (IG3.out.grow q4)
  have HQE := Lib.hid hq
  clear b3 p3 s3 q4 IG3 CK hq
  cases e0 : (q == 0) with
  | false =>
    have e1 : (q != 0) = true := by simp [bne, e0]
    go_wp2_with fail
    go_ret
    exact ⟨rfl, p4⟩
  | true =>
    have e1 : (q != 0) = false := by simp [bne, e0]
    have q0 : q = 0 := by simpa using e0
    subst q0
    have LA := Lib.hid (last_any g _ w4 IG4.out CU.out HQE.out)
    obtain ⟨R1, R2, N1, N16, N12, N4⟩ := ok_ranges HQE.out
    obtain ⟨N, hN⟩ : ∃ N, g.ins.length + g.nodes.length = N := ⟨_, rfl⟩
    rw [hN] at R1 R2 N1 N16 LA
    have RR1 := Lib.hid R1
    have RR2 := Lib.hid R2
    clear e0 R1 R2
    go_wp2_with fail
    refine LA.out.mono ?_
    rintro e w5 ⟨P, L, rfl, hP, rl, lp, q5⟩
    have p5 := p4.trans q5
    have b5 := box_past q5 b4 (by omega)
    have IG5 := Lib.hid (IG4.out.grow q5)
    have hQP : Q + 1 ≤ P := by omega
    have RL := Lib.hid rl
    have LP := Lib.hid lp
    have hNe : (((N : Nat) : Int) != ((g.ins.length : Nat) : Int) + ((g.nodes.length : Nat) : Int)) = false := by rw [← hN]; simp
    have wN : IntKind.i64.wrap (((g.ins.length : Nat) : Int) + ((g.nodes.length : Nat) : Int)) = ((g.ins.length : Nat) : Int) + ((g.nodes.length : Nat) : Int) := by rw [IntKind.wrap_i64]; omega
    obtain ⟨i0, hi0, hz0, hz1, hz2⟩ := info_parts infoB
    obtain ⟨w6, hrun, own6, grow6⟩ := run_makeSlice_full (P := Try.prog) w5 w5.heap.size 50 4 i0 (.bool false) 1 Try.underlying50 hi0 hz0 hz1 .i64 .i64 N (by omega) (by rw [hz2]; omega) (by unfold maxLen; omega) (Nat.le_refl _)
    obtain ⟨S, hS⟩ : ∃ S, w5.heap.size = S := ⟨_, rfl⟩
    rw [hS] at hrun own6
    have q6 : Past w5 w6 := (Past.refl w5).grownBy grow6 (fun k hk => by cases hk)
    have RB6 : Hid (RowB w6 S (List.replicate N false)) := Lib.hid (by
      rcases own6.2 with ⟨hh, _⟩ | ⟨g', cap, cur, hh, _, hg, _, _, hs, ht⟩
      · cases hh
      · simp only [Value.slice.injEq, Option.some.injEq, Addr.mk.injEq] at hh
        obtain ⟨⟨rfl, _⟩, _, rfl⟩ := hh
        unfold RowB
        rw [hg]
        have e : cur.toList = (madeCells (Value.bool false).cells (N * 1)).toList := by rw [← ht, List.take_of_length_le (by simp; omega)]
        have e2 : cur = ((List.replicate N false).map Value.bool).toArray := by
          apply Array.ext'
          rw [e]
          have e3 : ∀ x : Nat, (Value.bool false).cells[x % (Value.bool false).cells.size]! = Value.bool false := fun x => by
            show (#[Value.bool false] : Array Value)[x % 1]! = _
            rw [Nat.mod_one]
            rfl
          simp only [madeCells, e3]
          simp [List.map_const']
        rw [e2])
    have b6 := box_past q6 b5 (by have := rl.lt; omega)
    have p6 := p5.trans q6
    have RL6 := Lib.hid (RL.out.past q6)
    have Q6 := Lib.hid q6
    have IG5' := Lib.hid IG5.out
    have hPS : P < S := by rw [← hS]; exact rl.lt
    clear hi0 hz0 hz1 hz2 own6 grow6 b4 p4 p5 IG4 IG5 RL rl lp q5 q6 hN LA
    obtain ⟨iv, nv, ov, e7, hi7, hn7, ho7⟩ := IG5'.out
    simp only [Value.agg.injEq, Array.mk.injEq, List.cons.injEq, and_true] at e7
    obtain ⟨rfl, rfl, rfl⟩ := e7
    have HN7 := Lib.hid hn7
    have HO7 := Lib.hid ho7
    obtain ⟨_, _, en, _, n2, _, _, n5⟩ := hn7
    obtain ⟨_, _, eo, _, o2, _, _, o5⟩ := ho7
    simp only [Value.slice.injEq] at en eo
    obtain ⟨rfl, _, rfl⟩ := en
    obtain ⟨rfl, _, rfl⟩ := eo
    have N5 := Lib.hid n5
    have O5 := Lib.hid o5
    clear hi7 n2 n5 o2 o5
    go_upto_region 9 with fail
    clear b5 hrun
    go_wp2_with fail
    go_loopw [6] (fun i wr => ∃ (k : Nat) (B : List Bool), k ≤ g.nodes.length ∧ i = .int .i64 k ∧ Hid (RowB wr S B) ∧ Hid (InP g N L k 0 B) ∧ Hid (KeepU S w6 wr)) (fun i _ => g.nodes.length - (intOf i).toNat)
    case atStart => exact ⟨0, _, by omega, rfl, RB6, Lib.hid (InP.zero _ _ _), Lib.hid (KeepU.refl _ _)⟩
    case round =>
      clear RB6
      obtain ⟨i, B, hi, rfl, rb, ip, kk⟩ := hrel
      have bx := box_keepU kk.out b6 (by have := RL6.out.lt; omega) (by omega)
      by_cases h : i < g.nodes.length
      · obtain ⟨nb, no, rfl, hnb, hnc⟩ := N5.out (by omega)
        obtain ⟨vi, vw, vb, hin, hcell⟩ := hnc i h
        obtain ⟨n, hnk⟩ : ∃ n, g.nodes.getD i default = n := ⟨_, rfl⟩
        have mem : n ∈ g.nodes := by rw [← hnk]; simp [List.getD, h]
        have LPI := Lib.hid (LP.out.2.1 i h)
        rw [hnk] at hin hcell LPI
        obtain ⟨Ai, ci, rfl, _, j3, _, _, i6⟩ := hin.1
        have I6 := Lib.hid i6
        have RG := Lib.hid (RR1.out n mem)
        have NK := Lib.hid hnk
        have hcell := hcell 1 (by omega)
        simp only [nodeCells, List.getElem?_cons_zero, List.getElem?_cons_succ] at hcell
        have XC := Lib.hid hcell
        have hil : n.ins.length ≤ 9223372036854775807 := by unfold maxLen at j3; omega
        have hnb2 : nb < w6.heap.size := Nat.lt_of_lt_of_le hnb Q6.out.2.2.1
        have hnbS : nb ≠ S := by omega
        have j1 : (0 : Int) ≤ (i : Int) := by omega
        have j2 : (i : Int) < (g.nodes.length : Int) := by omega
        clear hnk hnc hin hcell mem i6 j3
        go_upto_region 12 with fail
        go_wp2_with fail
        go_loopw [7] (fun x wr' => ∃ (k : Nat) (B' : List Bool), k ≤ n.ins.length ∧ x = .int .i64 k ∧ Hid (RowB wr' S B') ∧ Hid (InP g N L i k B') ∧ Hid (KeepU S w6 wr')) (fun x _ => n.ins.length - (intOf x).toNat)
        case atStart => exact ⟨0, B, by omega, rfl, rb, ip, kk⟩
        case round =>
          clear rb ip kk bx
          obtain ⟨k, B', hk, rfl, rb, ip, kk⟩ := hrel
          have bx := box_keepU kk.out b6 (by have := RL6.out.lt; omega) (by omega)
          have x1 := (kk.out.cell hnb2 hnbS).trans ((Q6.out.cell (p := ⟨nb, no + i * 14 + 1, none⟩) hnb).trans XC.out)
          by_cases h2 : k < n.ins.length
          · obtain ⟨b, off, rfl, hbb, hc⟩ := I6.out (by omega)
            have c0 := (kk.out.cell (Nat.lt_of_lt_of_le hbb Q6.out.2.2.1) (by omega)).trans ((Q6.out.cell (p := ⟨b, off + k, none⟩) hbb).trans (hc k h2))
            have hx := RG.out (n.ins.getD k 0) (by simp [List.getD, h2])
            obtain ⟨x, hxe⟩ : ∃ x, n.ins.getD k 0 = x := ⟨_, rfl⟩
            rw [hxe] at c0 hx
            obtain ⟨m, rfl⟩ : ∃ m : Nat, x = m := ⟨x.toNat, by omega⟩
            have hmN : m < N := by omega
            have hmem : (m : Int) ∈ n.ins := by rw [← hxe]; simp [List.getD, h2]
            have rlw : RowL wr P L := (kk.out.2.2.2 P RL6.out.lt (by omega)).trans RL6.out
            have cl := rlw.cell m (by rw [LP.out.1]; exact hmN)
            have cb := rb.out.cell m (by rw [ip.out.1]; exact hmN)
            have fb := rb.out.free m
            have hle := LPI.out m hmem hmN
            obtain ⟨l, hl⟩ : ∃ l, L.getD m 0 = l := ⟨_, rfl⟩
            obtain ⟨bo, hbo⟩ : ∃ l, B'.getD m false = l := ⟨_, rfl⟩
            rw [hl] at cl hle
            rw [hbo] at cb
            have dl : decide (l < (i : Int)) = false := by simp; omega
            have i0' : (0 : Int) ≤ (m : Int) := by omega
            have i1' : (0 : Int) ≤ (k : Int) := by omega
            have NEXT := Lib.hid (fun (b : Bool) hb => ip.out.more (by rw [NK.out]; exact h2) (by rw [NK.out]; exact hxe) hmN b hb)
            have RB2 := Lib.hid (fun b => rb.out.set m b)
            have K2 := Lib.hid (fun b => kk.out.set m (.bool b))
            rw [hl, hbo] at NEXT
            clear hxe hx hmem hle hl hbo rlw rb ip kk hc
            cases bo with
            | true =>
              go_wp2_with fail
              go_roundw
              case rel => exact ⟨k + 1, _, by omega, by go_num, Lib.hid (RB2.out true), Lib.hid (NEXT.out true (by simp)), Lib.hid (K2.out true)⟩
              case measure => simp [intOf]; omega
            | false =>
              by_cases hli : l = (i : Int)
              · have d2 : (l == (i : Int)) = true := by simp [hli]
                have NX := Lib.hid (NEXT.out true (by simp [hli]))
                clear hli NEXT
                go_wp2_with fail
                go_roundw
                case rel => exact ⟨k + 1, _, by omega, by go_num, Lib.hid (RB2.out true), NX, Lib.hid (K2.out true)⟩
                case measure => simp [intOf]; omega
              · have d2 : (l == (i : Int)) = false := by simp [hli]
                have NX := Lib.hid (NEXT.out false (by simp [hli]))
                clear hli NEXT
                go_wp2_with fail
                go_roundw
                case rel => exact ⟨k + 1, _, by omega, by go_num, Lib.hid (RB2.out false), NX, Lib.hid (K2.out false)⟩
                case measure => simp [intOf]; omega
          · obtain rfl : k = n.ins.length := by omega
            have NX := Lib.hid (InP.next (g := g) (N := N) (i := i) (L := L) (B := B') (by rw [NK.out]; exact ip.out))
            go_wp2_with fail
            go_roundw
            case rel => exact ⟨i + 1, B', by omega, by go_num, rb, NX, kk⟩
            case measure => simp [intOf]; omega
      · obtain rfl : i = g.nodes.length := by omega
        have OP := Lib.hid ip.out.outs
        clear ip
        go_wp2_with fail
        go_loopw [9] (fun x wr => ∃ (k : Nat) (B : List Bool), k ≤ g.outs.length ∧ x = .int .i64 k ∧ Hid (RowB wr S B) ∧ Hid (OutP g N L k B) ∧ Hid (KeepU S w6 wr)) (fun x _ => g.outs.length - (intOf x).toNat)
        case atStart => exact ⟨0, B, by omega, rfl, rb, OP, kk⟩
        case round =>
          clear rb OP kk bx
          obtain ⟨k, B, hk, rfl, rb, op, kk⟩ := hrel
          have bx := box_keepU kk.out b6 (by have := RL6.out.lt; omega) (by omega)
          by_cases h2 : k < g.outs.length
          · obtain ⟨b, off, rfl, hbb, hc⟩ := O5.out (by omega)
            have c0 := (kk.out.cell (Nat.lt_of_lt_of_le hbb Q6.out.2.2.1) (by omega)).trans ((Q6.out.cell (p := ⟨b, off + k, none⟩) hbb).trans (hc k h2))
            have hx := RR2.out (g.outs.getD k 0) (by simp [List.getD, h2])
            obtain ⟨x, hxe⟩ : ∃ x, g.outs.getD k 0 = x := ⟨_, rfl⟩
            rw [hxe] at c0 hx
            obtain ⟨m, rfl⟩ : ∃ m : Nat, x = m := ⟨x.toNat, by omega⟩
            have hmN : m < N := by omega
            have hmem : (m : Int) ∈ g.outs := by rw [← hxe]; simp [List.getD, h2]
            have rlw : RowL wr P L := (kk.out.2.2.2 P RL6.out.lt (by omega)).trans RL6.out
            have cl := rlw.cell m (by rw [LP.out.1]; exact hmN)
            rw [LP.out.2.2.1 m hmem hmN] at cl
            have i0' : (0 : Int) ≤ (m : Int) := by omega
            have i1' : (0 : Int) ≤ (k : Int) := by omega
            have NX := Lib.hid (op.out.more h2 hxe hmN)
            have BL := Lib.hid op.out.1
            clear hxe hx hmem rlw op hc
            go_upto_region 22 with fail
            refine wp_region_fill (fun w' => (∀ o : Nat, w'.cell? ⟨Q, o, none⟩ = (#[.slice D1 g.ins.length d1, .slice D2 g.nodes.length d2, .slice (some ⟨b, off, none⟩) g.outs.length d3] : Array Value)[o]?) ∧ w'.cell? ⟨b, off + k, none⟩ = some (.int .i64 (m : Int)) ∧ w'.cell? ⟨P, m, none⟩ = some (.int .i64 (g.nodes.length : Int)) ∧ Hid (RowB w' S B) ∧ Hid (KeepU S w6 w')) [(88, ?vo88), (89, ?vo89), (90, ?vo90), (91, ?vo91), (92, ?vo92), (93, ?vo93), (94, ?vo94), (95, ?vo95), (96, ?vo96), (97, ?vo97), (98, ?vo98), (99, ?vo99)] [88, 89, 90, 91, 92, 93, 94, 95, 96, 97, 98, 99] (by kernel_rfl) (by kernel_rfl) rfl (by kernel_rfl) ⟨bx, c0, cl, rb, kk⟩ (fun w h => h) ?allo ?fino
            case allo =>
              simp only [fillA, Act.put, List.setIfInBounds_toArray, List.set_cons_zero, List.set_cons_succ]
              iterate 12 (refine owes_cons (fun w hw K hK => ?_) ?_; focus ((have hS := Lib.hid hw); obtain ⟨z1, z2, z3, _, _⟩ := hw; go_simp; (try simp only [Act.put, List.setIfInBounds_toArray, List.set_cons_zero, List.set_cons_succ]); exact hK _ hS.out))
              exact True.intro
            case fino =>
              rintro w7 ⟨bx7, c07, cl7, rb7, kk7⟩
              have cb := rb7.out.cell m (by rw [BL.out]; exact hmN)
              have fb := rb7.out.free m
              have R2 := Lib.hid (rb7.out.set m true)
              have K2 := Lib.hid (kk7.out.set m (.bool true))
              simp only [fillA, Act.put, List.setIfInBounds_toArray, List.set_cons_zero, List.set_cons_succ]
              go_wp2_with fail
              go_roundw
              case rel => exact ⟨k + 1, _, by omega, by go_num, R2, NX, K2⟩
              case measure => simp [intOf]; omega
          · obtain rfl : k = g.outs.length := by omega
            have DN := Lib.hid (fun v hv => op.out.done LP.out v hv)
            have BL := Lib.hid op.out.1
            clear op
            go_wp2_with fail
            go_loopw [10] (fun x wr => ∃ k : Nat, k ≤ N ∧ x = .int .i64 k ∧ Hid (RowB wr S B) ∧ Hid (KeepU S w6 wr)) (fun x _ => N - (intOf x).toNat)
            case atStart => exact ⟨0, by omega, rfl, rb, kk⟩
            case round =>
              clear rb kk bx
              obtain ⟨k, hk, rfl, rb, kk⟩ := hrel
              by_cases h3 : k < N
              · have rlw : RowL wr P L := (kk.out.2.2.2 P RL6.out.lt (by omega)).trans RL6.out
                have cl := rlw.cell k (by rw [LP.out.1]; exact h3)
                have cb := rb.out.cell k (by rw [BL.out]; exact h3)
                have hd := DN.out k h3
                obtain ⟨l, hl⟩ : ∃ l, L.getD k 0 = l := ⟨_, rfl⟩
                rw [hl] at cl hd
                have hb' : B.getD k false = decide (0 ≤ l) := by
                  by_cases c : 0 ≤ l
                  · rw [hd.mpr c]; simp [c]
                  · rcases Bool.eq_false_or_eq_true (B.getD k false) with f | f
                    · exact absurd (hd.mp f) c
                    · rw [f]; simp [c]
                rw [hb'] at cb
                have i1' : (0 : Int) ≤ (k : Int) := by omega
                clear hl hd hb' rlw
                go_upto_region 28 with fail
                refine wp_region_fill (fun w' => w'.cell? ⟨P, k, none⟩ = some (.int .i64 l) ∧ w'.cell? ⟨S, k, none⟩ = some (.bool (decide (0 ≤ l))) ∧ True ∧ Hid (RowB w' S B) ∧ Hid (KeepU S w6 w')) [(113, ?vf113), (114, ?vf114), (115, ?vf115), (116, ?vf116), (117, ?vf117), (118, ?vf118), (119, ?vf119), (120, ?vf120), (121, ?vf121), (122, ?vf122)] [113, 114, 115, 116, 117, 118, 119, 120, 121, 122] (by kernel_rfl) (by kernel_rfl) rfl (by kernel_rfl) ⟨cl, cb, True.intro, rb, kk⟩ (fun w h => h) ?allf ?finf
                case allf =>
                  simp only [fillA, Act.put, List.setIfInBounds_toArray, List.set_cons_zero, List.set_cons_succ]
                  iterate 10 (refine owes_cons (fun w hw K hK => ?_) ?_; focus ((have hS := Lib.hid hw); obtain ⟨z1, z2, z3, _, _⟩ := hw; go_simp; (try simp only [Act.put, List.setIfInBounds_toArray, List.set_cons_zero, List.set_cons_succ]); exact hK _ hS.out))
                  exact True.intro
                case finf =>
                  rintro w7 ⟨cl7, cb7, _, rb7, kk7⟩
                  simp only [fillA, Act.put, List.setIfInBounds_toArray, List.set_cons_zero, List.set_cons_succ]
                  go_wp2_with fail
                  go_roundw
                  case rel => exact ⟨k + 1, by omega, by go_num, rb7, kk7⟩
                  case measure => simp [intOf]; omega
              · have hd3 : decide ((k : Int) < (N : Int)) = false := by simp; omega
                go_wp2_with fail
                go_ret
                exact ⟨rfl, kk.out.past p6 (by omega)⟩
end Go.Proofs.Ytpfenpfnflkfiaa
