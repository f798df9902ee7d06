/- graph.Last: its walk. -/
import Derived.Test.YtpfenpfnflkfiaaU3
namespace Go.Proofs.Ytpfenpfnflkfiaa
open Go.ChangeShapes Go.WideShapes Go.ChangeAt Go.RowKit
set_option maxRecDepth 20000
set_option linter.unusedVariables false

def LastPost (g : GraphD) (N : Nat) (W : World) (e : Ending) (w' : World) : Prop := ∃ (P : Nat) (L : List Int), e = .returned (.slice (some ⟨P, 0, none⟩) N N) ∧ W.heap.size ≤ P ∧ RowL w' P L ∧ LastP g N L ∧ Past W w'

theorem KeepU.of_past {P : Nat} {w w' : World} (h : Past w w') : KeepU P w w' := ⟨h.1, h.2.1, h.2.2.1, fun k hk _ => h.2.2.2 k hk⟩
theorem KeepU.past {P : Nat} {W w w' : World} (p : Past W w) (h : KeepU P w w') (hP : W.heap.size ≤ P) : Past W w' :=
  ⟨h.1.trans p.1, h.2.1.trans p.2.1, Nat.le_trans p.2.2.1 h.2.2.1, fun k hk => (h.2.2.2 k (Nat.lt_of_lt_of_le hk p.2.2.1) (by omega)).trans (p.2.2.2 k hk)⟩
theorem box_keepU {P b : Nat} {w w' : World} {cs : Array Value} (h : KeepU P w w') (k : (∀ o : Nat, w.cell? ⟨b, o, none⟩ = (cs : Array Value)[o]?)) (hb : b < w.heap.size) (hn : b ≠ P) : (∀ o : Nat, w'.cell? ⟨b, o, none⟩ = (cs : Array Value)[o]?) := fun o => (h.cell hb hn).trans (k o)
theorem RowL.alloc {w : World} {P : Nat} {L : List Int} (h : RowL w P L) (x : Obj) : RowL (w.alloc x) P L := (Below.heap_alloc w x P h.lt).trans h
theorem RowL.past {w w' : World} {P : Nat} {L : List Int} (h : RowL w P L) (p : Past w w') : RowL w' P L := (p.2.2.2 P h.lt).trans h

set_option maxHeartbeats 4000000 in
theorem last_any (g : GraphD) (gv : Value) (W : World) (hg : IsGraph W gv g) (hc : Cut g) (hE : valuesE g = 0) : Calls Try.prog 20 #[gv] W (LastPost g (g.ins.length + g.nodes.length) W) := by
  have HG := Lib.hid hg
  obtain ⟨iv, nv, ov, rfl, hi, hn, ho⟩ := hg
  have HO := Lib.hid ho
  obtain ⟨A1, c1, rfl, _, _, _, _, _⟩ := hi
  obtain ⟨A2, c2, rfl, n1, n2, _, nw, n5⟩ := hn
  obtain ⟨A3, c3, rfl, o1, o2, _, _, o6⟩ := ho
  have N5 := Lib.hid n5
  have O6 := Lib.hid (fun h => o6 h)
  obtain ⟨R1, R2, N1, N16, N12, N4⟩ := ok_ranges hE
  have hL := (makes_facts hE).1
  obtain ⟨N, hN⟩ : ∃ N, g.ins.length + g.nodes.length = N := ⟨_, rfl⟩
  rw [hN] at R1 R2 N1 N16 hL
  rw [hN]
  have RR1 := Lib.hid R1
  have RR2 := Lib.hid R2
  have HV := Lib.hid (fun w (p : Past W w) => values_any g _ w (HG.out.grow p) hc)
  unfold ValuesPost at HV
  rw [hE] at HV
  have HL := Lib.hid hL
  have m2 : g.nodes.length ≤ 9223372036854775807 := by omega
  obtain ⟨Q, hQ⟩ : ∃ Q, W.heap.size = Q := ⟨_, rfl⟩
  clear n1 n2 nw n5 o1 o2 o6 R1 R2 hL hc hE hN
  go_enter Try.func20, Try.ntmps20
  go_upto_region 1 with fail
  refine opq (fun w' => (∀ o : Nat, w'.cell? ⟨Q, o, none⟩ = (#[.slice A1 g.ins.length c1, .slice A2 g.nodes.length c2, .slice A3 g.outs.length c3] : Array Value)[o]?) ∧ Past W w' ∧ Q + 1 ≤ w'.heap.size) (by
    subst hQ
    exact ⟨box_new rfl, by ((repeat (first | (with_reducible assumption) | (with_reducible refine box_set ?_ (by first | (simp; done) | (dsimp only; omega) | (simp; omega))) | (with_reducible refine free_set ?_) | (with_reducible refine Past.setCell ?_ (by first | (simp; done) | (dsimp only; omega) | (simp; omega)) _) | (with_reducible refine box_new (by first | omega | (simp; done) | (simp; omega))) | (with_reducible refine box_old ?_ (by first | omega | (simp; done) | (simp; omega))) | (with_reducible refine free_alloc ?_) | (with_reducible refine free_new (by first | omega | (simp; done) | (simp; omega))) | (with_reducible refine Past.alloc ?_ _) | (with_reducible exact Past.refl _) | (simp only [World.size_alloc]; omega) | omega)); done), by simp⟩) ?_
  rintro w0 ⟨b0, p0, s0⟩
  try rw [hQ]
  go_wp2_with fail
  refine (HV.out w0 p0).mono ?_
  rintro e w1 ⟨v, rfl, iv, q1⟩
  obtain ⟨AV, cv, rfl, _, _, _, _, _⟩ := iv
  rw [HL.out]
  have b1 := box_past q1 b0 (by omega)
  have p1 := p0.trans q1
  have s1 : Q + 1 ≤ w1.heap.size := by have := q1.2.2.1; omega
  clear b0 p0 s0 q1 HV
  have RP := Lib.hid (repeat_any N N1 N16 w1.heap.size 0 (w1.alloc (.cells #[.int .i64 (-1)] 3)) (by simp) (by
    have := cells_new' w1 [.int .i64 (-1)] 3 0 (.int .i64 (-1)) rfl
    rw [add_plain] at this
    exact this))
  go_wp2_with fail
  refine RP.out.mono ?_
  rintro e w2 ⟨rfl, q2, cur, rm⟩
  have r2 := rowM_L rm
  have b2 := box_past q2 (box_old (x := .cells #[.int .i64 (-1)] 3) b1 (by omega)) (by simp; omega)
  have p2 : Past W w2 := (p1.alloc _).trans q2
  have s2 : w1.heap.size + 2 ≤ w2.heap.size := by have := r2.lt; simp at this; omega
  have eP : (w1.alloc (.cells #[.int .i64 (-1)] 3)).heap.size = w1.heap.size + 1 := by simp
  rw [eP] at r2
  rw [eP]
  obtain ⟨P, hP⟩ : ∃ P, w1.heap.size + 1 = P := ⟨_, rfl⟩
  rw [hP] at r2
  rw [hP]
  obtain ⟨PL, hPL⟩ : ∃ n, w2.heap.size = n := ⟨_, rfl⟩
  have hQP : Q + 1 ≤ P := by omega
  have R2 := Lib.hid r2
  clear b1 p1 s1 RP q2 rm eP r2
  go_upto_region 5 with fail
  refine opq (fun w' => (∀ o : Nat, w'.cell? ⟨Q, o, none⟩ = (#[.slice A1 g.ins.length c1, .slice A2 g.nodes.length c2, .slice A3 g.outs.length c3] : Array Value)[o]?) ∧ (∀ o : Nat, w'.cell? ⟨PL, o, none⟩ = (#[.slice (some ⟨P, 0, none⟩) N N] : Array Value)[o]?) ∧ Past W w' ∧ PL + 1 ≤ w'.heap.size ∧ Hid (RowL w' P (List.replicate N (-1)))) (by
    subst hPL
    exact ⟨box_old b2 (by omega), box_new rfl, p2.alloc _, by simp, Lib.hid (R2.out.alloc _)⟩) ?_
  rintro w3 ⟨b3, x3, p3, s3, R3⟩
  have hPPL : P < PL := by omega
  clear b2 p2 s2 hPL R2 hP
  go_wp2_with fail
  go_loopw [24] (fun i wr => ∃ (k : Nat) (L : List Int), k ≤ g.nodes.length ∧ i = .int .i64 k ∧ Hid (RowL wr P L) ∧ Hid (MidP g.nodes N k L) ∧ (∀ o : Nat, wr.cell? ⟨Q, o, none⟩ = (#[.slice A1 g.ins.length c1, .slice A2 g.nodes.length c2, .slice A3 g.outs.length c3] : Array Value)[o]?) ∧ (∀ o : Nat, wr.cell? ⟨PL, o, none⟩ = (#[.slice (some ⟨P, 0, none⟩) N N] : Array Value)[o]?) ∧ Past W wr ∧ PL + 1 ≤ wr.heap.size) (fun i _ => g.nodes.length - (intOf i).toNat)
  case atStart => exact ⟨0, _, by omega, rfl, R3, Lib.hid (MidP.zero _ _), b3, x3, p3, s3⟩
  case round =>
    clear b3 x3 p3 s3 R3
    obtain ⟨k, L, hk, rfl, rr, mp, b3, x3, p3, s3⟩ := hrel
    by_cases h : k < g.nodes.length
    · obtain ⟨nb, no, rfl, hnb, hnc⟩ := N5.out (by omega)
      obtain ⟨vi, vw, vb, hin, hcell⟩ := hnc k h
      obtain ⟨n, hnk⟩ : ∃ n, g.nodes.getD k default = n := ⟨_, rfl⟩
      have mem : n ∈ g.nodes := by rw [← hnk]; simp [List.getD, h]
      have MM := Lib.hid (mp.out.more (by rw [hnk]; exact RR1.out n mem))
      rw [hnk] at hin hcell MM
      have IN := Lib.hid hin.1
      obtain ⟨Ai, ci, rfl, _, _, _, _, i6⟩ := hin.1
      obtain ⟨Aw, cw, rfl, _, _, _, _, _⟩ := hin.2.1
      obtain ⟨Ab, cb, rfl, _, _, _, _, _⟩ := hin.2.2
      have hold : Hid (∀ b o s l c, Value.slice Ai n.ins.length ci = .slice (some ⟨b, o, s⟩) l c → 0 < n.ins.length → b ≠ P) := Lib.hid (by
        intro b o s l c e h0
        obtain ⟨b', o', e2, hb, _⟩ := i6 h0
        simp only [Value.slice.injEq] at e
        rw [e.1] at e2
        simp only [Option.some.injEq, Addr.mk.injEq] at e2
        omega)
      have hcell := fun j (hj : j < 14) => (p3.cell hnb).trans (hcell j hj)
      have x0 := hcell 0 (by omega)
      have x1 := hcell 1 (by omega)
      have x2 := hcell 2 (by omega)
      have y3 := hcell 3 (by omega)
      have x4 := hcell 4 (by omega)
      have x5 := hcell 5 (by omega)
      have x6 := hcell 6 (by omega)
      have x7 := hcell 7 (by omega)
      have x8 := hcell 8 (by omega)
      have x9 := hcell 9 (by omega)
      have x10 := hcell 10 (by omega)
      have x11 := hcell 11 (by omega)
      have x12 := hcell 12 (by omega)
      have x13 := hcell 13 (by omega)
      simp only [nodeCells, List.getElem?_cons_zero, List.getElem?_cons_succ, Nat.add_zero] at x0 x1 x2 y3 x4 x5 x6 x7 x8 x9 x10 x11 x12 x13
      have RG := Lib.hid (RR1.out n mem)
      have n1 : Q ≠ wr.heap.size := by omega
      have n2 : Q < wr.heap.size := by omega
      have j1 : (0 : Int) ≤ (k : Int) := by omega
      have j2 : (k : Int) < (g.nodes.length : Int) := by omega
      have hPs : P < wr.heap.size := rr.out.lt
      obtain ⟨P8, hP8⟩ : ∃ P8, wr.heap.size = P8 := ⟨_, rfl⟩
      clear hnk hnc hin hcell mem i6
      go_upto_region 9 with fail
      refine opq (fun w' => (∀ o : Nat, w'.cell? ⟨P8, o, none⟩ = (#[.int .i64 n.op, (.slice Ai n.ins.length ci), .int .i64 n.k, .int .i64 n.stride, .int .i64 n.pad, .int .i64 n.out, .int .i64 n.mul, .int .i64 n.shift, .int .i64 n.zero, .int .i64 n.th, .int .i64 n.tw, .int .i64 n.tc, (.slice Aw n.ws.length cw), (.slice Ab n.bs.length cb)] : Array Value)[o]?) ∧ (∀ o : Nat, w'.cell? ⟨Q, o, none⟩ = (#[.slice A1 g.ins.length c1, .slice (some ⟨nb, no, none⟩) g.nodes.length c2, .slice A3 g.outs.length c3] : Array Value)[o]?) ∧ (∀ o : Nat, w'.cell? ⟨PL, o, none⟩ = (#[.slice (some ⟨P, 0, none⟩) N N] : Array Value)[o]?) ∧ Past W w' ∧ P8 + 1 ≤ w'.heap.size ∧ Hid (RowL w' P L)) (by
        subst hP8
        exact ⟨by (((try dsimp only); (try go_split_ands); (repeat' with_reducible apply And.intro)) <;> ((repeat (first | (with_reducible assumption) | (with_reducible refine box_set ?_ (by first | (simp; done) | (dsimp only; omega) | (simp; omega))) | (with_reducible refine has_set ?_) | (with_reducible refine cell_set ?_ (by first | (simp; done) | (dsimp only; omega) | (simp; omega))) | (with_reducible refine free_set ?_) | (with_reducible refine size_set ?_) | (with_reducible refine Grown.setCell ?_ (by first | (simp; done) | (dsimp only; omega) | (simp; omega)) _) | (with_reducible refine Past.setCell ?_ (by first | (simp; done) | (dsimp only; omega) | (simp; omega)) _) | (with_reducible refine box_drewN ?_) | (with_reducible refine has_drewN ?_) | (with_reducible refine cell_drewN ?_) | (with_reducible refine free_drewN ?_) | (with_reducible refine size_drewN ?_) | (with_reducible refine Grown.drewN ?_) | (with_reducible refine Past.drewN ?_) | (with_reducible refine box_drew ?_) | (with_reducible refine has_drew ?_) | (with_reducible refine cell_drew ?_) | (with_reducible refine free_drew ?_) | (with_reducible refine size_drew ?_) | (with_reducible refine Grown.drew ?_) | (with_reducible refine Past.drew ?_) | (with_reducible refine box_new (by first | omega | (simp; done) | (simp; omega))) | (with_reducible refine box_old ?_ (by first | omega | (simp; done) | (simp; omega))) | (with_reducible refine has_alloc ?_ (by first | omega | (simp; done) | (simp; omega))) | (with_reducible refine cell_alloc ?_ (by first | omega | (simp; done) | (simp; omega))) | (with_reducible refine free_alloc ?_) | (with_reducible refine size_alloc2 True.intro (by simp only [World.size_alloc]; omega)) | (with_reducible refine Grown.alloc ?_ _ _) | (with_reducible refine Past.alloc ?_ _) | (with_reducible refine box_grown (by with_reducible assumption) (by with_reducible assumption) (by first | omega | (dsimp only; omega))) | (with_reducible refine has_grown (by with_reducible assumption) (by with_reducible assumption) (by first | omega | (dsimp only; omega))) | (with_reducible refine cell_grown (by with_reducible assumption) (by with_reducible assumption) (by first | omega | (dsimp only; omega))) | (with_reducible refine size_grown (by with_reducible assumption) (by with_reducible assumption)) | (with_reducible refine free_grown (by with_reducible assumption) (by with_reducible assumption)) | (with_reducible refine grown_trans' (by with_reducible assumption) (by with_reducible assumption)) | (with_reducible refine box_past (by with_reducible assumption) (by with_reducible assumption) (by first | omega | (dsimp only; omega))) | (with_reducible refine has_past (by with_reducible assumption) (by with_reducible assumption) (by first | omega | (dsimp only; omega))) | (with_reducible refine cell_past (by with_reducible assumption) (by with_reducible assumption) (by first | omega | (dsimp only; omega))) | (with_reducible refine free_past (by with_reducible assumption) (by with_reducible assumption) (by first | omega | (dsimp only; omega))) | (with_reducible refine size_past (by with_reducible assumption) (by with_reducible assumption)) | (with_reducible refine past_trans (by with_reducible assumption) (by with_reducible assumption)) | (with_reducible refine free_new (by first | omega | (simp; done) | (simp; omega))) | (with_reducible refine Grown.past ?_) | (with_reducible exact Grown.refl _) | (with_reducible exact Past.refl _) | (simp only [World.size_alloc]; omega) | omega)); done)), by (((try dsimp only); (try go_split_ands); (repeat' with_reducible apply And.intro)) <;> ((repeat (first | (with_reducible assumption) | (with_reducible refine box_set ?_ (by first | (simp; done) | (dsimp only; omega) | (simp; omega))) | (with_reducible refine has_set ?_) | (with_reducible refine cell_set ?_ (by first | (simp; done) | (dsimp only; omega) | (simp; omega))) | (with_reducible refine free_set ?_) | (with_reducible refine size_set ?_) | (with_reducible refine Grown.setCell ?_ (by first | (simp; done) | (dsimp only; omega) | (simp; omega)) _) | (with_reducible refine Past.setCell ?_ (by first | (simp; done) | (dsimp only; omega) | (simp; omega)) _) | (with_reducible refine box_drewN ?_) | (with_reducible refine has_drewN ?_) | (with_reducible refine cell_drewN ?_) | (with_reducible refine free_drewN ?_) | (with_reducible refine size_drewN ?_) | (with_reducible refine Grown.drewN ?_) | (with_reducible refine Past.drewN ?_) | (with_reducible refine box_drew ?_) | (with_reducible refine has_drew ?_) | (with_reducible refine cell_drew ?_) | (with_reducible refine free_drew ?_) | (with_reducible refine size_drew ?_) | (with_reducible refine Grown.drew ?_) | (with_reducible refine Past.drew ?_) | (with_reducible refine box_new (by first | omega | (simp; done) | (simp; omega))) | (with_reducible refine box_old ?_ (by first | omega | (simp; done) | (simp; omega))) | (with_reducible refine has_alloc ?_ (by first | omega | (simp; done) | (simp; omega))) | (with_reducible refine cell_alloc ?_ (by first | omega | (simp; done) | (simp; omega))) | (with_reducible refine free_alloc ?_) | (with_reducible refine size_alloc2 True.intro (by simp only [World.size_alloc]; omega)) | (with_reducible refine Grown.alloc ?_ _ _) | (with_reducible refine Past.alloc ?_ _) | (with_reducible refine box_grown (by with_reducible assumption) (by with_reducible assumption) (by first | omega | (dsimp only; omega))) | (with_reducible refine has_grown (by with_reducible assumption) (by with_reducible assumption) (by first | omega | (dsimp only; omega))) | (with_reducible refine cell_grown (by with_reducible assumption) (by with_reducible assumption) (by first | omega | (dsimp only; omega))) | (with_reducible refine size_grown (by with_reducible assumption) (by with_reducible assumption)) | (with_reducible refine free_grown (by with_reducible assumption) (by with_reducible assumption)) | (with_reducible refine grown_trans' (by with_reducible assumption) (by with_reducible assumption)) | (with_reducible refine box_past (by with_reducible assumption) (by with_reducible assumption) (by first | omega | (dsimp only; omega))) | (with_reducible refine has_past (by with_reducible assumption) (by with_reducible assumption) (by first | omega | (dsimp only; omega))) | (with_reducible refine cell_past (by with_reducible assumption) (by with_reducible assumption) (by first | omega | (dsimp only; omega))) | (with_reducible refine free_past (by with_reducible assumption) (by with_reducible assumption) (by first | omega | (dsimp only; omega))) | (with_reducible refine size_past (by with_reducible assumption) (by with_reducible assumption)) | (with_reducible refine past_trans (by with_reducible assumption) (by with_reducible assumption)) | (with_reducible refine free_new (by first | omega | (simp; done) | (simp; omega))) | (with_reducible refine Grown.past ?_) | (with_reducible exact Grown.refl _) | (with_reducible exact Past.refl _) | (simp only [World.size_alloc]; omega) | omega)); done)), by (((try dsimp only); (try go_split_ands); (repeat' with_reducible apply And.intro)) <;> ((repeat (first | (with_reducible assumption) | (with_reducible refine box_set ?_ (by first | (simp; done) | (dsimp only; omega) | (simp; omega))) | (with_reducible refine has_set ?_) | (with_reducible refine cell_set ?_ (by first | (simp; done) | (dsimp only; omega) | (simp; omega))) | (with_reducible refine free_set ?_) | (with_reducible refine size_set ?_) | (with_reducible refine Grown.setCell ?_ (by first | (simp; done) | (dsimp only; omega) | (simp; omega)) _) | (with_reducible refine Past.setCell ?_ (by first | (simp; done) | (dsimp only; omega) | (simp; omega)) _) | (with_reducible refine box_drewN ?_) | (with_reducible refine has_drewN ?_) | (with_reducible refine cell_drewN ?_) | (with_reducible refine free_drewN ?_) | (with_reducible refine size_drewN ?_) | (with_reducible refine Grown.drewN ?_) | (with_reducible refine Past.drewN ?_) | (with_reducible refine box_drew ?_) | (with_reducible refine has_drew ?_) | (with_reducible refine cell_drew ?_) | (with_reducible refine free_drew ?_) | (with_reducible refine size_drew ?_) | (with_reducible refine Grown.drew ?_) | (with_reducible refine Past.drew ?_) | (with_reducible refine box_new (by first | omega | (simp; done) | (simp; omega))) | (with_reducible refine box_old ?_ (by first | omega | (simp; done) | (simp; omega))) | (with_reducible refine has_alloc ?_ (by first | omega | (simp; done) | (simp; omega))) | (with_reducible refine cell_alloc ?_ (by first | omega | (simp; done) | (simp; omega))) | (with_reducible refine free_alloc ?_) | (with_reducible refine size_alloc2 True.intro (by simp only [World.size_alloc]; omega)) | (with_reducible refine Grown.alloc ?_ _ _) | (with_reducible refine Past.alloc ?_ _) | (with_reducible refine box_grown (by with_reducible assumption) (by with_reducible assumption) (by first | omega | (dsimp only; omega))) | (with_reducible refine has_grown (by with_reducible assumption) (by with_reducible assumption) (by first | omega | (dsimp only; omega))) | (with_reducible refine cell_grown (by with_reducible assumption) (by with_reducible assumption) (by first | omega | (dsimp only; omega))) | (with_reducible refine size_grown (by with_reducible assumption) (by with_reducible assumption)) | (with_reducible refine free_grown (by with_reducible assumption) (by with_reducible assumption)) | (with_reducible refine grown_trans' (by with_reducible assumption) (by with_reducible assumption)) | (with_reducible refine box_past (by with_reducible assumption) (by with_reducible assumption) (by first | omega | (dsimp only; omega))) | (with_reducible refine has_past (by with_reducible assumption) (by with_reducible assumption) (by first | omega | (dsimp only; omega))) | (with_reducible refine cell_past (by with_reducible assumption) (by with_reducible assumption) (by first | omega | (dsimp only; omega))) | (with_reducible refine free_past (by with_reducible assumption) (by with_reducible assumption) (by first | omega | (dsimp only; omega))) | (with_reducible refine size_past (by with_reducible assumption) (by with_reducible assumption)) | (with_reducible refine past_trans (by with_reducible assumption) (by with_reducible assumption)) | (with_reducible refine free_new (by first | omega | (simp; done) | (simp; omega))) | (with_reducible refine Grown.past ?_) | (with_reducible exact Grown.refl _) | (with_reducible exact Past.refl _) | (simp only [World.size_alloc]; omega) | omega)); done)), by (((try dsimp only); (try go_split_ands); (repeat' with_reducible apply And.intro)) <;> ((repeat (first | (with_reducible assumption) | (with_reducible refine box_set ?_ (by first | (simp; done) | (dsimp only; omega) | (simp; omega))) | (with_reducible refine has_set ?_) | (with_reducible refine cell_set ?_ (by first | (simp; done) | (dsimp only; omega) | (simp; omega))) | (with_reducible refine free_set ?_) | (with_reducible refine size_set ?_) | (with_reducible refine Grown.setCell ?_ (by first | (simp; done) | (dsimp only; omega) | (simp; omega)) _) | (with_reducible refine Past.setCell ?_ (by first | (simp; done) | (dsimp only; omega) | (simp; omega)) _) | (with_reducible refine box_drewN ?_) | (with_reducible refine has_drewN ?_) | (with_reducible refine cell_drewN ?_) | (with_reducible refine free_drewN ?_) | (with_reducible refine size_drewN ?_) | (with_reducible refine Grown.drewN ?_) | (with_reducible refine Past.drewN ?_) | (with_reducible refine box_drew ?_) | (with_reducible refine has_drew ?_) | (with_reducible refine cell_drew ?_) | (with_reducible refine free_drew ?_) | (with_reducible refine size_drew ?_) | (with_reducible refine Grown.drew ?_) | (with_reducible refine Past.drew ?_) | (with_reducible refine box_new (by first | omega | (simp; done) | (simp; omega))) | (with_reducible refine box_old ?_ (by first | omega | (simp; done) | (simp; omega))) | (with_reducible refine has_alloc ?_ (by first | omega | (simp; done) | (simp; omega))) | (with_reducible refine cell_alloc ?_ (by first | omega | (simp; done) | (simp; omega))) | (with_reducible refine free_alloc ?_) | (with_reducible refine size_alloc2 True.intro (by simp only [World.size_alloc]; omega)) | (with_reducible refine Grown.alloc ?_ _ _) | (with_reducible refine Past.alloc ?_ _) | (with_reducible refine box_grown (by with_reducible assumption) (by with_reducible assumption) (by first | omega | (dsimp only; omega))) | (with_reducible refine has_grown (by with_reducible assumption) (by with_reducible assumption) (by first | omega | (dsimp only; omega))) | (with_reducible refine cell_grown (by with_reducible assumption) (by with_reducible assumption) (by first | omega | (dsimp only; omega))) | (with_reducible refine size_grown (by with_reducible assumption) (by with_reducible assumption)) | (with_reducible refine free_grown (by with_reducible assumption) (by with_reducible assumption)) | (with_reducible refine grown_trans' (by with_reducible assumption) (by with_reducible assumption)) | (with_reducible refine box_past (by with_reducible assumption) (by with_reducible assumption) (by first | omega | (dsimp only; omega))) | (with_reducible refine has_past (by with_reducible assumption) (by with_reducible assumption) (by first | omega | (dsimp only; omega))) | (with_reducible refine cell_past (by with_reducible assumption) (by with_reducible assumption) (by first | omega | (dsimp only; omega))) | (with_reducible refine free_past (by with_reducible assumption) (by with_reducible assumption) (by first | omega | (dsimp only; omega))) | (with_reducible refine size_past (by with_reducible assumption) (by with_reducible assumption)) | (with_reducible refine past_trans (by with_reducible assumption) (by with_reducible assumption)) | (with_reducible refine free_new (by first | omega | (simp; done) | (simp; omega))) | (with_reducible refine Grown.past ?_) | (with_reducible exact Grown.refl _) | (with_reducible exact Past.refl _) | (simp only [World.size_alloc]; omega) | omega)); done)), by simp, Lib.hid (rr.out.alloc _)⟩) ?_
      rintro w4 ⟨y4, b4, z4, p4, s4, R4⟩
      have hP8' : PL + 1 ≤ P8 := by omega
      have MK := Lib.hid (mark_any _ n.ins L (k : Int) PL P N w4 (IN.out.grow p4) RG.out hold.out mp.out.1 N16 (z4 0) (by omega) R4.out)
      clear x0 x1 x2 y3 x4 x5 x6 x7 x8 x9 x10 x11 x12 x13 b3 x3 p3 s3 rr hP8 n1 n2
      go_wp2_with fail
      refine MK.out.mono ?_
      rintro e w5 ⟨⟨v5, rfl⟩, r5, k5⟩
      have b5 := box_keepU k5 b4 (by omega) (by omega)
      have z5 := box_keepU k5 z4 (by omega) (by omega)
      have p5 := k5.past p4 (by omega)
      have s5 : PL + 1 ≤ w5.heap.size := by have := k5.2.2.1; omega
      have R5 := Lib.hid r5
      clear r5 k5 b4 z4 p4 s4 R4 MK y4 IN hold
      go_wp2_with fail
      go_roundw
      case rel => exact ⟨k + 1, _, by omega, by go_num, R5, MM, b5, z5, p5, s5⟩
      case measure => simp [intOf]; omega
    · obtain rfl : k = g.nodes.length := by omega
      have hold : Hid (∀ b o s l c, Value.slice A3 g.outs.length c3 = .slice (some ⟨b, o, s⟩) l c → 0 < g.outs.length → b ≠ P) := Lib.hid (by
        intro b o s l c e h0
        obtain ⟨b', o', e2, hb, _⟩ := O6.out h0
        simp only [Value.slice.injEq] at e
        rw [e.1] at e2
        simp only [Option.some.injEq, Addr.mk.injEq] at e2
        omega)
      have MK := Lib.hid (mark_any _ g.outs L (g.nodes.length : Int) PL P N wr (HO.out.grow p3) RR2.out hold.out mp.out.1 N16 (x3 0) (by omega) rr.out)
      have LP := Lib.hid (mp.out.last RR2.out)
      clear hold mp
      go_wp2_with fail
      refine MK.out.mono ?_
      rintro e w5 ⟨⟨v5, rfl⟩, r5, k5⟩
      have z5 := box_keepU k5 x3 (by omega) (by omega)
      have p5 := k5.past p3 (by omega)
      have R5 := Lib.hid r5
      have P5 := Lib.hid p5
      clear r5 k5 b3 x3 p3 s3 rr MK p5
      go_wp2_with fail
      go_ret
      exact ⟨P, _, rfl, by omega, R5.out, LP.out, P5.out⟩
end Go.Proofs.Ytpfenpfnflkfiaa
