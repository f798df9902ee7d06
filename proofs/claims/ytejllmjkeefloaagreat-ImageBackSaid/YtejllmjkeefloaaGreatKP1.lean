/- What Value answers at the examples and pairs of the laws: plain numbers. Commands as values: boxes of fourteen numbers; two commands compared. Two commands compared, in the walk. A row of bytes in a block of its own; the program's Seal. Small: a Bool for what may be; nodes and graphs part by part. -/
import Derived.Test.YtejllmjkeefloaaGreatKG6
import Derived.Test.YtejllmjkeefloaaGreatKI1
import Derived.Laws.AppendOwn
import Derived.Laws.OwnMore
import Derived.Laws.CopyOwn
import Derived.OwnWalk
import Derived.Test.YtejllmjkeefloaaGreatKG6C
import Derived.Test.YtejllmjkeefloaaGreatKRead
namespace Go.Proofs.YtejllmjkeefloaaGreat
open Go.ChangeShapes Go.WideShapes Go.ChangeAt Go.RowKit
set_option linter.unusedVariables false

theorem valueE_mk11 {n : NodeD} {vs : List ValD} (h : ¬ (hasOp n.op ∧ takesP (opD n.op) n vs)) : valueE n vs = 11 := by unfold valueE; rw [if_pos h]
theorem valueE_mk10 {n : NodeD} {vs : List ValD} (h : hasOp n.op ∧ takesP (opD n.op) n vs) (k : ¬ ∀ j, j < vs.length → mayV (vs.getD j default)) : valueE n vs = 10 := by unfold valueE; rw [if_neg (fun f => f h), if_pos k]
theorem valueE_mk10' {n : NodeD} {vs : List ValD} (h : hasOp n.op ∧ takesP (opD n.op) n vs) (m : ¬ mayT (madeS n vs)) : valueE n vs = 10 := by
  by_cases k : ∀ j, j < vs.length → mayV (vs.getD j default)
  · unfold valueE; rw [if_neg (fun f => f h), if_neg (fun f => f k), if_pos m]
  · exact valueE_mk10 h k
theorem valueV_mk {n : NodeD} {vs : List ValD} (h : valueE n vs = 0) : valueV n vs = ⟨(madeS n vs).1, (madeS n vs).2.1, (madeS n vs).2.2, n.zero⟩ := by unfold valueV; rw [if_pos h]
theorem below_one {p : Nat → Prop} (h : p 0) : ∀ j, j < 1 → p j := fun j hj => by
  obtain rfl : j = 0 := by omega
  exact h
end Go.Proofs.YtejllmjkeefloaaGreat
namespace Go.Proofs.YtejllmjkeefloaaGreat.Q8
open Go.ChangeShapes Go.WideShapes Go.ChangeAt Go.RowKit
set_option maxRecDepth 20000
set_option linter.unusedVariables false
set_option linter.unusedSimpArgs false

def cellC (c : List Int) : List Value := c.map (Value.int .i64)
theorem cellC_len (c : List Int) : (cellC c).length = c.length := by simp [cellC]
theorem cellC_at (c : List Int) (j : Nat) (h : j < c.length) : (cellC c)[j]? = some (.int .i64 (c.getD j 0)) := by simp [cellC, List.getD, h]
theorem boxC_cell {w : World} {Q j : Nat} {c : List Int} (h : (∀ o : Nat, w.cell? ⟨Q, o, none⟩ = (⟨cellC c⟩ : Array Value)[o]?)) (hj : j < c.length) : w.cell? ⟨Q, j, none⟩ = some (.int .i64 (c.getD j 0)) := by
  rw [h j]
  have := cellC_at c j hj
  simpa using this
theorem boxC_set {w : World} {Q j : Nat} {c : List Int} {x : Int} (h : (∀ o : Nat, w.cell? ⟨Q, o, none⟩ = (⟨cellC c⟩ : Array Value)[o]?)) (hj : j < c.length) : (∀ o : Nat, (w.setCell ⟨Q, j, none⟩ (.int .i64 x)).cell? ⟨Q, o, none⟩ = (⟨cellC (c.set j x)⟩ : Array Value)[o]?) := by
  intro i
  by_cases e : i = j
  · subst e
    rw [World.cell?_setCell_same w _ _ (boxC_cell h hj)]
    simp [cellC, hj]
  · rw [World.cell?_setCell_other _ _ _ _ (by simp <;> omega), h i]
    simp [cellC, List.getElem?_set, show ¬ j = i by omega]
set_option maxHeartbeats 4000000 in
theorem eq2 (a b c d : Int) (w : World) : (Op.equalIn 9999 65 (.agg #[.int .i64 a, .int .i64 b]) (.agg #[.int .i64 c, .int .i64 d])).run Tryz.prog w = .ok (a == c && b == d) w := by
  have ku := Tryz.underlying3
  have ka := Tryz.isAgg3
  have kz := Tryz.sizeOf3
  rw [show (9999 : Nat) = 9998 + 1 from rfl, Op.equalIn]
  simp only [Sem.run_bind, run_underlying Tryz.underlying65, Result.andThen_ok]
  simp only [Std.Legacy.Range.forIn_eq_forIn_range', Std.Legacy.Range.size, Nat.sub_zero, Nat.add_sub_cancel, Nat.div_one, List.range'_succ, List.range'_zero, List.forIn_cons, List.forIn_nil]
  cases e0 : (a == c)
  · go_simp
  cases e1 : (b == d)
  · go_simp
  · go_simp
set_option maxHeartbeats 4000000 in
theorem eqC_raw (a0 a1 a2 a3 a4 a5 a6 a7 a8 a9 a10 a11 a12 a13 b0 b1 b2 b3 b4 b5 b6 b7 b8 b9 b10 b11 b12 b13 : Int) (w : World) : (Op.equalIn 10000 67 (.agg #[.int .i64 a0, .int .i64 a1, .int .i64 a2, .int .i64 a3, .int .i64 a4, .int .i64 a5, .int .i64 a6, .int .i64 a7, .int .i64 a8, .int .i64 a9, .int .i64 a10, .int .i64 a11, .int .i64 a12, .int .i64 a13]) (.agg #[.int .i64 b0, .int .i64 b1, .int .i64 b2, .int .i64 b3, .int .i64 b4, .int .i64 b5, .int .i64 b6, .int .i64 b7, .int .i64 b8, .int .i64 b9, .int .i64 b10, .int .i64 b11, .int .i64 b12, .int .i64 b13])).run Tryz.prog w = .ok (a0 == b0 && (a1 == b1 && (a2 == b2 && (a3 == b3 && (a4 == b4 && (a5 == b5 && (a6 == b6 && (a7 == b7 && ((a8 == b8 && a9 == b9) && ((a10 == b10 && a11 == b11) && (a12 == b12 && a13 == b13))))))))))) w := by
  have ku := Tryz.underlying3
  have ka := Tryz.isAgg3
  have kz := Tryz.sizeOf3
  have ku2 := Tryz.underlying65
  have ka2 := Tryz.isAgg65
  have kz2 := Tryz.sizeOf65
  have ef : Tryz.prog.underlying 67 = some (.struct (Tryz.prog.fieldsOf 67)) := by kernel_rfl
  have ef2 := Tryz.underlying67
  rw [show (10000 : Nat) = 9999 + 1 from rfl, run_equalIn_struct w 9999 _ _ _ ef (by kernel_rfl)]
  rw [ef] at ef2
  simp only [Option.some.injEq, TypeDesc.struct.injEq] at ef2
  rw [ef2]
  clear ef ef2
  cases e0 : (a0 == b0)
  · go_simp
  cases e1 : (a1 == b1)
  · go_simp
  cases e2 : (a2 == b2)
  · go_simp
  cases e3 : (a3 == b3)
  · go_simp
  cases e4 : (a4 == b4)
  · go_simp
  cases e5 : (a5 == b5)
  · go_simp
  cases e6 : (a6 == b6)
  · go_simp
  cases e7 : (a7 == b7)
  · go_simp
  have q1 := eq2 a8 a9 b8 b9 w
  cases e8 : (a8 == b8 && a9 == b9)
  · rw [e8] at q1
    go_simp
  rw [e8] at q1
  have q2 := eq2 a10 a11 b10 b11 w
  cases e10 : (a10 == b10 && a11 == b11)
  · rw [e10] at q2
    go_simp
  rw [e10] at q2
  have q3 := eq2 a12 a13 b12 b13 w
  cases e12 : (a12 == b12 && a13 == b13)
  · rw [e12] at q3
    go_simp
  rw [e12] at q3
  · go_simp
theorem eqC {a b : List Int} (ha : a.length = 14) (hb : b.length = 14) (w : World) : (Op.equalIn 10000 67 (.agg ⟨cellC a⟩) (.agg ⟨cellC b⟩)).run Tryz.prog w = .ok (decide (a = b)) w := by
  obtain ⟨a0, a1, a2, a3, a4, a5, a6, a7, a8, a9, a10, a11, a12, a13, rfl⟩ := fourteen ha
  obtain ⟨b0, b1, b2, b3, b4, b5, b6, b7, b8, b9, b10, b11, b12, b13, rfl⟩ := fourteen hb
  have h := eqC_raw a0 a1 a2 a3 a4 a5 a6 a7 a8 a9 a10 a11 a12 a13 b0 b1 b2 b3 b4 b5 b6 b7 b8 b9 b10 b11 b12 b13 w
  refine h.trans ?_
  congr 1
  rw [Bool.eq_iff_iff]
  simp
  intro _ _ _ _ _ _ _ _
  constructor
  · rintro ⟨⟨h9, h10⟩, ⟨h11, h12⟩, h13, h14⟩
    exact ⟨h9, h10, h11, h12, h13, h14⟩
  · rintro ⟨h9, h10, h11, h12, h13, h14⟩
    exact ⟨⟨h9, h10⟩, ⟨h11, h12⟩, h13, h14⟩
end Go.Proofs.YtejllmjkeefloaaGreat.Q8
namespace Go.Proofs.YtejllmjkeefloaaGreat.Q8
open Go.ChangeShapes Go.WideShapes Go.ChangeAt Go.RowKit
set_option maxRecDepth 20000
set_option linter.unusedVariables false
set_option linter.unusedSimpArgs false

theorem guardC : Tryz.prog.eqGuardType Tryz.prog.depth 67 = false := by kernel_rfl
theorem wp_neqC {o : Oper} {a : Act} {w : World} {K : Act → World → Prop} {Q : Exit → Act → World → Prop} (x y : Operand) (ty2 : TypeId) (ho : o.op = .binOp .neq 67 x y ty2)
    (c d : List Int) (hc : c.length = 14) (hd : d.length = 14) (hx : a.eval x = .agg ⟨cellC c⟩) (hy : a.eval y = .agg ⟨cellC d⟩) (h : K (a.put o.dst (.bool (!decide (c = d)))) w) : o.wp Tryz.prog a w K Q := by
  have e := eqC hc hd w
  unfold Oper.wp execOp
  simp only [ho, hx, hy, Sem.run_bind, run_eqGuard_agg _ _ _ _ _ _ _ guardC, Result.andThen_ok, run_neq_struct, e, Sem.run_pure]
  exact h
theorem wpList_neqC {ops : Array Oper} {rest : List Oper} {o : Oper} {a : Act} {w : World} {Q : Exit → Act → World → Prop} (hgd : o.guard = none) (x y : Operand) (ty2 : TypeId) (ho : o.op = .binOp .neq 67 x y ty2)
    (c d : List Int) (hc : c.length = 14) (hd : d.length = 14) (hx : a.eval x = .agg ⟨cellC c⟩) (hy : a.eval y = .agg ⟨cellC d⟩) (h : wpList Tryz.prog ops Q rest (a.put o.dst (.bool (!decide (c = d)))) w) : wpList Tryz.prog ops Q (o :: rest) a w :=
  wpList_plain hgd fun _ hK => wp_neqC x y ty2 ho c d hc hd hx hy (hK _ _ h)
end Go.Proofs.YtejllmjkeefloaaGreat.Q8
namespace Go.Proofs.YtejllmjkeefloaaGreat.Q7
open Go.ChangeShapes Go.WideShapes Go.ChangeAt Go.RowKit
set_option maxRecDepth 20000
set_option linter.unusedVariables false

def cellB (l : List Nat) : List Value := l.map (fun n : Nat => Value.int .u8 (n : Int))
theorem cellB_len (l : List Nat) : (cellB l).length = l.length := by simp [cellB]
theorem cellB_one (l : List Nat) : ∀ v ∈ cellB l, v.oneCell' = true := by
  intro v hv
  obtain ⟨x, _, rfl⟩ := List.mem_map.1 hv
  rfl
theorem cellB_at (l : List Nat) (i : Nat) (h : i < l.length) : (cellB l)[i]? = some (.int .u8 ((l.getD i 0 : Nat) : Int)) := by simp [cellB, List.getD, h]
theorem cellB_set (l : List Nat) (j c : Nat) : (cellB l).set j (.int .u8 (c : Int)) = cellB (l.set j c) := by simp [cellB, List.map_set]
/-- A block that holds just these bytes. -/
def Row (w : World) (b : Nat) (l : List Nat) : Prop := w.heap[b]? = some (.cells (cellB l).toArray 5 (0, 0))
theorem Row.lt {w : World} {b : Nat} {l : List Nat} (h : Row w b l) : b < w.heap.size := (Array.getElem?_eq_some_iff.1 h).1
theorem Row.cell {w : World} {b : Nat} {l : List Nat} (h : Row w b l) {i : Nat} (hi : i < l.length) : w.cell? ⟨b, i, none⟩ = some (.int .u8 ((l.getD i 0 : Nat) : Int)) := by
  rw [← cellB_at l i hi]
  unfold Row at h
  simp [World.cell?, h]
theorem Row.free {w : World} {b : Nat} {l : List Nat} (h : Row w b l) : (∀ o : Nat, w.frozen? ⟨b, o, none⟩ = false) := fun o => frozen_of_row w b o _ _ h
theorem Row.past {w w' : World} {b : Nat} {l : List Nat} (h : Row w b l) (g : Past w w') : Row w' b l := (g.2.2.2 b h.lt).trans h
theorem Row.set {w : World} {b : Nat} {l : List Nat} (h : Row w b l) (j c : Nat) : Row (w.setCell ⟨b, j, none⟩ (.int .u8 (c : Int))) b (l.set j c) := by
  have := heap_setCell_same w b j (cellB l).toArray 5 (.int .u8 (c : Int)) h
  unfold Row
  rw [this, ← cellB_set]
  simp
theorem wf8 {c : Nat} (h : c < 256) : (Lit.int .u8 (c : Int)).wf = true := by
  simp [Lit.wf, IntKind.min, IntKind.max, IntKind.bits, IntKind.signed]; omega
theorem ints_wf {l : List Nat} (h : Bytes l) : ∀ x ∈ ints l, (Lit.int .u8 x).wf = true := by
  intro x hx
  obtain ⟨c, hc, rfl⟩ := List.mem_map.1 hx
  exact wf8 (h c hc)
theorem Row.nums {w : World} {b : Nat} {l : List Nat} (h : Row w b l) (hb : Bytes l) (hm : l.length ≤ maxLen) : IsNums .u8 w (.slice (some ⟨b, 0, none⟩) l.length l.length) (ints l) := by
  refine ⟨some ⟨b, 0, none⟩, l.length, by rw [ints_len], by rw [ints_len]; exact Nat.le_refl _, hm, (fun h => by cases h), ints_wf hb, fun _ => ⟨b, 0, rfl, h.lt, fun i hi => ?_⟩⟩
  rw [ints_len] at hi
  rw [ints_at, Nat.zero_add]
  exact h.cell hi
theorem row_of_own {w : World} {base b n : Nat} {xs : List Value} {l : List Nat} (h : w.ownsRow base 5 1 (.slice (some ⟨b, 0, none⟩) n n) n xs) (e : xs = cellB l) : Row w b l := by
  subst e
  obtain ⟨hl, h⟩ := h
  rcases h with ⟨h', _⟩ | ⟨g, cap, cur, h', hb, hg, hn, hm, hs, ht⟩
  · simp at h'
  · simp only [Value.slice.injEq, Option.some.injEq, Addr.mk.injEq, and_true, true_and] at h'
    obtain ⟨rfl, rfl⟩ := h'
    unfold Row
    rw [hg, ← ht, List.take_of_length_le (by simp [hs])]
theorem nums_cells {w : World} {A : Option Addr} {len cap : Nat} {l : List Nat} (h : IsNums .u8 w (.slice A len cap) (ints l)) : 0 < (cellB l).length → ∃ ad, A = some ad ∧ ∀ j v, (cellB l)[j]? = some v → w.cell? (ad.add j) = some v := by
  intro hp
  obtain ⟨A', cap', e, h2, h3, h4, h5, h6⟩ := h
  simp only [Value.slice.injEq] at e
  obtain ⟨rfl, rfl, rfl⟩ := e
  rw [cellB_len] at hp
  obtain ⟨b, off, rfl, hb, hc⟩ := h6 (by rw [ints_len]; exact hp)
  refine ⟨_, rfl, fun j v hv => ?_⟩
  have hj : j < l.length := by have := (List.getElem?_eq_some_iff.1 hv).1; rwa [cellB_len] at this
  rw [add_plain, hc j (by rw [ints_len]; exact hj), ints_at, ← cellB_at l j hj, hv]
theorem info8 : (Tryz.prog.info? 5).map (fun i => (i.zero, i.size, i.bytes)) = some (some (.int .u8 0), 1, 1) := by kernel_rfl
theorem size8 : (Tryz.prog.info? 5).map (·.size) = some 1 := by kernel_rfl
def SealPost (bs : List Nat) (W : World) (e : Ending) (w' : World) : Prop := e = .returned (.slice (some ⟨W.heap.size, 0, none⟩) (bs.length + 4) (bs.length + 4)) ∧ Row w' W.heap.size (sealD bs) ∧ Past W w'
/-- What the loop has laid so far. -/
theorem laid_at (bs : List Nat) (m S : Nat) (hS : S = sumD bs) (h : m < 4) : (bs ++ (le4 S).take m ++ List.replicate (4 - m) 0).set (bs.length + m) (S / 2 ^ (8 * m) % 256) = bs ++ (le4 S).take (m + 1) ++ List.replicate (4 - (m + 1)) 0 := by
  have : m = 0 ∨ m = 1 ∨ m = 2 ∨ m = 3 := by omega
  rcases this with rfl | rfl | rfl | rfl <;> simp [le4, List.replicate]
set_option maxHeartbeats 4000000 in
theorem seal_any (bs : List Nat) (v : Value) (W : World) (h : IsNums .u8 W v (ints bs)) (hb : Bytes bs) (hl : bs.length ≤ 1000000) : Calls Tryz.prog 23 #[v] W (SealPost bs W) := by
  have H := Lib.hid h
  obtain ⟨A, cap, rfl, h2, h3, h4, h5, h6⟩ := h
  rw [ints_len] at H ⊢
  clear h6 h5 h2 h4
  obtain ⟨i0, hi0, hz0, hz1, hz2⟩ := info_parts info8
  obtain ⟨w2, hrun, own2, grow2⟩ := run_makeSlice_full (P := Tryz.prog) W W.heap.size 22 5 i0 (.int .u8 0) 1 Tryz.underlying22 hi0 hz0 hz1 .i64 .i64 (bs.length + 4) (by omega) (by rw [hz2]; omega) (by unfold maxLen; omega) (Nat.le_refl _)
  clear hi0 hz0 hz1 hz2
  have g2 : Past W w2 := (Past.refl W).grownBy grow2 (fun k hk => by cases hk)
  have R2 : Row w2 W.heap.size (List.replicate (bs.length + 4) 0) := row_of_own own2 (by
    show (madeCells #[.int .u8 0] ((bs.length + 4) * 1)).toList = _
    rw [toList_madeCells_one, Nat.mul_one]
    simp [cellB])
  have e0 : (((bs.length + 4 : Nat)) : Int) = (bs.length : Int) + 4 := by simp
  rw [e0] at hrun
  clear e0 own2 grow2
  obtain ⟨P, hP⟩ : ∃ P, W.heap.size = P := ⟨_, rfl⟩
  obtain ⟨N, hN⟩ : ∃ N, bs.length + 4 = N := ⟨_, rfl⟩
  unfold SealPost
  rw [hP] at hrun R2 ⊢
  rw [hN] at hrun R2 ⊢
  have HPP := Lib.hid hP
  have HNN := Lib.hid hN
  have HB := Lib.hid hb
  clear hP hb
  go_enter Tryz.func23, Tryz.ntmps23
  have hn1 : (cellB bs).length = Nat.min bs.length N := by rw [cellB_len]; show _ = min bs.length N; omega
  have hf1 : 0 + (cellB bs).length ≤ (cellB (List.replicate N 0)).length := by rw [cellB_len, cellB_len]; simp; omega
  have hs1 : 0 < (cellB bs).length → ∃ ad, A = some ad ∧ ∀ (j : Nat) (v : Value), (cellB bs)[j]? = some v → w2.cell? (ad.add j) = some v := fun hp => nums_cells (H.out.grow g2) hp
  have LAW := Lib.hid (And.intro hn1 (And.intro hf1 (And.intro (cellB_one bs) hs1)))
  have HR := Lib.hid R2
  have SM := Lib.hid (fun w (g : Past W w) => sum_any bs _ w (H.out.grow g) HB.out hl)
  have HG := Lib.hid g2
  clear hn1 hf1 hs1 R2 hN
  go_wp2_with (refine wpList_copy_splice rfl (.tmp 10) (.tmp 11) 22 22 rfl 5 Tryz.underlying22 size8 (some ⟨P, 0, none⟩) A N N bs.length cap rfl rfl P 0 (cellB (List.replicate N 0)) 5 HR.out (cellB bs) LAW.out.1 (fun hp => ⟨rfl, LAW.out.2.2.2 hp⟩) LAW.out.2.1 LAW.out.2.2.1 P w2 (Below.refl _ _) (Nat.le_refl _) ?_)
  intro w4 hg4 hb4
  have R4 : Row w4 P (bs ++ List.replicate 4 0) := by
    have := hg4.out
    unfold Row
    rw [this]
    congr 2
    rw [← HNN.out]
    simp [splice, cellB]
  have g4 : Past W w4 := ⟨hb4.os.trans HG.out.1, hb4.output.trans HG.out.2.1, Nat.le_trans HG.out.2.2.1 hb4.size, fun k hk => (hb4.block k (by have := HPP.out; omega)).trans (HG.out.2.2.2 k hk)⟩
  clear hg4 hb4 LAW HR HG g2 hrun
  go_wp2_with fail
  refine (SM.out _ g4).mono ?_
  rintro e w5 ⟨rfl, gg⟩
  have R5 := R4.past (Grown.past gg)
  have g5 := g4.trans (Grown.past gg)
  clear R4 g4 gg SM
  have sl := sum_lt HB.out
  have n1 : bs.length + 4 ≤ N := by have := HNN.out; omega
  have n2 : N ≤ bs.length + 4 := by have := HNN.out; omega
  obtain ⟨S, hS⟩ : ∃ S, sumD bs = S := ⟨_, rfl⟩
  have SS := Lib.hid hS
  rw [hS] at sl ⊢
  clear hS
  go_wp2_with fail
  go_loopw [15] (fun i wr => ∃ (m : Nat), m ≤ 4 ∧ i = .int .i64 (m : Int) ∧ Row wr P (bs ++ (le4 S).take m ++ List.replicate (4 - m) 0) ∧ Hid (Past W wr)) (fun i _ => 4 - (intOf i).toNat)
  case atStart => exact ⟨0, by omega, rfl, by simpa using R5, Lib.hid g5⟩
  case round =>
    clear R5 g5
    obtain ⟨m, hm, rfl, hr, hp⟩ := hrel
    by_cases d : m < 4
    · have f1 := hr.free (bs.length + m)
      obtain ⟨u1, c1⟩ : ∃ u, wr.cell? ⟨P, bs.length + m, none⟩ = some u := ⟨_, hr.cell (i := bs.length + m) (by simp [le4]; omega)⟩
      have nx := hr.set (bs.length + m) (S / 2 ^ (8 * m) % 256)
      rw [laid_at bs m S SS.out.symm d] at nx
      have NX := Lib.hid nx
      have HL := Lib.hid (hr.lt)
      have nb : P < wr.heap.size := hr.lt
      clear nx hr
      have hm4 : m = 0 ∨ m = 1 ∨ m = 2 ∨ m = 3 := by omega
      rcases hm4 with rfl | rfl | rfl | rfl
      · simp only [Nat.add_zero] at f1 c1
        go_wp2_with fail
        exact ⟨⟨1, by omega, rfl, by simpa using NX.out, Lib.hid (hp.out.setCell (by have := HPP.out; dsimp only; omega) _)⟩, by simp [intOf]⟩
      · go_wp2_with fail
        exact ⟨⟨2, by omega, rfl, by simpa using NX.out, Lib.hid (hp.out.setCell (by have := HPP.out; dsimp only; omega) _)⟩, by simp [intOf]⟩
      · go_wp2_with fail
        exact ⟨⟨3, by omega, rfl, by simpa using NX.out, Lib.hid (hp.out.setCell (by have := HPP.out; dsimp only; omega) _)⟩, by simp [intOf]⟩
      · go_wp2_with fail
        have q : (S : Int) / 16777216 % 256 = (S : Int) / 16777216 := by omega
        exact ⟨⟨4, by omega, rfl, by simpa [q] using NX.out, Lib.hid (hp.out.setCell (by have := HPP.out; dsimp only; omega) _)⟩, by simp [intOf]⟩
    · have e4 : m = 4 := by omega
      subst e4
      have HR := Lib.hid hr
      clear hr
      go_wp2_with fail
      go_ret
      refine ⟨rfl, ?_, hp.out⟩
      have := HR.out
      unfold sealD
      rw [SS.out]
      simpa [le4] using this
end Go.Proofs.YtejllmjkeefloaaGreat.Q7
namespace Go.Proofs.YtejllmjkeefloaaGreat
open Go.ChangeShapes Go.WideShapes Go.ChangeAt Go.RowKit
set_option linter.unusedVariables false

theorem bool_any (p : Prop) : ∃ t : Bool, (t = true ↔ p) := by
  rcases Classical.em p with h | h
  · exact ⟨true, by simp [h]⟩
  · exact ⟨false, by simp [h]⟩
theorem nodes_ext {xs ys : List NodeD} (h : xs.length = ys.length) : xs = ys ↔ ∀ j, j < xs.length → xs.getD j default = ys.getD j default := by
  constructor
  · rintro rfl j _; rfl
  · intro k
    refine List.ext_getElem h (fun i h1 h2 => ?_)
    have := k i h1
    simpa [List.getD, h1, h2] using this
theorem graph_eq (a b : GraphD) : a = b ↔ a.ins = b.ins ∧ a.nodes = b.nodes ∧ a.outs = b.outs := by
  cases a
  cases b
  simp
end Go.Proofs.YtejllmjkeefloaaGreat
