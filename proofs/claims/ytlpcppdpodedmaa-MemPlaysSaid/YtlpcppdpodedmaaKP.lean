/- Rows of writes and reads: how they lie, and how they are read off an argument. -/
import Derived.Test.YtlpcppdpodedmaaKO
import Derived.ChangeArms
namespace Go.Proofs.Ytlpcppdpodedmaa
open Go.ChangeShapes Go.WideShapes Go.ChangeAt Go.RowKit
set_option maxRecDepth 20000
set_option linter.unusedVariables false
/-- One write and read: its place, where is read, how many, the row (as a value, and its numbers). -/
structure OpD where
  a : Int
  f : Int
  n : Int
  v : Value
  l : List Int
instance : Inhabited OpD := ⟨⟨0, 0, 0, .slice none 0 0, []⟩⟩
/-- It lies there. -/
def OpAt (w : World) (b o : Nat) (x : OpD) : Prop :=
  w.cell? ⟨b, o, none⟩ = some (.int .i64 x.a) ∧ w.cell? ⟨b, o + 1, none⟩ = some (.int .i64 x.f) ∧ w.cell? ⟨b, o + 2, none⟩ = some (.int .i64 x.n) ∧ w.cell? ⟨b, o + 3, none⟩ = some x.v ∧
    (Lit.int .i64 x.a).wf = true ∧ (Lit.int .i64 x.f).wf = true ∧ (Lit.int .i64 x.n).wf = true ∧ IsNums .i8 w x.v x.l
def IsOps (w : World) (v : Value) (xs : List OpD) : Prop :=
  ∃ (A : Option Addr) (cap : Nat), v = .slice A xs.length cap ∧ xs.length ≤ cap ∧ cap ≤ maxLen ∧ (0 < xs.length → ∃ b off, A = some ⟨b, off, none⟩ ∧ b < w.heap.size ∧ ∀ i, i < xs.length → OpAt w b (off + i * 4) (xs.getD i default))
variable {H : Type} {enc : TypeId × Value → H} {W : World}
theorem cellsInt1 : Try.prog.cellsOf 3 = 1 := by kernel_rfl
theorem cellsOp : Try.prog.cellsOf 34 = 4 := by kernel_rfl
theorem cellsSl : Try.prog.cellsOf 32 = 1 := by kernel_rfl
theorem field {t : TypeId} {fs : Array Field} {fuel : Nat} {cs : List Value} {x : DataW H × List MemPlace} (ht : Try.prog.underlying t = some (.struct fs)) (h : DataW.trod enc Try.prog W 0 (fun _ => true) true fuel t cs = some x) (i : Nat) (f : Field) (hi : fs[i]? = some f) :
    ∃ n y, DataW.trod enc Try.prog W 0 (fun _ => true) true n f.type ((cs.drop f.offset).take (Try.prog.cellsOf f.type)) = some y := by
  obtain ⟨xs, n, _, _, _, hs, hf⟩ := DataW.trod_struct ht h
  have l : i < xs.length := by rw [hs]; exact (Array.getElem?_eq_some_iff.mp hi).1
  exact ⟨n, xs[i], by rw [hf i f hi, List.getElem?_eq_getElem l]⟩

theorem field_int {t : TypeId} {fs : Array Field} {fuel : Nat} {cs : List Value} {x : DataW H × List MemPlace} (ht : Try.prog.underlying t = some (.struct fs)) (h : DataW.trod enc Try.prog W 0 (fun _ => true) true fuel t cs = some x) (i : Nat) (f : Field) (hi : fs[i]? = some f) (hk : f.type = 3)
    {c : Value} (hc : (cs.drop f.offset).take 1 = [c]) : ∃ n : Int, c = .int .i64 n ∧ (Lit.int .i64 n).wf = true := by
  obtain ⟨n, y, hy⟩ := field ht h i f hi
  rw [hk, cellsInt1, hc] at hy
  obtain ⟨z, e, _, wz⟩ := DataW.trod_int Try.underlying3 hy
  simp at e
  exact ⟨z, e, wz⟩

theorem open_rows {t e : TypeId} {k fuel : Nat} {v : Value} {x : DataW H × List MemPlace} (ht : Try.prog.underlying t = some (.slice e)) (hc : Try.prog.cellsOf e = k) (hk : 0 < k)
    (h : DataW.trod enc Try.prog W 0 (fun _ => true) true fuel t [v] = some x) :
    ∃ (A : Option Addr) (len cap : Nat), v = .slice A len cap ∧ len ≤ cap ∧ cap ≤ maxLen ∧ (A = none → cap = 0) ∧
      (0 < len → ∃ b off, A = some ⟨b, off, none⟩ ∧ b < W.heap.size ∧ ∀ i, i < len → ∃ (cs : List Value) (n : Nat) (y : DataW H × List MemPlace), cs.length = k ∧ (∀ j, j < k → W.cell? ⟨b, off + i * k + j, none⟩ = cs[j]?) ∧ DataW.trod enc Try.prog W 0 (fun _ => true) true n e cs = some y) := by
  rcases Deep.open_slice ht h with ⟨hcs, _⟩ | ⟨a, len, cap, m, n, D, Pl, hcs, _, hl, hm, hmm, _, hx⟩
  · simp at hcs
    exact ⟨none, 0, 0, hcs, Nat.le_refl _, Nat.zero_le _, fun _ => rfl, fun h => by omega⟩
  · simp at hcs hmm
    rw [hmm] at hx
    refine ⟨some a, len, cap, hcs, hl, hm, (fun h => by cases h), fun hp => ?_⟩
    obtain ⟨c0, g0, _⟩ := hx 0 (by omega)
    obtain ⟨_, l0, q0⟩ := World.cells?_some g0
    rw [hc] at l0 q0
    have z0 := q0 0 hk
    have e0 : (a.add (0 * k)).add 0 = a := by simp [Addr.add]
    rw [e0, List.getElem?_eq_getElem (by omega)] at z0
    obtain ⟨b, off, rfl, hb⟩ := spot_none z0
    refine ⟨b, off, rfl, hb, fun i hi => ?_⟩
    obtain ⟨cs, g, hy⟩ := hx i (by omega)
    obtain ⟨_, l, q⟩ := World.cells?_some g
    rw [hc] at l q
    refine ⟨cs, n, _, l, fun j hj => ?_, hy⟩
    have := q j hj
    rw [add_plain, add_plain] at this
    exact this

theorem choose_below {α : Type} [Inhabited α] {p : Nat → α → Prop} (n : Nat) (h : ∀ i, i < n → ∃ x, p i x) : ∃ l : List α, l.length = n ∧ ∀ i, i < n → p i (l.getD i default) := by
  induction n with
  | zero => exact ⟨[], rfl, fun i hi => by omega⟩
  | succ n ih =>
    obtain ⟨l, hl, hp⟩ := ih (fun i hi => h i (by omega))
    obtain ⟨x, hx⟩ := h n (by omega)
    refine ⟨l ++ [x], by simp [hl], fun i hi => ?_⟩
    by_cases c : i < n
    · have := hp i c
      simpa [List.getD, List.getElem?_append_left (show i < l.length by omega)] using this
    · obtain rfl : i = n := by omega
      have : (l ++ [x]).getD i default = x := by simp [List.getD, ← hl]
      rw [this]; exact hx



theorem open_op {fuel : Nat} {cs : List Value} {x : DataW H × List MemPlace} (hl : cs.length = 4) (h : DataW.trod enc Try.prog W 0 (fun _ => true) true fuel 34 cs = some x) : ∃ (a f n : Int) (v : Value) (l : List Int), cs = [.int .i64 a, .int .i64 f, .int .i64 n, v] ∧ (Lit.int .i64 a).wf = true ∧ (Lit.int .i64 f).wf = true ∧ (Lit.int .i64 n).wf = true ∧ IsNums .i8 W v l := by
  match cs, hl with
  | [c0, c1, c2, c3], _ =>
    have hu := Try.underlying34
    obtain ⟨x0, rfl, w0⟩ := field_int hu h 0 _ rfl rfl (c := c0) rfl
    obtain ⟨x1, rfl, w1⟩ := field_int hu h 1 _ rfl rfl (c := c1) rfl
    obtain ⟨x2, rfl, w2⟩ := field_int hu h 2 _ rfl rfl (c := c2) rfl
    obtain ⟨n, y, hy⟩ := field hu h 3 _ rfl
    have e : ((([.int .i64 x0, .int .i64 x1, .int .i64 x2, c3] : List Value).drop 3).take (Try.prog.cellsOf 32)) = [c3] := by rw [cellsSl]; rfl
    have hy' : DataW.trod enc Try.prog W 0 (fun _ => true) true n 32 [c3] = some y := by rw [← e]; exact hy
    obtain ⟨l, hl⟩ := open_nums (k := .i8) Try.underlying32 Try.underlying38 cells8 hy'
    exact ⟨x0, x1, x2, c3, l, rfl, w0, w1, w2, hl⟩
theorem open_ops_val {r : Reach} {b0 : Nat} {v : Value} {d : DataW H} {p : List MemPlace} (hv : Value.okWide Try.prog W r b0 22 v) (h : DataW.Trod enc Try.prog W 0 (fun _ => true) true 22 v d p) : ∃ l, IsOps W v l := by
  obtain ⟨a, l, c, rfl⟩ := okWide_slice Try.underlying22 hv
  obtain ⟨fuel, hf⟩ := h
  obtain ⟨A, len, cap, ev, hl, hm, hn, hp⟩ := open_rows Try.underlying22 cellsOp (by omega) hf
  rw [ev]
  by_cases q : 0 < len
  · obtain ⟨b, off, rfl, hb, hx⟩ := hp q
    have each : ∀ i, i < len → ∃ y : OpD, OpAt W b (off + i * 4) y := by
      intro i hi
      obtain ⟨cs, n, y, l, q, hy⟩ := hx i hi
      obtain ⟨a, f, n, v, ll, rfl, wa, wf, wn, hll⟩ := open_op l hy
      exact ⟨⟨a, f, n, v, ll⟩, q 0 (by omega), q 1 (by omega), q 2 (by omega), q 3 (by omega), wa, wf, wn, hll⟩
    obtain ⟨xs, hxl, hxs⟩ := choose_below len each
    exact ⟨xs, some ⟨b, off, none⟩, cap, by rw [hxl], by omega, hm, fun _ => ⟨b, off, rfl, hb, fun i hi => hxs i (by omega)⟩⟩
  · obtain rfl : len = 0 := by omega
    exact ⟨[], A, cap, rfl, hl, hm, by simp⟩
end Go.Proofs.Ytlpcppdpodedmaa
