/- Spans: how they lie, and how they are read off an argument. -/
import Derived.Test.YtgbedoffgahhaaaRead
import Derived.ChangeArms
import Derived.BigQuiet
namespace Go.Proofs.Ytgbedoffgahhaaa
open Go.ChangeShapes Go.WideShapes Go.ChangeAt Go.RowKit
set_option maxRecDepth 20000
set_option linter.unusedVariables false
/-- A span: its memory, from where, up to where, whether it is written. -/
structure SpD where
  m : Int
  f : Int
  t : Int
  w : Bool
deriving Inhabited
def SpWf (x : SpD) : Prop := (Lit.int .i64 x.m).wf = true ∧ (Lit.int .i64 x.f).wf = true ∧ (Lit.int .i64 x.t).wf = true
def SpAt (w : World) (b o : Nat) (x : SpD) : Prop :=
  w.cell? ⟨b, o, none⟩ = some (.int .i64 x.m) ∧ w.cell? ⟨b, o + 1, none⟩ = some (.int .i64 x.f) ∧ w.cell? ⟨b, o + 2, none⟩ = some (.int .i64 x.t) ∧ w.cell? ⟨b, o + 3, none⟩ = some (.bool x.w)
def IsSpans (w : World) (v : Value) (xs : List SpD) : Prop :=
  ∃ (A : Option Addr) (cap : Nat), v = .slice A xs.length cap ∧ xs.length ≤ cap ∧ cap ≤ maxLen ∧ (A = none → cap = 0) ∧ (∀ x ∈ xs, SpWf x) ∧
    (0 < xs.length → ∃ b off, A = some ⟨b, off, none⟩ ∧ b < w.heap.size ∧ ∀ i, i < xs.length → SpAt w b (off + i * 4) (xs.getD i default))
theorem SpAt.grow {w w' : World} {b off : Nat} {x : SpD} (h : SpAt w b off x) (hb : b < w.heap.size) (g : Past w w') : SpAt w' b off x := by
  obtain ⟨h1, h2, h3, h4⟩ := h
  exact ⟨(g.cell hb).trans h1, (g.cell hb).trans h2, (g.cell hb).trans h3, (g.cell hb).trans h4⟩
theorem IsSpans.grow {w w' : World} {v : Value} {xs : List SpD} (h : IsSpans w v xs) (g : Past w w') : IsSpans w' v xs := by
  obtain ⟨A, cap, h1, h2, h3, h4, h5, h6⟩ := h
  refine ⟨A, cap, h1, h2, h3, h4, h5, fun hp => ?_⟩
  obtain ⟨b, off, e, hb, hc⟩ := h6 hp
  exact ⟨b, off, e, Nat.lt_of_lt_of_le hb g.2.2.1, fun i hi => (hc i hi).grow hb g⟩
variable {H : Type} {enc : TypeId × Value → H} {W : World}
theorem cellsSp : Try.prog.cellsOf 28 = 4 := by kernel_rfl
theorem cellsBool : Try.prog.cellsOf 4 = 1 := by kernel_rfl
theorem open_span {fuel : Nat} {cs : List Value} {x : DataW H × List MemPlace} (hl : cs.length = 4) (h : DataW.trod enc Try.prog W 0 (fun _ => true) true fuel 28 cs = some x) : ∃ s : SpD, cs = [.int .i64 s.m, .int .i64 s.f, .int .i64 s.t, .bool s.w] ∧ SpWf s := by
  match cs, hl with
  | [c0, c1, c2, c3], _ =>
    have hu := Try.underlying28
    obtain ⟨x0, rfl, w0⟩ := field_int hu h 0 _ rfl rfl (c := c0) rfl
    obtain ⟨x1, rfl, w1⟩ := field_int hu h 1 _ rfl rfl (c := c1) rfl
    obtain ⟨x2, rfl, w2⟩ := field_int hu h 2 _ rfl rfl (c := c2) rfl
    obtain ⟨n, y, hy⟩ := field hu h 3 _ rfl
    have e : ((([.int .i64 x0, .int .i64 x1, .int .i64 x2, c3] : List Value).drop 3).take (Try.prog.cellsOf 4)) = [c3] := by rw [cellsBool]; rfl
    have hy' : DataW.trod enc Try.prog W 0 (fun _ => true) true n 4 [c3] = some y := by rw [← e]; exact hy
    obtain ⟨b, hb, _⟩ := DataW.trod_bool Try.underlying4 hy'
    simp at hb
    exact ⟨⟨x0, x1, x2, b⟩, by rw [hb], w0, w1, w2⟩
theorem open_spans_val {r : Reach} {b0 : Nat} {v : Value} {d : DataW H} {p : List MemPlace} (hv : Value.okWide Try.prog W r b0 22 v) (h : DataW.Trod enc Try.prog W 0 (fun _ => true) true 22 v d p) : ∃ l, IsSpans W v l := by
  obtain ⟨a, l, c, rfl⟩ := okWide_slice Try.underlying22 hv
  obtain ⟨fuel, hf⟩ := h
  obtain ⟨A, len, cap, ev, hl, hm, hn, hp⟩ := open_rows Try.underlying22 cellsSp (by omega) hf
  rw [ev]
  by_cases q : 0 < len
  · obtain ⟨b, off, rfl, hb, hx⟩ := hp q
    have each : ∀ i, i < len → ∃ y : SpD, SpAt W b (off + i * 4) y ∧ SpWf y := by
      intro i hi
      obtain ⟨cs, n, y, l, q, hy⟩ := hx i hi
      obtain ⟨s, rfl, ws⟩ := open_span l hy
      exact ⟨s, ⟨q 0 (by omega), q 1 (by omega), q 2 (by omega), q 3 (by omega)⟩, ws⟩
    obtain ⟨xs, hxl, hxs⟩ := choose_below len each
    refine ⟨xs, some ⟨b, off, none⟩, cap, by rw [hxl], by omega, hm, (fun h => by cases h), fun y hy => ?_, fun _ => ⟨b, off, rfl, hb, fun i hi => (hxs i (by omega)).1⟩⟩
    obtain ⟨i, hi, rfl⟩ := List.getElem_of_mem hy
    have := (hxs i (by omega)).2
    simpa [List.getD, List.getElem?_eq_getElem hi] using this
  · obtain rfl : len = 0 := by omega
    exact ⟨[], A, cap, rfl, hl, hm, hn, by simp, by simp⟩
/-- A span by value. -/
def IsSpan (v : Value) (x : SpD) : Prop := v = .agg #[.int .i64 x.m, .int .i64 x.f, .int .i64 x.t, .bool x.w]
theorem open_span_val {r : Reach} {b0 : Nat} {v : Value} {d : DataW H} {p : List MemPlace} (hv : Value.okWide Try.prog W r b0 28 v) (h : DataW.Trod enc Try.prog W 0 (fun _ => true) true 28 v d p) : ∃ x : SpD, IsSpan v x ∧ SpWf x := by
  obtain ⟨cs, rfl, hsz⟩ := okWide_struct Try.underlying28 hv
  obtain ⟨l⟩ := cs
  obtain ⟨fuel, hf⟩ := h
  rw [cellsSp] at hsz
  obtain ⟨x, e, wd⟩ := open_span (cs := l) hsz hf
  subst e
  exact ⟨x, rfl, wd⟩
/-! ### In numbers -/
/-- What is wrong with a span. -/
def spanE (x : SpD) : Int := if ¬ (x.m = 0 ∨ x.m = 1) then 1 else if x.f < 0 ∨ x.t < x.f ∨ (if x.m = 1 then 1024 else 65536) < x.t then 23 else 0
/-- Whether two spans meet. -/
def meets (x y : SpD) : Bool := x.m == y.m && decide (max x.f y.f < min x.t y.t) && (x.w || y.w)
def clashD (a b : List SpD) : Bool := a.any fun x => b.any fun y => meets x y
theorem meets_comm (x y : SpD) : meets x y = meets y x := by
  have e : (x.m == y.m) = (y.m == x.m) := Bool.eq_iff_iff.mpr (by simp only [beq_iff_eq]; exact eq_comm)
  unfold meets; rw [e, Int.max_comm, Int.min_comm, Bool.or_comm]
theorem clash_comm (a b : List SpD) : clashD a b = clashD b a := by
  rw [Bool.eq_iff_iff]
  simp only [clashD, List.any_eq_true]
  constructor
  · rintro ⟨x, hx, y, hy, h⟩; exact ⟨y, hy, x, hx, by rw [meets_comm]; exact h⟩
  · rintro ⟨x, hx, y, hy, h⟩; exact ⟨y, hy, x, hx, by rw [meets_comm]; exact h⟩
end Go.Proofs.Ytgbedoffgahhaaa
