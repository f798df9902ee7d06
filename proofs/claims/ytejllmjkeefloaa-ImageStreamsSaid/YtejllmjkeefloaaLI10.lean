/- Rows of commands in memory; how they are read off an argument. -/
import Derived.Test.YtejllmjkeefloaaLL0
namespace Go.Proofs.Ytejllmjkeefloaa.Q8
open Go.ChangeShapes Go.WideShapes Go.ChangeAt Go.RowKit
set_option maxRecDepth 20000
set_option linter.unusedVariables false
set_option linter.unusedSimpArgs false

/-- A row of commands. -/
def wfC (c : List Int) : Prop := c.length = 14 ∧ ∀ x ∈ c, (Lit.int .i64 x).wf = true
def IsCmds (w : World) (v : Value) (l : List (List Int)) : Prop :=
  ∃ (A : Option Addr) (cap : Nat), v = .slice A l.length cap ∧ l.length ≤ cap ∧ cap ≤ maxLen ∧ (A = none → cap = 0) ∧ (∀ c ∈ l, wfC c) ∧
    (0 < l.length → ∃ b off, A = some ⟨b, off, none⟩ ∧ b < w.heap.size ∧ ∀ i, i < l.length → w.rangeAt b (off + i * 14) (cellC (l.getD i [])))
theorem IsCmds.grow {w w' : World} {v : Value} {l : List (List Int)} (h : IsCmds w v l) (g : Past w w') : IsCmds w' v l := by
  obtain ⟨A, cap, h1, h2, h3, h4, h5, h6⟩ := h
  refine ⟨A, cap, h1, h2, h3, h4, h5, fun hp => ?_⟩
  obtain ⟨b, off, e, hb, hc⟩ := h6 hp
  exact ⟨b, off, e, Nat.lt_of_lt_of_le hb g.2.2.1, fun i hi j v hv => (g.cell hb).trans (hc i hi j v hv)⟩
theorem IsCmds.form {w : World} {v : Value} {l : List (List Int)} (h : IsCmds w v l) : ∃ A cap, v = .slice A l.length cap ∧ l.length ≤ cap ∧ cap ≤ maxLen ∧ (A = none → cap = 0) := by
  obtain ⟨A, cap, h1, h2, h3, h4, _⟩ := h
  exact ⟨A, cap, h1, h2, h3, h4⟩
theorem IsCmds.wf {w : World} {v : Value} {l : List (List Int)} (h : IsCmds w v l) : ∀ c ∈ l, wfC c := h.choose_spec.choose_spec.2.2.2.2.1
/-- One of them. -/
theorem IsCmds.at {w : World} {A : Option Addr} {len cap : Nat} {l : List (List Int)} (h : IsCmds w (.slice A len cap) l) (i : Nat) (hi : i < l.length) : ∃ b off, A = some ⟨b, off, none⟩ ∧ b < w.heap.size ∧ w.rangeAt b (off + i * 14) (cellC (l.getD i [])) := by
  obtain ⟨A', cap', e, h2, h3, h4, h5, h6⟩ := h
  simp only [Value.slice.injEq] at e
  obtain ⟨rfl, _, rfl⟩ := e
  obtain ⟨b, off, e, hb, hc⟩ := h6 (by omega)
  exact ⟨b, off, e, hb, hc i hi⟩
theorem wfC_at {l : List (List Int)} (h : ∀ c ∈ l, wfC c) {i : Nat} (hi : i < l.length) : wfC (l.getD i []) := by
  have : l.getD i [] = l[i] := by simp [List.getD, hi]
  rw [this]
  exact h _ (List.getElem_mem hi)
theorem IsCmds.cut {w : World} {A : Option Addr} {len cap : Nat} {l : List (List Int)} (m : Nat) (hm : m ≤ l.length) (h : IsCmds w (.slice A len cap) l) : IsCmds w (.slice A m cap) (l.take m) := by
  obtain ⟨A', cap', e, h2, h3, h4, h5, h6⟩ := h
  simp only [Value.slice.injEq] at e
  obtain ⟨rfl, _, rfl⟩ := e
  have hl : (l.take m).length = m := by simp; omega
  refine ⟨A, cap, by rw [hl], by omega, h3, h4, fun c hc => h5 c (List.mem_of_mem_take hc), fun hp => ?_⟩
  obtain ⟨b, off, e, hb, hc⟩ := h6 (by omega)
  refine ⟨b, off, e, hb, fun i hi => ?_⟩
  have : (l.take m).getD i [] = l.getD i [] := by simp only [List.getD, List.getElem?_take]; rw [if_pos (by omega)]
  rw [this]
  exact hc i (by omega)
variable {H : Type} {enc : TypeId × Value → H} {W : World}
theorem cellsInt1 : Try.prog.cellsOf 3 = 1 := by kernel_rfl
theorem cellsInts2 : Try.prog.cellsOf 49 = 2 := by kernel_rfl
theorem ints2_read {fuel : Nat} {a b : Value} {x : DataW H × List MemPlace} (h : DataW.trod enc Try.prog W 0 (fun _ => true) true fuel 49 [a, b] = some x) :
    ∃ m y z, DataW.trod enc Try.prog W 0 (fun _ => true) true m 3 [a] = some y ∧ DataW.trod enc Try.prog W 0 (fun _ => true) true m 3 [b] = some z := by
  match fuel, h with
  | 0, h => simp [DataW.trod] at h
  | m + 1, h =>
    unfold DataW.trod at h
    rw [Try.underlying49] at h
    simp [show List.range 2 = [0, 1] from rfl, cellsInt1] at h
    have h := h.2
    rcases e0 : DataW.trod enc Try.prog W 0 (fun _ => true) true m 3 [a] with _ | y
    · rw [e0] at h; simp at h
    · rcases e1 : DataW.trod enc Try.prog W 0 (fun _ => true) true m 3 [b] with _ | z
      · rw [e0, e1] at h; simp at h
      · exact ⟨m, y, z, e0, e1⟩
theorem field {t : TypeId} {fs : Array Field} {fuel : Nat} {cs : List Value} {x : DataW H × List MemPlace} (ht : Try.prog.underlying t = some (.struct fs)) (h : DataW.trod enc Try.prog W 0 (fun _ => true) true fuel t cs = some x) (i : Nat) (f : Field) (hi : fs[i]? = some f) :
    ∃ n y, DataW.trod enc Try.prog W 0 (fun _ => true) true n f.type ((cs.drop f.offset).take (Try.prog.cellsOf f.type)) = some y := by
  obtain ⟨xs, n, _, _, _, hs, hf⟩ := DataW.trod_struct ht h
  have l : i < xs.length := by rw [hs]; exact (Array.getElem?_eq_some_iff.mp hi).1
  exact ⟨n, xs[i], by rw [hf i f hi, List.getElem?_eq_getElem l]⟩
theorem field_int {t : TypeId} {fs : Array Field} {fuel : Nat} {cs : List Value} {x : DataW H × List MemPlace} (ht : Try.prog.underlying t = some (.struct fs)) (h : DataW.trod enc Try.prog W 0 (fun _ => true) true fuel t cs = some x) (i : Nat) (f : Field) (hi : fs[i]? = some f) (hk : f.type = 3)
    {c : Value} (hc : (cs.drop f.offset).take 1 = [c]) : ∃ n : Int, c = .int .i64 n ∧ (Lit.int .i64 n).wf = true := by
  obtain ⟨n, y, hy⟩ := field ht h i f hi
  rw [hk, cellsInt1, hc] at hy
  obtain ⟨z, e, _, wz⟩ := DataW.trod_int Try.underlying3 hy
  simp at e
  exact ⟨z, e, wz⟩
theorem open_rows {t e : TypeId} {k fuel : Nat} {v : Value} {x : DataW H × List MemPlace} (ht : Try.prog.underlying t = some (.slice e)) (hc : Try.prog.cellsOf e = k) (hk : 0 < k)
    (h : DataW.trod enc Try.prog W 0 (fun _ => true) true fuel t [v] = some x) :
    ∃ (A : Option Addr) (len cap : Nat), v = .slice A len cap ∧ len ≤ cap ∧ cap ≤ maxLen ∧ (A = none → cap = 0) ∧
      (0 < len → ∃ b off, A = some ⟨b, off, none⟩ ∧ b < W.heap.size ∧ ∀ i, i < len → ∃ (cs : List Value) (n : Nat) (y : DataW H × List MemPlace), cs.length = k ∧ (∀ j, j < k → W.cell? ⟨b, off + i * k + j, none⟩ = cs[j]?) ∧ DataW.trod enc Try.prog W 0 (fun _ => true) true n e cs = some y) := by
  rcases Deep.open_slice ht h with ⟨hcs, _⟩ | ⟨a, len, cap, m, n, D, Pl, hcs, _, hl, hm, hmm, _, hx⟩
  · simp at hcs
    exact ⟨none, 0, 0, hcs, Nat.le_refl _, Nat.zero_le _, fun _ => rfl, fun h => by omega⟩
  · simp at hcs hmm
    rw [hmm] at hx
    refine ⟨some a, len, cap, hcs, hl, hm, (fun h => by cases h), fun hp => ?_⟩
    obtain ⟨c0, g0, _⟩ := hx 0 (by omega)
    obtain ⟨_, l0, q0⟩ := World.cells?_some g0
    rw [hc] at l0 q0
    have z0 := q0 0 hk
    have e0 : (a.add (0 * k)).add 0 = a := by simp [Addr.add]
    rw [e0, List.getElem?_eq_getElem (by omega)] at z0
    obtain ⟨b, off, rfl, hb⟩ := spot_none z0
    refine ⟨b, off, rfl, hb, fun i hi => ?_⟩
    obtain ⟨cs, g, hy⟩ := hx i (by omega)
    obtain ⟨_, l, q⟩ := World.cells?_some g
    rw [hc] at l q
    refine ⟨cs, n, _, l, fun j hj => ?_, hy⟩
    have := q j hj
    rw [add_plain, add_plain] at this
    exact this
theorem choose_below {α : Type} [Inhabited α] {p : Nat → α → Prop} (n : Nat) (h : ∀ i, i < n → ∃ x, p i x) : ∃ l : List α, l.length = n ∧ ∀ i, i < n → p i (l.getD i default) := by
  induction n with
  | zero => exact ⟨[], rfl, fun i hi => by omega⟩
  | succ n ih =>
    obtain ⟨l, hl, hp⟩ := ih (fun i hi => h i (by omega))
    obtain ⟨x, hx⟩ := h n (by omega)
    refine ⟨l ++ [x], by simp [hl], fun i hi => ?_⟩
    by_cases c : i < n
    · have := hp i c
      simpa [List.getD, List.getElem?_append_left (show i < l.length by omega)] using this
    · obtain rfl : i = n := by omega
      have : (l ++ [x]).getD i default = x := by simp [List.getD, ← hl]
      rw [this]; exact hx
theorem cellsCmd : Try.prog.cellsOf 51 = 14 := by kernel_rfl
theorem fourteenV {l : List Value} (h : l.length = 14) : ∃ a b c d e f g i j k m n o p, l = [a, b, c, d, e, f, g, i, j, k, m, n, o, p] := by
  match l, h with
  | [a, b, c, d, e, f, g, i, j, k, m, n, o, p], _ => exact ⟨_, _, _, _, _, _, _, _, _, _, _, _, _, _, rfl⟩
theorem field_ints2 {t : TypeId} {fs : Array Field} {fuel : Nat} {cs : List Value} {x : DataW H × List MemPlace} (ht : Try.prog.underlying t = some (.struct fs)) (h : DataW.trod enc Try.prog W 0 (fun _ => true) true fuel t cs = some x) (i : Nat) (f : Field) (hi : fs[i]? = some f) (hk : f.type = 49)
    {c d : Value} (hc : (cs.drop f.offset).take 2 = [c, d]) : ∃ n m : Int, c = .int .i64 n ∧ d = .int .i64 m ∧ (Lit.int .i64 n).wf = true ∧ (Lit.int .i64 m).wf = true := by
  obtain ⟨n, y, hy⟩ := field ht h i f hi
  rw [hk, cellsInts2, hc] at hy
  obtain ⟨m, y1, y2, h1, h2⟩ := ints2_read hy
  obtain ⟨z1, e1, _, w1⟩ := DataW.trod_int Try.underlying3 h1
  obtain ⟨z2, e2, _, w2⟩ := DataW.trod_int Try.underlying3 h2
  simp at e1 e2
  exact ⟨z1, z2, e1, e2, w1, w2⟩
theorem open_cmd {fuel : Nat} {cs : List Value} {x : DataW H × List MemPlace} (hl : cs.length = 14) (h : DataW.trod enc Try.prog W 0 (fun _ => true) true fuel 51 cs = some x) : ∃ c, cs = cellC c ∧ wfC c := by
  obtain ⟨a, b, c, d, e, f, g, i, j, k, m, n, oo, p, rfl⟩ := fourteenV hl
  have hu := Try.underlying51
  obtain ⟨x0, rfl, w0⟩ := field_int hu h 0 _ rfl rfl rfl
  obtain ⟨x1, rfl, w1⟩ := field_int hu h 1 _ rfl rfl rfl
  obtain ⟨x2, rfl, w2⟩ := field_int hu h 2 _ rfl rfl rfl
  obtain ⟨x3, rfl, w3⟩ := field_int hu h 3 _ rfl rfl rfl
  obtain ⟨x4, rfl, w4⟩ := field_int hu h 4 _ rfl rfl rfl
  obtain ⟨x5, rfl, w5⟩ := field_int hu h 5 _ rfl rfl rfl
  obtain ⟨x6, rfl, w6⟩ := field_int hu h 6 _ rfl rfl rfl
  obtain ⟨x7, rfl, w7⟩ := field_int hu h 7 _ rfl rfl rfl
  obtain ⟨x8, x9, rfl, rfl, w8, w9⟩ := field_ints2 hu h 8 _ rfl rfl rfl
  obtain ⟨x10, x11, rfl, rfl, w10, w11⟩ := field_ints2 hu h 9 _ rfl rfl rfl
  obtain ⟨x12, x13, rfl, rfl, w12, w13⟩ := field_ints2 hu h 10 _ rfl rfl rfl
  refine ⟨[x0, x1, x2, x3, x4, x5, x6, x7, x8, x9, x10, x11, x12, x13], rfl, rfl, fun y hy => ?_⟩
  simp only [List.mem_cons, List.not_mem_nil, or_false] at hy
  rcases hy with rfl | rfl | rfl | rfl | rfl | rfl | rfl | rfl | rfl | rfl | rfl | rfl | rfl | rfl <;> assumption
theorem open_cmds_val {r : Reach} {b0 : Nat} {v : Value} {d : DataW H} {p : List MemPlace} (hv : Value.okWide Try.prog W r b0 37 v) (h : DataW.Trod enc Try.prog W 0 (fun _ => true) true 37 v d p) : ∃ l, IsCmds W v l := by
  obtain ⟨a, l, c, rfl⟩ := okWide_slice Try.underlying37 hv
  obtain ⟨fuel, hf⟩ := h
  obtain ⟨A, len, cap, ev, hl, hm, hn, hp⟩ := open_rows Try.underlying37 cellsCmd (by omega) hf
  rw [ev]
  by_cases q : 0 < len
  · obtain ⟨b, off, rfl, hb, hx⟩ := hp q
    have each : ∀ i, i < len → ∃ y : List Int, W.rangeAt b (off + i * 14) (cellC y) ∧ wfC y := by
      intro i hi
      obtain ⟨cs, n, y, l, q, hy⟩ := hx i hi
      obtain ⟨d, rfl, wd⟩ := open_cmd l hy
      refine ⟨d, fun j v hv => ?_, wd⟩
      have hj : j < 14 := by
        by_cases hj : j < 14
        · exact hj
        · rw [List.getElem?_eq_none (by rw [l]; omega)] at hv; cases hv
      rw [q j hj, hv]
    obtain ⟨xs, hxl, hxs⟩ := choose_below len each
    refine ⟨xs, some ⟨b, off, none⟩, cap, by rw [hxl], by omega, hm, (fun h => by cases h), fun y hy => ?_, fun _ => ⟨b, off, rfl, hb, fun i hi => (hxs i (by omega)).1⟩⟩
    obtain ⟨i, hi, rfl⟩ := List.getElem_of_mem hy
    have := (hxs i (by omega)).2
    simpa [List.getD, List.getElem?_eq_getElem hi] using this
  · obtain rfl : len = 0 := by omega
    exact ⟨[], A, cap, rfl, hl, hm, hn, by simp, by simp⟩
end Go.Proofs.Ytejllmjkeefloaa.Q8
