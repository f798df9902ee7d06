/- Rows of pairs of a number and a bool (waits and signals): how they lie, and how they are read off an argument. -/
import Derived.Test.YtjiholljpkdllaaK6
import Derived.ChangeArms
namespace Go.Proofs.Ytjiholljpkdllaa
open Go.ChangeShapes Go.WideShapes Go.ChangeAt Go.RowKit
set_option maxRecDepth 20000
set_option linter.unusedVariables false
/-- A row of waits and signals. -/
def IsOps (w : World) (v : Value) (xs : List (Int × Bool)) : Prop :=
  ∃ (A : Option Addr) (cap : Nat), v = .slice A xs.length cap ∧ xs.length ≤ cap ∧ cap ≤ maxLen ∧ (A = none → cap = 0) ∧ (∀ x ∈ xs, (Lit.int .i64 x.1).wf = true) ∧
    (0 < xs.length → ∃ b off, A = some ⟨b, off, none⟩ ∧ b < w.heap.size ∧ ∀ i, i < xs.length → w.cell? ⟨b, off + i * 2, none⟩ = some (.int .i64 (xs.getD i (0, false)).1) ∧ w.cell? ⟨b, off + i * 2 + 1, none⟩ = some (.bool (xs.getD i (0, false)).2))
theorem at_wf {xs : List (Int × Bool)} (h : ∀ x ∈ xs, (Lit.int .i64 x.1).wf = true) (i : Nat) : (Lit.int .i64 (xs.getD i (0, false)).1).wf = true := by
  by_cases c : i < xs.length
  · have : xs.getD i (0, false) = xs[i] := by simp [List.getD, c]
    rw [this]; exact h _ (List.getElem_mem c)
  · have : xs.getD i (0, false) = (0, false) := by simp [List.getD, c]
    rw [this]; rfl
variable {H : Type} {enc : TypeId × Value → H} {W : World}
theorem cellsInt1 : Try.prog.cellsOf 3 = 1 := by kernel_rfl
theorem cellsBool1 : Try.prog.cellsOf 4 = 1 := by kernel_rfl
theorem cellsOp : Try.prog.cellsOf 33 = 2 := by kernel_rfl
theorem field {t : TypeId} {fs : Array Field} {fuel : Nat} {cs : List Value} {x : DataW H × List MemPlace} (ht : Try.prog.underlying t = some (.struct fs)) (h : DataW.trod enc Try.prog W 0 (fun _ => true) true fuel t cs = some x) (i : Nat) (f : Field) (hi : fs[i]? = some f) :
    ∃ n y, DataW.trod enc Try.prog W 0 (fun _ => true) true n f.type ((cs.drop f.offset).take (Try.prog.cellsOf f.type)) = some y := by
  obtain ⟨xs, n, _, _, _, hs, hf⟩ := DataW.trod_struct ht h
  have l : i < xs.length := by rw [hs]; exact (Array.getElem?_eq_some_iff.mp hi).1
  exact ⟨n, xs[i], by rw [hf i f hi, List.getElem?_eq_getElem l]⟩

theorem field_int {t : TypeId} {fs : Array Field} {fuel : Nat} {cs : List Value} {x : DataW H × List MemPlace} (ht : Try.prog.underlying t = some (.struct fs)) (h : DataW.trod enc Try.prog W 0 (fun _ => true) true fuel t cs = some x) (i : Nat) (f : Field) (hi : fs[i]? = some f) (hk : f.type = 3)
    {c : Value} (hc : (cs.drop f.offset).take 1 = [c]) : ∃ n : Int, c = .int .i64 n ∧ (Lit.int .i64 n).wf = true := by
  obtain ⟨n, y, hy⟩ := field ht h i f hi
  rw [hk, cellsInt1, hc] at hy
  obtain ⟨z, e, _, wz⟩ := DataW.trod_int Try.underlying3 hy
  simp at e
  exact ⟨z, e, wz⟩

theorem open_rows {t e : TypeId} {k fuel : Nat} {v : Value} {x : DataW H × List MemPlace} (ht : Try.prog.underlying t = some (.slice e)) (hc : Try.prog.cellsOf e = k) (hk : 0 < k)
    (h : DataW.trod enc Try.prog W 0 (fun _ => true) true fuel t [v] = some x) :
    ∃ (A : Option Addr) (len cap : Nat), v = .slice A len cap ∧ len ≤ cap ∧ cap ≤ maxLen ∧ (A = none → cap = 0) ∧
      (0 < len → ∃ b off, A = some ⟨b, off, none⟩ ∧ b < W.heap.size ∧ ∀ i, i < len → ∃ (cs : List Value) (n : Nat) (y : DataW H × List MemPlace), cs.length = k ∧ (∀ j, j < k → W.cell? ⟨b, off + i * k + j, none⟩ = cs[j]?) ∧ DataW.trod enc Try.prog W 0 (fun _ => true) true n e cs = some y) := by
  rcases Deep.open_slice ht h with ⟨hcs, _⟩ | ⟨a, len, cap, m, n, D, Pl, hcs, _, hl, hm, hmm, _, hx⟩
  · simp at hcs
    exact ⟨none, 0, 0, hcs, Nat.le_refl _, Nat.zero_le _, fun _ => rfl, fun h => by omega⟩
  · simp at hcs hmm
    rw [hmm] at hx
    refine ⟨some a, len, cap, hcs, hl, hm, (fun h => by cases h), fun hp => ?_⟩
    obtain ⟨c0, g0, _⟩ := hx 0 (by omega)
    obtain ⟨_, l0, q0⟩ := World.cells?_some g0
    rw [hc] at l0 q0
    have z0 := q0 0 hk
    have e0 : (a.add (0 * k)).add 0 = a := by simp [Addr.add]
    rw [e0, List.getElem?_eq_getElem (by omega)] at z0
    obtain ⟨b, off, rfl, hb⟩ := spot_none z0
    refine ⟨b, off, rfl, hb, fun i hi => ?_⟩
    obtain ⟨cs, g, hy⟩ := hx i (by omega)
    obtain ⟨_, l, q⟩ := World.cells?_some g
    rw [hc] at l q
    refine ⟨cs, n, _, l, fun j hj => ?_, hy⟩
    have := q j hj
    rw [add_plain, add_plain] at this
    exact this

theorem choose_below {α : Type} [Inhabited α] {p : Nat → α → Prop} (n : Nat) (h : ∀ i, i < n → ∃ x, p i x) : ∃ l : List α, l.length = n ∧ ∀ i, i < n → p i (l.getD i default) := by
  induction n with
  | zero => exact ⟨[], rfl, fun i hi => by omega⟩
  | succ n ih =>
    obtain ⟨l, hl, hp⟩ := ih (fun i hi => h i (by omega))
    obtain ⟨x, hx⟩ := h n (by omega)
    refine ⟨l ++ [x], by simp [hl], fun i hi => ?_⟩
    by_cases c : i < n
    · have := hp i c
      simpa [List.getD, List.getElem?_append_left (show i < l.length by omega)] using this
    · obtain rfl : i = n := by omega
      have : (l ++ [x]).getD i default = x := by simp [List.getD, ← hl]
      rw [this]; exact hx



theorem open_op {fuel : Nat} {cs : List Value} {x : DataW H × List MemPlace} (hl : cs.length = 2) (h : DataW.trod enc Try.prog W 0 (fun _ => true) true fuel 33 cs = some x) : ∃ (a : Int) (s : Bool), cs = [.int .i64 a, .bool s] ∧ (Lit.int .i64 a).wf = true := by
  match cs, hl with
  | [c, d], _ =>
    have hu := Try.underlying33
    obtain ⟨x0, rfl, w0⟩ := field_int hu h 0 _ rfl rfl (c := c) rfl
    obtain ⟨n, y, hy⟩ := field hu h 1 _ rfl
    have e : ((([.int .i64 x0, d] : List Value).drop 1).take (Try.prog.cellsOf 4)) = [d] := by rw [cellsBool1]; rfl
    have hy' : DataW.trod enc Try.prog W 0 (fun _ => true) true n 4 [d] = some y := by rw [← e]; exact hy
    obtain ⟨b, hb, _⟩ := DataW.trod_bool Try.underlying4 hy'
    simp at hb
    subst hb
    exact ⟨x0, b, rfl, w0⟩
theorem open_ops_val {r : Reach} {b0 : Nat} {v : Value} {d : DataW H} {p : List MemPlace} (hv : Value.okWide Try.prog W r b0 22 v) (h : DataW.Trod enc Try.prog W 0 (fun _ => true) true 22 v d p) : ∃ l, IsOps W v l := by
  obtain ⟨a, l, c, rfl⟩ := okWide_slice Try.underlying22 hv
  obtain ⟨fuel, hf⟩ := h
  obtain ⟨A, len, cap, ev, hl, hm, hn, hp⟩ := open_rows Try.underlying22 cellsOp (by omega) hf
  rw [ev]
  by_cases q : 0 < len
  · obtain ⟨b, off, rfl, hb, hx⟩ := hp q
    have each : ∀ i, i < len → ∃ y : Int × Bool, (W.cell? ⟨b, off + i * 2, none⟩ = some (.int .i64 y.1) ∧ W.cell? ⟨b, off + i * 2 + 1, none⟩ = some (.bool y.2)) ∧ (Lit.int .i64 y.1).wf = true := by
      intro i hi
      obtain ⟨cs, n, y, l, q, hy⟩ := hx i hi
      obtain ⟨a, s, rfl, wd⟩ := open_op l hy
      exact ⟨(a, s), ⟨q 0 (by omega), q 1 (by omega)⟩, wd⟩
    obtain ⟨xs, hxl, hxs⟩ := choose_below len each
    refine ⟨xs, some ⟨b, off, none⟩, cap, by rw [hxl], by omega, hm, (fun h => by cases h), fun y hy => ?_, fun _ => ⟨b, off, rfl, hb, fun i hi => (hxs i (by omega)).1⟩⟩
    obtain ⟨i, hi, rfl⟩ := List.getElem_of_mem hy
    have := (hxs i (by omega)).2
    simpa [List.getD, List.getElem?_eq_getElem hi] using this
  · obtain rfl : len = 0 := by omega
    exact ⟨[], A, cap, rfl, hl, hm, hn, by simp, by simp⟩
/-! ### a row of eight counts, turned -/
theorem AllAt.keep {w w' : World} {p lo hi k : Nat} {l : List Nat} (h : AllAt w p l k) (g : But lo hi w w') (r : p < lo ∨ hi ≤ p) : AllAt w' p l k :=
  ⟨Nat.lt_of_lt_of_le h.size g.2.2.1, fun j hj => (g.cell (p := ⟨p, j, none⟩) h.size r).trans (h.cell j hj), fun o => (g.free (p := ⟨p, o, none⟩) h.size r).trans (h.free o)⟩
theorem AllAt.grow {w w' : World} {p k : Nat} {l : List Nat} (h : AllAt w p l k) (g : Past w w') : AllAt w' p l k := h.keep (g.but 0 0) (Or.inr (Nat.zero_le _))
theorem But.setCell (w : World) {lo hi : Nat} {a : Addr} (h1 : lo ≤ a.block) (h2 : a.block < hi) (u : Value) : But lo hi w (w.setCell a u) :=
  ⟨rfl, rfl, by simp [World.setCell], fun k _ hr => Below.heap_setCell _ _ _ _ (by omega)⟩
theorem AllAt.put {w : World} {p k x : Nat} {l : List Nat} (h : AllAt w p l 8) (hl : l.length = 8) (hk : k < 8) : AllAt (w.setCell ⟨p, k, none⟩ (.int .i64 (x : Int))) p (l.set k x) 8 := by
  refine ⟨size_set h.size, fun j hj => ?_, free_set h.free⟩
  have e0 := h.cell j hj
  rw [if_pos hj, getD_set (by omega)]
  by_cases c : j = k
  · subst c
    rw [World.cell?_setCell_same w ⟨p, j, none⟩ (.int .i64 (x : Int)) e0, if_pos rfl]
  · rw [World.cell?_setCell_other _ _ _ _ (by first | (simp; done) | (simp; omega)), e0, if_pos hj, if_neg c]
theorem AllAt.nums {w : World} {p : Nat} {l : List Nat} (h : AllAt w p l 8) (hl : l.length = 8) (hm : ∀ k, k < 8 → l.getD k 0 ≤ 15) : IsNums .i64 w (.slice (some ⟨p, 0, none⟩) 8 8) (natsI l) := by
  refine ⟨some ⟨p, 0, none⟩, 8, by simp [natsI, hl], by simp [natsI, hl], by decide, (fun h => by cases h), fun x hx => ?_, fun _ => ⟨_, _, rfl, h.size, fun i hi => ?_⟩⟩
  · obtain ⟨n, hn, rfl⟩ := List.mem_map.1 hx
    obtain ⟨i, hi, rfl⟩ := List.getElem_of_mem hn
    have := hm i (by omega)
    rw [List.getD, List.getElem?_eq_getElem hi] at this
    simp at this
    simp [Lit.wf, IntKind.min, IntKind.max, IntKind.bits, IntKind.signed]
    omega
  · have hi' : i < 8 := by simpa [natsI, hl] using hi
    rw [natsI_at, Nat.zero_add]
    simpa [hi'] using h.cell i hi'
/-! ### the calls that make memory, their block a letter -/
theorem all_at (w : World) (b : Nat) (l : List Nat) (h : SemAt w b l) : Calls Try.prog 18 #[.pointer (some ⟨b, 0, none⟩)] w fun e w' => ∃ p : Nat, Hid (w.heap.size = p) ∧ e = .returned (.slice (some ⟨p, 0, none⟩) 8 8) ∧ IsNums .i64 w' (.slice (some ⟨p, 0, none⟩) 8 8) (natsI l) ∧ Past w w' :=
  (all_any w b l h).mono fun e w' ⟨h1, h2, h3⟩ => ⟨_, Lib.hid rfl, h1, h2, h3⟩
theorem clone_at (w : World) (b : Nat) (l : List Nat) (h : SemAt w b l) : Calls Try.prog 10 #[.pointer (some ⟨b, 0, none⟩)] w fun e w' => ∃ p : Nat, Hid (w.heap.size = p) ∧ e = .returned (.pointer (some ⟨p, 0, none⟩)) ∧ SemAt w' p l ∧ Past w w' :=
  (clone_any w b l h).mono fun e w' ⟨h1, h2, h3⟩ => ⟨_, Lib.hid rfl, h1, h2, h3⟩
theorem new_at (w : World) : Calls Try.prog 9 #[] w fun e w' => ∃ p : Nat, Hid (w.heap.size = p) ∧ e = .returned (.pointer (some ⟨p, 0, none⟩)) ∧ SemAt w' p (List.replicate 8 0) ∧ Past w w' :=
  (new_any w).mono fun e w' ⟨h1, h2, h3⟩ => ⟨_, Lib.hid rfl, h1, h2, h3⟩
end Go.Proofs.Ytjiholljpkdllaa
