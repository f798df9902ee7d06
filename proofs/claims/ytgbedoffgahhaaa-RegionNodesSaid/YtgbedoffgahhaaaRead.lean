/- api's values, nodes and graphs as plain data: how they lie in memory; from an argument's reading to that. -/
import Derived.Test.YtgbedoffgahhaaaWorld
import Derived.Test.YtgbedoffgahhaaaChecked
import Derived.OpenShut
import Derived.ChangeSlices
import Derived.Deep.Slices
import Derived.Deep.Strs
import Derived.Lib.SmallJoins
import Derived.Carry
import Derived.Below
namespace Go.Proofs.Ytgbedoffgahhaaa
open Go.ChangeShapes Go.WideShapes Go.ChangeAt Go.RowKit
set_option maxRecDepth 20000

/-- api.Value, api.Node, api.Graph as plain data. -/
structure ValD where
  h : Int
  w : Int
  c : Int
  z : Int
deriving Inhabited

structure NodeD where
  op : Int
  ins : List Int
  k : Int
  stride : Int
  pad : Int
  out : Int
  mul : Int
  shift : Int
  zero : Int
  th : Int
  tw : Int
  tc : Int
  ws : List Int
  bs : List Int
deriving Inhabited

structure GraphD where
  ins : List ValD
  nodes : List NodeD
  outs : List Int
deriving Inhabited

/-- A slice of numbers of one kind, in memory. -/
def IsNums (k : IntKind) (w : World) (v : Value) (xs : List Int) : Prop :=
  ∃ (A : Option Addr) (cap : Nat), v = .slice A xs.length cap ∧ xs.length ≤ cap ∧ cap ≤ maxLen ∧ (A = none → cap = 0) ∧ (∀ x ∈ xs, (Lit.int k x).wf = true) ∧
    (0 < xs.length → ∃ b off, A = some ⟨b, off, none⟩ ∧ b < w.heap.size ∧ ∀ i, i < xs.length → w.cell? ⟨b, off + i, none⟩ = some (.int k (xs.getD i 0)))

def IsVal (v : Value) (x : ValD) : Prop := v = .agg #[.int .i64 x.h, .int .i64 x.w, .int .i64 x.c, .int .i64 x.z]

def ValAt (w : World) (b off : Nat) (x : ValD) : Prop :=
  w.cell? ⟨b, off, none⟩ = some (.int .i64 x.h) ∧ w.cell? ⟨b, off + 1, none⟩ = some (.int .i64 x.w) ∧ w.cell? ⟨b, off + 2, none⟩ = some (.int .i64 x.c) ∧ w.cell? ⟨b, off + 3, none⟩ = some (.int .i64 x.z)

def ValWf (x : ValD) : Prop := (Lit.int .i64 x.h).wf = true ∧ (Lit.int .i64 x.w).wf = true ∧ (Lit.int .i64 x.c).wf = true ∧ (Lit.int .i64 x.z).wf = true

def IsVals (w : World) (v : Value) (xs : List ValD) : Prop :=
  ∃ (A : Option Addr) (cap : Nat), v = .slice A xs.length cap ∧ xs.length ≤ cap ∧ cap ≤ maxLen ∧ (A = none → cap = 0) ∧ (∀ x ∈ xs, ValWf x) ∧
    (0 < xs.length → ∃ b off, A = some ⟨b, off, none⟩ ∧ b < w.heap.size ∧ ∀ i, i < xs.length → ValAt w b (off + i * 4) (xs.getD i default))

theorem cell_lt {w : World} {b off : Nat} {v : Value} (h : w.cell? ⟨b, off, none⟩ = some v) : b < w.heap.size := by
  unfold World.cell? at h
  by_cases c : b < w.heap.size
  · exact c
  · simp [Array.getElem?_eq_none (Nat.le_of_not_lt c)] at h

variable {H : Type} {enc : TypeId × Value → H} {W : World}

theorem open_nums {k : IntKind} {t e : TypeId} {fuel : Nat} {v : Value} {x : DataW H × List MemPlace} (ht : Try.prog.underlying t = some (.slice e)) (he : Try.prog.underlying e = some (.int k)) (hc : Try.prog.cellsOf e = 1)
    (h : DataW.trod enc Try.prog W 0 (fun _ => true) true fuel t [v] = some x) : ∃ xs, IsNums k W v xs := by
  rcases open_ints ht he hc h with ⟨hcs, _⟩ | ⟨a, len, cap, zs, hcs, _, hl, hm, hz, _, hcell, hwf⟩
  · simp at hcs
    exact ⟨[], none, 0, by simpa using hcs, by simp, by simp, fun _ => rfl, by simp, by simp⟩
  · simp at hcs hz
    have hlen : (zs.take len).length = len := by rw [List.length_take]; omega
    refine ⟨zs.take len, some a, cap, by rw [hlen, hcs], by omega, hm, (fun h => by cases h), fun x hx => hwf x (List.mem_of_mem_take hx), fun hp => ?_⟩
    rw [hlen] at hp
    obtain ⟨b, off, spot⟩ := a
    have h0 := hcell 0 (by omega)
    have hs : spot = none := by simpa [Addr.add] using World.cell?_spot h0
    subst hs
    refine ⟨b, off, rfl, cell_lt (by rw [add_plain] at h0; exact h0), fun i hi => ?_⟩
    rw [hlen] at hi
    have hi' := hcell i (by omega)
    rw [add_plain] at hi'
    rw [hi']
    simp [List.getD, hi]

theorem cells3 : Try.prog.cellsOf 3 = 1 := by kernel_rfl
theorem cells24 : Try.prog.cellsOf 46 = 3 := by kernel_rfl
theorem cells32 : Try.prog.cellsOf 52 = 4 := by kernel_rfl
theorem cells28 : Try.prog.cellsOf 50 = 14 := by kernel_rfl
theorem cells40 : Try.prog.cellsOf 36 = 3 := by kernel_rfl
theorem cells22 : Try.prog.cellsOf 34 = 1 := by kernel_rfl
theorem cells25 : Try.prog.cellsOf 47 = 1 := by kernel_rfl
theorem cells26 : Try.prog.cellsOf 48 = 1 := by kernel_rfl
theorem cells29 : Try.prog.cellsOf 32 = 1 := by kernel_rfl
theorem cells38 : Try.prog.cellsOf 33 = 1 := by kernel_rfl

theorem four {α : Type} {l : List α} (h : l.length = 4) : ∃ a b c d, l = [a, b, c, d] := by
  match l, h with
  | [a, b, c, d], _ => exact ⟨a, b, c, d, rfl⟩
theorem three {α : Type} {l : List α} (h : l.length = 3) : ∃ a b c, l = [a, b, c] := by
  match l, h with
  | [a, b, c], _ => exact ⟨a, b, c, rfl⟩
theorem fourteen {α : Type} {l : List α} (h : l.length = 14) : ∃ a b c d e f g i j k m n o p, l = [a, b, c, d, e, f, g, i, j, k, m, n, o, p] := by
  match l, h with
  | [a, b, c, d, e, f, g, i, j, k, m, n, o, p], _ => exact ⟨a, b, c, d, e, f, g, i, j, k, m, n, o, p, rfl⟩

theorem field {t : TypeId} {fs : Array Field} {fuel : Nat} {cs : List Value} {x : DataW H × List MemPlace} (ht : Try.prog.underlying t = some (.struct fs)) (h : DataW.trod enc Try.prog W 0 (fun _ => true) true fuel t cs = some x) (i : Nat) (f : Field) (hi : fs[i]? = some f) :
    ∃ n y, DataW.trod enc Try.prog W 0 (fun _ => true) true n f.type ((cs.drop f.offset).take (Try.prog.cellsOf f.type)) = some y := by
  obtain ⟨xs, n, _, _, _, hs, hf⟩ := DataW.trod_struct ht h
  have l : i < xs.length := by rw [hs]; exact (Array.getElem?_eq_some_iff.mp hi).1
  exact ⟨n, xs[i], by rw [hf i f hi, List.getElem?_eq_getElem l]⟩

theorem field_int {t : TypeId} {fs : Array Field} {fuel : Nat} {cs : List Value} {x : DataW H × List MemPlace} (ht : Try.prog.underlying t = some (.struct fs)) (h : DataW.trod enc Try.prog W 0 (fun _ => true) true fuel t cs = some x) (i : Nat) (f : Field) (hi : fs[i]? = some f) (hk : f.type = 3)
    {c : Value} (hc : (cs.drop f.offset).take 1 = [c]) : ∃ n : Int, c = .int .i64 n ∧ (Lit.int .i64 n).wf = true := by
  obtain ⟨n, y, hy⟩ := field ht h i f hi
  rw [hk, cells3, hc] at hy
  obtain ⟨z, e, _, wz⟩ := DataW.trod_int Try.underlying3 hy
  simp at e
  exact ⟨z, e, wz⟩

theorem open_shape {fuel : Nat} {cs : List Value} {x : DataW H × List MemPlace} (h : DataW.trod enc Try.prog W 0 (fun _ => true) true fuel 46 cs = some x) :
    ∃ a b c : Int, cs = [.int .i64 a, .int .i64 b, .int .i64 c] ∧ (Lit.int .i64 a).wf = true ∧ (Lit.int .i64 b).wf = true ∧ (Lit.int .i64 c).wf = true := by
  obtain ⟨xs, n, _, _, hl, _, _⟩ := DataW.trod_struct Try.underlying46 h
  rw [cells24] at hl
  obtain ⟨c0, c1, c2, rfl⟩ := three hl
  obtain ⟨a, rfl, wa⟩ := field_int Try.underlying46 h 0 _ rfl rfl (c := c0) rfl
  obtain ⟨b, rfl, wb⟩ := field_int Try.underlying46 h 1 _ rfl rfl (c := c1) rfl
  obtain ⟨c, rfl, wc⟩ := field_int Try.underlying46 h 2 _ rfl rfl (c := c2) rfl
  exact ⟨a, b, c, rfl, wa, wb, wc⟩

theorem open_val {fuel : Nat} {cs : List Value} {x : DataW H × List MemPlace} (h : DataW.trod enc Try.prog W 0 (fun _ => true) true fuel 52 cs = some x) :
    ∃ v : ValD, cs = [.int .i64 v.h, .int .i64 v.w, .int .i64 v.c, .int .i64 v.z] ∧ ValWf v := by
  obtain ⟨xs, n, _, _, hl, _, _⟩ := DataW.trod_struct Try.underlying52 h
  rw [cells32] at hl
  obtain ⟨c0, c1, c2, c3, rfl⟩ := four hl
  obtain ⟨m, y, hy⟩ := field Try.underlying52 h 0 _ rfl
  obtain ⟨a, b, c, e, wa, wb, wc⟩ := open_shape hy
  simp [cells24] at e
  obtain ⟨rfl, rfl, rfl⟩ := e
  obtain ⟨z, rfl, wz⟩ := field_int Try.underlying52 h 1 _ rfl rfl (c := c3) rfl
  exact ⟨⟨a, b, c, z⟩, rfl, wa, wb, wc, wz⟩

theorem spot_none {w : World} {a : Addr} {v : Value} (h : w.cell? a = some v) : ∃ b off, a = ⟨b, off, none⟩ ∧ b < w.heap.size := by
  obtain ⟨b, off, spot⟩ := a
  have hs : spot = none := by simpa using World.cell?_spot h
  subst hs
  exact ⟨b, off, rfl, cell_lt h⟩

/-- Elements of a slice whose elements have k cells: their cells, and each read by itself. -/
theorem open_rows {t e : TypeId} {k fuel : Nat} {v : Value} {x : DataW H × List MemPlace} (ht : Try.prog.underlying t = some (.slice e)) (hc : Try.prog.cellsOf e = k) (hk : 0 < k)
    (h : DataW.trod enc Try.prog W 0 (fun _ => true) true fuel t [v] = some x) :
    ∃ (A : Option Addr) (len cap : Nat), v = .slice A len cap ∧ len ≤ cap ∧ cap ≤ maxLen ∧ (A = none → cap = 0) ∧
      (0 < len → ∃ b off, A = some ⟨b, off, none⟩ ∧ b < W.heap.size ∧ ∀ i, i < len → ∃ (cs : List Value) (n : Nat) (y : DataW H × List MemPlace), cs.length = k ∧ (∀ j, j < k → W.cell? ⟨b, off + i * k + j, none⟩ = cs[j]?) ∧ DataW.trod enc Try.prog W 0 (fun _ => true) true n e cs = some y) := by
  rcases Deep.open_slice ht h with ⟨hcs, _⟩ | ⟨a, len, cap, m, n, D, Pl, hcs, _, hl, hm, hmm, _, hx⟩
  · simp at hcs
    exact ⟨none, 0, 0, hcs, Nat.le_refl _, Nat.zero_le _, fun _ => rfl, fun h => by omega⟩
  · simp at hcs hmm
    rw [hmm] at hx
    refine ⟨some a, len, cap, hcs, hl, hm, (fun h => by cases h), fun hp => ?_⟩
    obtain ⟨c0, g0, _⟩ := hx 0 (by omega)
    obtain ⟨_, l0, q0⟩ := World.cells?_some g0
    rw [hc] at l0 q0
    have z0 := q0 0 hk
    have e0 : (a.add (0 * k)).add 0 = a := by simp [Addr.add]
    rw [e0, List.getElem?_eq_getElem (by omega)] at z0
    obtain ⟨b, off, rfl, hb⟩ := spot_none z0
    refine ⟨b, off, rfl, hb, fun i hi => ?_⟩
    obtain ⟨cs, g, hy⟩ := hx i (by omega)
    obtain ⟨_, l, q⟩ := World.cells?_some g
    rw [hc] at l q
    refine ⟨cs, n, _, l, fun j hj => ?_, hy⟩
    have := q j hj
    rw [add_plain, add_plain] at this
    exact this

theorem choose_below {α : Type} [Inhabited α] {p : Nat → α → Prop} (n : Nat) (h : ∀ i, i < n → ∃ x, p i x) : ∃ l : List α, l.length = n ∧ ∀ i, i < n → p i (l.getD i default) := by
  induction n with
  | zero => exact ⟨[], rfl, fun i hi => by omega⟩
  | succ n ih =>
    obtain ⟨l, hl, hp⟩ := ih (fun i hi => h i (by omega))
    obtain ⟨x, hx⟩ := h n (by omega)
    refine ⟨l ++ [x], by simp [hl], fun i hi => ?_⟩
    by_cases c : i < n
    · have := hp i c
      simpa [List.getD, List.getElem?_append_left (show i < l.length by omega)] using this
    · obtain rfl : i = n := by omega
      have : (l ++ [x]).getD i default = x := by simp [List.getD, ← hl]
      rw [this]; exact hx

theorem open_vals {fuel : Nat} {v : Value} {x : DataW H × List MemPlace} (h : DataW.trod enc Try.prog W 0 (fun _ => true) true fuel 32 [v] = some x) : ∃ xs, IsVals W v xs := by
  obtain ⟨A, len, cap, rfl, hl, hm, hn, hp⟩ := open_rows Try.underlying32 cells32 (by omega) h
  by_cases c : 0 < len
  · obtain ⟨b, off, rfl, hb, hx⟩ := hp c
    have each : ∀ i, i < len → ∃ y : ValD, ValAt W b (off + i * 4) y ∧ ValWf y := by
      intro i hi
      obtain ⟨cs, n, y, l, q, hy⟩ := hx i hi
      obtain ⟨d, rfl, wd⟩ := open_val hy
      exact ⟨d, ⟨q 0 (by omega), q 1 (by omega), q 2 (by omega), q 3 (by omega)⟩, wd⟩
    obtain ⟨xs, hxl, hxs⟩ := choose_below len each
    refine ⟨xs, some ⟨b, off, none⟩, cap, by rw [hxl], by omega, hm, (fun h => by cases h), fun y hy => ?_, fun _ => ⟨b, off, rfl, hb, fun i hi => (hxs i (by omega)).1⟩⟩
    obtain ⟨i, hi, rfl⟩ := List.getElem_of_mem hy
    have := (hxs i (by omega)).2
    simpa [List.getD, List.getElem?_eq_getElem hi] using this
  · obtain rfl : len = 0 := by omega
    exact ⟨[], A, cap, rfl, hl, hm, hn, by simp, by simp⟩

def NodeWf (n : NodeD) : Prop := (Lit.int .i64 n.op).wf = true ∧ (Lit.int .i64 n.k).wf = true ∧ (Lit.int .i64 n.stride).wf = true ∧ (Lit.int .i64 n.pad).wf = true ∧ (Lit.int .i64 n.out).wf = true ∧ (Lit.int .i64 n.mul).wf = true ∧ (Lit.int .i64 n.shift).wf = true ∧ (Lit.int .i64 n.zero).wf = true ∧
  (Lit.int .i64 n.th).wf = true ∧ (Lit.int .i64 n.tw).wf = true ∧ (Lit.int .i64 n.tc).wf = true

/-- A node's cells, its three slices given. -/
def nodeCells (n : NodeD) (vi vw vb : Value) : List Value := [.int .i64 n.op, vi, .int .i64 n.k, .int .i64 n.stride, .int .i64 n.pad, .int .i64 n.out, .int .i64 n.mul, .int .i64 n.shift, .int .i64 n.zero, .int .i64 n.th, .int .i64 n.tw, .int .i64 n.tc, vw, vb]

/-- What a node's three slices hold. -/
def NodeIn (w : World) (n : NodeD) (vi vw vb : Value) : Prop := IsNums .i64 w vi n.ins ∧ IsNums .i8 w vw n.ws ∧ IsNums .i32 w vb n.bs

theorem field_nums {k : IntKind} {t e s : TypeId} {fs : Array Field} {fuel : Nat} {cs : List Value} {x : DataW H × List MemPlace} (ht : Try.prog.underlying t = some (.struct fs)) (h : DataW.trod enc Try.prog W 0 (fun _ => true) true fuel t cs = some x) (i : Nat) (f : Field) (hi : fs[i]? = some f) (hk : f.type = s)
    (hs : Try.prog.underlying s = some (.slice e)) (he : Try.prog.underlying e = some (.int k)) (hse : Try.prog.cellsOf s = 1) (hce : Try.prog.cellsOf e = 1) {c : Value} (hc : (cs.drop f.offset).take 1 = [c]) : ∃ xs, IsNums k W c xs := by
  obtain ⟨n, y, hy⟩ := field ht h i f hi
  rw [hk, hse, hc] at hy
  exact open_nums hs he hce hy

theorem cellsI8 : Try.prog.cellsOf 142 = 1 := by kernel_rfl
theorem cellsI32 : Try.prog.cellsOf 21 = 1 := by kernel_rfl

theorem open_node {fuel : Nat} {cs : List Value} {x : DataW H × List MemPlace} (h : DataW.trod enc Try.prog W 0 (fun _ => true) true fuel 50 cs = some x) :
    ∃ (n : NodeD) (vi vw vb : Value), cs = nodeCells n vi vw vb ∧ NodeIn W n vi vw vb ∧ NodeWf n := by
  obtain ⟨xs, m, _, _, hl, _, _⟩ := DataW.trod_struct Try.underlying50 h
  rw [cells28] at hl
  obtain ⟨c0, c1, c2, c3, c4, c5, c6, c7, c8, c9, c10, c11, c12, c13, rfl⟩ := fourteen hl
  obtain ⟨op, rfl, w0⟩ := field_int Try.underlying50 h 0 _ rfl rfl (c := c0) rfl
  obtain ⟨ins, hins⟩ := field_nums Try.underlying50 h 1 _ rfl rfl Try.underlying34 Try.underlying3 cells22 cells3 (c := c1) rfl
  obtain ⟨k, rfl, w2⟩ := field_int Try.underlying50 h 2 _ rfl rfl (c := c2) rfl
  obtain ⟨stride, rfl, w3⟩ := field_int Try.underlying50 h 3 _ rfl rfl (c := c3) rfl
  obtain ⟨pad, rfl, w4⟩ := field_int Try.underlying50 h 4 _ rfl rfl (c := c4) rfl
  obtain ⟨out, rfl, w5⟩ := field_int Try.underlying50 h 5 _ rfl rfl (c := c5) rfl
  obtain ⟨mul, rfl, w6⟩ := field_int Try.underlying50 h 6 _ rfl rfl (c := c6) rfl
  obtain ⟨shift, rfl, w7⟩ := field_int Try.underlying50 h 7 _ rfl rfl (c := c7) rfl
  obtain ⟨zero, rfl, w8⟩ := field_int Try.underlying50 h 8 _ rfl rfl (c := c8) rfl
  obtain ⟨_, y, hy⟩ := field Try.underlying50 h 9 _ rfl
  obtain ⟨th, tw, tc, e, w9, w10, w11⟩ := open_shape hy
  simp [cells24] at e
  obtain ⟨rfl, rfl, rfl⟩ := e
  obtain ⟨ws, hws⟩ := field_nums Try.underlying50 h 10 _ rfl rfl Try.underlying47 Try.underlying142 cells25 cellsI8 (c := c12) rfl
  obtain ⟨bs, hbs⟩ := field_nums Try.underlying50 h 11 _ rfl rfl Try.underlying48 Try.underlying21 cells26 cellsI32 (c := c13) rfl
  exact ⟨⟨op, ins, k, stride, pad, out, mul, shift, zero, th, tw, tc, ws, bs⟩, c1, c12, c13, rfl, ⟨hins, hws, hbs⟩, w0, w2, w3, w4, w5, w6, w7, w8, w9, w10, w11⟩

/-- A node in memory. -/
def NodeAt (w : World) (b off : Nat) (n : NodeD) : Prop :=
  ∃ vi vw vb : Value, NodeIn w n vi vw vb ∧ ∀ j, j < 14 → w.cell? ⟨b, off + j, none⟩ = (nodeCells n vi vw vb)[j]?

def IsNodes (w : World) (v : Value) (ns : List NodeD) : Prop :=
  ∃ (A : Option Addr) (cap : Nat), v = .slice A ns.length cap ∧ ns.length ≤ cap ∧ cap ≤ maxLen ∧ (A = none → cap = 0) ∧ (∀ n ∈ ns, NodeWf n) ∧
    (0 < ns.length → ∃ b off, A = some ⟨b, off, none⟩ ∧ b < w.heap.size ∧ ∀ i, i < ns.length → NodeAt w b (off + i * 14) (ns.getD i default))

theorem open_nodes {fuel : Nat} {v : Value} {x : DataW H × List MemPlace} (h : DataW.trod enc Try.prog W 0 (fun _ => true) true fuel 33 [v] = some x) : ∃ ns, IsNodes W v ns := by
  obtain ⟨A, len, cap, rfl, hl, hm, hn, hp⟩ := open_rows Try.underlying33 cells28 (by omega) h
  by_cases c : 0 < len
  · obtain ⟨b, off, rfl, hb, hx⟩ := hp c
    have each : ∀ i, i < len → ∃ n : NodeD, NodeAt W b (off + i * 14) n ∧ NodeWf n := by
      intro i hi
      obtain ⟨cs, m, y, l, q, hy⟩ := hx i hi
      obtain ⟨d, vi, vw, vb, rfl, hin, wd⟩ := open_node hy
      exact ⟨d, ⟨vi, vw, vb, hin, q⟩, wd⟩
    obtain ⟨ns, hxl, hxs⟩ := choose_below len each
    refine ⟨ns, some ⟨b, off, none⟩, cap, by rw [hxl], by omega, hm, (fun h => by cases h), fun y hy => ?_, fun _ => ⟨b, off, rfl, hb, fun i hi => (hxs i (by omega)).1⟩⟩
    obtain ⟨i, hi, rfl⟩ := List.getElem_of_mem hy
    have := (hxs i (by omega)).2
    simpa [List.getD, List.getElem?_eq_getElem hi] using this
  · obtain rfl : len = 0 := by omega
    exact ⟨[], A, cap, rfl, hl, hm, hn, by simp, by simp⟩

/-- A graph: its three slices, and what they hold. -/
def IsGraph (w : World) (v : Value) (g : GraphD) : Prop :=
  ∃ a b c : Value, v = .agg #[a, b, c] ∧ IsVals w a g.ins ∧ IsNodes w b g.nodes ∧ IsNums .i64 w c g.outs

theorem open_graph {r : Reach} {b0 : Nat} {v : Value} {d : DataW H} {p : List MemPlace} (hv : Value.okWide Try.prog W r b0 36 v) (h : DataW.Trod enc Try.prog W 0 (fun _ => true) true 36 v d p) : ∃ g, IsGraph W v g := by
  obtain ⟨cs, rfl, hsz⟩ := okWide_struct Try.underlying36 hv
  rw [cells40] at hsz
  obtain ⟨l⟩ := cs
  obtain ⟨a, b, c, rfl⟩ := three hsz
  obtain ⟨fuel, hf⟩ := h
  have hf' : DataW.trod enc Try.prog W 0 (fun _ => true) true fuel 36 [a, b, c] = some (d, p) := hf
  obtain ⟨_, y0, h0⟩ := field Try.underlying36 hf' 0 _ rfl
  obtain ⟨_, y1, h1⟩ := field Try.underlying36 hf' 1 _ rfl
  simp [cells29] at h0
  simp [cells38] at h1
  obtain ⟨ins, hi⟩ := open_vals h0
  obtain ⟨nodes, hn⟩ := open_nodes h1
  obtain ⟨outs, ho⟩ := field_nums Try.underlying36 hf' 2 _ rfl rfl Try.underlying34 Try.underlying3 cells22 cells3 (c := c) rfl
  exact ⟨⟨ins, nodes, outs⟩, a, b, c, rfl, hi, hn, ho⟩

/-- A node by value. -/
def IsNode (w : World) (v : Value) (n : NodeD) : Prop := ∃ vi vw vb : Value, v = .agg ⟨nodeCells n vi vw vb⟩ ∧ NodeIn w n vi vw vb ∧ NodeWf n

theorem open_node_val {r : Reach} {b0 : Nat} {v : Value} {d : DataW H} {p : List MemPlace} (hv : Value.okWide Try.prog W r b0 50 v) (h : DataW.Trod enc Try.prog W 0 (fun _ => true) true 50 v d p) : ∃ n, IsNode W v n := by
  obtain ⟨cs, rfl, hsz⟩ := okWide_struct Try.underlying50 hv
  obtain ⟨l⟩ := cs
  obtain ⟨fuel, hf⟩ := h
  obtain ⟨n, vi, vw, vb, e, hin, wd⟩ := open_node (cs := l) hf
  subst e
  exact ⟨n, vi, vw, vb, rfl, hin, wd⟩

theorem open_value_val {r : Reach} {b0 : Nat} {v : Value} {d : DataW H} {p : List MemPlace} (hv : Value.okWide Try.prog W r b0 52 v) (h : DataW.Trod enc Try.prog W 0 (fun _ => true) true 52 v d p) : ∃ x : ValD, IsVal v x ∧ ValWf x := by
  obtain ⟨cs, rfl, hsz⟩ := okWide_struct Try.underlying52 hv
  obtain ⟨l⟩ := cs
  obtain ⟨fuel, hf⟩ := h
  obtain ⟨x, e, wd⟩ := open_val (cs := l) hf
  subst e
  exact ⟨x, rfl, wd⟩

theorem open_vals_val {r : Reach} {b0 : Nat} {v : Value} {d : DataW H} {p : List MemPlace} (hv : Value.okWide Try.prog W r b0 32 v) (h : DataW.Trod enc Try.prog W 0 (fun _ => true) true 32 v d p) : ∃ xs, IsVals W v xs := by
  obtain ⟨a, l, c, rfl⟩ := okWide_slice Try.underlying32 hv
  obtain ⟨fuel, hf⟩ := h
  exact open_vals hf

/-! ### Nothing of what was there has turned (new blocks may be written, and may be frozen: an append's). -/
def Past (w w' : World) : Prop := w'.os = w.os ∧ w'.output = w.output ∧ w.heap.size ≤ w'.heap.size ∧ ∀ k, k < w.heap.size → w'.heap[k]? = w.heap[k]?

theorem Past.refl (w : World) : Past w w := ⟨rfl, rfl, Nat.le_refl _, fun _ _ => rfl⟩
theorem Past.trans {a b c : World} (h : Past a b) (k : Past b c) : Past a c :=
  ⟨k.1.trans h.1, k.2.1.trans h.2.1, Nat.le_trans h.2.2.1 k.2.2.1, fun i hi => (k.2.2.2 i (Nat.lt_of_lt_of_le hi h.2.2.1)).trans (h.2.2.2 i hi)⟩
theorem Past.drew {a w : World} (h : Past a w) : Past a w.drew := h
theorem Past.alloc {a w : World} (h : Past a w) (o : Obj) : Past a (w.alloc o) :=
  ⟨h.1, h.2.1, by simp; have := h.2.2.1; omega, fun k hk => (Below.heap_alloc w o k (Nat.lt_of_lt_of_le hk h.2.2.1)).trans (h.2.2.2 k hk)⟩
theorem Past.setCell {a w : World} (h : Past a w) {p : Addr} (hp : a.heap.size ≤ p.block) (u : Value) : Past a (w.setCell p u) := by
  obtain ⟨h1, h2, h3, h4⟩ := h
  have b := Below.setCell (B := a.heap.size) (Below.refl _ w) hp u
  exact ⟨b.os.trans h1, b.output.trans h2, Nat.le_trans h3 b.size, fun k hk => (b.block k hk).trans (h4 k hk)⟩
theorem Past.grownBy {a w w' : World} {row : Option Nat} (h : Past a w) (g : w.grownBy w' row) (hr : ∀ k, row = some k → a.heap.size ≤ k) : Past a w' :=
  ⟨g.os.trans h.1, g.output.trans h.2.1, Nat.le_trans h.2.2.1 g.size, fun k hk => (g.block k (Nat.lt_of_lt_of_le hk h.2.2.1) (fun e => by have := hr k e.symm; omega)).trans (h.2.2.2 k hk)⟩
theorem Past.cell {w w' : World} (h : Past w w') {p : Addr} (hp : p.block < w.heap.size) : w'.cell? p = w.cell? p := World.cell?_of_block (h.2.2.2 p.block hp)
theorem Past.free {w w' : World} (h : Past w w') {p : Addr} (hp : p.block < w.heap.size) : w'.frozen? p = w.frozen? p := World.frozen?_of_block (h.2.2.2 p.block hp)
theorem Past.frame {w w' : World} (h : Past w w') (may : MemPlace → Prop) : w.keptBut w' may := by
  refine ⟨h.1, h.2.1, fun i hi => ?_⟩
  rw [h.2.2.2 i hi]
  split <;> simp_all
theorem Past.same {w w' : World} (h : Past w w') {p : MemPlace} (hp : p.block < w.heap.size) : w.sameAt w' p := by
  cases p with
  | cell b o => exact World.cell?_of_block (w := w) (h.2.2.2 b hp)
  | map b => exact h.2.2.2 b hp
theorem Grown.past {w w' : World} (h : Grown w w') : Past w w' := by
  refine ⟨h.1.1, h.1.2.1, h.2.2, fun b hp => ?_⟩
  have k := h.1.2.2 b hp
  have hp' : b < w.heap.size := hp
  cases e1 : w.heap[b]? with
  | none => rw [Array.getElem?_eq_none_iff] at e1; omega
  | some o =>
    rw [e1] at k
    cases e2 : w'.heap[b]? with
    | none => rw [e2] at k; cases o <;> simp at k
    | some o' =>
      rw [e2] at k
      cases o with
      | cells c t fr =>
        cases o' with
        | cells c' t' fr' =>
          obtain ⟨h1, h2, h3, h4⟩ := k
          have : c' = c := Array.ext_getElem? (fun i => h4 i (fun f => f))
          subst h1 h2 this
          rfl
        | map es clock => simp at k
        | _ => simp_all
      | map es clock => cases o' <;> simp_all
      | _ => cases o' <;> simp_all

/-! ### What lies in old blocks lies there in a world that has grown. -/
theorem IsNums.grow {k : IntKind} {w w' : World} {v : Value} {xs : List Int} (h : IsNums k w v xs) (g : Past w w') : IsNums k w' v xs := by
  obtain ⟨A, cap, h1, h2, h3, h4, h5, h6⟩ := h
  refine ⟨A, cap, h1, h2, h3, h4, h5, fun hp => ?_⟩
  obtain ⟨b, off, e, hb, hc⟩ := h6 hp
  exact ⟨b, off, e, Nat.lt_of_lt_of_le hb g.2.2.1, fun i hi => (g.cell hb).trans (hc i hi)⟩

theorem ValAt.grow {w w' : World} {b off : Nat} {x : ValD} (h : ValAt w b off x) (hb : b < w.heap.size) (g : Past w w') : ValAt w' b off x := by
  obtain ⟨h1, h2, h3, h4⟩ := h
  exact ⟨(g.cell hb).trans h1, (g.cell hb).trans h2, (g.cell hb).trans h3, (g.cell hb).trans h4⟩

theorem IsVals.grow {w w' : World} {v : Value} {xs : List ValD} (h : IsVals w v xs) (g : Past w w') : IsVals w' v xs := by
  obtain ⟨A, cap, h1, h2, h3, h4, h5, h6⟩ := h
  refine ⟨A, cap, h1, h2, h3, h4, h5, fun hp => ?_⟩
  obtain ⟨b, off, e, hb, hc⟩ := h6 hp
  exact ⟨b, off, e, Nat.lt_of_lt_of_le hb g.2.2.1, fun i hi => (hc i hi).grow hb g⟩

theorem NodeIn.grow {w w' : World} {n : NodeD} {vi vw vb : Value} (h : NodeIn w n vi vw vb) (g : Past w w') : NodeIn w' n vi vw vb := ⟨h.1.grow g, h.2.1.grow g, h.2.2.grow g⟩

theorem NodeAt.grow {w w' : World} {b off : Nat} {n : NodeD} (h : NodeAt w b off n) (hb : b < w.heap.size) (g : Past w w') : NodeAt w' b off n := by
  obtain ⟨vi, vw, vb, h1, h2⟩ := h
  exact ⟨vi, vw, vb, h1.grow g, fun j hj => (g.cell hb).trans (h2 j hj)⟩

theorem IsNodes.grow {w w' : World} {v : Value} {ns : List NodeD} (h : IsNodes w v ns) (g : Past w w') : IsNodes w' v ns := by
  obtain ⟨A, cap, h1, h2, h3, h4, h5, h6⟩ := h
  refine ⟨A, cap, h1, h2, h3, h4, h5, fun hp => ?_⟩
  obtain ⟨b, off, e, hb, hc⟩ := h6 hp
  exact ⟨b, off, e, Nat.lt_of_lt_of_le hb g.2.2.1, fun i hi => (hc i hi).grow hb g⟩

theorem IsNode.grow {w w' : World} {v : Value} {n : NodeD} (h : IsNode w v n) (g : Past w w') : IsNode w' v n := by
  obtain ⟨vi, vw, vb, h1, h2, h3⟩ := h
  exact ⟨vi, vw, vb, h1, h2.grow g, h3⟩

theorem IsGraph.grow {w w' : World} {v : Value} {g : GraphD} (h : IsGraph w v g) (k : Past w w') : IsGraph w' v g := by
  obtain ⟨a, b, c, h1, h2, h3, h4⟩ := h
  exact ⟨a, b, c, h1, h2.grow k, h3.grow k, h4.grow k⟩

/-! ### An argument reads behind the call as it did. -/
theorem laidOut : laidOutB Try.prog = true := by kernel_rfl

theorem stays {H : Type} {enc : TypeId × Value → H} {t : TypeId} (hr : Try.prog.readableRec t = true) (hrow : t < Try.prog.types.size) {W W' : World} {sp : Nat → Bool} {v : Value} {d : DataW H} {ps : List MemPlace}
    (h : DataW.Trod enc Try.prog W 0 (fun _ => true) true t v d ps) (g : Past W W') (hlt : ∀ p ∈ ps, p.block < W.heap.size) (hs : ∀ p ∈ ps, sp p.block = true) : DataW.Trod enc Try.prog W' 0 sp true t v d ps :=
  WideElems.Trod_stays laidOut hr hrow h (fun p hp => g.same (hlt p hp)) hs
end Go.Proofs.Ytgbedoffgahhaaa
