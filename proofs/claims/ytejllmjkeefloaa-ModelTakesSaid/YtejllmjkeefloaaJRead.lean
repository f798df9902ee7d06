/- api's values, nodes and graphs as plain data: how they lie in memory; from an argument's reading to that. -/
import Derived.Test.YtejllmjkeefloaaChecked
import Derived.OpenShut
import Derived.ChangeSlices
import Derived.Deep.Slices
import Derived.Deep.Strs
import Derived.Lib.SmallJoins
import Derived.Carry
import Derived.Below
import Derived.Test.YtejllmjkeefloaaJWorld
namespace Go.Proofs.Ytejllmjkeefloaa
open Go.ChangeShapes Go.WideShapes Go.ChangeAt Go.RowKit
set_option maxRecDepth 20000

/-- api.Value, api.Node, api.Graph as plain data. -/
structure ValD where
  h : Int
  w : Int
  c : Int
  z : Int
deriving Inhabited
structure NodeD where
  op : Int
  ins : List Int
  k : Int
  stride : Int
  pad : Int
  out : Int
  mul : Int
  shift : Int
  zero : Int
  th : Int
  tw : Int
  tc : Int
  ws : List Int
  bs : List Int
deriving Inhabited
structure GraphD where
  ins : List ValD
  nodes : List NodeD
  outs : List Int
deriving Inhabited
/-- A slice of numbers of one kind, in memory. -/
def IsNums (k : IntKind) (w : World) (v : Value) (xs : List Int) : Prop :=
  ∃ (A : Option Addr) (cap : Nat), v = .slice A xs.length cap ∧ xs.length ≤ cap ∧ cap ≤ maxLen ∧ (A = none → cap = 0) ∧ (∀ x ∈ xs, (Lit.int k x).wf = true) ∧
    (0 < xs.length → ∃ b off, A = some ⟨b, off, none⟩ ∧ b < w.heap.size ∧ ∀ i, i < xs.length → w.cell? ⟨b, off + i, none⟩ = some (.int k (xs.getD i 0)))
def ValAt (w : World) (b off : Nat) (x : ValD) : Prop :=
  w.cell? ⟨b, off, none⟩ = some (.int .i64 x.h) ∧ w.cell? ⟨b, off + 1, none⟩ = some (.int .i64 x.w) ∧ w.cell? ⟨b, off + 2, none⟩ = some (.int .i64 x.c) ∧ w.cell? ⟨b, off + 3, none⟩ = some (.int .i64 x.z)
def ValWf (x : ValD) : Prop := (Lit.int .i64 x.h).wf = true ∧ (Lit.int .i64 x.w).wf = true ∧ (Lit.int .i64 x.c).wf = true ∧ (Lit.int .i64 x.z).wf = true
def IsVals (w : World) (v : Value) (xs : List ValD) : Prop :=
  ∃ (A : Option Addr) (cap : Nat), v = .slice A xs.length cap ∧ xs.length ≤ cap ∧ cap ≤ maxLen ∧ (A = none → cap = 0) ∧ (∀ x ∈ xs, ValWf x) ∧
    (0 < xs.length → ∃ b off, A = some ⟨b, off, none⟩ ∧ b < w.heap.size ∧ ∀ i, i < xs.length → ValAt w b (off + i * 4) (xs.getD i default))
theorem cell_lt {w : World} {b off : Nat} {v : Value} (h : w.cell? ⟨b, off, none⟩ = some v) : b < w.heap.size := by
  unfold World.cell? at h
  by_cases c : b < w.heap.size
  · exact c
  · simp [Array.getElem?_eq_none (Nat.le_of_not_lt c)] at h
variable {H : Type} {enc : TypeId × Value → H} {W : World}

theorem open_nums {k : IntKind} {t e : TypeId} {fuel : Nat} {v : Value} {x : DataW H × List MemPlace} (ht : Try.prog.underlying t = some (.slice e)) (he : Try.prog.underlying e = some (.int k)) (hc : Try.prog.cellsOf e = 1)
    (h : DataW.trod enc Try.prog W 0 (fun _ => true) true fuel t [v] = some x) : ∃ xs, IsNums k W v xs := by
  rcases open_ints ht he hc h with ⟨hcs, _⟩ | ⟨a, len, cap, zs, hcs, _, hl, hm, hz, _, hcell, hwf⟩
  · simp at hcs
    exact ⟨[], none, 0, by simpa using hcs, by simp, by simp, fun _ => rfl, by simp, by simp⟩
  · simp at hcs hz
    have hlen : (zs.take len).length = len := by rw [List.length_take]; omega
    refine ⟨zs.take len, some a, cap, by rw [hlen, hcs], by omega, hm, (fun h => by cases h), fun x hx => hwf x (List.mem_of_mem_take hx), fun hp => ?_⟩
    rw [hlen] at hp
    obtain ⟨b, off, spot⟩ := a
    have h0 := hcell 0 (by omega)
    have hs : spot = none := by simpa [Addr.add] using World.cell?_spot h0
    subst hs
    refine ⟨b, off, rfl, cell_lt (by rw [add_plain] at h0; exact h0), fun i hi => ?_⟩
    rw [hlen] at hi
    have hi' := hcell i (by omega)
    rw [add_plain] at hi'
    rw [hi']
    simp [List.getD, hi]
theorem three {α : Type} {l : List α} (h : l.length = 3) : ∃ a b c, l = [a, b, c] := by
  match l, h with
  | [a, b, c], _ => exact ⟨a, b, c, rfl⟩
theorem fourteen {α : Type} {l : List α} (h : l.length = 14) : ∃ a b c d e f g i j k m n o p, l = [a, b, c, d, e, f, g, i, j, k, m, n, o, p] := by
  match l, h with
  | [a, b, c, d, e, f, g, i, j, k, m, n, o, p], _ => exact ⟨a, b, c, d, e, f, g, i, j, k, m, n, o, p, rfl⟩
theorem field {t : TypeId} {fs : Array Field} {fuel : Nat} {cs : List Value} {x : DataW H × List MemPlace} (ht : Try.prog.underlying t = some (.struct fs)) (h : DataW.trod enc Try.prog W 0 (fun _ => true) true fuel t cs = some x) (i : Nat) (f : Field) (hi : fs[i]? = some f) :
    ∃ n y, DataW.trod enc Try.prog W 0 (fun _ => true) true n f.type ((cs.drop f.offset).take (Try.prog.cellsOf f.type)) = some y := by
  obtain ⟨xs, n, _, _, _, hs, hf⟩ := DataW.trod_struct ht h
  have l : i < xs.length := by rw [hs]; exact (Array.getElem?_eq_some_iff.mp hi).1
  exact ⟨n, xs[i], by rw [hf i f hi, List.getElem?_eq_getElem l]⟩
def NodeWf (n : NodeD) : Prop := (Lit.int .i64 n.op).wf = true ∧ (Lit.int .i64 n.k).wf = true ∧ (Lit.int .i64 n.stride).wf = true ∧ (Lit.int .i64 n.pad).wf = true ∧ (Lit.int .i64 n.out).wf = true ∧ (Lit.int .i64 n.mul).wf = true ∧ (Lit.int .i64 n.shift).wf = true ∧ (Lit.int .i64 n.zero).wf = true ∧
  (Lit.int .i64 n.th).wf = true ∧ (Lit.int .i64 n.tw).wf = true ∧ (Lit.int .i64 n.tc).wf = true
/-- A node's cells, its three slices given. -/
def nodeCells (n : NodeD) (vi vw vb : Value) : List Value := [.int .i64 n.op, vi, .int .i64 n.k, .int .i64 n.stride, .int .i64 n.pad, .int .i64 n.out, .int .i64 n.mul, .int .i64 n.shift, .int .i64 n.zero, .int .i64 n.th, .int .i64 n.tw, .int .i64 n.tc, vw, vb]
/-- What a node's three slices hold. -/
def NodeIn (w : World) (n : NodeD) (vi vw vb : Value) : Prop := IsNums .i64 w vi n.ins ∧ IsNums .i8 w vw n.ws ∧ IsNums .i32 w vb n.bs
/-- A node in memory. -/
def NodeAt (w : World) (b off : Nat) (n : NodeD) : Prop :=
  ∃ vi vw vb : Value, NodeIn w n vi vw vb ∧ ∀ j, j < 14 → w.cell? ⟨b, off + j, none⟩ = (nodeCells n vi vw vb)[j]?
def IsNodes (w : World) (v : Value) (ns : List NodeD) : Prop :=
  ∃ (A : Option Addr) (cap : Nat), v = .slice A ns.length cap ∧ ns.length ≤ cap ∧ cap ≤ maxLen ∧ (A = none → cap = 0) ∧ (∀ n ∈ ns, NodeWf n) ∧
    (0 < ns.length → ∃ b off, A = some ⟨b, off, none⟩ ∧ b < w.heap.size ∧ ∀ i, i < ns.length → NodeAt w b (off + i * 14) (ns.getD i default))
/-- A graph: its three slices, and what they hold. -/
def IsGraph (w : World) (v : Value) (g : GraphD) : Prop :=
  ∃ a b c : Value, v = .agg #[a, b, c] ∧ IsVals w a g.ins ∧ IsNodes w b g.nodes ∧ IsNums .i64 w c g.outs
/-- A node by value. -/
def IsNode (w : World) (v : Value) (n : NodeD) : Prop := ∃ vi vw vb : Value, v = .agg ⟨nodeCells n vi vw vb⟩ ∧ NodeIn w n vi vw vb ∧ NodeWf n
/-! ### Nothing of what was there has turned (new blocks may be written, and may be frozen: an append's). -/
def Past (w w' : World) : Prop := w'.os = w.os ∧ w'.output = w.output ∧ w.heap.size ≤ w'.heap.size ∧ ∀ k, k < w.heap.size → w'.heap[k]? = w.heap[k]?
theorem Past.refl (w : World) : Past w w := ⟨rfl, rfl, Nat.le_refl _, fun _ _ => rfl⟩
theorem Past.trans {a b c : World} (h : Past a b) (k : Past b c) : Past a c :=
  ⟨k.1.trans h.1, k.2.1.trans h.2.1, Nat.le_trans h.2.2.1 k.2.2.1, fun i hi => (k.2.2.2 i (Nat.lt_of_lt_of_le hi h.2.2.1)).trans (h.2.2.2 i hi)⟩
theorem Past.drew {a w : World} (h : Past a w) : Past a w.drew := h
theorem Past.alloc {a w : World} (h : Past a w) (o : Obj) : Past a (w.alloc o) :=
  ⟨h.1, h.2.1, by simp; have := h.2.2.1; omega, fun k hk => (Below.heap_alloc w o k (Nat.lt_of_lt_of_le hk h.2.2.1)).trans (h.2.2.2 k hk)⟩
theorem Past.setCell {a w : World} (h : Past a w) {p : Addr} (hp : a.heap.size ≤ p.block) (u : Value) : Past a (w.setCell p u) := by
  obtain ⟨h1, h2, h3, h4⟩ := h
  have b := Below.setCell (B := a.heap.size) (Below.refl _ w) hp u
  exact ⟨b.os.trans h1, b.output.trans h2, Nat.le_trans h3 b.size, fun k hk => (b.block k hk).trans (h4 k hk)⟩
theorem Past.grownBy {a w w' : World} {row : Option Nat} (h : Past a w) (g : w.grownBy w' row) (hr : ∀ k, row = some k → a.heap.size ≤ k) : Past a w' :=
  ⟨g.os.trans h.1, g.output.trans h.2.1, Nat.le_trans h.2.2.1 g.size, fun k hk => (g.block k (Nat.lt_of_lt_of_le hk h.2.2.1) (fun e => by have := hr k e.symm; omega)).trans (h.2.2.2 k hk)⟩
theorem Past.cell {w w' : World} (h : Past w w') {p : Addr} (hp : p.block < w.heap.size) : w'.cell? p = w.cell? p := World.cell?_of_block (h.2.2.2 p.block hp)
theorem Past.free {w w' : World} (h : Past w w') {p : Addr} (hp : p.block < w.heap.size) : w'.frozen? p = w.frozen? p := World.frozen?_of_block (h.2.2.2 p.block hp)
theorem Past.frame {w w' : World} (h : Past w w') (may : MemPlace → Prop) : w.keptBut w' may := by
  refine ⟨h.1, h.2.1, fun i hi => ?_⟩
  rw [h.2.2.2 i hi]
  split <;> simp_all
theorem Past.same {w w' : World} (h : Past w w') {p : MemPlace} (hp : p.block < w.heap.size) : w.sameAt w' p := by
  cases p with
  | cell b o => exact World.cell?_of_block (w := w) (h.2.2.2 b hp)
  | map b => exact h.2.2.2 b hp
theorem Grown.past {w w' : World} (h : Grown w w') : Past w w' := by
  refine ⟨h.1.1, h.1.2.1, h.2.2, fun b hp => ?_⟩
  have k := h.1.2.2 b hp
  have hp' : b < w.heap.size := hp
  cases e1 : w.heap[b]? with
  | none => rw [Array.getElem?_eq_none_iff] at e1; omega
  | some o =>
    rw [e1] at k
    cases e2 : w'.heap[b]? with
    | none => rw [e2] at k; cases o <;> simp at k
    | some o' =>
      rw [e2] at k
      cases o with
      | cells c t fr =>
        cases o' with
        | cells c' t' fr' =>
          obtain ⟨h1, h2, h3, h4⟩ := k
          have : c' = c := Array.ext_getElem? (fun i => h4 i (fun f => f))
          subst h1 h2 this
          rfl
        | map es clock => simp at k
        | _ => simp_all
      | map es clock => cases o' <;> simp_all
      | _ => cases o' <;> simp_all
/-! ### What lies in old blocks lies there in a world that has grown. -/
theorem IsNums.grow {k : IntKind} {w w' : World} {v : Value} {xs : List Int} (h : IsNums k w v xs) (g : Past w w') : IsNums k w' v xs := by
  obtain ⟨A, cap, h1, h2, h3, h4, h5, h6⟩ := h
  refine ⟨A, cap, h1, h2, h3, h4, h5, fun hp => ?_⟩
  obtain ⟨b, off, e, hb, hc⟩ := h6 hp
  exact ⟨b, off, e, Nat.lt_of_lt_of_le hb g.2.2.1, fun i hi => (g.cell hb).trans (hc i hi)⟩
theorem ValAt.grow {w w' : World} {b off : Nat} {x : ValD} (h : ValAt w b off x) (hb : b < w.heap.size) (g : Past w w') : ValAt w' b off x := by
  obtain ⟨h1, h2, h3, h4⟩ := h
  exact ⟨(g.cell hb).trans h1, (g.cell hb).trans h2, (g.cell hb).trans h3, (g.cell hb).trans h4⟩
theorem IsVals.grow {w w' : World} {v : Value} {xs : List ValD} (h : IsVals w v xs) (g : Past w w') : IsVals w' v xs := by
  obtain ⟨A, cap, h1, h2, h3, h4, h5, h6⟩ := h
  refine ⟨A, cap, h1, h2, h3, h4, h5, fun hp => ?_⟩
  obtain ⟨b, off, e, hb, hc⟩ := h6 hp
  exact ⟨b, off, e, Nat.lt_of_lt_of_le hb g.2.2.1, fun i hi => (hc i hi).grow hb g⟩
theorem NodeIn.grow {w w' : World} {n : NodeD} {vi vw vb : Value} (h : NodeIn w n vi vw vb) (g : Past w w') : NodeIn w' n vi vw vb := ⟨h.1.grow g, h.2.1.grow g, h.2.2.grow g⟩
theorem NodeAt.grow {w w' : World} {b off : Nat} {n : NodeD} (h : NodeAt w b off n) (hb : b < w.heap.size) (g : Past w w') : NodeAt w' b off n := by
  obtain ⟨vi, vw, vb, h1, h2⟩ := h
  exact ⟨vi, vw, vb, h1.grow g, fun j hj => (g.cell hb).trans (h2 j hj)⟩
theorem IsNodes.grow {w w' : World} {v : Value} {ns : List NodeD} (h : IsNodes w v ns) (g : Past w w') : IsNodes w' v ns := by
  obtain ⟨A, cap, h1, h2, h3, h4, h5, h6⟩ := h
  refine ⟨A, cap, h1, h2, h3, h4, h5, fun hp => ?_⟩
  obtain ⟨b, off, e, hb, hc⟩ := h6 hp
  exact ⟨b, off, e, Nat.lt_of_lt_of_le hb g.2.2.1, fun i hi => (hc i hi).grow hb g⟩
theorem IsNode.grow {w w' : World} {v : Value} {n : NodeD} (h : IsNode w v n) (g : Past w w') : IsNode w' v n := by
  obtain ⟨vi, vw, vb, h1, h2, h3⟩ := h
  exact ⟨vi, vw, vb, h1, h2.grow g, h3⟩
theorem IsGraph.grow {w w' : World} {v : Value} {g : GraphD} (h : IsGraph w v g) (k : Past w w') : IsGraph w' v g := by
  obtain ⟨a, b, c, h1, h2, h3, h4⟩ := h
  exact ⟨a, b, c, h1, h2.grow k, h3.grow k, h4.grow k⟩
/-! ### An argument reads behind the call as it did. -/
theorem laidOut : laidOutB Try.prog = true := by kernel_rfl
theorem stays {H : Type} {enc : TypeId × Value → H} {t : TypeId} (hr : Try.prog.readableRec t = true) (hrow : t < Try.prog.types.size) {W W' : World} {sp : Nat → Bool} {v : Value} {d : DataW H} {ps : List MemPlace}
    (h : DataW.Trod enc Try.prog W 0 (fun _ => true) true t v d ps) (g : Past W W') (hlt : ∀ p ∈ ps, p.block < W.heap.size) (hs : ∀ p ∈ ps, sp p.block = true) : DataW.Trod enc Try.prog W' 0 sp true t v d ps :=
  WideElems.Trod_stays laidOut hr hrow h (fun p hp => g.same (hlt p hp)) hs
end Go.Proofs.Ytejllmjkeefloaa
