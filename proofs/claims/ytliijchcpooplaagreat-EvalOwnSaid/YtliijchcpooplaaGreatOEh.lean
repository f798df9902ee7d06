/- What the laws of layer 6 share. A region whose order is open, with any operations that make or turn memory, in any order that the region leaves open: what each gives is a letter, and what is known of it is a fact of its own. Nodes in memory, cell by cell; a graph with one node more. Rows of one int; nodes appended, be there any or none; three nodes behind others. -/
import Derived.Test.YtliijchcpooplaaGreatOEd
import Derived.Test.YtliijchcpooplaaGreatOMP1
namespace Go.Proofs.YtliijchcpooplaaGreat
open Go.ChangeShapes Go.WideShapes Go.ChangeAt Go.RowKit
set_option maxRecDepth 20000
set_option linter.unusedVariables false
def NoInt (w : World) (B : Nat) : Prop := ∀ o k n, w.cell? ⟨B, o, none⟩ ≠ some (.int k n)
theorem noInt_box {w : World} {B : Nat} {a1 a2 a3 : Option Addr} {l1 l2 l3 c1 c2 c3 : Nat} (h : (Bx w B #[.slice a1 l1 c1, .slice a2 l2 c2, .slice a3 l3 c3])) : NoInt w B := by
  intro o k n
  rw [h o]
  match o with
  | 0 => simp
  | 1 => simp
  | 2 => simp
  | o + 3 => simp
def Save (B : Nat) (w w' : World) : Prop := w.heap.size <= w'.heap.size /\ ∀ k, k < w.heap.size -> k ≠ B -> w'.heap[k]? = w.heap[k]?
theorem Save.refl (B : Nat) (w : World) : Save B w w := ⟨Nat.le_refl _, fun _ _ _ => rfl⟩
theorem Save.set {B : Nat} {w w' : World} (h : Save B w w') (o : Nat) (u : Value) : Save B w (w'.setCell ⟨B, o, none⟩ u) :=
  ⟨by simpa [World.setCell] using h.1, fun k hk hne => (Below.heap_setCell w' ⟨B, o, none⟩ u k hne).trans (h.2 k hk hne)⟩
theorem Save.cell {B : Nat} {w w' : World} (h : Save B w w') {b o : Nat} (hb : b < w.heap.size) (hne : b ≠ B) : w'.cell? ⟨b, o, none⟩ = w.cell? ⟨b, o, none⟩ := World.cell?_of_block (h.2 b hb hne)
theorem nums_save {k : IntKind} {B : Nat} {w w' : World} {v : Value} {xs : List Int} (h : IsNums k w v xs) (hN : NoInt w B) (g : Save B w w') : IsNums k w' v xs := by
  obtain ⟨A, cap, h1, h2, h3, h4, h5, h6⟩ := h
  refine ⟨A, cap, h1, h2, h3, h4, h5, fun hp => ?_⟩
  obtain ⟨b, off, e, hb, hc⟩ := h6 hp
  have hne : b ≠ B := fun e => hN _ _ _ (e ▸ hc 0 hp)
  exact ⟨b, off, e, Nat.lt_of_lt_of_le hb g.1, fun i hi => (g.cell hb hne).trans (hc i hi)⟩
theorem vals_save {B : Nat} {w w' : World} {v : Value} {xs : List ValD} (h : IsVals w v xs) (hN : NoInt w B) (g : Save B w w') : IsVals w' v xs := by
  obtain ⟨A, cap, h1, h2, h3, h4, h5, h6⟩ := h
  refine ⟨A, cap, h1, h2, h3, h4, h5, fun hp => ?_⟩
  obtain ⟨b, off, e, hb, hc⟩ := h6 hp
  have hne : b ≠ B := fun e => hN _ _ _ (e ▸ (hc 0 hp).1)
  exact ⟨b, off, e, Nat.lt_of_lt_of_le hb g.1, fun i hi => ⟨(g.cell hb hne).trans (hc i hi).1, (g.cell hb hne).trans (hc i hi).2.1, (g.cell hb hne).trans (hc i hi).2.2.1, (g.cell hb hne).trans (hc i hi).2.2.2⟩⟩
theorem nodes_save {B : Nat} {w w' : World} {v : Value} {ns : List NodeD} (h : IsNodes w v ns) (hN : NoInt w B) (g : Save B w w') : IsNodes w' v ns := by
  obtain ⟨A, cap, h1, h2, h3, h4, h5, h6⟩ := h
  refine ⟨A, cap, h1, h2, h3, h4, h5, fun hp => ?_⟩
  obtain ⟨b, off, e, hb, hc⟩ := h6 hp
  have hne : b ≠ B := fun e => by
    obtain ⟨vi, vw, vb, _, k⟩ := hc 0 hp
    exact hN _ _ _ (e ▸ k 0 (by omega))
  refine ⟨b, off, e, Nat.lt_of_lt_of_le hb g.1, fun i hi => ?_⟩
  obtain ⟨vi, vw, vb, hin, k⟩ := hc i hi
  exact ⟨vi, vw, vb, ⟨nums_save hin.1 hN g, nums_save hin.2.1 hN g, nums_save hin.2.2 hN g⟩, fun j hj => (g.cell hb hne).trans (k j hj)⟩
theorem cut_lessD (g : GraphD) : Cut (lessD g) := by
  refine ⟨by simp [lessD]; omega, fun n hn => ?_⟩
  simp only [lessD, List.mem_map] at hn
  obtain ⟨m, _, rfl⟩ := hn
  constructor
  . simp [fewD]; omega
  . simp [fewD]; omega
theorem namedR_app {l r : List (List Int)} {ns : List Int} (h : inP l.length ns) : namedR (l ++ r) ns = namedR l ns := by
  unfold namedR
  refine List.map_congr_left fun i hi => ?_
  obtain ⟨j, hj, rfl⟩ := List.getElem_of_mem hi
  have := h j hj
  have e : ns.getD j 0 = ns[j] := by simp [List.getD, hj]
  rw [e] at this
  simp [List.getD, List.getElem?_append_left (show ns[j].toNat < l.length by omega)]
theorem goE_len (V : List ValD) (ns : List NodeD) : ∀ ds, (goE V ns ds).length = ds.length + ns.length := by
  induction ns with
  | nil => intro ds; rfl
  | cons n ns ih => intro ds; simp only [goE]; rw [ih]; simp; omega
theorem goE_pre (V : List ValD) (ns : List NodeD) : ∀ ds, ∃ m, goE V ns ds = ds ++ m := by
  induction ns with
  | nil => intro ds; exact ⟨[], by simp [goE]⟩
  | cons n ns ih =>
    intro ds
    obtain ⟨m, hm⟩ := ih (ds ++ [kernL n (namedL V n.ins) (namedR ds n.ins)])
    exact ⟨_, by simp only [goE]; rw [hm, List.append_assoc]⟩
theorem goE_at (V : List ValD) (ns : List NodeD) : ∀ (ds : List (List Int)) (k : Nat), k < ns.length -> inP (ds.length + k) (ns.getD k default).ins ->
    (goE V ns ds).getD (ds.length + k) [] = kernL (ns.getD k default) (namedL V (ns.getD k default).ins) (namedR (goE V ns ds) (ns.getD k default).ins) := by
  induction ns with
  | nil => intro ds k hk; simp at hk
  | cons n ns ih =>
    intro ds k hk hp
    simp only [goE]
    cases k with
    | zero =>
      simp only [List.getD_cons_zero, Nat.add_zero] at hp ⊢
      obtain ⟨m, hm⟩ := goE_pre V ns (ds ++ [kernL n (namedL V n.ins) (namedR ds n.ins)])
      rw [hm, List.append_assoc, namedR_app hp]
      simp [List.getD]
    | succ k =>
      simp only [List.getD_cons_succ] at hp ⊢
      have := ih (ds ++ [kernL n (namedL V n.ins) (namedR ds n.ins)]) k (by simpa using hk) (by
        simp only [List.length_append, List.length_cons, List.length_nil]
        rw [show ds.length + (0 + 1) + k = ds.length + (k + 1) by omega]
        exact hp)
      simp only [List.length_append, List.length_cons, List.length_nil] at this
      rw [show ds.length + (0 + 1) + k = ds.length + (k + 1) by omega] at this
      exact this
theorem eval_at {g : GraphD} (h : valuesE g = 0) {k : Nat} (hk : k < g.nodes.length) {ins : List (List Int)} (hl : ins.length = g.ins.length) :
    (evalL g ins).getD (g.ins.length + k) [] = kernL (g.nodes.getD k default) (namedL (valuesL g) (g.nodes.getD k default).ins) (namedR (evalL g ins) (g.nodes.getD k default).ins) := by
  have := goE_at (valuesL g) g.nodes ins k hk (fun j hj => by
    rw [hl]
    exact node_at (node_ok h hk) hk (makes_facts h).1 hj)
  rw [hl] at this
  exact this
theorem evalL_len (g : GraphD) {ins : List (List Int)} (hl : ins.length = g.ins.length) : (evalL g ins).length = g.ins.length + g.nodes.length := by unfold evalL; rw [goE_len, hl]
section
variable {H : Type} {enc : TypeId × Value -> H} {W : World}
theorem cells40 : Tryz.prog.cellsOf 26 = 3 := by kernel_rfl
theorem cells38 : Tryz.prog.cellsOf 23 = 1 := by kernel_rfl
theorem open_nodes {fuel : Nat} {v : Value} {x : DataW H × List MemPlace} (h : DataW.trod enc Tryz.prog W 0 (fun _ => true) true fuel 23 [v] = some x) : ∃ ns, IsNodes W v ns := by
  obtain ⟨A, len, cap, rfl, hl, hm, hn, hp⟩ := open_rows Tryz.underlying23 cells28 (by omega) h
  by_cases c : 0 < len
  . obtain ⟨b, off, rfl, hb, hx⟩ := hp c
    have each : ∀ i, i < len -> ∃ n : NodeD, NodeAt W b (off + i * 14) n /\ NodeWf n := by
      intro i hi
      obtain ⟨cs, m, y, l, q, hy⟩ := hx i hi
      obtain ⟨d, vi, vw, vb, rfl, hin, wd⟩ := open_node hy
      exact ⟨d, ⟨vi, vw, vb, hin, q⟩, wd⟩
    obtain ⟨ns, hxl, hxs⟩ := choose_below len each
    refine ⟨ns, some ⟨b, off, none⟩, cap, by rw [hxl], by omega, hm, (fun h => by cases h), fun y hy => ?_, fun _ => ⟨b, off, rfl, hb, fun i hi => (hxs i (by omega)).1⟩⟩
    obtain ⟨i, hi, rfl⟩ := List.getElem_of_mem hy
    have := (hxs i (by omega)).2
    simpa [List.getD, List.getElem?_eq_getElem hi] using this
  . obtain rfl : len = 0 := by omega
    exact ⟨[], A, cap, rfl, hl, hm, hn, by simp, by simp⟩
theorem open_graph {r : Reach} {b0 : Nat} {v : Value} {d : DataW H} {p : List MemPlace} (hv : Value.okWide Tryz.prog W r b0 26 v) (h : DataW.Trod enc Tryz.prog W 0 (fun _ => true) true 26 v d p) : ∃ g, IsGraph W v g := by
  obtain ⟨cs, rfl, hsz⟩ := okWide_struct Tryz.underlying26 hv
  rw [cells40] at hsz
  obtain ⟨l⟩ := cs
  obtain ⟨a, b, c, rfl⟩ := three hsz
  obtain ⟨fuel, hf⟩ := h
  have hf' : DataW.trod enc Tryz.prog W 0 (fun _ => true) true fuel 26 [a, b, c] = some (d, p) := hf
  obtain ⟨_, y0, h0⟩ := field Tryz.underlying26 hf' 0 _ rfl
  obtain ⟨_, y1, h1⟩ := field Tryz.underlying26 hf' 1 _ rfl
  simp [cells29] at h0
  simp [cells38] at h1
  obtain ⟨ins, hi⟩ := open_vals h0
  obtain ⟨nodes, hn⟩ := open_nodes h1
  obtain ⟨outs, ho⟩ := field_nums Tryz.underlying26 hf' 2 _ rfl rfl Tryz.underlying24 Tryz.underlying3 cells22 cells3 (c := c) rfl
  exact ⟨⟨ins, nodes, outs⟩, a, b, c, rfl, hi, hn, ho⟩
end
theorem open_i8 {H : Type} {enc : TypeId × Value -> H} {W : World} {r : Reach} {b0 : Nat} {v : Value} {d : DataW H} {p : List MemPlace} (hv : Value.okWide Tryz.prog W r b0 27 v) (h : DataW.Trod enc Tryz.prog W 0 (fun _ => true) true 27 v d p) : ∃ xs, IsNums .i8 W v xs := by
  obtain ⟨a, l, c, rfl⟩ := okWide_slice Tryz.underlying27 hv
  obtain ⟨fuel, hf⟩ := h
  exact open_nums (k := .i8) Tryz.underlying27 Tryz.underlying35 cellsI8 hf
theorem HasCells.form {w : World} {v : Value} {us : List Value} (h : HasCells w v us) (h0 : 0 < us.length) : ∃ b off cap, v = .slice (some ⟨b, off, none⟩) us.length cap /\ us.length <= cap /\ cap <= maxLen /\ b < w.heap.size /\ ∀ i, i < us.length -> w.cell? ⟨b, off + i, none⟩ = some (us.getD i nilS) := by
  obtain ⟨A, cap, e, h1, h2, _, h6⟩ := h
  obtain ⟨b, off, rfl, hb, hc⟩ := h6 h0
  exact ⟨b, off, cap, e, h1, h2, hb, hc⟩
end Go.Proofs.YtliijchcpooplaaGreat
namespace Go.Proofs.YtliijchcpooplaaGreat
open Go
def updV (v : Nat -> Value) (i : Nat) (x : Value) : Nat -> Value := fun k => if k = i then x else v k
def EarlyX (P : Program) (ops : Array Oper) (S : World -> Prop) (F : (Nat -> Value) -> Act) (late : List Nat) : Nat -> List Oper -> Prop
  | _, [] => True
  | k, o :: l => (late.contains k = true ∨ ∀ v w, S w -> ∀ K : Act -> World -> Prop, K (F v) w -> if Region.wanted o (yielded ops (F v).tmps) = true then o.wp P (F v) w K noPost else K ((F v).put o.dst undef) w) /\ EarlyX P ops S F late (k + 1) l
theorem EarlyX.at_ {P : Program} {ops : Array Oper} {S : World -> Prop} {F : (Nat -> Value) -> Act} {late : List Nat} {l : List Oper} : ∀ {k : Nat}, EarlyX P ops S F late k l -> ∀ {j : Nat} {o : Oper}, l[j]? = some o -> late.contains (k + j) = false ->
    ∀ v w, S w -> ∀ K : Act -> World -> Prop, K (F v) w -> if Region.wanted o (yielded ops (F v).tmps) = true then o.wp P (F v) w K noPost else K ((F v).put o.dst undef) w := by
  induction l with
  | nil => intro k _ j o hj; simp at hj
  | cons x l ih =>
    intro k h j o hj hn
    cases j with
    | zero =>
      simp at hj
      subst hj
      rcases h.1 with h | h
      . rw [Nat.add_zero, h] at hn; cases hn
      . exact h
    | succ j => exact ih h.2 (by simpa using hj) (by rw [<- hn]; congr 1; omega)
def LateOne (P : Program) (S : World -> Prop) (F : (Nat -> Value) -> Act) (I : Nat -> (Nat -> Value) -> World -> Prop) (deps kills later : List (Nat × List Nat)) (j : Nat) (o : Oper) : Prop :=
  ∀ v w, S w -> (∀ i, (deps.lookup j |>.getD []).contains i = true -> I i v w) -> ∀ K : Act -> World -> Prop,
    (∀ x w', S w' -> I j (updV v j x) w' -> (∀ i, i ≠ j -> (kills.lookup j |>.getD []).contains i = false -> (later.lookup j |>.getD []).contains i = false -> I i v w -> I i (updV v j x) w') -> K ((F v).put o.dst x) w') -> o.wp P (F v) w K noPost
def LateX (P : Program) (S : World -> Prop) (F : (Nat -> Value) -> Act) (I : Nat -> (Nat -> Value) -> World -> Prop) (deps kills later : List (Nat × List Nat)) (late : List Nat) : Nat -> List Oper -> Prop
  | _, [] => True
  | k, o :: l => (late.contains k = false ∨ LateOne P S F I deps kills later k o) /\ LateX P S F I deps kills later late (k + 1) l
theorem LateX.at_ {P : Program} {S : World -> Prop} {F : (Nat -> Value) -> Act} {I : Nat -> (Nat -> Value) -> World -> Prop} {deps kills later : List (Nat × List Nat)} {late : List Nat} {l : List Oper} : ∀ {k : Nat}, LateX P S F I deps kills later late k l -> ∀ {j : Nat} {o : Oper}, l[j]? = some o -> late.contains (k + j) = true -> LateOne P S F I deps kills later (k + j) o := by
  induction l with
  | nil => intro k _ j o hj; simp at hj
  | cons x l ih =>
    intro k h j o hj hn
    cases j with
    | zero =>
      simp at hj
      subst hj
      rcases h.1 with h | h
      . rw [Nat.add_zero, h] at hn; cases hn
      . exact h
    | succ j =>
      have e : k + 1 + j = k + (j + 1) := by omega
      have := ih h.2 (j := j) (o := o) (by simpa using hj) (by rw [e]; exact hn)
      rw [e] at this
      exact this
section
variable {P : Program} {Q : Exit -> Act -> World -> Prop}
end
end Go.Proofs.YtliijchcpooplaaGreat
namespace Go.Proofs.YtliijchcpooplaaGreat
open Go.ChangeShapes Go.WideShapes Go.ChangeAt Go.RowKit
set_option maxRecDepth 20000
set_option linter.unusedVariables false
theorem RowsO.nil (w : World) : RowsO w [] [] := fun j hj => by simp at hj
theorem RowsO.grow {w w' : World} {l : List NodeD} {xs : List Value} (h : RowsO w l xs) (g : Past w w') : RowsO w' l xs := by
  intro j hj
  obtain ⟨vi, vw, vb, h1, h2⟩ := h j hj
  exact ⟨vi, vw, vb, h1.grow g, h2⟩
def RowF (w : World) (B N : Nat) (v : Value) (xs : List Value) : Prop := w.ownsRow B 44 14 v N xs
def BoxF (w : World) (B : Nat) (v : Value) (N : Nat) (cs : Array Value) : Prop := ∃ b, v = .slice (some ⟨b, 0, none⟩) N N /\ B <= b /\ b < w.heap.size /\ (Bx w b cs)
theorem RowF.alloc {w : World} {B N : Nat} {v : Value} {xs : List Value} (h : RowF w B N v xs) (o : Obj) : RowF (w.alloc o) B N v xs := World.ownsRow.alloc h o
theorem RowF.set {w : World} {B N Q o : Nat} {u v : Value} {xs : List Value} (h : RowF w B N v xs) (hQ : Q < B) : RowF (w.setCell ⟨Q, o, none⟩ u) B N v xs := own_set h hQ
theorem RowF.grow {w w' : World} {B N : Nat} {v : Value} {xs : List Value} {row : Option Nat} (h : RowF w B N v xs) (g : w.grownBy w' row) (hne : v.ownBlock ≠ row) : RowF w' B N v xs := World.ownsRow.kept h g (.inr hne)
theorem BoxF.alloc {w : World} {B N : Nat} {v : Value} {cs : Array Value} (h : BoxF w B v N cs) (o : Obj) : BoxF (w.alloc o) B v N cs := by
  obtain ⟨b, e, hb, hl, hc⟩ := h
  exact ⟨b, e, hb, by simp; omega, box_old hc hl⟩
theorem BoxF.set {w : World} {B N Q o : Nat} {u v : Value} {cs : Array Value} (h : BoxF w B v N cs) (hQ : Q < B) : BoxF (w.setCell ⟨Q, o, none⟩ u) B v N cs := by
  obtain ⟨b, e, hb, hl, hc⟩ := h
  exact ⟨b, e, hb, by simpa [World.setCell] using hl, box_set hc (by simp only; omega)⟩
theorem BoxF.grow {w w' : World} {B N : Nat} {v : Value} {cs : Array Value} {row : Option Nat} (h : BoxF w B v N cs) (g : w.grownBy w' row) (hne : ∀ b, v = .slice (some ⟨b, 0, none⟩) N N -> some b ≠ row) : BoxF w' B v N cs := by
  obtain ⟨b, e, hb, hl, hc⟩ := h
  exact ⟨b, e, hb, Nat.lt_of_lt_of_le hl g.size, box_grownBy g hc hl (hne b e)⟩
theorem BoxF.cells {w : World} {B N : Nat} {v : Value} {cs : Array Value} {b : Nat} (h : BoxF w B v N cs) (e : v = .slice (some ⟨b, 0, none⟩) N N) : (Bx w b cs) := by
  obtain ⟨b', e', _, _, hc⟩ := h
  rw [e] at e'
  simp only [Value.slice.injEq, Option.some.injEq, Addr.mk.injEq, and_true] at e'
  obtain ⟨rfl, _⟩ := e'
  exact hc
end Go.Proofs.YtliijchcpooplaaGreat
namespace Go.Proofs.YtliijchcpooplaaGreat
open Go.ChangeShapes Go.WideShapes Go.ChangeAt Go.RowKit
set_option maxRecDepth 20000
set_option linter.unusedVariables false
theorem box_setOther' {w : World} {b Q q : Nat} {u : Value} {cs : Array Value} (h : (Bx w b cs)) (hne : Q ≠ b) : (Bx (w.setCell ⟨Q, q, none⟩ u) b cs) := box_set h hne
def RowI (w : World) (B : Nat) (v : Value) (x : Int) : Prop := w.ownsRow B 3 1 v 1 [.int .i64 x]
theorem RowI.alloc {w : World} {B : Nat} {v : Value} {x : Int} (h : RowI w B v x) (o : Obj) : RowI (w.alloc o) B v x := World.ownsRow.alloc h o
theorem RowI.set {w : World} {B Q o : Nat} {u v : Value} {x : Int} (h : RowI w B v x) (hQ : Q < B) : RowI (w.setCell ⟨Q, o, none⟩ u) B v x := own_set h hQ
theorem RowI.grow {w w' : World} {B B' N : Nat} {v v0 : Value} {x : Int} {xs : List Value} (h : RowI w B v x) (k : RowF w B' N v0 xs) (g : w.grownBy w' v0.ownBlock) : RowI w' B v x := World.ownsRow.kept h g (own_ne h k (by decide))
theorem RowI.new {w : World} {B : Nat} (hb : B <= w.heap.size) (x : Int) : RowI (w.alloc (.cells #[.int .i64 x] 3)) B (.slice (some ⟨w.heap.size, 0, none⟩) 1 1) x := World.ownsRow_lit w #[.int .i64 x] 1 hb (by decide) rfl
theorem RowI.nums {w : World} {B : Nat} {v : Value} {x : Int} (h : RowI w B v x) (wf : (Lit.int .i64 x).wf = true) : IsNums .i64 w v [x] := by
  obtain ⟨hl, h⟩ := h
  rcases h with ⟨rfl, h0⟩ | ⟨b, cap, cur, rfl, hb, hg, hn, hm, hs, ht⟩
  . cases h0
  . refine ⟨some ⟨b, 0, none⟩, cap, rfl, hn, hm, (fun h => by cases h), fun y hy => by simp at hy; subst hy; exact wf, fun hp => ⟨b, 0, rfl, (Array.getElem?_eq_some_iff.1 hg).1, fun i hi => ?_⟩⟩
    obtain rfl : i = 0 := by have : i < 1 := hi; omega
    have key : w.cell? ⟨b, 0 + 0, none⟩ = ([Value.int .i64 x] : List Value)[0]? := by
      rw [<- ht, List.getElem?_take_of_lt (by omega)]
      simp [World.cell?, hg]
    rw [key]
    rfl
theorem RowI.one {w : World} {B : Nat} {v : Value} {x : Int} (h : RowI w B v x) : v.oneCell' = true := by
  obtain ⟨A, c, rfl, _⟩ := own_slice' h
  rfl
def SrcN (w : World) (A : Option Addr) (cap : Nat) (xs : List Value) : Prop := (A = none /\ cap = 0 /\ xs = []) ∨ ∃ ad, A = some ad /\ ∀ j u, xs[j]? = some u -> ad.block < w.heap.size /\ w.cell? (ad.add j) = some u
theorem SrcN.grow {w w' : World} {A : Option Addr} {cap : Nat} {xs : List Value} (h : SrcN w A cap xs) (g : Past w w') (hp : ∀ ad, A = some ad -> ad.spot = none) : SrcN w' A cap xs := by
  rcases h with h | ⟨ad, e, h⟩
  . exact .inl h
  . refine .inr ⟨ad, e, fun j u hu => ?_⟩
    obtain ⟨hb, hc⟩ := h j u hu
    refine ⟨Nat.lt_of_lt_of_le hb g.2.2.1, ?_⟩
    obtain ⟨b, o, p⟩ := ad
    obtain rfl : p = none := hp _ e
    rw [add_plain] at hc ⊢
    exact (g.cell (p := ⟨b, o + j, none⟩) hb).trans hc
theorem wp_append_src {P : Program} (w : World) {o : Oper} {a : Act} {K : Act -> World -> Prop} {Q : Exit -> Act -> World -> Prop} (s x : Operand) (t : TypeId)
    (ho : o.op = .call { callee := .builtin .append, args := #[s, x], argTypes := #[t, t] })
    (base : Nat) (e : TypeId) (i : TypeInfo) (z : Value) (size bytes : Nat) (ht : P.underlying t = some (.slice e)) (hi : P.info? e = some i) (hz : i.zero = some z)
    (hsize : i.size = size) (hby : i.bytes = bytes) (hzs : z.cells.size = size) (hsz : 0 < size)
    (v : Value) (n : Nat) (xs : List Value) (hs : a.eval s = v) (hown : w.ownsRow base e size v n xs)
    (A : Option Addr) (m c : Nat) (news : List Value) (hx : a.eval x = .slice A m c) (hl : news.length = m * size) (hnews : SrcN w A c news) (h1 : ∀ u ∈ news, u.oneCell' = true)
    (h63 : n + m <= maxLen) (hbytes : (n + m) * bytes <= 140737488355328) (hbase : base <= w.heap.size)
    (h : ∀ v' w', w'.ownsRow base e size v' (n + m) (xs ++ news) -> w.grownBy w' v.ownBlock -> K (a.put o.dst v') w') : o.wp P a w K Q := by
  rcases hnews with ⟨rfl, rfl, rfl⟩ | ⟨ad, rfl, hc⟩
  . obtain rfl : m = 0 := by
      have : 0 = m * size := hl
      rcases Nat.mul_eq_zero.1 this.symm with h | h <;> omega
    have hr := run_append_owned_none (P := P) w base t o.type e i size ht hi v n xs hown
    unfold Oper.wp execOp
    simp only [ho, resolve, invoke, builtin, Sem.run_bind, Sem.run_pure, Result.andThen_ok, List.map_toArray, List.map_cons, List.map_nil, hs, hx, hr]
    exact h v w (by simpa using hown) (World.grownBy.refl _ _)
  . exact wp_append_own w s x t ho base e i z size bytes ht hi hz hsize hby hzs hsz v n xs hs hown ad m c news hx hl (fun j u hu => (hc j u hu).2) h1 h63 hbytes hbase (fun v' w' a1 a2 _ => h v' w' a1 a2)
end Go.Proofs.YtliijchcpooplaaGreat
