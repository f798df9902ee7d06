/- isa: the reader: a command. Rows of commands in memory; how they are read off an argument. The walk's steps over commands: one loaded out of a row, a box of its own for one, one loaded out of its box; a row of commands that a call owns. quiltlaw04's less: a graph of at most 6 values, 14 nodes, 6 that come out. Bytes as strings; the laws' head. Take and Whole of what was put; bounds of a graph that was cut. -/
import Derived.Test.YtejllmjkeefloaaJT3
import Derived.Test.YtejllmjkeefloaaJN17
import Derived.Laws.BytesArg
import Derived.Test.YtejllmjkeefloaaJE8
import Derived.Test.YtejllmjkeefloaaJN6
namespace Go.Proofs.Ytejllmjkeefloaa.Q8
open Go.ChangeShapes Go.WideShapes Go.ChangeAt Go.RowKit
set_option maxRecDepth 20000
set_option linter.unusedVariables false
set_option linter.unusedSimpArgs false

theorem RdAt.past {w w' : World} {B P : Nat} {s : Rd} (h : RdAt w B P s) (g : Past w w') : RdAt w' B P s := by
  obtain ⟨A, cap, bx, fr, by', hB, hP⟩ := h
  exact ⟨A, cap, box_past g bx hP, free_past g fr hP, by'.keep (Keep.of_past g) hB (by omega), hB, Nat.lt_of_lt_of_le hP g.2.2.1⟩
theorem RdAt.lt {w : World} {B P : Nat} {s : Rd} (h : RdAt w B P s) : P < w.heap.size := h.choose_spec.choose_spec.2.2.2.2
theorem FldsP.keep {w w' : World} {P X : Nat} {A : Option Addr} {fs : List Fld} (h : FldsP w P A fs) (g : Keep X w w') (hX : ∀ b, A = some ⟨b, 0, none⟩ → b ≠ X) : FldsP w' P A fs := fun q => by
  obtain ⟨b, e, h1, h2⟩ := h q
  exact ⟨b, e, Nat.lt_of_lt_of_le h1 g.2.2.1, box_keep g h2 h1 (hX b e)⟩
theorem one_cellC (c : List Int) : (⟨cellC c⟩ : Array Value).all (·.oneCell') = true := by
  simp [cellC, Value.oneCell']
end Go.Proofs.Ytejllmjkeefloaa.Q8
namespace Go.Proofs.Ytejllmjkeefloaa.Q8
open Go.ChangeShapes Go.WideShapes Go.ChangeAt Go.RowKit
set_option maxRecDepth 20000
set_option linter.unusedVariables false
set_option linter.unusedSimpArgs false

/-- A row of commands. -/
def wfC (c : List Int) : Prop := c.length = 14 ∧ ∀ x ∈ c, (Lit.int .i64 x).wf = true
def IsCmds (w : World) (v : Value) (l : List (List Int)) : Prop :=
  ∃ (A : Option Addr) (cap : Nat), v = .slice A l.length cap ∧ l.length ≤ cap ∧ cap ≤ maxLen ∧ (A = none → cap = 0) ∧ (∀ c ∈ l, wfC c) ∧
    (0 < l.length → ∃ b off, A = some ⟨b, off, none⟩ ∧ b < w.heap.size ∧ ∀ i, i < l.length → w.rangeAt b (off + i * 14) (cellC (l.getD i [])))
theorem IsCmds.grow {w w' : World} {v : Value} {l : List (List Int)} (h : IsCmds w v l) (g : Past w w') : IsCmds w' v l := by
  obtain ⟨A, cap, h1, h2, h3, h4, h5, h6⟩ := h
  refine ⟨A, cap, h1, h2, h3, h4, h5, fun hp => ?_⟩
  obtain ⟨b, off, e, hb, hc⟩ := h6 hp
  exact ⟨b, off, e, Nat.lt_of_lt_of_le hb g.2.2.1, fun i hi j v hv => (g.cell hb).trans (hc i hi j v hv)⟩
theorem IsCmds.form {w : World} {v : Value} {l : List (List Int)} (h : IsCmds w v l) : ∃ A cap, v = .slice A l.length cap ∧ l.length ≤ cap ∧ cap ≤ maxLen ∧ (A = none → cap = 0) := by
  obtain ⟨A, cap, h1, h2, h3, h4, _⟩ := h
  exact ⟨A, cap, h1, h2, h3, h4⟩
theorem IsCmds.wf {w : World} {v : Value} {l : List (List Int)} (h : IsCmds w v l) : ∀ c ∈ l, wfC c := h.choose_spec.choose_spec.2.2.2.2.1
/-- One of them. -/
theorem IsCmds.at {w : World} {A : Option Addr} {len cap : Nat} {l : List (List Int)} (h : IsCmds w (.slice A len cap) l) (i : Nat) (hi : i < l.length) : ∃ b off, A = some ⟨b, off, none⟩ ∧ b < w.heap.size ∧ w.rangeAt b (off + i * 14) (cellC (l.getD i [])) := by
  obtain ⟨A', cap', e, h2, h3, h4, h5, h6⟩ := h
  simp only [Value.slice.injEq] at e
  obtain ⟨rfl, _, rfl⟩ := e
  obtain ⟨b, off, e, hb, hc⟩ := h6 (by omega)
  exact ⟨b, off, e, hb, hc i hi⟩
theorem wfC_at {l : List (List Int)} (h : ∀ c ∈ l, wfC c) {i : Nat} (hi : i < l.length) : wfC (l.getD i []) := by
  have : l.getD i [] = l[i] := by simp [List.getD, hi]
  rw [this]
  exact h _ (List.getElem_mem hi)
theorem IsCmds.cut {w : World} {A : Option Addr} {len cap : Nat} {l : List (List Int)} (m : Nat) (hm : m ≤ l.length) (h : IsCmds w (.slice A len cap) l) : IsCmds w (.slice A m cap) (l.take m) := by
  obtain ⟨A', cap', e, h2, h3, h4, h5, h6⟩ := h
  simp only [Value.slice.injEq] at e
  obtain ⟨rfl, _, rfl⟩ := e
  have hl : (l.take m).length = m := by simp; omega
  refine ⟨A, cap, by rw [hl], by omega, h3, h4, fun c hc => h5 c (List.mem_of_mem_take hc), fun hp => ?_⟩
  obtain ⟨b, off, e, hb, hc⟩ := h6 (by omega)
  refine ⟨b, off, e, hb, fun i hi => ?_⟩
  have : (l.take m).getD i [] = l.getD i [] := by simp only [List.getD, List.getElem?_take]; rw [if_pos (by omega)]
  rw [this]
  exact hc i (by omega)
variable {H : Type} {enc : TypeId × Value → H} {W : World}
theorem field {t : TypeId} {fs : Array Field} {fuel : Nat} {cs : List Value} {x : DataW H × List MemPlace} (ht : Try.prog.underlying t = some (.struct fs)) (h : DataW.trod enc Try.prog W 0 (fun _ => true) true fuel t cs = some x) (i : Nat) (f : Field) (hi : fs[i]? = some f) :
    ∃ n y, DataW.trod enc Try.prog W 0 (fun _ => true) true n f.type ((cs.drop f.offset).take (Try.prog.cellsOf f.type)) = some y := by
  obtain ⟨xs, n, _, _, _, hs, hf⟩ := DataW.trod_struct ht h
  have l : i < xs.length := by rw [hs]; exact (Array.getElem?_eq_some_iff.mp hi).1
  exact ⟨n, xs[i], by rw [hf i f hi, List.getElem?_eq_getElem l]⟩
end Go.Proofs.Ytejllmjkeefloaa.Q8
namespace Go.Proofs.Ytejllmjkeefloaa.Q8
open Go.ChangeShapes Go.WideShapes Go.ChangeAt Go.RowKit
set_option maxRecDepth 20000
set_option linter.unusedVariables false
set_option linter.unusedSimpArgs false

theorem len_wf (n : Nat) (h : n ≤ 1000000000) : (Lit.int .i64 (n : Int)).wf = true := by simp [Lit.wf, IntKind.min, IntKind.max, IntKind.bits, IntKind.signed]; omega
theorem zeroV : (Try.prog.info? 51).map (·.zero) = some (some (.agg ⟨cellC zeros⟩)) := by kernel_rfl
section
variable {ops : Array Oper} {Q : Exit → Act → World → Prop}
theorem wpList_load_row {rest : List Oper} {op : Oper} {a : Act} {w : World} (hgd : op.guard = none) (x : Operand) (ho : op.op = .load 51 x) (b o : Nat) (hx : a.eval x = .pointer (some ⟨b, o, none⟩)) (c : List Int) (hl : c.length = 14) (hc : w.rangeAt b o (cellC c))
    (h : wpList Try.prog ops Q rest (a.put op.dst (.agg ⟨cellC c⟩)) w) : wpList Try.prog ops Q (op :: rest) a w :=
  wpList_load_mid hgd 51 x ho b o hx (cellC c) _ hc Try.underlying51 rfl (by rw [C14, cellC_len, hl]) h
theorem wpList_load_cmd {rest : List Oper} {op : Oper} {a : Act} {w : World} (hgd : op.guard = none) (x : Operand) (ho : op.op = .load 51 x) (b : Nat) (hx : a.eval x = .pointer (some ⟨b, 0, none⟩)) (c : List Int) (hl : c.length = 14) (hb : (∀ o : Nat, w.cell? ⟨b, o, none⟩ = (⟨cellC c⟩ : Array Value)[o]?))
    (h : wpList Try.prog ops Q rest (a.put op.dst (.agg ⟨cellC c⟩)) w) : wpList Try.prog ops Q (op :: rest) a w :=
  wpList_load_box hgd 51 x ho b ⟨cellC c⟩ hx hb Try.underlying51 rfl (cmdSize hl) h
theorem wpList_new_cmd {rest : List Oper} {o1 o2 : Oper} {a : Act} {w : World} (t : Tmp) (h1 : o1.guard = none) (h2 : o2.guard = none) (e1 : o1.op = .alloc 51) (d1 : o1.dst = some t) (y : Operand) (e2 : o2.op = .store 51 (.tmp t) y) (d2 : o2.dst = none)
    (c : List Int) (hl : c.length = 14) (hx : (a.put (some t) (.pointer (some ⟨w.heap.size, 0, none⟩))).eval (.tmp t) = .pointer (some ⟨w.heap.size, 0, none⟩)) (hy : (a.put (some t) (.pointer (some ⟨w.heap.size, 0, none⟩))).eval y = .agg ⟨cellC c⟩)
    (h : ∀ w', Past w w' → (∀ o : Nat, w'.cell? ⟨w.heap.size, o, none⟩ = (⟨cellC c⟩ : Array Value)[o]?) → (∀ o : Nat, w'.frozen? ⟨w.heap.size, o, none⟩ = false) → w.heap.size < w'.heap.size → wpList Try.prog ops Q rest (a.put (some t) (.pointer (some ⟨w.heap.size, 0, none⟩))) w') : wpList Try.prog ops Q (o1 :: o2 :: rest) a w := by
  refine wpList_alloc_box h1 51 e1 (.agg ⟨cellC zeros⟩) zeroV (fun w' => Past w w' ∧ (∀ o : Nat, w'.cell? ⟨w.heap.size, o, none⟩ = (⟨cellC zeros⟩ : Array Value)[o]?) ∧ (∀ o : Nat, w'.frozen? ⟨w.heap.size, o, none⟩ = false) ∧ w.heap.size < w'.heap.size) ⟨(Past.refl w).alloc _, box_new rfl, free_alloc (free_new (Nat.le_refl _)), by simp⟩ ?_
  rintro w' ⟨p, b, f, z⟩
  rw [d1]
  have hs : (⟨cellC zeros⟩ : Array Value).size = (⟨cellC c⟩ : Array Value).size := by rw [size_cellC hl]; rfl
  refine wpList_store_box h2 51 (.tmp t) y e2 w.heap.size ⟨cellC c⟩ _ hx hy b f hs (cmdSize hl) (one_cellC c) (fun w' => Past w w' ∧ (∀ o : Nat, w'.cell? ⟨w.heap.size, o, none⟩ = (⟨cellC c⟩ : Array Value)[o]?) ∧ (∀ o : Nat, w'.frozen? ⟨w.heap.size, o, none⟩ = false) ∧ w.heap.size < w'.heap.size) ⟨past_setAll (Nat.le_refl _) _ _ _ p, box_setAll b hs, free_setAll _ f, size_setAll _ _ _ z⟩ ?_
  rintro w2 ⟨p2, b2, f2, z2⟩
  rw [d2]
  exact h w2 p2 b2 f2 z2
end

/-- A row of commands that a call owns. -/
def OwnC (w : World) (base : Nat) (v : Value) (l : List (List Int)) : Prop := w.ownsRow base 51 14 v l.length (l.flatMap cellC) ∧ ∀ c ∈ l, wfC c
theorem OwnC.past {w w' : World} {base : Nat} {v : Value} {l : List (List Int)} (h : OwnC w base v l) (g : Past w w') : OwnC w' base v l := by
  obtain ⟨⟨hl, h⟩, hw⟩ := h
  refine ⟨⟨hl, ?_⟩, hw⟩
  rcases h with ⟨rfl, h0⟩ | ⟨b, cap, cur, rfl, hb, hg, hn, hm, hs, ht⟩
  · exact .inl ⟨rfl, h0⟩
  · exact .inr ⟨b, cap, cur, rfl, hb, (g.2.2.2 b (Array.getElem?_eq_some_iff.1 hg).1).trans hg, hn, hm, hs, ht⟩
theorem OwnC.nil (w : World) (base : Nat) : OwnC w base (.slice none 0 0) [] := ⟨World.ownsRow_nil _ _ _ _, by simp⟩
end Go.Proofs.Ytejllmjkeefloaa.Q8
namespace Go.Proofs.Ytejllmjkeefloaa
open Go.ChangeShapes Go.WideShapes Go.ChangeAt Go.RowKit
set_option maxRecDepth 20000
set_option linter.unusedVariables false

/-- Nodes whose slices stand in what was there. -/
def RowsO (w : World) (l : List NodeD) (xs : List Value) : Prop :=
  ∀ j, j < l.length → ∃ vi vw vb, NodeIn w (l.getD j default) vi vw vb ∧ (xs.drop (j * 14)).take 14 = nodeCells (l.getD j default) vi vw vb
theorem RowsO.more {w : World} {l : List NodeD} {n : NodeD} {xs : List Value} {vi vw vb : Value} (h : RowsO w l xs) (hl : xs.length = l.length * 14) (hn : NodeIn w n vi vw vb) : RowsO w (l ++ [n]) (xs ++ nodeCells n vi vw vb) := by
  intro j hj
  simp only [List.length_append, List.length_cons, List.length_nil] at hj
  by_cases c : j < l.length
  · obtain ⟨a1, a2, a3, k1, k2⟩ := h j c
    have e : (l ++ [n]).getD j default = l.getD j default := by simp [List.getD, List.getElem?_append_left c]
    rw [e]
    refine ⟨a1, a2, a3, k1, ?_⟩
    rw [List.drop_append_of_le_length (by omega), List.take_append_of_le_length (by rw [List.length_drop]; omega)]
    exact k2
  · obtain rfl : j = l.length := by omega
    have e : (l ++ [n]).getD l.length default = n := by simp [List.getD]
    rw [e]
    refine ⟨vi, vw, vb, hn, ?_⟩
    rw [← hl, List.drop_left]
    rfl
end Go.Proofs.Ytejllmjkeefloaa
namespace Go.Proofs.Ytejllmjkeefloaa
open Go.ChangeShapes Go.WideShapes Go.ChangeAt Go.RowKit
set_option maxRecDepth 20000
set_option linter.unusedVariables false

theorem str_of_nums {w : World} {v : Value} {xs : List Int} (h : IsNums .u8 w v xs) : (convert 22 9 v).run Try.prog w = .ok (.string (strOfNums xs)) w := by
  obtain ⟨A, cap, rfl, h2, h3, h4, h5, h6⟩ := h
  by_cases hp : 0 < xs.length
  · obtain ⟨b, off, rfl, hb, hc⟩ := h6 hp
    exact run_convert_bytes_arg w 22 5 Try.underlying22 Try.underlying5 b off xs.length cap xs rfl hc 9 Try.underlying9
  · obtain rfl : xs = [] := List.eq_nil_of_length_eq_zero (by omega)
    cases A with
    | none => exact run_convert_bytes_nil w 22 5 Try.underlying22 Try.underlying5 _ _ 9 Try.underlying9
    | some a =>
      rw [run_convert_bytes_string w 22 9 5 _ _ _ Try.underlying22 Try.underlying5 Try.underlying9]
      simp [Conv.bytesToString, loadCells]
      rfl
theorem ownB_nums {w : World} {base : Nat} {v : Value} {xs : List Int} (h : OwnB w base v xs) (hb : bytesP xs) : IsNums .u8 w v xs := nums_of_ownI (t := 5) h.1 (fun x hx => by
  have := hb x hx
  simp [Lit.wf, IntKind.min, IntKind.max, IntKind.bits, IntKind.signed]
  omega)
def exG : GraphD := ⟨[⟨1, 2, 3, 0⟩], [], [0]⟩
theorem exG_E : valuesE exG = 0 := by
  have e : beginsE exG = 0 := begins_mk (by simp [exG]) (below_one (by unfold mayV mayS; decide)) (below_one (by decide))
  have g : goS exG.nodes exG.ins = (0, [⟨1, 2, 3, 0⟩]) := rfl
  have s : sumW exG.nodes = 0 := rfl
  unfold valuesE
  rw [if_neg (by rw [e]; decide), g, if_neg (by simp), s, if_neg (by decide), if_neg]
  intro f
  apply f
  exact below_one (by decide)
theorem exG_B : graphB exG = [1, 1, 2, 3, 0, 0, 1, 0] := by decide
theorem exG_graph (W : World) : IsGraph ((W.alloc (.cells #[.int .i64 1, .int .i64 2, .int .i64 3, .int .i64 0] 57)).alloc (.cells #[.int .i64 0] 3)) (.agg #[.slice (some ⟨W.heap.size, 0, none⟩) 1 1, .slice none 0 0, .slice (some ⟨W.heap.size + 1, 0, none⟩) 1 1]) exG := by
  have b : ∀ o : Nat, ((W.alloc (.cells #[.int .i64 1, .int .i64 2, .int .i64 3, .int .i64 0] 57)).alloc (.cells #[.int .i64 0] 3)).cell? ⟨W.heap.size, o, none⟩ = (#[.int .i64 1, .int .i64 2, .int .i64 3, .int .i64 0] : Array Value)[o]? := box_old (box_new rfl) (by simp)
  refine ⟨_, _, _, rfl, vals_one (by simp; omega) (by unfold ValWf; decide) ⟨b 0, b 1, b 2, b 3⟩, ⟨none, 0, rfl, Nat.le_refl _, Nat.zero_le _, fun _ => rfl, by simp [exG], by simp [exG]⟩, ?_⟩
  have := nums_new .i64 (W.alloc (.cells #[.int .i64 1, .int .i64 2, .int .i64 3, .int .i64 0] 57)) 3 [0] (by simp) (by simp [maxLen]) (by simp; decide)
  rw [show (W.alloc (.cells #[.int .i64 1, .int .i64 2, .int .i64 3, .int .i64 0] 57)).heap.size = W.heap.size + 1 by simp] at this
  exact this
set_option maxHeartbeats 2000000 in
theorem shown_any (W : World) : Calls Try.prog 6 #[] W fun e w' => e = .returned (.bool true) ∧ Past W w' := by
  have PU := Lib.hid (put_any exG _ _ (exG_graph W) ⟨by simp [exG], by simp [exG]⟩ (by rw [exG_B]; simp))
  go_enter Try.func6, Try.ntmps6
  go_wp2_with fail
  refine PU.out.mono ?_
  rintro e w1 H
  rcases H with ⟨_, v, rfl, ho, p1⟩ | ⟨hE, _⟩
  · rw [exG_B] at ho
    have p2 : Past W w1 := (((Past.refl W).alloc _).alloc _).trans p1
    have s1 := str_of_nums (ownB_nums ho (by intro c hc; simp only [List.mem_cons, List.not_mem_nil, or_false] at hc; omega))
    have s2 := str_of_nums (nums_new .u8 w1 5 [1, 1, 2, 3, 0, 0, 1, 0] (by simp) (by simp [maxLen]) (by simp only [List.mem_cons, List.not_mem_nil, or_false]; rintro x (rfl | rfl | rfl | rfl | rfl | rfl | rfl | rfl) <;> decide))
    simp only [List.map_cons, List.map_nil, List.length_cons, List.length_nil] at s2
    clear ho p1 PU
    go_wp2_with fail
    go_ret
    exact ⟨rfl, p2.alloc _⟩
  · exact absurd exG_E hE
end Go.Proofs.Ytejllmjkeefloaa

namespace Go.Proofs.Ytejllmjkeefloaa
open Go.ChangeShapes Go.WideShapes Go.ChangeAt Go.RowKit
set_option maxRecDepth 20000
set_option linter.unusedVariables false

end Go.Proofs.Ytejllmjkeefloaa
