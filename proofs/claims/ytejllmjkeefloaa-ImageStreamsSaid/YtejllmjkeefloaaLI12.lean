/- Bytes as strings; Steps; the laws' head. A slice of one command; an owned row one command longer. isa: Take. -/
import Derived.Laws.BytesArg
import Derived.Test.YtejllmjkeefloaaLI10b
import Derived.Great.BuildSlice
import Derived.OwnWalk
import Derived.BigFrame
namespace Go.Proofs.Ytejllmjkeefloaa.Q8
open Go.ChangeShapes Go.WideShapes Go.ChangeAt Go.RowKit
set_option maxRecDepth 20000
set_option linter.unusedVariables false
set_option linter.unusedSimpArgs false

theorem nums_of_ownI {k : IntKind} {t : TypeId} {w : World} {base : Nat} {v : Value} {xs : List Int} (ho : w.ownsRow base t 1 v xs.length (xs.map (Value.int k))) (wf : ∀ x ∈ xs, (Lit.int k x).wf = true) : IsNums k w v xs := by
  obtain ⟨hl, h⟩ := ho
  rcases h with ⟨rfl, h0⟩ | ⟨b, cap, cur, rfl, hb, hg, hn, hm, hs, ht⟩
  · have : xs = [] := List.eq_nil_of_length_eq_zero h0
    subst this
    exact ⟨none, 0, rfl, Nat.le_refl _, Nat.zero_le _, fun _ => rfl, by simp, by simp⟩
  · refine ⟨some ⟨b, 0, none⟩, cap, rfl, hn, hm, (fun h => by cases h), wf, fun hp => ⟨b, 0, rfl, (Array.getElem?_eq_some_iff.1 hg).1, fun i hi => ?_⟩⟩
    have key : w.cell? ⟨b, 0 + i, none⟩ = (xs.map (Value.int k))[i]? := by
      rw [← ht, List.getElem?_take_of_lt (by omega)]
      simp [World.cell?, hg]
    rw [key]
    simp [List.getD, hi]
theorem nums_new (k : IntKind) (w : World) (t : TypeId) (xs : List Int) (h0 : 0 < xs.length) (hm : xs.length ≤ maxLen) (wf : ∀ x ∈ xs, (Lit.int k x).wf = true) : IsNums k (w.alloc (.cells ⟨xs.map (Value.int k)⟩ t)) (.slice (some ⟨w.heap.size, 0, none⟩) xs.length xs.length) xs :=
  ⟨some ⟨w.heap.size, 0, none⟩, xs.length, rfl, Nat.le_refl _, hm, (fun h => by cases h), wf, fun _ => ⟨w.heap.size, 0, rfl, by simp, fun i hi => by
    have := cells_new' w (xs.map (Value.int k)) t i (.int k (xs.getD i 0)) (by simp [List.getD, hi])
    rw [add_plain] at this
    exact this⟩⟩
end Go.Proofs.Ytejllmjkeefloaa.Q8
namespace Go.Proofs.Ytejllmjkeefloaa.Q8
open Go.ChangeShapes Go.WideShapes Go.ChangeAt Go.RowKit
set_option maxRecDepth 20000
set_option linter.unusedVariables false
set_option linter.unusedSimpArgs false

theorem infoC2 : ∃ i, Try.prog.info? 51 = some i ∧ i.zero = some (.agg ⟨cellC zeros⟩) ∧ i.size = 14 ∧ i.bytes = 112 := info_parts infoC
theorem fillC {c : List Int} (hl : c.length = 14) (n : Nat) (hn : n = 14) : Instr.fill (fun i => some (i * n, n)) ((Array.range (1 * n)).map ((Value.agg ⟨cellC zeros⟩).cells[· % (Value.agg ⟨cellC zeros⟩).cells.size]!)) [(0, .agg ⟨cellC c⟩)] = some ⟨cellC c⟩ := by
  subst hn
  obtain ⟨a0, a1, a2, a3, a4, a5, a6, a7, a8, a9, a10, a11, a12, a13, rfl⟩ := fourteen hl
  have e : (Array.range (1 * 14)).map ((Value.agg ⟨cellC zeros⟩).cells[· % (Value.agg ⟨cellC zeros⟩).cells.size]!) = ⟨cellC zeros⟩ := by kernel_rfl
  rw [e]
  simp [Instr.fill, cellC, zeros, Value.cells, List.replicate]
theorem wpList_lit_cmd {ops : Array Oper} {Q : Exit → Act → World → Prop} {rest : List Oper} {o : Oper} {a : Act} {w : World} (hg : o.guard = none) (y : Operand) (ho : o.op = .buildSlice 37 1 #[(0, y)]) (c : List Int) (hl : c.length = 14) (hy : a.eval y = .agg ⟨cellC c⟩)
    (h : wpList Try.prog ops Q rest (a.put o.dst (.slice (some ⟨w.heap.size, 0, none⟩) 1 1)) (w.alloc (.cells ⟨cellC c⟩ 51))) : wpList Try.prog ops Q (o :: rest) a w := by
  obtain ⟨i, hi, hz, hs, hb⟩ := infoC2
  refine Go.wpList_buildSlice hg 37 51 1 #[(0, y)] ho ⟨cellC c⟩ i (.agg ⟨cellC zeros⟩) Try.underlying37 hi hz (by rw [hs]; decide) (by rw [hs]; decide) ?_ h
  simp only [List.map_toArray, List.map_cons, List.map_nil, hy]
  exact fillC hl i.size hs
/-- append of one command to a row that the call owns. -/
theorem wpList_append_cmd {ops : Array Oper} {Q : Exit → Act → World → Prop} {rest : List Oper} {o : Oper} {a : Act} {w : World} (hgd : o.guard = none) (s x : Operand) (ho : o.op = .call { callee := .builtin .append, args := #[s, x], argTypes := #[37, 37] })
    (base : Nat) (v : Value) (l : List (List Int)) (hs : a.eval s = v) (hown : OwnC w base v l) (ad : Addr) (c : List Int) (hx : a.eval x = .slice (some ad) 1 1) (hc : wfC c) (hnews : ∀ j u, (cellC c)[j]? = some u → w.cell? (ad.add j) = some u) (hm : l.length ≤ 1000000) (hbase : base ≤ w.heap.size)
    (h : ∀ v' w', OwnC w' base v' (l ++ [c]) → w.grownBy w' v.ownBlock → wpList Try.prog ops Q rest (a.put o.dst v') w') : wpList Try.prog ops Q (o :: rest) a w := by
  obtain ⟨i, hi, hz, hsz, hb⟩ := infoC2
  refine wpList_append_own _ hgd s x 37 ho base 51 i _ 14 112 Try.underlying37 hi hz hsz hb rfl (by decide) v l.length (l.flatMap cellC) hs hown.1 ad 1 1 (cellC c) hx (by rw [cellC_len, hc.1]) hnews (oneC c) (by unfold maxLen; omega) (by omega) hbase ?_
  intro v' w' ow g _
  refine h v' w' ⟨by simpa using ow, fun d hd => ?_⟩ g
  rcases List.mem_append.1 hd with q | q
  · exact hown.2 d q
  · simp only [List.mem_singleton] at q; rw [q]; exact hc
theorem OwnC.low {w : World} {base base' : Nat} {v : Value} {l : List (List Int)} (h : OwnC w base v l) (hb : base' ≤ base) : OwnC w base' v l := by
  obtain ⟨⟨hl, h⟩, hw⟩ := h
  refine ⟨⟨hl, ?_⟩, hw⟩
  rcases h with h | ⟨b, cap, cur, e, hbb, h⟩
  · exact .inl h
  · exact .inr ⟨b, cap, cur, e, Nat.le_trans hb hbb, h⟩
theorem OwnC.keep {w w' : World} {base P : Nat} {v : Value} {l : List (List Int)} (h : OwnC w base v l) (g : Keep P w w') (hP : P < base) : OwnC w' base v l := ⟨own_keep h.1 g hP, h.2⟩
theorem OwnC.alloc {w : World} {base : Nat} {v : Value} {l : List (List Int)} (h : OwnC w base v l) (x : Obj) : OwnC (w.alloc x) base v l := ⟨World.ownsRow.alloc h.1 x, h.2⟩
theorem OwnC.lt {w : World} {base : Nat} {v : Value} {l : List (List Int)} (h : OwnC w base v l) {k : Nat} (hk : v.ownBlock = some k) : base ≤ k := (World.ownsRow.lt h.1 k hk).1
theorem cells_cmd (w : World) (c : List Int) (j : Nat) (u : Value) (h : (cellC c)[j]? = some u) : (w.alloc (.cells ⟨cellC c⟩ 51)).cell? ((⟨w.heap.size, 0, none⟩ : Addr).add j) = some u := cells_new' w (cellC c) 51 j u h
end Go.Proofs.Ytejllmjkeefloaa.Q8
namespace Go.Proofs.Ytejllmjkeefloaa.Q8
open Go.ChangeShapes Go.WideShapes Go.ChangeAt Go.RowKit
set_option maxRecDepth 20000
set_option linter.unusedVariables false
set_option linter.unusedSimpArgs false

theorem wpList_load_cmdg {ops : Array Oper} {Q : Exit → Act → World → Prop} {rest : List Oper} {op : Oper} {a : Act} {w : World} (hw : Region.wanted op (yielded ops a.tmps) = true) (x : Operand) (ho : op.op = .load 51 x) (b : Nat) (hx : a.eval x = .pointer (some ⟨b, 0, none⟩)) (c : List Int) (hl : c.length = 14) (hb : (∀ o : Nat, w.cell? ⟨b, o, none⟩ = (⟨cellC c⟩ : Array Value)[o]?))
    (h : wpList Try.prog ops Q rest (a.put op.dst (.agg ⟨cellC c⟩)) w) : wpList Try.prog ops Q (op :: rest) a w :=
  BigFrame.wpList_want hw fun _ hK => wp_load_box 51 x ho b ⟨cellC c⟩ hx hb Try.underlying51 rfl (cmdSize hl) (hK _ _ h)
theorem RdAt.bytes {w : World} {B P : Nat} {s : Rd} (h : RdAt w B P s) : bytesP s.rest := by
  obtain ⟨A, cap, _, _, by', _⟩ := h
  exact by'.bytesP
theorem RdAt.grownBy {w w' : World} {B P : Nat} {s : Rd} {row : Option Nat} (h : RdAt w B P s) (g : w.grownBy w' row) (hr : ∀ k, row = some k → P < k) : RdAt w' B P s := by
  obtain ⟨A, cap, bx, fr, by', hB, hP⟩ := h
  have key : ∀ k, k ≤ P → w'.heap[k]? = w.heap[k]? := fun k hk => g.block k (by omega) (fun e => by have := hr k e.symm; omega)
  have cell : ∀ k o, k ≤ P → w'.cell? ⟨k, o, none⟩ = w.cell? ⟨k, o, none⟩ := fun k o hk => World.cell?_of_block (a := ⟨k, o, none⟩) (key k hk)
  refine ⟨A, cap, fun o => (cell P o (Nat.le_refl _)).trans (bx o), fun o => (World.frozen?_of_block (a := ⟨P, o, none⟩) (key P (Nat.le_refl _))).trans (fr o), ?_, hB, Nat.lt_of_lt_of_le hP g.size⟩
  obtain ⟨h1, h2, h3, h4⟩ := by'
  refine ⟨h1, h2, h3, fun hp => ?_⟩
  obtain ⟨b, off, e, hb, hc⟩ := h4 hp
  exact ⟨b, off, e, hb, fun i hi => (cell b (off + i) (by omega)).trans (hc i hi)⟩
end Go.Proofs.Ytejllmjkeefloaa.Q8
