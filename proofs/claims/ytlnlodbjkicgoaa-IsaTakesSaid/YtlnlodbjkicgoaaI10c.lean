/- A slice of one command; an owned row one command longer. -/
import Derived.Test.YtlnlodbjkicgoaaI10b
import Derived.Great.BuildSlice
import Derived.OwnWalk
import Derived.BigFrame
namespace Go.Proofs.Ytlnlodbjkicgoaa
open Go.ChangeShapes Go.WideShapes Go.ChangeAt Go.RowKit
set_option maxRecDepth 20000
set_option linter.unusedVariables false
set_option linter.unusedSimpArgs false

theorem infoC2 : ∃ i, Try.prog.info? 32 = some i ∧ i.zero = some (.agg ⟨cellC zeros⟩) ∧ i.size = 14 ∧ i.bytes = 112 := info_parts infoC
theorem fillC {c : List Int} (hl : c.length = 14) (n : Nat) (hn : n = 14) : Instr.fill (fun i => some (i * n, n)) ((Array.range (1 * n)).map ((Value.agg ⟨cellC zeros⟩).cells[· % (Value.agg ⟨cellC zeros⟩).cells.size]!)) [(0, .agg ⟨cellC c⟩)] = some ⟨cellC c⟩ := by
  subst hn
  obtain ⟨a0, a1, a2, a3, a4, a5, a6, a7, a8, a9, a10, a11, a12, a13, rfl⟩ := fourteen hl
  have e : (Array.range (1 * 14)).map ((Value.agg ⟨cellC zeros⟩).cells[· % (Value.agg ⟨cellC zeros⟩).cells.size]!) = ⟨cellC zeros⟩ := by kernel_rfl
  rw [e]
  simp [Instr.fill, cellC, zeros, Value.cells, List.replicate]
theorem wpList_lit_cmd {ops : Array Oper} {Q : Exit → Act → World → Prop} {rest : List Oper} {o : Oper} {a : Act} {w : World} (hg : o.guard = none) (y : Operand) (ho : o.op = .buildSlice 22 1 #[(0, y)]) (c : List Int) (hl : c.length = 14) (hy : a.eval y = .agg ⟨cellC c⟩)
    (h : wpList Try.prog ops Q rest (a.put o.dst (.slice (some ⟨w.heap.size, 0, none⟩) 1 1)) (w.alloc (.cells ⟨cellC c⟩ 32))) : wpList Try.prog ops Q (o :: rest) a w := by
  obtain ⟨i, hi, hz, hs, hb⟩ := infoC2
  refine Go.wpList_buildSlice hg 22 32 1 #[(0, y)] ho ⟨cellC c⟩ i (.agg ⟨cellC zeros⟩) Try.underlying22 hi hz (by rw [hs]; decide) (by rw [hs]; decide) ?_ h
  simp only [List.map_toArray, List.map_cons, List.map_nil, hy]
  exact fillC hl i.size hs
/-- append of one command to a row that the call owns. -/
theorem wpList_append_cmd {ops : Array Oper} {Q : Exit → Act → World → Prop} {rest : List Oper} {o : Oper} {a : Act} {w : World} (hgd : o.guard = none) (s x : Operand) (ho : o.op = .call { callee := .builtin .append, args := #[s, x], argTypes := #[22, 22] })
    (base : Nat) (v : Value) (l : List (List Int)) (hs : a.eval s = v) (hown : OwnC w base v l) (ad : Addr) (c : List Int) (hx : a.eval x = .slice (some ad) 1 1) (hc : wfC c) (hnews : ∀ j u, (cellC c)[j]? = some u → w.cell? (ad.add j) = some u) (hm : l.length ≤ 1000000) (hbase : base ≤ w.heap.size)
    (h : ∀ v' w', OwnC w' base v' (l ++ [c]) → w.grownBy w' v.ownBlock → wpList Try.prog ops Q rest (a.put o.dst v') w') : wpList Try.prog ops Q (o :: rest) a w := by
  obtain ⟨i, hi, hz, hsz, hb⟩ := infoC2
  refine wpList_append_own _ hgd s x 22 ho base 32 i _ 14 112 Try.underlying22 hi hz hsz hb rfl (by decide) v l.length (l.flatMap cellC) hs hown.1 ad 1 1 (cellC c) hx (by rw [cellC_len, hc.1]) hnews (oneC c) (by unfold maxLen; omega) (by omega) hbase ?_
  intro v' w' ow g _
  refine h v' w' ⟨by simpa using ow, fun d hd => ?_⟩ g
  rcases List.mem_append.1 hd with q | q
  · exact hown.2 d q
  · simp only [List.mem_singleton] at q; rw [q]; exact hc
theorem OwnC.low {w : World} {base base' : Nat} {v : Value} {l : List (List Int)} (h : OwnC w base v l) (hb : base' ≤ base) : OwnC w base' v l := by
  obtain ⟨⟨hl, h⟩, hw⟩ := h
  refine ⟨⟨hl, ?_⟩, hw⟩
  rcases h with h | ⟨b, cap, cur, e, hbb, h⟩
  · exact .inl h
  · exact .inr ⟨b, cap, cur, e, Nat.le_trans hb hbb, h⟩
theorem OwnC.keep {w w' : World} {base P : Nat} {v : Value} {l : List (List Int)} (h : OwnC w base v l) (g : Keep P w w') (hP : P < base) : OwnC w' base v l := ⟨own_keep h.1 g hP, h.2⟩
theorem OwnC.alloc {w : World} {base : Nat} {v : Value} {l : List (List Int)} (h : OwnC w base v l) (x : Obj) : OwnC (w.alloc x) base v l := ⟨World.ownsRow.alloc h.1 x, h.2⟩
theorem OwnC.lt {w : World} {base : Nat} {v : Value} {l : List (List Int)} (h : OwnC w base v l) {k : Nat} (hk : v.ownBlock = some k) : base ≤ k := (World.ownsRow.lt h.1 k hk).1
theorem cells_cmd (w : World) (c : List Int) (j : Nat) (u : Value) (h : (cellC c)[j]? = some u) : (w.alloc (.cells ⟨cellC c⟩ 32)).cell? ((⟨w.heap.size, 0, none⟩ : Addr).add j) = some u := cells_new' w (cellC c) 32 j u h
end Go.Proofs.Ytlnlodbjkicgoaa
