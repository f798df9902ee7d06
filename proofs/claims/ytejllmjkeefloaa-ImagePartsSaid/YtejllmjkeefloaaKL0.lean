/- Value at nodes without slices. Bytes as strings; a slice's first part; bytes.Equal, the program's Open; appends. The reference's Same: two rows of commands. Small: a Bool for what may be; nodes and graphs part by part. -/
import Derived.Test.YtejllmjkeefloaaKG12
import Derived.Test.YtejllmjkeefloaaKV2
import Derived.Laws.BytesArg
import Derived.Test.YtejllmjkeefloaaKS1
import Derived.Test.YtejllmjkeefloaaKV1
import Derived.Test.YtejllmjkeefloaaKRead
namespace Go.Proofs.Ytejllmjkeefloaa
open Go.ChangeShapes Go.WideShapes Go.ChangeAt Go.RowKit
set_option maxRecDepth 20000
set_option linter.unusedVariables false

theorem vals_one {w : World} {b : Nat} {x : ValD} (hb : b < w.heap.size) (wf : ValWf x) (h : ValAt w b 0 x) : IsVals w (.slice (some ⟨b, 0, none⟩) 1 1) [x] :=
  ⟨some ⟨b, 0, none⟩, 1, rfl, Nat.le_refl _, by decide, (fun h => by cases h), by simpa using wf, fun _ => ⟨b, 0, rfl, hb, fun i hi => by
    simp only [List.length_cons, List.length_nil] at hi
    obtain rfl : i = 0 := by omega
    simpa using h⟩⟩
end Go.Proofs.Ytejllmjkeefloaa
namespace Go.Proofs.Ytejllmjkeefloaa.Q7
open Go.ChangeShapes Go.WideShapes Go.ChangeAt Go.RowKit
set_option maxRecDepth 20000
set_option linter.unusedVariables false

theorem str_of_nums {w : World} {v : Value} {xs : List Int} (h : IsNums .u8 w v xs) : (convert 22 9 v).run Try.prog w = .ok (.string (strOfNums xs)) w := by
  obtain ⟨A, cap, rfl, h2, h3, h4, h5, h6⟩ := h
  by_cases hp : 0 < xs.length
  · obtain ⟨b, off, rfl, hb, hc⟩ := h6 hp
    exact run_convert_bytes_arg w 22 5 Try.underlying22 Try.underlying5 b off xs.length cap xs rfl hc 9 Try.underlying9
  · obtain rfl : xs = [] := List.eq_nil_of_length_eq_zero (by omega)
    cases A with
    | none => exact run_convert_bytes_nil w 22 5 Try.underlying22 Try.underlying5 _ _ 9 Try.underlying9
    | some a =>
      rw [run_convert_bytes_string w 22 9 5 _ _ _ Try.underlying22 Try.underlying5 Try.underlying9]
      simp [Conv.bytesToString, loadCells]
      rfl
/-- The string of some bytes. -/
def strB (l : List Nat) : ByteArray := strOfNums (ints l)
theorem str_b {w : World} {v : Value} {l : List Nat} (h : IsNums .u8 w v (ints l)) : (convert 22 9 v).run Try.prog w = .ok (.string (strB l)) w := str_of_nums h
theorem strB_inj {xs ys : List Nat} (hx : Bytes xs) (hy : Bytes ys) (h : strB xs = strB ys) : xs = ys := by
  have e := congrArg (fun s : ByteArray => s.data.toList) h
  simp only [strB, strOfNums_data] at e
  clear h
  induction xs generalizing ys with
  | nil => cases ys with
    | nil => rfl
    | cons y ys => simp [ints] at e
  | cons x xs ih => cases ys with
    | nil => simp [ints] at e
    | cons y ys =>
      simp only [ints, List.map_cons, List.cons.injEq] at e
      have x1 := hx x (List.mem_cons_self ..)
      have y1 := hy y (List.mem_cons_self ..)
      have e1 := congrArg UInt8.toNat e.1
      simp only [UInt8.toNat_ofNat'] at e1
      have : x = y := by omega
      rw [this, ih (fun c hc => hx c (List.mem_cons_of_mem _ hc)) (fun c hc => hy c (List.mem_cons_of_mem _ hc)) e.2]
theorem strB_yes {xs ys : List Nat} (h : xs = ys) : ((strB xs).toList == (strB ys).toList) = true := by rw [h]; simp
theorem strB_no {xs ys : List Nat} (hx : Bytes xs) (hy : Bytes ys) (h : xs ≠ ys) : ((strB xs).toList == (strB ys).toList) = false := by
  have : (strB xs).toList ≠ (strB ys).toList := fun e => h (strB_inj hx hy (ByteArray.ext (by
    have := congrArg List.toArray e
    simpa [ByteArray.toList_eq] using this)))
  simpa using this
theorem Bytes.take {l : List Nat} (h : Bytes l) (m : Nat) : Bytes (l.take m) := fun c hc => h c (List.mem_of_mem_take hc)
/-- A row of bytes that a call owns. -/
def OwnS (w : World) (base : Nat) (v : Value) (l : List Nat) : Prop := w.ownsRow base 5 1 v l.length (cellB l)
theorem OwnS.nums {w : World} {base : Nat} {v : Value} {l : List Nat} (h : OwnS w base v l) (hb : Bytes l) : IsNums .u8 w v (ints l) := by
  obtain ⟨hl, h⟩ := h
  rcases h with ⟨rfl, h0⟩ | ⟨b, cap, cur, rfl, hbb, hg, hn, hm, hs, ht⟩
  · have : l = [] := List.eq_nil_of_length_eq_zero h0
    subst this
    exact ⟨none, 0, rfl, Nat.le_refl _, Nat.zero_le _, fun _ => rfl, by simp [ints], by simp [ints]⟩
  · refine ⟨some ⟨b, 0, none⟩, cap, by rw [ints_len], by rwa [ints_len], hm, (fun h => by cases h), ints_wf hb, fun hp => ⟨b, 0, rfl, (Array.getElem?_eq_some_iff.1 hg).1, fun i hi => ?_⟩⟩
    rw [ints_len] at hi
    rw [ints_at, ← cellB_at l i hi, ← ht, List.getElem?_take_of_lt (by omega)]
    simp [World.cell?, hg]
theorem OwnS.past {w w' : World} {base : Nat} {v : Value} {l : List Nat} (h : OwnS w base v l) (g : Past w w') : OwnS w' base v l := by
  obtain ⟨hl, h⟩ := h
  refine ⟨hl, ?_⟩
  rcases h with ⟨rfl, h0⟩ | ⟨b, cap, cur, rfl, hb, hg, hn, hm, hs, ht⟩
  · exact .inl ⟨rfl, h0⟩
  · exact .inr ⟨b, cap, cur, rfl, hb, (g.2.2.2 b (Array.getElem?_eq_some_iff.1 hg).1).trans hg, hn, hm, hs, ht⟩
end Go.Proofs.Ytejllmjkeefloaa.Q7
namespace Go.Proofs.Ytejllmjkeefloaa.Q8
open Go.ChangeShapes Go.WideShapes Go.ChangeAt Go.RowKit
set_option maxRecDepth 20000
set_option linter.unusedVariables false
set_option linter.unusedSimpArgs false

theorem owes_row {ops : Array Oper} {S : World → Prop} {aF : Act} {o : Oper} {l : List Oper} (hg : o.guard = none) (x : Operand) (ho : o.op = .load 51 x) (b off : Nat) (hx : aF.eval x = .pointer (some ⟨b, off, none⟩)) (c : List Int) (hl : c.length = 14) (hb : ∀ w, S w → w.rangeAt b off (cellC c))
    (hp : aF.put o.dst (.agg ⟨cellC c⟩) = aF) (k : OwesAll Try.prog ops S aF l) : OwesAll Try.prog ops S aF (o :: l) := by
  refine ⟨fun w hw => ?_, k⟩
  have hwant : Region.wanted o (yielded ops aF.tmps) = true := by unfold Region.wanted; rw [hg]
  rw [if_pos hwant]
  exact wp_load_mid 51 x ho b off hx (cellC c) _ (hb w hw) Try.underlying51 rfl (by rw [C14, cellC_len, hl]) ⟨hp, hw⟩
theorem owes_neqC {ops : Array Oper} {S : World → Prop} {aF : Act} {o : Oper} {l : List Oper} (hg : o.guard = none) (x y : Operand) (ty2 : TypeId) (ho : o.op = .binOp .neq 51 x y ty2) (c d : List Int) (hc : c.length = 14) (hd : d.length = 14) (hx : aF.eval x = .agg ⟨cellC c⟩) (hy : aF.eval y = .agg ⟨cellC d⟩)
    (hp : aF.put o.dst (.bool (!decide (c = d))) = aF) (k : OwesAll Try.prog ops S aF l) : OwesAll Try.prog ops S aF (o :: l) := by
  refine ⟨fun w hw => ?_, k⟩
  have hwant : Region.wanted o (yielded ops aF.tmps) = true := by unfold Region.wanted; rw [hg]
  rw [if_pos hwant]
  exact wp_neqC x y ty2 ho c d hc hd hx hy ⟨hp, hw⟩
theorem take_eq_next {l m : List (List Int)} {n : Nat} (h : l.take n = m.take n) (hl : n < l.length) (hm : n < m.length) (e : l.getD n [] = m.getD n []) : l.take (n + 1) = m.take (n + 1) := by
  rw [List.take_succ_eq_append_getElem hl, List.take_succ_eq_append_getElem hm, h]
  simp [List.getD, hl, hm] at e
  rw [e]
end Go.Proofs.Ytejllmjkeefloaa.Q8
namespace Go.Proofs.Ytejllmjkeefloaa
open Go.ChangeShapes Go.WideShapes Go.ChangeAt Go.RowKit
set_option linter.unusedVariables false

theorem bool_any (p : Prop) : ∃ t : Bool, (t = true ↔ p) := by
  rcases Classical.em p with h | h
  · exact ⟨true, by simp [h]⟩
  · exact ⟨false, by simp [h]⟩
theorem nodes_ext {xs ys : List NodeD} (h : xs.length = ys.length) : xs = ys ↔ ∀ j, j < xs.length → xs.getD j default = ys.getD j default := by
  constructor
  · rintro rfl j _; rfl
  · intro k
    refine List.ext_getElem h (fun i h1 h2 => ?_)
    have := k i h1
    simpa [List.getD, h1, h2] using this
theorem graph_eq (a b : GraphD) : a = b ↔ a.ins = b.ins ∧ a.nodes = b.nodes ∧ a.outs = b.outs := by
  cases a
  cases b
  simp
end Go.Proofs.Ytejllmjkeefloaa
