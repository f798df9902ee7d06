/- A struct or an array of many cells that is loaded, whole, from the beginning of a box: told at once (the walk's own simp takes twice as long for each cell more). -/
import Derived.Test.YtgbedoffgahhaaaFixM
import Derived.Deep.MidRow
namespace Go.Proofs.Ytgbedoffgahhaaa
open Go

section
variable {P : Program} {ops : Array Oper} {Q : Exit → Act → World → Prop}

theorem range_box {w : World} {b o : Nat} {cells : Array Value} (h : ∀ k : Nat, w.cell? ⟨b, k, none⟩ = cells[k]?) (l : List Value) (hl : ∀ j v, l[j]? = some v → cells[o + j]? = some v) : w.rangeAt b o l := fun j v hv => by rw [h (o + j)]; exact hl j v hv

theorem wpList_load_box {rest : List Oper} {op : Oper} {a : Act} {w : World} (hgd : op.guard = none) (ty : TypeId) (x : Operand) (ho : op.op = .load ty x) (b : Nat) (cells : Array Value) {d : TypeDesc} (hx : a.eval x = .pointer (some ⟨b, 0, none⟩)) (hb : ∀ k : Nat, w.cell? ⟨b, k, none⟩ = cells[k]?)
    (hu : P.underlying ty = some d) (hd : d.isRow = true) (hi : (P.info? ty).map (·.size) = some cells.size) (h : wpList P ops Q rest (a.put op.dst (.agg cells)) w) : wpList P ops Q (op :: rest) a w :=
  wpList_load_mid hgd ty x ho b 0 hx cells.toList d (range_box hb _ (fun j v hv => by rw [Nat.zero_add]; simpa using hv)) hu hd (by simpa using hi) h

theorem wp_load_box {op : Oper} {a : Act} {w : World} {K : Act → World → Prop} (ty : TypeId) (x : Operand) (ho : op.op = .load ty x) (b : Nat) (cells : Array Value) {d : TypeDesc} (hx : a.eval x = .pointer (some ⟨b, 0, none⟩)) (hb : ∀ k : Nat, w.cell? ⟨b, k, none⟩ = cells[k]?)
    (hu : P.underlying ty = some d) (hd : d.isRow = true) (hi : (P.info? ty).map (·.size) = some cells.size) (h : K (a.put op.dst (.agg cells)) w) : op.wp P a w K Q :=
  wp_load_mid ty x ho b 0 hx cells.toList d (range_box hb _ (fun j v hv => by rw [Nat.zero_add]; simpa using hv)) hu hd (by simpa using hi) h

/-- A reading operation that loads a box; the last frame holds it. -/
theorem reads_load {S : World → Prop} {aF : Act} {bs : List Nat} {i : Nat} {o : Oper} {l : List Oper} (hg : o.guard = none) (ty : TypeId) (x : Operand) (ho : o.op = .load ty x) (b : Nat) (cells : Array Value) {d : TypeDesc} (hx : aF.eval x = .pointer (some ⟨b, 0, none⟩)) (hb : ∀ w, S w → ∀ k : Nat, w.cell? ⟨b, k, none⟩ = cells[k]?)
    (hu : P.underlying ty = some d) (hd : d.isRow = true) (hi : (P.info? ty).map (·.size) = some cells.size) (hp : aF.put o.dst (.agg cells) = aF) (k : OwesRI P ops S aF bs (i + 1) l) : OwesRI P ops S aF bs i (o :: l) := by
  refine ⟨.inr fun w hw => ?_, k⟩
  have hwant : Region.wanted o (yielded ops aF.tmps) = true := by unfold Region.wanted; rw [hg]
  rw [if_pos hwant]
  exact wp_load_box ty x ho b cells hx (hb w hw) hu hd hi ⟨hp, rfl⟩

theorem owes_load {S : World → Prop} {aF : Act} {o : Oper} {l : List Oper} (hg : o.guard = none) (ty : TypeId) (x : Operand) (ho : o.op = .load ty x) (b : Nat) (cells : Array Value) {d : TypeDesc} (hx : aF.eval x = .pointer (some ⟨b, 0, none⟩)) (hb : ∀ w, S w → ∀ k : Nat, w.cell? ⟨b, k, none⟩ = cells[k]?)
    (hu : P.underlying ty = some d) (hd : d.isRow = true) (hi : (P.info? ty).map (·.size) = some cells.size) (hp : aF.put o.dst (.agg cells) = aF) (k : OwesAll P ops S aF l) : OwesAll P ops S aF (o :: l) := by
  refine ⟨fun w hw => ?_, k⟩
  have hwant : Region.wanted o (yielded ops aF.tmps) = true := by unfold Region.wanted; rw [hg]
  rw [if_pos hwant]
  exact wp_load_box ty x ho b cells hx (hb w hw) hu hd hi ⟨hp, hw⟩
end
end Go.Proofs.Ytgbedoffgahhaaa
