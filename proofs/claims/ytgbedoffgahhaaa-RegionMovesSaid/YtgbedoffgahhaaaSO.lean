/- Spans that a call owns. -/
import Derived.Test.YtgbedoffgahhaaaSU
import Derived.Test.YtgbedoffgahhaaaV1
namespace Go.Proofs.Ytgbedoffgahhaaa
open Go.ChangeShapes Go.WideShapes Go.ChangeAt Go.RowKit
set_option maxRecDepth 20000
set_option linter.unusedVariables false
theorem infoSp : (Try.prog.info? 28).map (fun i => (i.zero, i.size, i.bytes)) = some (some (.agg #[.int .i64 0, .int .i64 0, .int .i64 0, .bool false]), 4, 32) := by kernel_rfl
def spCells (x : SpD) : List Value := [.int .i64 x.m, .int .i64 x.f, .int .i64 x.t, .bool x.w]
def spsCells (xs : List SpD) : List Value := xs.flatMap spCells
theorem spsCells_len (xs : List SpD) : (spsCells xs).length = xs.length * 4 := by
  induction xs with
  | nil => rfl
  | cons x xs ih => simp only [spsCells, List.flatMap_cons, List.length_append] at ih ⊢; rw [ih]; simp [spCells]; omega
theorem spsCells_snoc (xs : List SpD) (x : SpD) : spsCells (xs ++ [x]) = spsCells xs ++ spCells x := by simp [spsCells]
theorem spsCells_at (xs : List SpD) (i j : Nat) (hi : i < xs.length) (hj : j < 4) : (spsCells xs)[i * 4 + j]? = (spCells (xs.getD i default))[j]? := by
  induction xs generalizing i with
  | nil => simp at hi
  | cons x xs ih =>
    simp only [spsCells, List.flatMap_cons]
    cases i with
    | zero =>
      rw [Nat.zero_mul, Nat.zero_add, List.getElem?_append_left (by simp [spCells]; omega)]
      simp
    | succ i =>
      rw [List.getElem?_append_right (by simp [spCells]; omega)]
      have e : (i + 1) * 4 + j - (spCells x).length = i * 4 + j := by simp [spCells]; omega
      rw [e]
      simp only [List.length_cons] at hi
      have := ih i (by omega)
      simp only [spsCells] at this
      rw [this]
      simp

def OwnSps (w : World) (base : Nat) (v : Value) (xs : List SpD) : Prop := w.ownsRow base 28 4 v xs.length (spsCells xs)

theorem sps_of_own {w : World} {base : Nat} {v : Value} {xs : List SpD} (ho : OwnSps w base v xs) (wf : ∀ x ∈ xs, SpWf x) : IsSpans w v xs := by
  obtain ⟨hl, h⟩ := ho
  rcases h with ⟨rfl, h0⟩ | ⟨b, cap, cur, rfl, hb, hg, hn, hm, hs, ht⟩
  · have : xs = [] := List.eq_nil_of_length_eq_zero h0
    subst this
    exact ⟨none, 0, rfl, Nat.le_refl _, Nat.zero_le _, fun _ => rfl, by simp, by simp⟩
  · refine ⟨some ⟨b, 0, none⟩, cap, rfl, hn, hm, (fun h => by cases h), wf, fun hp => ⟨b, 0, rfl, (Array.getElem?_eq_some_iff.1 hg).1, fun i hi => ?_⟩⟩
    have key : ∀ j, j < 4 → w.cell? ⟨b, 0 + i * 4 + j, none⟩ = (spCells (xs.getD i default))[j]? := fun j hj => by
      rw [← spsCells_at xs i j hi hj, ← ht, List.getElem?_take_of_lt (by omega)]
      simp [World.cell?, hg]
    exact ⟨key 0 (by omega), key 1 (by omega), key 2 (by omega), key 3 (by omega)⟩

theorem sp_one (x : SpD) : ∀ u ∈ spCells x, u.oneCell' = true := by
  intro u hu
  simp only [spCells, List.mem_cons, List.not_mem_nil, or_false] at hu
  rcases hu with rfl | rfl | rfl | rfl <;> rfl
theorem sps_one' (xs : List SpD) : ∀ u ∈ spsCells xs, u.oneCell' = true := by
  intro u hu
  simp only [spsCells, List.mem_flatMap] at hu
  obtain ⟨x, _, h⟩ := hu
  exact sp_one x u h

theorem ownSps_new {w : World} {base : Nat} (hb : base ≤ w.heap.size) : OwnSps (w.alloc (.cells #[] 28)) base (.slice (some ⟨w.heap.size, 0, none⟩) 0 0) [] := World.ownsRow_lit w #[] 0 hb (by decide) (by simp)
theorem ownSps_nil (w : World) (base : Nat) : OwnSps w base (.slice none 0 0) [] := ⟨by simp [spsCells], .inl ⟨rfl, rfl⟩⟩
theorem OwnSps.past {w w' : World} {base : Nat} {v : Value} {xs : List SpD} (h : OwnSps w base v xs) (g : Past w w') : OwnSps w' base v xs := own_past' h g
/-- append of one span to a row that the call owns. -/
theorem wpList_append_sp {ops : Array Oper} {Q : Exit → Act → World → Prop} {rest : List Oper} {o : Oper} {a : Act} {w : World} (hgd : o.guard = none) (s x : Operand) (ho : o.op = .call { callee := .builtin .append, args := #[s, x], argTypes := #[22, 22] })
    (base : Nat) (v : Value) (xs : List SpD) (hs : a.eval s = v) (hown : OwnSps w base v xs) (y : SpD) (b c : Nat) (hx : a.eval x = .slice (some ⟨b, 0, none⟩) 1 c) (hy : (∀ o : Nat, w.cell? ⟨b, o, none⟩ = (#[.int .i64 y.m, .int .i64 y.f, .int .i64 y.t, .bool y.w] : Array Value)[o]?)) (hm : xs.length + 1 ≤ 1000000) (hbase : base ≤ w.heap.size)
    (h : ∀ v' w', OwnSps w' base v' (xs ++ [y]) → w.grownBy w' v.ownBlock → wpList Try.prog ops Q rest (a.put o.dst v') w') : wpList Try.prog ops Q (o :: rest) a w := by
  obtain ⟨i, hi, hz, hsz, hb⟩ := info_parts infoSp
  refine wpList_append_own _ hgd s x 22 ho base 28 i _ 4 32 Try.underlying22 hi hz hsz hb rfl (by decide) v xs.length (spsCells xs) hs hown ⟨b, 0, none⟩ 1 c (spCells y) hx rfl (fun j u hu => ?_) (sp_one y) (by unfold maxLen; omega) (by omega) hbase ?_
  · rw [add_plain, Nat.zero_add]
    have := hy j
    rw [this]
    simpa [spCells] using hu
  · intro v' w' ow g _
    refine h v' w' ?_ g
    unfold OwnSps
    rw [spsCells_snoc]
    simpa using ow
end Go.Proofs.Ytgbedoffgahhaaa
