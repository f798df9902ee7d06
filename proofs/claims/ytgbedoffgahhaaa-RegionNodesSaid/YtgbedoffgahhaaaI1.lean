/- isa: a field, whether it is beyond its bounds; told; the closures. -/
import Derived.Test.YtgbedoffgahhaaaI0
import Derived.Test.YtgbedoffgahhaaaFixS
import Derived.Test.YtgbedoffgahhaaaFixE
import Derived.Test.YtgbedoffgahhaaaBox2
import Derived.Laws.ResultCell
namespace Go.Proofs.Ytgbedoffgahhaaa.Q8
open Go.ChangeShapes Go.WideShapes Go.ChangeAt Go.RowKit
set_option maxRecDepth 20000
set_option linter.unusedVariables false
set_option linter.unusedSimpArgs false

theorem box_set4 {w : World} {b : Nat} {x0 x1 x2 x3 y0 y1 y2 y3 : Value} (h : (∀ o : Nat, w.cell? ⟨b, o, none⟩ = (#[x0, x1, x2, x3] : Array Value)[o]?)) : (∀ o : Nat, ((((w.setCell ⟨b, 0, none⟩ y0).setCell ⟨b, 1, none⟩ y1).setCell ⟨b, 2, none⟩ y2).setCell ⟨b, 3, none⟩ y3).cell? ⟨b, o, none⟩ = (#[y0, y1, y2, y3] : Array Value)[o]?) := by
  have h0 := h 0
  have h1 := h 1
  have h2 := h 2
  have h3 := h 3
  have c0 : (((w.setCell ⟨b, 0, none⟩ y0).setCell ⟨b, 1, none⟩ y1).setCell ⟨b, 2, none⟩ y2).cell? ⟨b, 3, none⟩ = some x3 := by
    rw [World.cell?_setCell_other _ _ _ _ (by simp), World.cell?_setCell_other _ _ _ _ (by simp), World.cell?_setCell_other _ _ _ _ (by simp)]; exact h3
  have c1 : ((w.setCell ⟨b, 0, none⟩ y0).setCell ⟨b, 1, none⟩ y1).cell? ⟨b, 2, none⟩ = some x2 := by
    rw [World.cell?_setCell_other _ _ _ _ (by simp), World.cell?_setCell_other _ _ _ _ (by simp)]; exact h2
  have c2 : (w.setCell ⟨b, 0, none⟩ y0).cell? ⟨b, 1, none⟩ = some x1 := by
    rw [World.cell?_setCell_other _ _ _ _ (by simp)]; exact h1
  intro o
  match o with
  | 0 =>
    rw [World.cell?_setCell_other _ _ _ _ (by simp), World.cell?_setCell_other _ _ _ _ (by simp), World.cell?_setCell_other _ _ _ _ (by simp)]
    exact World.cell?_setCell_same w _ _ h0
  | 1 =>
    rw [World.cell?_setCell_other _ _ _ _ (by simp), World.cell?_setCell_other _ _ _ _ (by simp)]
    exact World.cell?_setCell_same _ _ _ c2
  | 2 =>
    rw [World.cell?_setCell_other _ _ _ _ (by simp)]
    exact World.cell?_setCell_same _ _ _ c1
  | 3 => exact World.cell?_setCell_same _ _ _ c0
  | k + 4 =>
    rw [World.cell?_setCell_other _ _ _ _ (by simp), World.cell?_setCell_other _ _ _ _ (by simp), World.cell?_setCell_other _ _ _ _ (by simp), World.cell?_setCell_other _ _ _ _ (by simp)]
    have := h (k + 4)
    simpa using this

theorem box_setAll {w : World} {b : Nat} {old new : Array Value} (h : (∀ o : Nat, w.cell? ⟨b, o, none⟩ = (old : Array Value)[o]?)) (hl : old.size = new.size) : (∀ o : Nat, (w.setCells b 0 new.toList).cell? ⟨b, o, none⟩ = (new : Array Value)[o]?) := by
  intro k
  by_cases c : k < new.size
  · have := World.cell?_setCells_in b new.toList 0 w (fun i hi => by
      rw [Nat.zero_add, h i, Array.getElem?_eq_getElem (by simpa [hl] using hi)]; rfl) k (by simpa using c)
    rw [Nat.zero_add] at this
    rw [this, Array.getElem?_eq_getElem c]
    simp
  · rw [World.cell?_setCells_out b new.toList 0 w ⟨b, k, none⟩ (fun _ _ => Or.inr (by simp; omega)), h k, Array.getElem?_eq_none (by omega), Array.getElem?_eq_none (by omega)]
theorem grown_setAll {W : World} {b : Nat} (hb : W.heap.size ≤ b) : ∀ (l : List Value) (w : World) (o : Nat), Grown W w → Grown W (w.setCells b o l)
  | [], _, _, g => g
  | v :: l, w, o, g => by simp only [World.setCells]; exact grown_setAll hb l _ _ (Grown.setCell g (by simpa using hb) _)
theorem past_setAll {W : World} {b : Nat} (hb : W.heap.size ≤ b) : ∀ (l : List Value) (w : World) (o : Nat), Past W w → Past W (w.setCells b o l)
  | [], _, _, g => g
  | v :: l, w, o, g => by simp only [World.setCells]; exact past_setAll hb l _ _ (Past.setCell g (by simpa using hb) _)
theorem box_setOther {b b2 : Nat} {cs : Array Value} (hn : b ≠ b2) : ∀ (l : List Value) (w : World) (s : Nat), (∀ o : Nat, w.cell? ⟨b2, o, none⟩ = (cs : Array Value)[o]?) → (∀ o : Nat, (w.setCells b s l).cell? ⟨b2, o, none⟩ = (cs : Array Value)[o]?)
  | [], _, _, g => g
  | v :: l, w, o, g => by simp only [World.setCells]; exact box_setOther hn l _ _ (box_set g hn)
theorem free_setAll {b b2 : Nat} (l : List Value) {w : World} {s : Nat} (h : (∀ o : Nat, w.frozen? ⟨b2, o, none⟩ = false)) : (∀ o : Nat, (w.setCells b s l).frozen? ⟨b2, o, none⟩ = false) := fun k => (World.frozen?_setCells b l s w _).trans (h k)
theorem size_setAll {b m : Nat} : ∀ (l : List Value) (w : World) (o : Nat), m ≤ w.heap.size → m ≤ (w.setCells b o l).heap.size
  | [], _, _, g => g
  | v :: l, w, o, g => by simp only [World.setCells]; exact size_setAll l _ _ (size_set g)
theorem opqb {P : Program} {f : Func} {Q : Ending → World → Prop} {e : Exit} {a : Act} {w : World} (S : World → Prop) (h : S w) (k : ∀ w', S w' → bodyPost P f Q e a w') : bodyPost P f Q e a w := k w h

/-- A struct (or an array) is stored, whole, into a box of its own: the world behind it is a letter. -/
theorem wpList_store_box {P : Program} {ops : Array Oper} {rest : List Oper} {op : Oper} {a : Act} {w : World} {Q : Exit → Act → World → Prop} (hgd : op.guard = none) (ty : TypeId) (x y : Operand) (ho : op.op = .store ty x y)
    (b : Nat) (cells old : Array Value) (hx : a.eval x = .pointer (some ⟨b, 0, none⟩)) (hy : a.eval y = .agg cells) (hb : (∀ o : Nat, w.cell? ⟨b, o, none⟩ = (old : Array Value)[o]?)) (hf : (∀ o : Nat, w.frozen? ⟨b, o, none⟩ = false)) (hs : old.size = cells.size)
    (hi : (P.info? ty).map (·.size) = some cells.size) (h1 : cells.all (·.oneCell') = true) (S : World → Prop) (hS : S (w.setCells b 0 cells.toList)) (h : ∀ w', S w' → wpList P ops Q rest (a.put op.dst undef) w') : wpList P ops Q (op :: rest) a w :=
  wpList_store_mid hgd ty x y ho b 0 cells hx hy (fun j hj => ⟨by rw [Nat.zero_add, hb j, Array.getElem?_eq_getElem (by omega)]; rfl, by rw [Nat.zero_add]; exact hf j⟩) hi h1 (h _ hS)

/-- A result that is a box of its own, and one that is not: told at once. -/
theorem ret_box {P : Program} {fn : Func} {a : Act} {w : World} {R : Ending → World → Prop} {p u : Tmp} {ty : TypeId} (h : fn.results = #[.cell p ty, .tmp u]) (b : Nat) (cells : Array Value) (d : TypeDesc) (x : Value) (hp : a.tmps.getD p undef = .pointer (some ⟨b, 0, none⟩)) (hx : a.tmps.getD u undef = x) (hb : (∀ o : Nat, w.cell? ⟨b, o, none⟩ = (cells : Array Value)[o]?))
    (hu : P.underlying ty = some d) (hd : d.isRow = true) (hi : (P.info? ty).map (·.size) = some cells.size) (hdf : a.defers = []) (hR : R (.returned (.tuple #[.agg cells, x])) w) : bodyPost P fn R .ret a w := by
  refine bodyPost_ret (v := .tuple #[.agg cells, x]) ?_ hdf hR
  rw [results_cell_tmp h, hp, hx]
  have hl := run_loadVar_mid (P := P) w b 0 ty cells.toList d (fun j v hv => by rw [Nat.zero_add, hb j]; simpa using hv) hu hd (by simpa using hi)
  have e1 : (asAddr (.pointer (some ⟨b, 0, none⟩))).run P w = .ok ⟨b, 0, none⟩ w := rfl
  rw [e1]
  simp only [Result.andThen]
  rw [hl]

/-- The cells of a field of the command at block P. -/
def fldC (P : Nat) (f : Fld) : List Value := [.pointer (some ⟨P, f.pos, none⟩), .int .i64 f.lo, .int .i64 f.hi, .int .i64 (f.wide : Int)]
def fldV (P : Nat) (f : Fld) : Value := .agg ⟨fldC P f⟩
def fldsC (P : Nat) (fs : List Fld) : List Value := fs.flatMap (fldC P)
/-- A row of fields, at the beginning of a block. -/
def IsFlds (w : World) (P : Nat) (v : Value) (fs : List Fld) : Prop :=
  (fs = [] ∧ v = .slice none 0 0) ∨ ∃ b, v = .slice (some ⟨b, 0, none⟩) fs.length fs.length ∧ b < w.heap.size ∧ (∀ o : Nat, w.cell? ⟨b, o, none⟩ = (⟨fldsC P fs⟩ : Array Value)[o]?)
theorem IsFlds.past {w w' : World} {P : Nat} {v : Value} {fs : List Fld} (h : IsFlds w P v fs) (g : Past w w') : IsFlds w' P v fs := by
  rcases h with h | ⟨b, e, hb, hc⟩
  · exact .inl h
  · exact .inr ⟨b, e, Nat.lt_of_lt_of_le hb g.2.2.1, box_past g hc hb⟩

set_option maxHeartbeats 1000000 in
theorem beyond_any (P : Nat) (f : Fld) (x : Int) (W : World) (hx : W.cell? ⟨P, f.pos, none⟩ = some (.int .i64 x)) :
    Calls Try.prog 39 #[fldV P f] W fun e w' => e = .returned (.bool (!decide (f.lo ≤ x ∧ x ≤ f.hi))) ∧ Past W w' := by
  obtain ⟨po, lo, hi, wd⟩ := f
  simp only at hx ⊢
  show Calls _ _ #[.agg #[.pointer (some ⟨P, po, none⟩), .int .i64 lo, .int .i64 hi, .int .i64 (wd : Int)]] _ _
  have hP := cell_lt hx
  by_cases h1 : x < lo
  · have d1 : decide (x < lo) = true := by simpa using h1
    have d2 : (!decide (lo ≤ x ∧ x ≤ hi)) = true := by simp; omega
    rw [d2]
    clear d2
    go_enter Try.func39, Try.ntmps39
    go_upto_region 1 with fail
    refine opq (fun w' => (∀ o : Nat, w'.cell? ⟨W.heap.size, o, none⟩ = (#[.pointer (some ⟨P, po, none⟩), .int .i64 lo, .int .i64 hi, .int .i64 (wd : Int)] : Array Value)[o]?) ∧ w'.cell? ⟨P, po, none⟩ = some (.int .i64 x) ∧ Past W w') kKeep ?_
    rintro w1 ⟨b1, c1, p1⟩
    have P1 := Lib.hid p1
    clear p1 hx hP
    go_quiet (fail)
    go_wp2_with fail
    go_ret
    exact ⟨rfl, P1.out⟩
  · have d1 : decide (x < lo) = false := by simpa using h1
    have d2 : (!decide (lo ≤ x ∧ x ≤ hi)) = decide (hi < x) := by
      have : lo ≤ x := by omega
      simp only [this, true_and]
      by_cases q : x ≤ hi
      · have : ¬ hi < x := by omega
        simp [q, this]
      · have : hi < x := by omega
        simp [q, this]
    rw [d2]
    clear d2
    go_enter Try.func39, Try.ntmps39
    go_upto_region 1 with fail
    refine opq (fun w' => (∀ o : Nat, w'.cell? ⟨W.heap.size, o, none⟩ = (#[.pointer (some ⟨P, po, none⟩), .int .i64 lo, .int .i64 hi, .int .i64 (wd : Int)] : Array Value)[o]?) ∧ w'.cell? ⟨P, po, none⟩ = some (.int .i64 x) ∧ Past W w') kKeep ?_
    rintro w1 ⟨b1, c1, p1⟩
    have P1 := Lib.hid p1
    clear p1 hx hP
    go_quiet (fail)
    go_wp2_with fail
    go_ret
    exact ⟨rfl, P1.out⟩

theorem told_any (v : Value) (A : Option Addr) (n c : Nat) (hv : v = .slice A n c) (W : World) : Calls Try.prog 59 #[v] W fun e w' => e = .returned (.tuple #[v, .bool true]) ∧ w' = W := by
  subst hv
  go_enter Try.func59, Try.ntmps59
  go_wp2_with fail
  go_ret2
  exact ⟨rfl, rfl⟩
end Go.Proofs.Ytgbedoffgahhaaa.Q8
