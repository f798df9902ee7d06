/- isa: a field, whether it is beyond its bounds; told; the closures. isa: fields of a kind. Commands as values: boxes of fourteen numbers; two commands compared. -/
import Derived.Laws.ResultCell
import Derived.Test.YtejllmjkeefloaaLG6B
import Derived.Test.YtejllmjkeefloaaLFixE
import Derived.Test.YtejllmjkeefloaaLG8
namespace Go.Proofs.Ytejllmjkeefloaa.Q8
open Go.ChangeShapes Go.WideShapes Go.ChangeAt Go.RowKit
set_option maxRecDepth 20000
set_option linter.unusedVariables false
set_option linter.unusedSimpArgs false

theorem box_set4 {w : World} {b : Nat} {x0 x1 x2 x3 y0 y1 y2 y3 : Value} (h : (∀ o : Nat, w.cell? ⟨b, o, none⟩ = (#[x0, x1, x2, x3] : Array Value)[o]?)) : (∀ o : Nat, ((((w.setCell ⟨b, 0, none⟩ y0).setCell ⟨b, 1, none⟩ y1).setCell ⟨b, 2, none⟩ y2).setCell ⟨b, 3, none⟩ y3).cell? ⟨b, o, none⟩ = (#[y0, y1, y2, y3] : Array Value)[o]?) := by
  have h0 := h 0
  have h1 := h 1
  have h2 := h 2
  have h3 := h 3
  have c0 : (((w.setCell ⟨b, 0, none⟩ y0).setCell ⟨b, 1, none⟩ y1).setCell ⟨b, 2, none⟩ y2).cell? ⟨b, 3, none⟩ = some x3 := by
    rw [World.cell?_setCell_other _ _ _ _ (by simp), World.cell?_setCell_other _ _ _ _ (by simp), World.cell?_setCell_other _ _ _ _ (by simp)]; exact h3
  have c1 : ((w.setCell ⟨b, 0, none⟩ y0).setCell ⟨b, 1, none⟩ y1).cell? ⟨b, 2, none⟩ = some x2 := by
    rw [World.cell?_setCell_other _ _ _ _ (by simp), World.cell?_setCell_other _ _ _ _ (by simp)]; exact h2
  have c2 : (w.setCell ⟨b, 0, none⟩ y0).cell? ⟨b, 1, none⟩ = some x1 := by
    rw [World.cell?_setCell_other _ _ _ _ (by simp)]; exact h1
  intro o
  match o with
  | 0 =>
    rw [World.cell?_setCell_other _ _ _ _ (by simp), World.cell?_setCell_other _ _ _ _ (by simp), World.cell?_setCell_other _ _ _ _ (by simp)]
    exact World.cell?_setCell_same w _ _ h0
  | 1 =>
    rw [World.cell?_setCell_other _ _ _ _ (by simp), World.cell?_setCell_other _ _ _ _ (by simp)]
    exact World.cell?_setCell_same _ _ _ c2
  | 2 =>
    rw [World.cell?_setCell_other _ _ _ _ (by simp)]
    exact World.cell?_setCell_same _ _ _ c1
  | 3 => exact World.cell?_setCell_same _ _ _ c0
  | k + 4 =>
    rw [World.cell?_setCell_other _ _ _ _ (by simp), World.cell?_setCell_other _ _ _ _ (by simp), World.cell?_setCell_other _ _ _ _ (by simp), World.cell?_setCell_other _ _ _ _ (by simp)]
    have := h (k + 4)
    simpa using this
theorem box_setAll {w : World} {b : Nat} {old new : Array Value} (h : (∀ o : Nat, w.cell? ⟨b, o, none⟩ = (old : Array Value)[o]?)) (hl : old.size = new.size) : (∀ o : Nat, (w.setCells b 0 new.toList).cell? ⟨b, o, none⟩ = (new : Array Value)[o]?) := by
  intro k
  by_cases c : k < new.size
  · have := World.cell?_setCells_in b new.toList 0 w (fun i hi => by
      rw [Nat.zero_add, h i, Array.getElem?_eq_getElem (by simpa [hl] using hi)]; rfl) k (by simpa using c)
    rw [Nat.zero_add] at this
    rw [this, Array.getElem?_eq_getElem c]
    simp
  · rw [World.cell?_setCells_out b new.toList 0 w ⟨b, k, none⟩ (fun _ _ => Or.inr (by simp; omega)), h k, Array.getElem?_eq_none (by omega), Array.getElem?_eq_none (by omega)]
theorem past_setAll {W : World} {b : Nat} (hb : W.heap.size ≤ b) : ∀ (l : List Value) (w : World) (o : Nat), Past W w → Past W (w.setCells b o l)
  | [], _, _, g => g
  | v :: l, w, o, g => by simp only [World.setCells]; exact past_setAll hb l _ _ (Past.setCell g (by simpa using hb) _)
theorem free_setAll {b b2 : Nat} (l : List Value) {w : World} {s : Nat} (h : (∀ o : Nat, w.frozen? ⟨b2, o, none⟩ = false)) : (∀ o : Nat, (w.setCells b s l).frozen? ⟨b2, o, none⟩ = false) := fun k => (World.frozen?_setCells b l s w _).trans (h k)
theorem size_setAll {b m : Nat} : ∀ (l : List Value) (w : World) (o : Nat), m ≤ w.heap.size → m ≤ (w.setCells b o l).heap.size
  | [], _, _, g => g
  | v :: l, w, o, g => by simp only [World.setCells]; exact size_setAll l _ _ (size_set g)
/-- A struct (or an array) is stored, whole, into a box of its own: the world behind it is a letter. -/
theorem wpList_store_box {P : Program} {ops : Array Oper} {rest : List Oper} {op : Oper} {a : Act} {w : World} {Q : Exit → Act → World → Prop} (hgd : op.guard = none) (ty : TypeId) (x y : Operand) (ho : op.op = .store ty x y)
    (b : Nat) (cells old : Array Value) (hx : a.eval x = .pointer (some ⟨b, 0, none⟩)) (hy : a.eval y = .agg cells) (hb : (∀ o : Nat, w.cell? ⟨b, o, none⟩ = (old : Array Value)[o]?)) (hf : (∀ o : Nat, w.frozen? ⟨b, o, none⟩ = false)) (hs : old.size = cells.size)
    (hi : (P.info? ty).map (·.size) = some cells.size) (h1 : cells.all (·.oneCell') = true) (S : World → Prop) (hS : S (w.setCells b 0 cells.toList)) (h : ∀ w', S w' → wpList P ops Q rest (a.put op.dst undef) w') : wpList P ops Q (op :: rest) a w :=
  wpList_store_mid hgd ty x y ho b 0 cells hx hy (fun j hj => ⟨by rw [Nat.zero_add, hb j, Array.getElem?_eq_getElem (by omega)]; rfl, by rw [Nat.zero_add]; exact hf j⟩) hi h1 (h _ hS)
/-- The cells of a field of the command at block P. -/
def fldC (P : Nat) (f : Fld) : List Value := [.pointer (some ⟨P, f.pos, none⟩), .int .i64 f.lo, .int .i64 f.hi, .int .i64 (f.wide : Int)]
def fldV (P : Nat) (f : Fld) : Value := .agg ⟨fldC P f⟩
def fldsC (P : Nat) (fs : List Fld) : List Value := fs.flatMap (fldC P)
/-- A row of fields, at the beginning of a block. -/
def IsFlds (w : World) (P : Nat) (v : Value) (fs : List Fld) : Prop :=
  (fs = [] ∧ v = .slice none 0 0) ∨ ∃ b, v = .slice (some ⟨b, 0, none⟩) fs.length fs.length ∧ b < w.heap.size ∧ (∀ o : Nat, w.cell? ⟨b, o, none⟩ = (⟨fldsC P fs⟩ : Array Value)[o]?)
theorem IsFlds.past {w w' : World} {P : Nat} {v : Value} {fs : List Fld} (h : IsFlds w P v fs) (g : Past w w') : IsFlds w' P v fs := by
  rcases h with h | ⟨b, e, hb, hc⟩
  · exact .inl h
  · exact .inr ⟨b, e, Nat.lt_of_lt_of_le hb g.2.2.1, box_past g hc hb⟩
set_option maxHeartbeats 1000000 in
theorem beyond_any (P : Nat) (f : Fld) (x : Int) (W : World) (hx : W.cell? ⟨P, f.pos, none⟩ = some (.int .i64 x)) :
    Calls Try.prog 105 #[fldV P f] W fun e w' => e = .returned (.bool (!decide (f.lo ≤ x ∧ x ≤ f.hi))) ∧ Past W w' := by
  obtain ⟨po, lo, hi, wd⟩ := f
  simp only at hx ⊢
  show Calls _ _ #[.agg #[.pointer (some ⟨P, po, none⟩), .int .i64 lo, .int .i64 hi, .int .i64 (wd : Int)]] _ _
  have hP := cell_lt hx
  by_cases h1 : x < lo
  · have d1 : decide (x < lo) = true := by simpa using h1
    have d2 : (!decide (lo ≤ x ∧ x ≤ hi)) = true := by simp; omega
    rw [d2]
    clear d2
    go_enter Try.func105, Try.ntmps105
    go_upto_region 1 with fail
    refine opq (fun w' => (∀ o : Nat, w'.cell? ⟨W.heap.size, o, none⟩ = (#[.pointer (some ⟨P, po, none⟩), .int .i64 lo, .int .i64 hi, .int .i64 (wd : Int)] : Array Value)[o]?) ∧ w'.cell? ⟨P, po, none⟩ = some (.int .i64 x) ∧ Past W w') kKeep ?_
    rintro w1 ⟨b1, c1, p1⟩
    have P1 := Lib.hid p1
    clear p1 hx hP
    go_quiet (fail)
    go_wp2_with fail
    go_ret
    exact ⟨rfl, P1.out⟩
  · have d1 : decide (x < lo) = false := by simpa using h1
    have d2 : (!decide (lo ≤ x ∧ x ≤ hi)) = decide (hi < x) := by
      have : lo ≤ x := by omega
      simp only [this, true_and]
      by_cases q : x ≤ hi
      · have : ¬ hi < x := by omega
        simp [q, this]
      · have : hi < x := by omega
        simp [q, this]
    rw [d2]
    clear d2
    go_enter Try.func105, Try.ntmps105
    go_upto_region 1 with fail
    refine opq (fun w' => (∀ o : Nat, w'.cell? ⟨W.heap.size, o, none⟩ = (#[.pointer (some ⟨P, po, none⟩), .int .i64 lo, .int .i64 hi, .int .i64 (wd : Int)] : Array Value)[o]?) ∧ w'.cell? ⟨P, po, none⟩ = some (.int .i64 x) ∧ Past W w') kKeep ?_
    rintro w1 ⟨b1, c1, p1⟩
    have P1 := Lib.hid p1
    clear p1 hx hP
    go_quiet (fail)
    go_wp2_with fail
    go_ret
    exact ⟨rfl, P1.out⟩
theorem told_any (v : Value) (A : Option Addr) (n c : Nat) (hv : v = .slice A n c) (W : World) : Calls Try.prog 126 #[v] W fun e w' => e = .returned (.tuple #[v, .bool true]) ∧ w' = W := by
  subst hv
  go_enter Try.func126, Try.ntmps126
  go_wp2_with fail
  go_ret2
  exact ⟨rfl, rfl⟩
end Go.Proofs.Ytejllmjkeefloaa.Q8
namespace Go.Proofs.Ytejllmjkeefloaa.Q8
open Go.ChangeShapes Go.WideShapes Go.ChangeAt Go.RowKit
set_option maxRecDepth 20000
set_option linter.unusedVariables false
set_option linter.unusedSimpArgs false

set_option maxHeartbeats 1000000 in
theorem part1_any (i : Nat) (hi : i = 0 ∨ i = 1) (P Q : Nat) (W : World) (hq : (∀ o : Nat, W.cell? ⟨Q, o, none⟩ = (#[.pointer (some ⟨P, 0, none⟩)] : Array Value)[o]?)) :
    Calls Try.prog 123 #[.int .i64 (i : Int), .pointer (some ⟨Q, 0, none⟩)] W fun e w' => e = .returned (fldV P ⟨8 + i, 0, 1023, 2⟩) ∧ Past W w' := by
  have hQ : Q < W.heap.size := cell_lt (hq 0)
  rcases hi with rfl | rfl
  all_goals
    go_enter Try.func123, Try.ntmps123
    go_upto_region 1 with fail
    refine opq (fun w' => (∀ o : Nat, w'.cell? ⟨Q, o, none⟩ = (#[.pointer (some ⟨P, 0, none⟩)] : Array Value)[o]?) ∧ (∀ o : Nat, w'.cell? ⟨W.heap.size, o, none⟩ = (#[.pointer none, .int .i64 0, .int .i64 0, .int .i64 0] : Array Value)[o]?) ∧ (∀ o : Nat, w'.frozen? ⟨W.heap.size, o, none⟩ = false) ∧ Past W w' ∧ W.heap.size + 1 ≤ w'.heap.size) kKeep ?_
    rintro w1 ⟨b1, b2, f2, p1, z1⟩
    have P1 := Lib.hid p1
    clear p1
    go_wp2_with fail
  · have b4 := box_set4 (y0 := .pointer (some ⟨P, 8 + 0, none⟩)) (y1 := .int .i64 0) (y2 := .int .i64 1023) (y3 := .int .i64 2) b2
    exact bodyPost_ret (v := .agg #[.pointer (some ⟨P, 8 + 0, none⟩), .int .i64 0, .int .i64 1023, .int .i64 2]) (by simp [results, Try.results123, go_sem, b4]) rfl ⟨rfl, by have := P1.out; (exact kKeep)⟩
  · have b4 := box_set4 (y0 := .pointer (some ⟨P, 8 + 1, none⟩)) (y1 := .int .i64 0) (y2 := .int .i64 1023) (y3 := .int .i64 2) b2
    exact bodyPost_ret (v := .agg #[.pointer (some ⟨P, 8 + 1, none⟩), .int .i64 0, .int .i64 1023, .int .i64 2]) (by simp [results, Try.results123, go_sem, b4]) rfl ⟨rfl, by have := P1.out; (exact kKeep)⟩
set_option maxHeartbeats 1000000 in
theorem part2_any (i : Nat) (hi : i = 0 ∨ i = 1) (P Q : Nat) (W : World) (hq : (∀ o : Nat, W.cell? ⟨Q, o, none⟩ = (#[.pointer (some ⟨P, 0, none⟩)] : Array Value)[o]?)) :
    Calls Try.prog 124 #[.int .i64 (i : Int), .pointer (some ⟨Q, 0, none⟩)] W fun e w' => e = .returned (fldV P ⟨10 + i, 0, 15, 1⟩) ∧ Past W w' := by
  have hQ : Q < W.heap.size := cell_lt (hq 0)
  rcases hi with rfl | rfl
  all_goals
    go_enter Try.func124, Try.ntmps124
    go_upto_region 1 with fail
    refine opq (fun w' => (∀ o : Nat, w'.cell? ⟨Q, o, none⟩ = (#[.pointer (some ⟨P, 0, none⟩)] : Array Value)[o]?) ∧ (∀ o : Nat, w'.cell? ⟨W.heap.size, o, none⟩ = (#[.pointer none, .int .i64 0, .int .i64 0, .int .i64 0] : Array Value)[o]?) ∧ (∀ o : Nat, w'.frozen? ⟨W.heap.size, o, none⟩ = false) ∧ Past W w' ∧ W.heap.size + 1 ≤ w'.heap.size) kKeep ?_
    rintro w1 ⟨b1, b2, f2, p1, z1⟩
    have P1 := Lib.hid p1
    clear p1
    go_wp2_with fail
  · have b4 := box_set4 (y0 := .pointer (some ⟨P, 10 + 0, none⟩)) (y1 := .int .i64 0) (y2 := .int .i64 15) (y3 := .int .i64 1) b2
    exact bodyPost_ret (v := .agg #[.pointer (some ⟨P, 10 + 0, none⟩), .int .i64 0, .int .i64 15, .int .i64 1]) (by simp [results, Try.results124, go_sem, b4]) rfl ⟨rfl, by have := P1.out; (exact kKeep)⟩
  · have b4 := box_set4 (y0 := .pointer (some ⟨P, 10 + 1, none⟩)) (y1 := .int .i64 0) (y2 := .int .i64 15) (y3 := .int .i64 1) b2
    exact bodyPost_ret (v := .agg #[.pointer (some ⟨P, 10 + 1, none⟩), .int .i64 0, .int .i64 15, .int .i64 1]) (by simp [results, Try.results124, go_sem, b4]) rfl ⟨rfl, by have := P1.out; (exact kKeep)⟩
set_option maxHeartbeats 1000000 in
theorem part3_any (i : Nat) (hi : i = 0 ∨ i = 1) (P Q : Nat) (W : World) (hq : (∀ o : Nat, W.cell? ⟨Q, o, none⟩ = (#[.pointer (some ⟨P, 0, none⟩)] : Array Value)[o]?)) :
    Calls Try.prog 125 #[.int .i64 (i : Int), .pointer (some ⟨Q, 0, none⟩)] W fun e w' => e = .returned (fldV P ⟨12 + i, 0, 16, 1⟩) ∧ Past W w' := by
  have hQ : Q < W.heap.size := cell_lt (hq 0)
  rcases hi with rfl | rfl
  all_goals
    go_enter Try.func125, Try.ntmps125
    go_upto_region 1 with fail
    refine opq (fun w' => (∀ o : Nat, w'.cell? ⟨Q, o, none⟩ = (#[.pointer (some ⟨P, 0, none⟩)] : Array Value)[o]?) ∧ (∀ o : Nat, w'.cell? ⟨W.heap.size, o, none⟩ = (#[.pointer none, .int .i64 0, .int .i64 0, .int .i64 0] : Array Value)[o]?) ∧ (∀ o : Nat, w'.frozen? ⟨W.heap.size, o, none⟩ = false) ∧ Past W w' ∧ W.heap.size + 1 ≤ w'.heap.size) kKeep ?_
    rintro w1 ⟨b1, b2, f2, p1, z1⟩
    have P1 := Lib.hid p1
    clear p1
    go_wp2_with fail
  · have b4 := box_set4 (y0 := .pointer (some ⟨P, 12 + 0, none⟩)) (y1 := .int .i64 0) (y2 := .int .i64 16) (y3 := .int .i64 1) b2
    exact bodyPost_ret (v := .agg #[.pointer (some ⟨P, 12 + 0, none⟩), .int .i64 0, .int .i64 16, .int .i64 1]) (by simp [results, Try.results125, go_sem, b4]) rfl ⟨rfl, by have := P1.out; (exact kKeep)⟩
  · have b4 := box_set4 (y0 := .pointer (some ⟨P, 12 + 1, none⟩)) (y1 := .int .i64 0) (y2 := .int .i64 16) (y3 := .int .i64 1) b2
    exact bodyPost_ret (v := .agg #[.pointer (some ⟨P, 12 + 1, none⟩), .int .i64 0, .int .i64 16, .int .i64 1]) (by simp [results, Try.results125, go_sem, b4]) rfl ⟨rfl, by have := P1.out; (exact kKeep)⟩
end Go.Proofs.Ytejllmjkeefloaa.Q8
namespace Go.Proofs.Ytejllmjkeefloaa.Q8
open Go.ChangeShapes Go.WideShapes Go.ChangeAt Go.RowKit
set_option maxRecDepth 20000
set_option linter.unusedVariables false
set_option linter.unusedSimpArgs false

def cellC (c : List Int) : List Value := c.map (Value.int .i64)
theorem cellC_len (c : List Int) : (cellC c).length = c.length := by simp [cellC]
theorem cellC_at (c : List Int) (j : Nat) (h : j < c.length) : (cellC c)[j]? = some (.int .i64 (c.getD j 0)) := by simp [cellC, List.getD, h]
theorem boxC_cell {w : World} {Q j : Nat} {c : List Int} (h : (∀ o : Nat, w.cell? ⟨Q, o, none⟩ = (⟨cellC c⟩ : Array Value)[o]?)) (hj : j < c.length) : w.cell? ⟨Q, j, none⟩ = some (.int .i64 (c.getD j 0)) := by
  rw [h j]
  have := cellC_at c j hj
  simpa using this
theorem boxC_set {w : World} {Q j : Nat} {c : List Int} {x : Int} (h : (∀ o : Nat, w.cell? ⟨Q, o, none⟩ = (⟨cellC c⟩ : Array Value)[o]?)) (hj : j < c.length) : (∀ o : Nat, (w.setCell ⟨Q, j, none⟩ (.int .i64 x)).cell? ⟨Q, o, none⟩ = (⟨cellC (c.set j x)⟩ : Array Value)[o]?) := by
  intro i
  by_cases e : i = j
  · subst e
    rw [World.cell?_setCell_same w _ _ (boxC_cell h hj)]
    simp [cellC, hj]
  · rw [World.cell?_setCell_other _ _ _ _ (by simp <;> omega), h i]
    simp [cellC, List.getElem?_set, show ¬ j = i by omega]
set_option maxHeartbeats 4000000 in
theorem eq2 (a b c d : Int) (w : World) : (Op.equalIn 9999 49 (.agg #[.int .i64 a, .int .i64 b]) (.agg #[.int .i64 c, .int .i64 d])).run Try.prog w = .ok (a == c && b == d) w := by
  have ku := Try.underlying3
  have ka := Try.isAgg3
  have kz := Try.sizeOf3
  rw [show (9999 : Nat) = 9998 + 1 from rfl, Op.equalIn]
  simp only [Sem.run_bind, run_underlying Try.underlying49, Result.andThen_ok]
  simp only [Std.Legacy.Range.forIn_eq_forIn_range', Std.Legacy.Range.size, Nat.sub_zero, Nat.add_sub_cancel, Nat.div_one, List.range'_succ, List.range'_zero, List.forIn_cons, List.forIn_nil]
  cases e0 : (a == c)
  · go_simp
  cases e1 : (b == d)
  · go_simp
  · go_simp
set_option maxHeartbeats 4000000 in
theorem eqC_raw (a0 a1 a2 a3 a4 a5 a6 a7 a8 a9 a10 a11 a12 a13 b0 b1 b2 b3 b4 b5 b6 b7 b8 b9 b10 b11 b12 b13 : Int) (w : World) : (Op.equalIn 10000 51 (.agg #[.int .i64 a0, .int .i64 a1, .int .i64 a2, .int .i64 a3, .int .i64 a4, .int .i64 a5, .int .i64 a6, .int .i64 a7, .int .i64 a8, .int .i64 a9, .int .i64 a10, .int .i64 a11, .int .i64 a12, .int .i64 a13]) (.agg #[.int .i64 b0, .int .i64 b1, .int .i64 b2, .int .i64 b3, .int .i64 b4, .int .i64 b5, .int .i64 b6, .int .i64 b7, .int .i64 b8, .int .i64 b9, .int .i64 b10, .int .i64 b11, .int .i64 b12, .int .i64 b13])).run Try.prog w = .ok (a0 == b0 && (a1 == b1 && (a2 == b2 && (a3 == b3 && (a4 == b4 && (a5 == b5 && (a6 == b6 && (a7 == b7 && ((a8 == b8 && a9 == b9) && ((a10 == b10 && a11 == b11) && (a12 == b12 && a13 == b13))))))))))) w := by
  have ku := Try.underlying3
  have ka := Try.isAgg3
  have kz := Try.sizeOf3
  have ku2 := Try.underlying49
  have ka2 := Try.isAgg49
  have kz2 := Try.sizeOf49
  have ef : Try.prog.underlying 51 = some (.struct (Try.prog.fieldsOf 51)) := by kernel_rfl
  have ef2 := Try.underlying51
  rw [show (10000 : Nat) = 9999 + 1 from rfl, run_equalIn_struct w 9999 _ _ _ ef (by kernel_rfl)]
  rw [ef] at ef2
  simp only [Option.some.injEq, TypeDesc.struct.injEq] at ef2
  rw [ef2]
  clear ef ef2
  cases e0 : (a0 == b0)
  · go_simp
  cases e1 : (a1 == b1)
  · go_simp
  cases e2 : (a2 == b2)
  · go_simp
  cases e3 : (a3 == b3)
  · go_simp
  cases e4 : (a4 == b4)
  · go_simp
  cases e5 : (a5 == b5)
  · go_simp
  cases e6 : (a6 == b6)
  · go_simp
  cases e7 : (a7 == b7)
  · go_simp
  have q1 := eq2 a8 a9 b8 b9 w
  cases e8 : (a8 == b8 && a9 == b9)
  · rw [e8] at q1
    go_simp
  rw [e8] at q1
  have q2 := eq2 a10 a11 b10 b11 w
  cases e10 : (a10 == b10 && a11 == b11)
  · rw [e10] at q2
    go_simp
  rw [e10] at q2
  have q3 := eq2 a12 a13 b12 b13 w
  cases e12 : (a12 == b12 && a13 == b13)
  · rw [e12] at q3
    go_simp
  rw [e12] at q3
  · go_simp
theorem eqC {a b : List Int} (ha : a.length = 14) (hb : b.length = 14) (w : World) : (Op.equalIn 10000 51 (.agg ⟨cellC a⟩) (.agg ⟨cellC b⟩)).run Try.prog w = .ok (decide (a = b)) w := by
  obtain ⟨a0, a1, a2, a3, a4, a5, a6, a7, a8, a9, a10, a11, a12, a13, rfl⟩ := fourteen ha
  obtain ⟨b0, b1, b2, b3, b4, b5, b6, b7, b8, b9, b10, b11, b12, b13, rfl⟩ := fourteen hb
  have h := eqC_raw a0 a1 a2 a3 a4 a5 a6 a7 a8 a9 a10 a11 a12 a13 b0 b1 b2 b3 b4 b5 b6 b7 b8 b9 b10 b11 b12 b13 w
  refine h.trans ?_
  congr 1
  rw [Bool.eq_iff_iff]
  simp
  intro _ _ _ _ _ _ _ _
  constructor
  · rintro ⟨⟨h9, h10⟩, ⟨h11, h12⟩, h13, h14⟩
    exact ⟨h9, h10, h11, h12, h13, h14⟩
  · rintro ⟨h9, h10, h11, h12, h13, h14⟩
    exact ⟨⟨h9, h10⟩, ⟨h11, h12⟩, h13, h14⟩
end Go.Proofs.Ytejllmjkeefloaa.Q8
