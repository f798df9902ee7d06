/- isa: a field, whether it is beyond its bounds; told; the closures. isa: fields of a kind. -/
import Derived.Laws.ResultCell
import Derived.Test.YtejllmjkeefloaaGreatKV1
import Derived.Test.YtejllmjkeefloaaGreatKG6C
import Derived.Test.YtejllmjkeefloaaGreatKG5
namespace Go.Proofs.YtejllmjkeefloaaGreat.Q8
open Go.ChangeShapes Go.WideShapes Go.ChangeAt Go.RowKit
set_option maxRecDepth 20000
set_option linter.unusedVariables false
set_option linter.unusedSimpArgs false

theorem box_set4 {w : World} {b : Nat} {x0 x1 x2 x3 y0 y1 y2 y3 : Value} (h : (∀ o : Nat, w.cell? ⟨b, o, none⟩ = (#[x0, x1, x2, x3] : Array Value)[o]?)) : (∀ o : Nat, ((((w.setCell ⟨b, 0, none⟩ y0).setCell ⟨b, 1, none⟩ y1).setCell ⟨b, 2, none⟩ y2).setCell ⟨b, 3, none⟩ y3).cell? ⟨b, o, none⟩ = (#[y0, y1, y2, y3] : Array Value)[o]?) := by
  have h0 := h 0
  have h1 := h 1
  have h2 := h 2
  have h3 := h 3
  have c0 : (((w.setCell ⟨b, 0, none⟩ y0).setCell ⟨b, 1, none⟩ y1).setCell ⟨b, 2, none⟩ y2).cell? ⟨b, 3, none⟩ = some x3 := by
    rw [World.cell?_setCell_other _ _ _ _ (by simp), World.cell?_setCell_other _ _ _ _ (by simp), World.cell?_setCell_other _ _ _ _ (by simp)]; exact h3
  have c1 : ((w.setCell ⟨b, 0, none⟩ y0).setCell ⟨b, 1, none⟩ y1).cell? ⟨b, 2, none⟩ = some x2 := by
    rw [World.cell?_setCell_other _ _ _ _ (by simp), World.cell?_setCell_other _ _ _ _ (by simp)]; exact h2
  have c2 : (w.setCell ⟨b, 0, none⟩ y0).cell? ⟨b, 1, none⟩ = some x1 := by
    rw [World.cell?_setCell_other _ _ _ _ (by simp)]; exact h1
  intro o
  match o with
  | 0 =>
    rw [World.cell?_setCell_other _ _ _ _ (by simp), World.cell?_setCell_other _ _ _ _ (by simp), World.cell?_setCell_other _ _ _ _ (by simp)]
    exact World.cell?_setCell_same w _ _ h0
  | 1 =>
    rw [World.cell?_setCell_other _ _ _ _ (by simp), World.cell?_setCell_other _ _ _ _ (by simp)]
    exact World.cell?_setCell_same _ _ _ c2
  | 2 =>
    rw [World.cell?_setCell_other _ _ _ _ (by simp)]
    exact World.cell?_setCell_same _ _ _ c1
  | 3 => exact World.cell?_setCell_same _ _ _ c0
  | k + 4 =>
    rw [World.cell?_setCell_other _ _ _ _ (by simp), World.cell?_setCell_other _ _ _ _ (by simp), World.cell?_setCell_other _ _ _ _ (by simp), World.cell?_setCell_other _ _ _ _ (by simp)]
    have := h (k + 4)
    simpa using this
theorem box_setAll {w : World} {b : Nat} {old new : Array Value} (h : (∀ o : Nat, w.cell? ⟨b, o, none⟩ = (old : Array Value)[o]?)) (hl : old.size = new.size) : (∀ o : Nat, (w.setCells b 0 new.toList).cell? ⟨b, o, none⟩ = (new : Array Value)[o]?) := by
  intro k
  by_cases c : k < new.size
  · have := World.cell?_setCells_in b new.toList 0 w (fun i hi => by
      rw [Nat.zero_add, h i, Array.getElem?_eq_getElem (by simpa [hl] using hi)]; rfl) k (by simpa using c)
    rw [Nat.zero_add] at this
    rw [this, Array.getElem?_eq_getElem c]
    simp
  · rw [World.cell?_setCells_out b new.toList 0 w ⟨b, k, none⟩ (fun _ _ => Or.inr (by simp; omega)), h k, Array.getElem?_eq_none (by omega), Array.getElem?_eq_none (by omega)]
theorem past_setAll {W : World} {b : Nat} (hb : W.heap.size ≤ b) : ∀ (l : List Value) (w : World) (o : Nat), Past W w → Past W (w.setCells b o l)
  | [], _, _, g => g
  | v :: l, w, o, g => by simp only [World.setCells]; exact past_setAll hb l _ _ (Past.setCell g (by simpa using hb) _)
theorem free_setAll {b b2 : Nat} (l : List Value) {w : World} {s : Nat} (h : (∀ o : Nat, w.frozen? ⟨b2, o, none⟩ = false)) : (∀ o : Nat, (w.setCells b s l).frozen? ⟨b2, o, none⟩ = false) := fun k => (World.frozen?_setCells b l s w _).trans (h k)
theorem size_setAll {b m : Nat} : ∀ (l : List Value) (w : World) (o : Nat), m ≤ w.heap.size → m ≤ (w.setCells b o l).heap.size
  | [], _, _, g => g
  | v :: l, w, o, g => by simp only [World.setCells]; exact size_setAll l _ _ (size_set g)
/-- A struct (or an array) is stored, whole, into a box of its own: the world behind it is a letter. -/
theorem wpList_store_box {P : Program} {ops : Array Oper} {rest : List Oper} {op : Oper} {a : Act} {w : World} {Q : Exit → Act → World → Prop} (hgd : op.guard = none) (ty : TypeId) (x y : Operand) (ho : op.op = .store ty x y)
    (b : Nat) (cells old : Array Value) (hx : a.eval x = .pointer (some ⟨b, 0, none⟩)) (hy : a.eval y = .agg cells) (hb : (∀ o : Nat, w.cell? ⟨b, o, none⟩ = (old : Array Value)[o]?)) (hf : (∀ o : Nat, w.frozen? ⟨b, o, none⟩ = false)) (hs : old.size = cells.size)
    (hi : (P.info? ty).map (·.size) = some cells.size) (h1 : cells.all (·.oneCell') = true) (S : World → Prop) (hS : S (w.setCells b 0 cells.toList)) (h : ∀ w', S w' → wpList P ops Q rest (a.put op.dst undef) w') : wpList P ops Q (op :: rest) a w :=
  wpList_store_mid hgd ty x y ho b 0 cells hx hy (fun j hj => ⟨by rw [Nat.zero_add, hb j, Array.getElem?_eq_getElem (by omega)]; rfl, by rw [Nat.zero_add]; exact hf j⟩) hi h1 (h _ hS)
/-- The cells of a field of the command at block P. -/
def fldC (P : Nat) (f : Fld) : List Value := [.pointer (some ⟨P, f.pos, none⟩), .int .i64 f.lo, .int .i64 f.hi, .int .i64 (f.wide : Int)]
def fldV (P : Nat) (f : Fld) : Value := .agg ⟨fldC P f⟩
def fldsC (P : Nat) (fs : List Fld) : List Value := fs.flatMap (fldC P)
/-- A row of fields, at the beginning of a block. -/
def IsFlds (w : World) (P : Nat) (v : Value) (fs : List Fld) : Prop :=
  (fs = [] ∧ v = .slice none 0 0) ∨ ∃ b, v = .slice (some ⟨b, 0, none⟩) fs.length fs.length ∧ b < w.heap.size ∧ (∀ o : Nat, w.cell? ⟨b, o, none⟩ = (⟨fldsC P fs⟩ : Array Value)[o]?)
theorem IsFlds.past {w w' : World} {P : Nat} {v : Value} {fs : List Fld} (h : IsFlds w P v fs) (g : Past w w') : IsFlds w' P v fs := by
  rcases h with h | ⟨b, e, hb, hc⟩
  · exact .inl h
  · exact .inr ⟨b, e, Nat.lt_of_lt_of_le hb g.2.2.1, box_past g hc hb⟩
set_option maxHeartbeats 1000000 in
theorem beyond_any (P : Nat) (f : Fld) (x : Int) (W : World) (hx : W.cell? ⟨P, f.pos, none⟩ = some (.int .i64 x)) :
    Calls Tryz.prog 104 #[fldV P f] W fun e w' => e = .returned (.bool (!decide (f.lo ≤ x ∧ x ≤ f.hi))) ∧ Past W w' := by
  obtain ⟨po, lo, hi, wd⟩ := f
  simp only at hx ⊢
  show Calls _ _ #[.agg #[.pointer (some ⟨P, po, none⟩), .int .i64 lo, .int .i64 hi, .int .i64 (wd : Int)]] _ _
  have hP := cell_lt hx
  by_cases h1 : x < lo
  · have d1 : decide (x < lo) = true := by simpa using h1
    have d2 : (!decide (lo ≤ x ∧ x ≤ hi)) = true := by simp; omega
    rw [d2]
    clear d2
    go_enter Tryz.func104, Tryz.ntmps104
    go_upto_region 1 with fail
    refine opq (fun w' => (∀ o : Nat, w'.cell? ⟨W.heap.size, o, none⟩ = (#[.pointer (some ⟨P, po, none⟩), .int .i64 lo, .int .i64 hi, .int .i64 (wd : Int)] : Array Value)[o]?) ∧ w'.cell? ⟨P, po, none⟩ = some (.int .i64 x) ∧ Past W w') kKeep ?_
    rintro w1 ⟨b1, c1, p1⟩
    have P1 := Lib.hid p1
    clear p1 hx hP
    go_quiet (fail)
    go_wp2_with fail
    go_ret
    exact ⟨rfl, P1.out⟩
  · have d1 : decide (x < lo) = false := by simpa using h1
    have d2 : (!decide (lo ≤ x ∧ x ≤ hi)) = decide (hi < x) := by
      have : lo ≤ x := by omega
      simp only [this, true_and]
      by_cases q : x ≤ hi
      · have : ¬ hi < x := by omega
        simp [q, this]
      · have : hi < x := by omega
        simp [q, this]
    rw [d2]
    clear d2
    go_enter Tryz.func104, Tryz.ntmps104
    go_upto_region 1 with fail
    refine opq (fun w' => (∀ o : Nat, w'.cell? ⟨W.heap.size, o, none⟩ = (#[.pointer (some ⟨P, po, none⟩), .int .i64 lo, .int .i64 hi, .int .i64 (wd : Int)] : Array Value)[o]?) ∧ w'.cell? ⟨P, po, none⟩ = some (.int .i64 x) ∧ Past W w') kKeep ?_
    rintro w1 ⟨b1, c1, p1⟩
    have P1 := Lib.hid p1
    clear p1 hx hP
    go_quiet (fail)
    go_wp2_with fail
    go_ret
    exact ⟨rfl, P1.out⟩
theorem told_any (v : Value) (A : Option Addr) (n c : Nat) (hv : v = .slice A n c) (W : World) : Calls Tryz.prog 138 #[v] W fun e w' => e = .returned (.tuple #[v, .bool true]) ∧ w' = W := by
  subst hv
  go_enter Tryz.func138, Tryz.ntmps138
  go_wp2_with fail
  go_ret2
  exact ⟨rfl, rfl⟩
end Go.Proofs.YtejllmjkeefloaaGreat.Q8
namespace Go.Proofs.YtejllmjkeefloaaGreat.Q8
open Go.ChangeShapes Go.WideShapes Go.ChangeAt Go.RowKit
set_option maxRecDepth 20000
set_option linter.unusedVariables false
set_option linter.unusedSimpArgs false

set_option maxHeartbeats 1000000 in
theorem part1_any (i : Nat) (hi : i = 0 ∨ i = 1) (P Q : Nat) (W : World) (hq : (∀ o : Nat, W.cell? ⟨Q, o, none⟩ = (#[.pointer (some ⟨P, 0, none⟩)] : Array Value)[o]?)) :
    Calls Tryz.prog 135 #[.int .i64 (i : Int), .pointer (some ⟨Q, 0, none⟩)] W fun e w' => e = .returned (fldV P ⟨8 + i, 0, 1023, 2⟩) ∧ Past W w' := by
  have hQ : Q < W.heap.size := cell_lt (hq 0)
  rcases hi with rfl | rfl
  all_goals
    go_enter Tryz.func135, Tryz.ntmps135
    go_upto_region 1 with fail
    refine opq (fun w' => (∀ o : Nat, w'.cell? ⟨Q, o, none⟩ = (#[.pointer (some ⟨P, 0, none⟩)] : Array Value)[o]?) ∧ (∀ o : Nat, w'.cell? ⟨W.heap.size, o, none⟩ = (#[.pointer none, .int .i64 0, .int .i64 0, .int .i64 0] : Array Value)[o]?) ∧ (∀ o : Nat, w'.frozen? ⟨W.heap.size, o, none⟩ = false) ∧ Past W w' ∧ W.heap.size + 1 ≤ w'.heap.size) kKeep ?_
    rintro w1 ⟨b1, b2, f2, p1, z1⟩
    have P1 := Lib.hid p1
    clear p1
    go_wp2_with fail
  · have b4 := box_set4 (y0 := .pointer (some ⟨P, 8 + 0, none⟩)) (y1 := .int .i64 0) (y2 := .int .i64 1023) (y3 := .int .i64 2) b2
    exact bodyPost_ret (v := .agg #[.pointer (some ⟨P, 8 + 0, none⟩), .int .i64 0, .int .i64 1023, .int .i64 2]) (by simp [results, Tryz.results135, go_sem, b4]) rfl ⟨rfl, by have := P1.out; (exact kKeep)⟩
  · have b4 := box_set4 (y0 := .pointer (some ⟨P, 8 + 1, none⟩)) (y1 := .int .i64 0) (y2 := .int .i64 1023) (y3 := .int .i64 2) b2
    exact bodyPost_ret (v := .agg #[.pointer (some ⟨P, 8 + 1, none⟩), .int .i64 0, .int .i64 1023, .int .i64 2]) (by simp [results, Tryz.results135, go_sem, b4]) rfl ⟨rfl, by have := P1.out; (exact kKeep)⟩
set_option maxHeartbeats 1000000 in
theorem part2_any (i : Nat) (hi : i = 0 ∨ i = 1) (P Q : Nat) (W : World) (hq : (∀ o : Nat, W.cell? ⟨Q, o, none⟩ = (#[.pointer (some ⟨P, 0, none⟩)] : Array Value)[o]?)) :
    Calls Tryz.prog 136 #[.int .i64 (i : Int), .pointer (some ⟨Q, 0, none⟩)] W fun e w' => e = .returned (fldV P ⟨10 + i, 0, 15, 1⟩) ∧ Past W w' := by
  have hQ : Q < W.heap.size := cell_lt (hq 0)
  rcases hi with rfl | rfl
  all_goals
    go_enter Tryz.func136, Tryz.ntmps136
    go_upto_region 1 with fail
    refine opq (fun w' => (∀ o : Nat, w'.cell? ⟨Q, o, none⟩ = (#[.pointer (some ⟨P, 0, none⟩)] : Array Value)[o]?) ∧ (∀ o : Nat, w'.cell? ⟨W.heap.size, o, none⟩ = (#[.pointer none, .int .i64 0, .int .i64 0, .int .i64 0] : Array Value)[o]?) ∧ (∀ o : Nat, w'.frozen? ⟨W.heap.size, o, none⟩ = false) ∧ Past W w' ∧ W.heap.size + 1 ≤ w'.heap.size) kKeep ?_
    rintro w1 ⟨b1, b2, f2, p1, z1⟩
    have P1 := Lib.hid p1
    clear p1
    go_wp2_with fail
  · have b4 := box_set4 (y0 := .pointer (some ⟨P, 10 + 0, none⟩)) (y1 := .int .i64 0) (y2 := .int .i64 15) (y3 := .int .i64 1) b2
    exact bodyPost_ret (v := .agg #[.pointer (some ⟨P, 10 + 0, none⟩), .int .i64 0, .int .i64 15, .int .i64 1]) (by simp [results, Tryz.results136, go_sem, b4]) rfl ⟨rfl, by have := P1.out; (exact kKeep)⟩
  · have b4 := box_set4 (y0 := .pointer (some ⟨P, 10 + 1, none⟩)) (y1 := .int .i64 0) (y2 := .int .i64 15) (y3 := .int .i64 1) b2
    exact bodyPost_ret (v := .agg #[.pointer (some ⟨P, 10 + 1, none⟩), .int .i64 0, .int .i64 15, .int .i64 1]) (by simp [results, Tryz.results136, go_sem, b4]) rfl ⟨rfl, by have := P1.out; (exact kKeep)⟩
set_option maxHeartbeats 1000000 in
theorem part3_any (i : Nat) (hi : i = 0 ∨ i = 1) (P Q : Nat) (W : World) (hq : (∀ o : Nat, W.cell? ⟨Q, o, none⟩ = (#[.pointer (some ⟨P, 0, none⟩)] : Array Value)[o]?)) :
    Calls Tryz.prog 137 #[.int .i64 (i : Int), .pointer (some ⟨Q, 0, none⟩)] W fun e w' => e = .returned (fldV P ⟨12 + i, 0, 16, 1⟩) ∧ Past W w' := by
  have hQ : Q < W.heap.size := cell_lt (hq 0)
  rcases hi with rfl | rfl
  all_goals
    go_enter Tryz.func137, Tryz.ntmps137
    go_upto_region 1 with fail
    refine opq (fun w' => (∀ o : Nat, w'.cell? ⟨Q, o, none⟩ = (#[.pointer (some ⟨P, 0, none⟩)] : Array Value)[o]?) ∧ (∀ o : Nat, w'.cell? ⟨W.heap.size, o, none⟩ = (#[.pointer none, .int .i64 0, .int .i64 0, .int .i64 0] : Array Value)[o]?) ∧ (∀ o : Nat, w'.frozen? ⟨W.heap.size, o, none⟩ = false) ∧ Past W w' ∧ W.heap.size + 1 ≤ w'.heap.size) kKeep ?_
    rintro w1 ⟨b1, b2, f2, p1, z1⟩
    have P1 := Lib.hid p1
    clear p1
    go_wp2_with fail
  · have b4 := box_set4 (y0 := .pointer (some ⟨P, 12 + 0, none⟩)) (y1 := .int .i64 0) (y2 := .int .i64 16) (y3 := .int .i64 1) b2
    exact bodyPost_ret (v := .agg #[.pointer (some ⟨P, 12 + 0, none⟩), .int .i64 0, .int .i64 16, .int .i64 1]) (by simp [results, Tryz.results137, go_sem, b4]) rfl ⟨rfl, by have := P1.out; (exact kKeep)⟩
  · have b4 := box_set4 (y0 := .pointer (some ⟨P, 12 + 1, none⟩)) (y1 := .int .i64 0) (y2 := .int .i64 16) (y3 := .int .i64 1) b2
    exact bodyPost_ret (v := .agg #[.pointer (some ⟨P, 12 + 1, none⟩), .int .i64 0, .int .i64 16, .int .i64 1]) (by simp [results, Tryz.results137, go_sem, b4]) rfl ⟨rfl, by have := P1.out; (exact kKeep)⟩
end Go.Proofs.YtejllmjkeefloaaGreat.Q8
