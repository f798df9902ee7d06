/- kern: taskOf; which rows are looked at. -/
import Derived.Test.YtliijchcpooplaaGreatMSh3
import Derived.Test.YtliijchcpooplaaGreatMKA
import Derived.Test.YtliijchcpooplaaGreatMFix
import Derived.Test.YtliijchcpooplaaGreatMG12
import Derived.Deep.MidRow
import Derived.Laws.ResultCell
namespace Go.Proofs.YtliijchcpooplaaGreat
open Go.ChangeShapes Go.WideShapes Go.ChangeAt Go.RowKit
set_option maxRecDepth 20000
set_option linter.unusedVariables false

def task0 : Value := .agg #[.int .i64 0, .slice none 0 0, .int .i64 0, .int .i64 0, .int .i64 0, .int .i64 0, .int .i64 0, .int .i64 0, .int .i64 0, .int .i64 0, .int .i64 0, .int .i64 0, .slice none 0 0, .slice none 0 0, .slice none 0 0, .int .i64 0, .int .i64 0, .int .i64 0]

theorem box_setAll {w : World} {b : Nat} {old new : Array Value} (h : (∀ o : Nat, w.cell? ⟨b, o, none⟩ = (old : Array Value)[o]?)) (hl : old.size = new.size) : (∀ o : Nat, (w.setCells b 0 new.toList).cell? ⟨b, o, none⟩ = (new : Array Value)[o]?) := by
  intro k
  by_cases c : k < new.size
  · have := World.cell?_setCells_in b new.toList 0 w (fun i hi => by
      rw [Nat.zero_add, h i, Array.getElem?_eq_getElem (by simpa [hl] using hi)]; rfl) k (by simpa using c)
    rw [Nat.zero_add] at this
    rw [this, Array.getElem?_eq_getElem c]
    simp
  · rw [World.cell?_setCells_out b new.toList 0 w ⟨b, k, none⟩ (fun _ _ => Or.inr (by simp; omega)), h k, Array.getElem?_eq_none (by omega), Array.getElem?_eq_none (by omega)]
theorem grown_setAll {W : World} {b : Nat} (hb : W.heap.size ≤ b) : ∀ (l : List Value) (w : World) (o : Nat), Grown W w → Grown W (w.setCells b o l)
  | [], _, _, g => g
  | v :: l, w, o, g => by simp only [World.setCells]; exact grown_setAll hb l _ _ (Grown.setCell g (by simpa using hb) _)
theorem past_setAll {W : World} {b : Nat} (hb : W.heap.size ≤ b) : ∀ (l : List Value) (w : World) (o : Nat), Past W w → Past W (w.setCells b o l)
  | [], _, _, g => g
  | v :: l, w, o, g => by simp only [World.setCells]; exact past_setAll hb l _ _ (Past.setCell g (by simpa using hb) _)
theorem box_setOther {b b2 : Nat} {cs : Array Value} (hn : b ≠ b2) : ∀ (l : List Value) (w : World) (s : Nat), (∀ o : Nat, w.cell? ⟨b2, o, none⟩ = (cs : Array Value)[o]?) → (∀ o : Nat, (w.setCells b s l).cell? ⟨b2, o, none⟩ = (cs : Array Value)[o]?)
  | [], _, _, g => g
  | v :: l, w, o, g => by simp only [World.setCells]; exact box_setOther hn l _ _ (box_set g hn)
theorem free_setAll {b b2 : Nat} (l : List Value) {w : World} {s : Nat} (h : (∀ o : Nat, w.frozen? ⟨b2, o, none⟩ = false)) : (∀ o : Nat, (w.setCells b s l).frozen? ⟨b2, o, none⟩ = false) := fun k => (World.frozen?_setCells b l s w _).trans (h k)
theorem size_setAll {b m : Nat} : ∀ (l : List Value) (w : World) (o : Nat), m ≤ w.heap.size → m ≤ (w.setCells b o l).heap.size
  | [], _, _, g => g
  | v :: l, w, o, g => by simp only [World.setCells]; exact size_setAll l _ _ (size_set g)
theorem opqb {P : Program} {f : Func} {Q : Ending → World → Prop} {e : Exit} {a : Act} {w : World} (S : World → Prop) (h : S w) (k : ∀ w', S w' → bodyPost P f Q e a w') : bodyPost P f Q e a w := k w h

/-- A struct (or an array) is stored, whole, into a box of its own: the world behind it is a letter. -/
theorem wpList_store_box {P : Program} {ops : Array Oper} {rest : List Oper} {op : Oper} {a : Act} {w : World} {Q : Exit → Act → World → Prop} (hgd : op.guard = none) (ty : TypeId) (x y : Operand) (ho : op.op = .store ty x y)
    (b : Nat) (cells old : Array Value) (hx : a.eval x = .pointer (some ⟨b, 0, none⟩)) (hy : a.eval y = .agg cells) (hb : (∀ o : Nat, w.cell? ⟨b, o, none⟩ = (old : Array Value)[o]?)) (hf : (∀ o : Nat, w.frozen? ⟨b, o, none⟩ = false)) (hs : old.size = cells.size)
    (hi : (P.info? ty).map (·.size) = some cells.size) (h1 : cells.all (·.oneCell') = true) (S : World → Prop) (hS : S (w.setCells b 0 cells.toList)) (h : ∀ w', S w' → wpList P ops Q rest (a.put op.dst undef) w') : wpList P ops Q (op :: rest) a w :=
  wpList_store_mid hgd ty x y ho b 0 cells hx hy (fun j hj => ⟨by rw [Nat.zero_add, hb j, Array.getElem?_eq_getElem (by omega)]; rfl, by rw [Nat.zero_add]; exact hf j⟩) hi h1 (h _ hS)

/-- A result that is a box of its own, and one that is not: told at once. -/
theorem ret_box {P : Program} {fn : Func} {a : Act} {w : World} {R : Ending → World → Prop} {p u : Tmp} {ty : TypeId} (h : fn.results = #[.cell p ty, .tmp u]) (b : Nat) (cells : Array Value) (d : TypeDesc) (x : Value) (hp : a.tmps.getD p undef = .pointer (some ⟨b, 0, none⟩)) (hx : a.tmps.getD u undef = x) (hb : (∀ o : Nat, w.cell? ⟨b, o, none⟩ = (cells : Array Value)[o]?))
    (hu : P.underlying ty = some d) (hd : d.isRow = true) (hi : (P.info? ty).map (·.size) = some cells.size) (hdf : a.defers = []) (hR : R (.returned (.tuple #[.agg cells, x])) w) : bodyPost P fn R .ret a w := by
  refine bodyPost_ret (v := .tuple #[.agg cells, x]) ?_ hdf hR
  rw [results_cell_tmp h, hp, hx]
  have hl := run_loadVar_mid (P := P) w b 0 ty cells.toList d (fun j v hv => by rw [Nat.zero_add, hb j]; simpa using hv) hu hd (by simpa using hi)
  have e1 : (asAddr (.pointer (some ⟨b, 0, none⟩))).run P w = .ok ⟨b, 0, none⟩ w := rfl
  rw [e1]
  simp only [Result.andThen]
  rw [hl]

theorem T18 : (Tryz.prog.info? 77).map (·.size) = some 18 := by kernel_rfl

set_option maxHeartbeats 2000000 in
theorem taskOf_ok (n : NodeD) (vi vw vb lv : Value) (vs : List ValD) (m : Int × Int × Int) (W : World) (hin : NodeIn W n vi vw vb) (hv : IsVals W lv vs) (h0 : valueE n vs = 0) (hm : Hid (m = madeS n vs)) :
    Calls Tryz.prog 39 #[.agg #[.int .i64 n.op, vi, .int .i64 n.k, .int .i64 n.stride, .int .i64 n.pad, .int .i64 n.out, .int .i64 n.mul, .int .i64 n.shift, .int .i64 n.zero, .int .i64 n.th, .int .i64 n.tw, .int .i64 n.tc, vw, vb], lv] W fun e w' => e = .returned (.tuple #[.agg #[.int .i64 n.op, vi, .int .i64 n.k, .int .i64 n.stride, .int .i64 n.pad, .int .i64 n.out, .int .i64 n.mul, .int .i64 n.shift, .int .i64 n.zero, .int .i64 n.th, .int .i64 n.tw, .int .i64 n.tc, vw, vb, lv, .int .i64 m.1, .int .i64 m.2.1, .int .i64 m.2.2], .int .i64 0]) ∧ Grown W w' := by
  have hV : valueV n vs = ⟨m.1, m.2.1, m.2.2, n.zero⟩ := by rw [valueV_ok h0, hm.out]
  have VA : Hid (∀ w, Past W w → Calls Tryz.prog 37 #[.agg #[.int .i64 n.op, vi, .int .i64 n.k, .int .i64 n.stride, .int .i64 n.pad, .int .i64 n.out, .int .i64 n.mul, .int .i64 n.shift, .int .i64 n.zero, .int .i64 n.th, .int .i64 n.tw, .int .i64 n.tc, vw, vb], lv] w fun e w' => e = .returned (.tuple #[.agg #[.int .i64 m.1, .int .i64 m.2.1, .int .i64 m.2.2, .int .i64 n.zero], .int .i64 0]) ∧ Grown w w') := Lib.hid (by
    intro w p
    have := value_any n vi vw vb lv vs w (hin.grow p) (hv.grow p)
    unfold ValuePost at this
    rw [hV, h0] at this
    exact this)
  obtain ⟨A1, c1, rfl, _⟩ := hv
  obtain ⟨Ai, ci, rfl, _⟩ := hin.1
  obtain ⟨Aw, cw, rfl, _⟩ := hin.2.1
  obtain ⟨Ab, cb, rfl, _⟩ := hin.2.2
  clear hin hV h0 hm
  go_enter Tryz.func39, Tryz.ntmps39
  go_upto_region 1 with fail
  refine opq (fun w' => (∀ o : Nat, w'.cell? ⟨W.heap.size, o, none⟩ = (#[.int .i64 n.op, (.slice Ai n.ins.length ci), .int .i64 n.k, .int .i64 n.stride, .int .i64 n.pad, .int .i64 n.out, .int .i64 n.mul, .int .i64 n.shift, .int .i64 n.zero, .int .i64 n.th, .int .i64 n.tw, .int .i64 n.tc, (.slice Aw n.ws.length cw), (.slice Ab n.bs.length cb)] : Array Value)[o]?) ∧ (∀ o : Nat, w'.cell? ⟨W.heap.size + 1, o, none⟩ = (#[.int .i64 0, .slice none 0 0, .int .i64 0, .int .i64 0, .int .i64 0, .int .i64 0, .int .i64 0, .int .i64 0, .int .i64 0, .int .i64 0, .int .i64 0, .int .i64 0, .slice none 0 0, .slice none 0 0, .slice none 0 0, .int .i64 0, .int .i64 0, .int .i64 0] : Array Value)[o]?) ∧ (∀ o : Nat, w'.frozen? ⟨W.heap.size + 1, o, none⟩ = false) ∧ Grown W w' ∧ W.heap.size + 2 ≤ w'.heap.size) kLaid ?_
  rintro W1 ⟨b1, b2, f2, g1, z1⟩
  go_wp2_with fail
  refine (VA.out _ (Grown.past g1)).mono ?_
  rintro e w1 ⟨rfl, g⟩
  obtain ⟨b3, b4, f4, g4, z4⟩ : (∀ o : Nat, w1.cell? ⟨W.heap.size, o, none⟩ = (#[.int .i64 n.op, (.slice Ai n.ins.length ci), .int .i64 n.k, .int .i64 n.stride, .int .i64 n.pad, .int .i64 n.out, .int .i64 n.mul, .int .i64 n.shift, .int .i64 n.zero, .int .i64 n.th, .int .i64 n.tw, .int .i64 n.tc, (.slice Aw n.ws.length cw), (.slice Ab n.bs.length cb)] : Array Value)[o]?) ∧ (∀ o : Nat, w1.cell? ⟨W.heap.size + 1, o, none⟩ = (#[.int .i64 0, .slice none 0 0, .int .i64 0, .int .i64 0, .int .i64 0, .int .i64 0, .int .i64 0, .int .i64 0, .int .i64 0, .int .i64 0, .int .i64 0, .int .i64 0, .slice none 0 0, .slice none 0 0, .slice none 0 0, .int .i64 0, .int .i64 0, .int .i64 0] : Array Value)[o]?) ∧ (∀ o : Nat, w1.frozen? ⟨W.heap.size + 1, o, none⟩ = false) ∧ Grown W w1 ∧ W.heap.size + 2 ≤ w1.heap.size := by (exact kKeep)
  clear b1 b2 f2 g1 z1 g
  go_upto_region 2 with fail
  refine opq (fun w' => (∀ o : Nat, w'.cell? ⟨W.heap.size, o, none⟩ = (#[.int .i64 n.op, (.slice Ai n.ins.length ci), .int .i64 n.k, .int .i64 n.stride, .int .i64 n.pad, .int .i64 n.out, .int .i64 n.mul, .int .i64 n.shift, .int .i64 n.zero, .int .i64 n.th, .int .i64 n.tw, .int .i64 n.tc, (.slice Aw n.ws.length cw), (.slice Ab n.bs.length cb)] : Array Value)[o]?) ∧ (∀ o : Nat, w'.cell? ⟨W.heap.size + 1, o, none⟩ = (#[.int .i64 0, .slice none 0 0, .int .i64 0, .int .i64 0, .int .i64 0, .int .i64 0, .int .i64 0, .int .i64 0, .int .i64 0, .int .i64 0, .int .i64 0, .int .i64 0, .slice none 0 0, .slice none 0 0, .slice none 0 0, .int .i64 0, .int .i64 0, .int .i64 0] : Array Value)[o]?) ∧ (∀ o : Nat, w'.frozen? ⟨W.heap.size + 1, o, none⟩ = false) ∧ (∀ o : Nat, w'.cell? ⟨w1.heap.size, o, none⟩ = (#[.int .i64 m.1, .int .i64 m.2.1, .int .i64 m.2.2, .int .i64 n.zero] : Array Value)[o]?) ∧ Grown W w' ∧ W.heap.size + 2 ≤ w'.heap.size) kKeep ?_
  rintro w2 ⟨b5, b6, f6, b7, g6, z6⟩
  clear b3 b4 f4 g4
  go_wp2_with ((refine wpList_store_box rfl 77 (.tmp 4) (.tmp 22) rfl (W.heap.size + 1) #[.int .i64 n.op, (.slice Ai n.ins.length ci), .int .i64 n.k, .int .i64 n.stride, .int .i64 n.pad, .int .i64 n.out, .int .i64 n.mul, .int .i64 n.shift, .int .i64 n.zero, .int .i64 n.th, .int .i64 n.tw, .int .i64 n.tc, (.slice Aw n.ws.length cw), (.slice Ab n.bs.length cb), (.slice A1 vs.length c1), .int .i64 m.1, .int .i64 m.2.1, .int .i64 m.2.2] _ rfl rfl b6 f6 rfl T18 (by simp [Value.oneCell']) (fun w' => (∀ o : Nat, w'.cell? ⟨W.heap.size + 1, o, none⟩ = (#[.int .i64 n.op, (.slice Ai n.ins.length ci), .int .i64 n.k, .int .i64 n.stride, .int .i64 n.pad, .int .i64 n.out, .int .i64 n.mul, .int .i64 n.shift, .int .i64 n.zero, .int .i64 n.th, .int .i64 n.tw, .int .i64 n.tc, (.slice Aw n.ws.length cw), (.slice Ab n.bs.length cb), (.slice A1 vs.length c1), .int .i64 m.1, .int .i64 m.2.1, .int .i64 m.2.2] : Array Value)[o]?) ∧ Grown W w') ⟨box_setAll b6 rfl, grown_setAll (by omega) _ _ _ g6⟩ ?_); rintro w3 ⟨b8, g8⟩)
  exact ret_box rfl (W.heap.size + 1) #[.int .i64 n.op, (.slice Ai n.ins.length ci), .int .i64 n.k, .int .i64 n.stride, .int .i64 n.pad, .int .i64 n.out, .int .i64 n.mul, .int .i64 n.shift, .int .i64 n.zero, .int .i64 n.th, .int .i64 n.tw, .int .i64 n.tc, (.slice Aw n.ws.length cw), (.slice Ab n.bs.length cb), (.slice A1 vs.length c1), .int .i64 m.1, .int .i64 m.2.1, .int .i64 m.2.2] _ (.int .i64 0) rfl rfl b8 Tryz.underlying77 rfl T18 rfl ⟨rfl, g8⟩
end Go.Proofs.YtliijchcpooplaaGreat
