/- kern: the document's example; Needs, of any node. kern: Needs, of any node. -/
import Derived.Test.YtbkigldffcgodaaMKV1
import Derived.Test.YtbkigldffcgodaaMKV2
namespace Go.Proofs.Ytbkigldffcgodaa
open Go.ChangeShapes Go.WideShapes Go.ChangeAt Go.RowKit
set_option maxRecDepth 20000
set_option linter.unusedVariables false

def reluK : NodeD := ⟨8, [], 0, 0, 0, 0, 1, 0, 0, 0, 0, 0, [], []⟩
def valK : ValD := ⟨1, 2, 1, 0⟩
def viewK : ViewD := ⟨valK, 0, 1, [-1, 2]⟩
theorem vals1 {w : World} {b : Nat} {x : ValD} (hx : ValWf x) (hb : b < w.heap.size) (h : (∀ o : Nat, w.cell? ⟨b, o, none⟩ = (#[.int .i64 x.h, .int .i64 x.w, .int .i64 x.c, .int .i64 x.z] : Array Value)[o]?)) : IsVals w (.slice (some ⟨b, 0, none⟩) 1 1) [x] := by
  refine ⟨some ⟨b, 0, none⟩, 1, rfl, Nat.le_refl _, by decide, (fun h => by cases h), (fun y hy => ?_), fun _ => ⟨b, 0, rfl, hb, fun i hi => ?_⟩⟩
  · simp only [List.mem_singleton] at hy
    subst hy
    exact hx
  · simp only [List.length_cons, List.length_nil] at hi
    obtain rfl : i = 0 := by omega
    exact ⟨h 0, h 1, h 2, h 3⟩
theorem mayK : mayS 1 2 1 := by unfold mayS; omega
theorem madeK : madeS reluK [valK] = (1, 2, 1) := by
  have : madeS reluK [valK] = alikeS [valK] := by simp [madeS, reluK]
  rw [this]
  unfold alikeS
  rw [if_pos (fun j hj => by
    simp only [List.length_cons, List.length_nil] at hj
    obtain rfl : j = 0 := by omega
    rfl)]
  rfl
theorem valueK : valueE reluK [valK] = 0 := by
  refine valueE_0 ⟨by unfold hasOp reluK; decide, rfl, fun j hj => ?_, by unfold scaledP reluK; decide, by unfold setP reluK opD; decide⟩ (fun j hj => ?_) ?_ ?_
  · simp only [List.length_cons, List.length_nil] at hj
    obtain rfl : j = 0 := by omega
    rintro ⟨_, h⟩
    exact h rfl
  · simp only [List.length_cons, List.length_nil] at hj
    obtain rfl : j = 0 := by omega
    exact mayK
  · rw [madeK]; exact mayK
  · unfold lensP
    rw [madeK]
    refine ⟨rfl, rfl, fun j hj => ?_⟩
    simp [reluK] at hj
theorem fullK : FullV viewK := ⟨mayK, rfl, rfl, by unfold viewK valK; decide, by show (2 : Int) = sizeI 1 2 1; unfold sizeI; rw [if_pos mayK]; rfl, by simp [viewK]⟩
theorem allK (b : ViewD) : allL reluK viewK b (1, 2, 1) 2 2 = [0, 2] := by
  have at_ : ∀ x : Nat, x < 2 → atD viewK 0 x 0 = [-1, 2].getD x 0 := by
    intro x hx
    unfold atD
    rw [if_pos ⟨mayK, by decide, by decide, by omega, by show (x : Int) < 2; omega, by decide, by decide⟩]
    have : placeD viewK 0 x 0 = x := by show (0 * 2 + (x : Int)) * 1 + 0 - 0 * (2 * 1) = x; omega
    rw [this]
    rfl
  have f0 : rowF reluK viewK b (1, 2, 1) 0 0 = 0 := by
    unfold rowF
    rw [num8 rfl]
    show max (atD viewK 0 ((0 : Nat) : Int) 0) 0 = 0
    rw [at_ 0 (by decide)]
    decide
  have f1 : rowF reluK viewK b (1, 2, 1) 0 1 = 2 := by
    unfold rowF
    rw [num8 rfl]
    show max (atD viewK 0 ((1 : Nat) : Int) 0) 0 = 2
    rw [at_ 1 (by decide)]
    decide
  show [rowF reluK viewK b (1, 2, 1) 0 0, rowF reluK viewK b (1, 2, 1) 0 1] = _
  rw [f0, f1]

theorem Own8.parts {w : World} {base : Nat} {v : Value} {xs : List Int} (h : Own8 w base v xs) (h0 : 0 < xs.length) : ∃ b cap, v = .slice (some ⟨b, 0, none⟩) xs.length cap ∧ b < w.heap.size ∧ base ≤ b ∧ xs.length ≤ cap ∧ cap ≤ maxLen ∧ ∀ i, i < xs.length → w.cell? ⟨b, i, none⟩ = some (.int .i8 (xs.getD i 0)) := by
  obtain ⟨hl, h⟩ := h
  rcases h with ⟨rfl, e⟩ | ⟨b, cap, cur, rfl, hb, hg, hn, hm, hs, ht⟩
  · omega
  · refine ⟨b, cap, rfl, (Array.getElem?_eq_some_iff.1 hg).1, hb, hn, hm, fun i hi => ?_⟩
    have key : w.cell? ⟨b, i, none⟩ = (xs.map (Value.int .i8))[i]? := by
      rw [← ht, List.getElem?_take_of_lt (by omega)]
      simp [World.cell?, hg]
    rw [key]
    simp [List.getD, hi]

theorem nums_two {w : World} {b : Nat} {x y : Int} (hx : -128 ≤ x ∧ x ≤ 127) (hy : -128 ≤ y ∧ y ≤ 127) (hb : b < w.heap.size) (h : (∀ o : Nat, w.cell? ⟨b, o, none⟩ = (#[.int .i8 x, .int .i8 y] : Array Value)[o]?)) : IsNums .i8 w (.slice (some ⟨b, 0, none⟩) 2 2) [x, y] := by
  refine ⟨some ⟨b, 0, none⟩, 2, rfl, Nat.le_refl _, by decide, (fun h => by cases h), (fun z hz => ?_), fun _ => ⟨b, 0, rfl, hb, fun i hi => ?_⟩⟩
  · simp only [List.mem_cons, List.not_mem_nil, or_false] at hz
    rcases hz with rfl | rfl <;> · simp [Lit.wf, IntKind.min, IntKind.max, IntKind.bits, IntKind.signed]; omega
  · simp only [List.length_cons, List.length_nil] at hi
    rcases (show i = 0 ∨ i = 1 by omega) with rfl | rfl
    · exact h 0
    · exact h 1

theorem own_ex {w : World} {base : Nat} {v : Value} {xs ys : List Int} (h : Own8 w base v xs) (e : xs = ys) : ∃ B, Own8 w B v ys := ⟨base, e ▸ h⟩

set_option maxHeartbeats 4000000 in
theorem shown_any (W : World) : Calls Try.prog 12 #[] W fun e w' => e = .returned (.bool true) ∧ Past W w' := by
  go_enter Try.func12, Try.ntmps12
  go_upto_region 2 with fail
  refine opq (fun w' => (∀ o : Nat, w'.cell? ⟨W.heap.size, o, none⟩ = (#[.int .i64 1, .int .i64 2, .int .i64 1, .int .i64 0] : Array Value)[o]?) ∧ Past W w' ∧ W.heap.size + 1 ≤ w'.heap.size) (by (((try dsimp only); (try go_split_ands); (repeat' with_reducible apply And.intro)) <;> ((repeat (first | (with_reducible (first | assumption | refine kbS ?_ | refine has_set ?_ | refine kcS ?_ | refine free_set ?_ | refine size_set ?_ | refine kgS ?_ | refine kpS ?_ | refine box_drewN ?_ | refine has_drewN ?_ | refine cell_drewN ?_ | refine free_drewN ?_ | refine size_drewN ?_ | refine Grown.drewN ?_ | refine Past.drewN ?_ | refine box_drew ?_ | refine has_drew ?_ | refine cell_drew ?_ | refine free_drew ?_ | refine size_drew ?_ | refine Grown.drew ?_ | refine Past.drew ?_ | exact kbN | refine kbO ?_ | refine khA ?_ | refine kcA ?_ | refine free_alloc ?_ | exact ksA | refine Grown.alloc ?_ _ _ | refine Past.alloc ?_ _ | exact kbG | exact khG | exact kcG | exact ksG | exact kfG | exact kgG | exact kbP | exact kfP | exact khP | exact kcP | exact ksP | exact kpP | exact kfN | refine Grown.past ?_ | exact Grown.refl _ | exact Past.refl _)) | omega)); done))) ?_
  rintro w1 ⟨b1, p1, z1⟩
  go_wp2_with fail
  refine (All_1 reluK (.slice none 0 0) (.slice none 0 0) (.slice none 0 0) _ (1, 2, 1) viewK (.slice (some ⟨w1.heap.size + 1, 0, none⟩) 2 2) _ [valK] _ ⟨valueK, madeK.symm, fullK, rfl, fun h => absurd h (by decide)⟩ rfl ⟨nums_nil _ _, nums_nil _ _, nums_nil _ _⟩ (vals1 (b := w1.heap.size) (x := valK) (by unfold ValWf valK; decide) (by simp; omega) (box_old (box_new rfl) (by simp))) (nums_two (by decide) (by decide) (by simp) (box_new (by simp)))).mono ?_
  rintro e w2 ⟨v, rfl, own, p2⟩
  obtain ⟨B, own2⟩ := own_ex own (allK _)
  obtain ⟨b, cap, rfl, hb, _, hcap, hmax, hc⟩ := own2.parts (by decide)
  have c0 : w2.cell? ⟨b, 0, none⟩ = some (.int .i8 0) := hc 0 (by decide)
  have c1 : w2.cell? ⟨b, 1, none⟩ = some (.int .i8 2) := hc 1 (by decide)
  have p3 : Past W w2 := Past.trans (by (((try dsimp only); (try go_split_ands); (repeat' with_reducible apply And.intro)) <;> ((repeat (first | (with_reducible (first | assumption | refine kbS ?_ | refine has_set ?_ | refine kcS ?_ | refine free_set ?_ | refine size_set ?_ | refine kgS ?_ | refine kpS ?_ | refine box_drewN ?_ | refine has_drewN ?_ | refine cell_drewN ?_ | refine free_drewN ?_ | refine size_drewN ?_ | refine Grown.drewN ?_ | refine Past.drewN ?_ | refine box_drew ?_ | refine has_drew ?_ | refine cell_drew ?_ | refine free_drew ?_ | refine size_drew ?_ | refine Grown.drew ?_ | refine Past.drew ?_ | exact kbN | refine kbO ?_ | refine khA ?_ | refine kcA ?_ | refine free_alloc ?_ | exact ksA | refine Grown.alloc ?_ _ _ | refine Past.alloc ?_ _ | exact kbG | exact khG | exact kcG | exact ksG | exact kfG | exact kgG | exact kbP | exact kfP | exact khP | exact kcP | exact ksP | exact kpP | exact kfN | refine Grown.past ?_ | exact Grown.refl _ | exact Past.refl _)) | omega)); done))) p2
  clear own own2 hc p2
  go_wp2_with fail
  go_ret
  exact ⟨rfl, p3⟩
end Go.Proofs.Ytbkigldffcgodaa
namespace Go.Proofs.Ytbkigldffcgodaa
open Go.ChangeShapes Go.WideShapes Go.ChangeAt Go.RowKit
set_option maxRecDepth 20000
set_option linter.unusedVariables false

/-- Which rows may be asked for. -/
def rowsOk (n : NodeD) (vs : List ValD) (first rows : Int) : Prop := 0 ≤ first ∧ 1 ≤ rows ∧ rows ≤ (madeS n vs).1 - first
open Classical in
/-- P5.2's numbers: two of each of two values, and the error's. -/
noncomputable def needsD (n : NodeD) (vs : List ValD) (first rows : Int) : (Int × Int) × (Int × Int) × Int :=
  if valueE n vs ≠ 0 then ((0, 0), (0, 0), valueE n vs) else
  if ¬ rowsOk n vs first rows then ((0, 0), (0, 0), 1) else
  (looksD n (vs.getD 0 default).h first rows, if vs.length = 2 then looksD n (vs.getD 1 default).h first rows else (0, 0), 0)
/-- The answer of Needs. -/
def NeedsPost (n : NodeD) (vs : List ValD) (first rows : Int) (W : World) (e : Ending) (w' : World) : Prop :=
  e = .returned (.tuple #[.agg #[.int .i64 (needsD n vs first rows).1.1, .int .i64 (needsD n vs first rows).1.2, .int .i64 (needsD n vs first rows).2.1.1, .int .i64 (needsD n vs first rows).2.1.2], .int .i64 (needsD n vs first rows).2.2]) ∧ Grown W w'
theorem needs_bad {n : NodeD} {vs : List ValD} {first rows : Int} (h : valueE n vs ≠ 0) : needsD n vs first rows = ((0, 0), (0, 0), valueE n vs) := by unfold needsD; rw [if_pos h]
theorem needs_out {n : NodeD} {vs : List ValD} {first rows : Int} (h : valueE n vs = 0) (k : ¬ rowsOk n vs first rows) : needsD n vs first rows = ((0, 0), (0, 0), 1) := by unfold needsD; rw [if_neg (fun f => f h), if_pos k]
theorem needs_in {n : NodeD} {vs : List ValD} {first rows p0 p1 q0 q1 : Int} (h : valueE n vs = 0) (k : rowsOk n vs first rows) (a : NeedsAt n vs first rows vs.length p0 p1 q0 q1) : needsD n vs first rows = ((p0, p1), (q0, q1), 0) := by
  unfold needsD
  rw [if_neg (fun f => f h), if_neg (fun f => f k)]
  rcases vals_len h with ⟨_, l⟩ | ⟨_, l⟩
  · rw [if_pos l]
    have a0 := a.2.1 (by omega)
    have a1 := a.2.2.2 (by omega)
    rw [← Prod.eta (looksD n (vs.getD 0 default).h first rows), ← Prod.eta (looksD n (vs.getD 1 default).h first rows), ← a0.1, ← a0.2, ← a1.1, ← a1.2]
  · rw [if_neg (by omega)]
    have a0 := a.2.1 (by omega)
    have a1 := a.2.2.1 (by omega)
    rw [← Prod.eta (looksD n (vs.getD 0 default).h first rows), ← a0.1, ← a0.2, a1.1, a1.2]

set_option maxHeartbeats 4000000 in
theorem taskOf_err (n : NodeD) (vi vw vb lv : Value) (vs : List ValD) (q : Int) (W : World) (hin : NodeIn W n vi vw vb) (hv : IsVals W lv vs) (hq : valueE n vs = q) (h0 : q ≠ 0) :
    Calls Try.prog 22 #[.agg #[.int .i64 n.op, vi, .int .i64 n.k, .int .i64 n.stride, .int .i64 n.pad, .int .i64 n.out, .int .i64 n.mul, .int .i64 n.shift, .int .i64 n.zero, .int .i64 n.th, .int .i64 n.tw, .int .i64 n.tc, vw, vb], lv] W fun e w' => e = .returned (.tuple #[.agg #[.int .i64 0, .slice none 0 0, .int .i64 0, .int .i64 0, .int .i64 0, .int .i64 0, .int .i64 0, .int .i64 0, .int .i64 0, .int .i64 0, .int .i64 0, .int .i64 0, .slice none 0 0, .slice none 0 0, .slice none 0 0, .int .i64 0, .int .i64 0, .int .i64 0], .int .i64 q]) ∧ Grown W w' := by
  have VA : Hid (∀ w, Past W w → Calls Try.prog 33 #[.agg #[.int .i64 n.op, vi, .int .i64 n.k, .int .i64 n.stride, .int .i64 n.pad, .int .i64 n.out, .int .i64 n.mul, .int .i64 n.shift, .int .i64 n.zero, .int .i64 n.th, .int .i64 n.tw, .int .i64 n.tc, vw, vb], lv] w fun e w' => e = .returned (.tuple #[.agg #[.int .i64 0, .int .i64 0, .int .i64 0, .int .i64 0], .int .i64 q]) ∧ Grown w w') := Lib.hid (by
    intro w p
    have := value_any n vi vw vb lv vs w (hin.grow p) (hv.grow p)
    unfold ValuePost at this
    rw [valueV_err hq h0, hq] at this
    exact this)
  obtain ⟨A1, c1, rfl, _⟩ := hv
  obtain ⟨Ai, ci, rfl, _⟩ := hin.1
  obtain ⟨Aw, cw, rfl, _⟩ := hin.2.1
  obtain ⟨Ab, cb, rfl, _⟩ := hin.2.2
  have d1 : (q != 0) = true := by simpa using h0
  have d2 : (q == 0) = false := by simpa using h0
  clear hin hq h0
  go_enter Try.func22, Try.ntmps22
  go_upto_region 1 with fail
  refine opq (fun w' => (∀ o : Nat, w'.cell? ⟨W.heap.size, o, none⟩ = (#[.int .i64 n.op, (.slice Ai n.ins.length ci), .int .i64 n.k, .int .i64 n.stride, .int .i64 n.pad, .int .i64 n.out, .int .i64 n.mul, .int .i64 n.shift, .int .i64 n.zero, .int .i64 n.th, .int .i64 n.tw, .int .i64 n.tc, (.slice Aw n.ws.length cw), (.slice Ab n.bs.length cb)] : Array Value)[o]?) ∧ (∀ o : Nat, w'.cell? ⟨W.heap.size + 1, o, none⟩ = (#[.int .i64 0, .slice none 0 0, .int .i64 0, .int .i64 0, .int .i64 0, .int .i64 0, .int .i64 0, .int .i64 0, .int .i64 0, .int .i64 0, .int .i64 0, .int .i64 0, .slice none 0 0, .slice none 0 0, .slice none 0 0, .int .i64 0, .int .i64 0, .int .i64 0] : Array Value)[o]?) ∧ (∀ o : Nat, w'.frozen? ⟨W.heap.size + 1, o, none⟩ = false) ∧ Grown W w' ∧ W.heap.size + 2 ≤ w'.heap.size) (by ((repeat' with_reducible apply And.intro) <;> first | assumption | ((repeat (first | exact box_new (by first | omega | (simp; done) | (simp; omega)) | refine box_old ?_ (by first | omega | (simp; done) | (simp; omega)))); done) | ((repeat (first | exact free_new (by first | omega | (simp; done) | (simp; omega)) | refine free_alloc ?_)); done) | ((repeat (first | assumption | refine cell_alloc ?_ (by first | omega | (simp; done) | (simp; omega)))); done) | (go_cell; done) | (go_grown; done) | (simp; done) | (simp; omega))) ?_
  rintro W1 ⟨b1, b2, f2, g1, z1⟩
  go_wp2_with (refine wpList_load_box rfl 28 (.tmp 2) rfl W.heap.size #[.int .i64 n.op, (.slice Ai n.ins.length ci), .int .i64 n.k, .int .i64 n.stride, .int .i64 n.pad, .int .i64 n.out, .int .i64 n.mul, .int .i64 n.shift, .int .i64 n.zero, .int .i64 n.th, .int .i64 n.tw, .int .i64 n.tc, (.slice Aw n.ws.length cw), (.slice Ab n.bs.length cb)] rfl b1 Try.underlying28 rfl N14 ?_)
  refine (VA.out _ (Grown.past g1)).mono ?_
  rintro e w1 ⟨rfl, g⟩
  obtain ⟨b3, b4, f4, g4, z4⟩ : (∀ o : Nat, w1.cell? ⟨W.heap.size, o, none⟩ = (#[.int .i64 n.op, (.slice Ai n.ins.length ci), .int .i64 n.k, .int .i64 n.stride, .int .i64 n.pad, .int .i64 n.out, .int .i64 n.mul, .int .i64 n.shift, .int .i64 n.zero, .int .i64 n.th, .int .i64 n.tw, .int .i64 n.tc, (.slice Aw n.ws.length cw), (.slice Ab n.bs.length cb)] : Array Value)[o]?) ∧ (∀ o : Nat, w1.cell? ⟨W.heap.size + 1, o, none⟩ = (#[.int .i64 0, .slice none 0 0, .int .i64 0, .int .i64 0, .int .i64 0, .int .i64 0, .int .i64 0, .int .i64 0, .int .i64 0, .int .i64 0, .int .i64 0, .int .i64 0, .slice none 0 0, .slice none 0 0, .slice none 0 0, .int .i64 0, .int .i64 0, .int .i64 0] : Array Value)[o]?) ∧ (∀ o : Nat, w1.frozen? ⟨W.heap.size + 1, o, none⟩ = false) ∧ Grown W w1 ∧ W.heap.size + 2 ≤ w1.heap.size := by (((try dsimp only); (try go_split_ands); (repeat' with_reducible apply And.intro)) <;> ((repeat (first | (with_reducible (first | assumption | refine kbS ?_ | refine free_set ?_ | refine kgS ?_ | refine kpS ?_ | refine kbO ?_ | refine free_alloc ?_ | exact kbN | exact ksA | refine Grown.alloc ?_ _ _ | refine Past.alloc ?_ _ | exact kbG | exact ksG | exact kfG | exact kgG | exact kbP | exact kfP | exact ksP | exact kpP | exact kfN | refine Grown.past ?_ | exact Grown.refl _ | exact Past.refl _)) | (simp only [World.size_setCell]; omega) | omega)); done))
  clear b1 b2 f2 g1 z1 g
  go_upto_region 3 with fail
  refine opq (fun w' => (∀ o : Nat, w'.cell? ⟨W.heap.size + 1, o, none⟩ = (#[.int .i64 0, .slice none 0 0, .int .i64 0, .int .i64 0, .int .i64 0, .int .i64 0, .int .i64 0, .int .i64 0, .int .i64 0, .int .i64 0, .int .i64 0, .int .i64 0, .slice none 0 0, .slice none 0 0, .slice none 0 0, .int .i64 0, .int .i64 0, .int .i64 0] : Array Value)[o]?) ∧ (∀ o : Nat, w'.frozen? ⟨W.heap.size + 1, o, none⟩ = false) ∧ Grown W w' ∧ W.heap.size + 2 ≤ w'.heap.size) (by (((try dsimp only); (try go_split_ands); (repeat' with_reducible apply And.intro)) <;> ((repeat (first | (with_reducible (first | assumption | refine kbS ?_ | refine free_set ?_ | refine kgS ?_ | refine kpS ?_ | refine kbO ?_ | refine free_alloc ?_ | exact kbN | exact ksA | refine Grown.alloc ?_ _ _ | refine Past.alloc ?_ _ | exact kbG | exact ksG | exact kfG | exact kgG | exact kbP | exact kfP | exact ksP | exact kpP | exact kfN | refine Grown.past ?_ | exact Grown.refl _ | exact Past.refl _)) | (simp only [World.size_setCell]; omega) | omega)); done))) ?_
  rintro w2 ⟨b6, f6, g6, z6⟩
  clear b3 b4 f4 g4
  go_wp2_with ((refine wpList_store_box rfl 63 (.tmp 4) (.tmp 16) rfl (W.heap.size + 1) #[.int .i64 0, .slice none 0 0, .int .i64 0, .int .i64 0, .int .i64 0, .int .i64 0, .int .i64 0, .int .i64 0, .int .i64 0, .int .i64 0, .int .i64 0, .int .i64 0, .slice none 0 0, .slice none 0 0, .slice none 0 0, .int .i64 0, .int .i64 0, .int .i64 0] #[.int .i64 0, .slice none 0 0, .int .i64 0, .int .i64 0, .int .i64 0, .int .i64 0, .int .i64 0, .int .i64 0, .int .i64 0, .int .i64 0, .int .i64 0, .int .i64 0, .slice none 0 0, .slice none 0 0, .slice none 0 0, .int .i64 0, .int .i64 0, .int .i64 0] rfl rfl b6 f6 rfl T18 (by simp [Value.oneCell']) (fun w' => (∀ o : Nat, w'.cell? ⟨W.heap.size + 1, o, none⟩ = (#[.int .i64 0, .slice none 0 0, .int .i64 0, .int .i64 0, .int .i64 0, .int .i64 0, .int .i64 0, .int .i64 0, .int .i64 0, .int .i64 0, .int .i64 0, .int .i64 0, .slice none 0 0, .slice none 0 0, .slice none 0 0, .int .i64 0, .int .i64 0, .int .i64 0] : Array Value)[o]?) ∧ Grown W w') ⟨box_setAll b6 rfl, grown_setAll (by omega) _ _ _ g6⟩ ?_); rintro w3 ⟨b8, g8⟩)
  exact ret_box rfl (W.heap.size + 1) #[.int .i64 0, .slice none 0 0, .int .i64 0, .int .i64 0, .int .i64 0, .int .i64 0, .int .i64 0, .int .i64 0, .int .i64 0, .int .i64 0, .int .i64 0, .int .i64 0, .slice none 0 0, .slice none 0 0, .slice none 0 0, .int .i64 0, .int .i64 0, .int .i64 0] _ (.int .i64 q) rfl rfl b8 Try.underlying63 rfl T18 rfl ⟨rfl, g8⟩

set_option maxHeartbeats 4000000 in
theorem kneeds_bad (n : NodeD) (vi vw vb lv : Value) (vs : List ValD) (first rows q : Int) (W : World) (hin : NodeIn W n vi vw vb) (hl : IsVals W lv vs) (hq : valueE n vs = q) (h0 : q ≠ 0) :
    Calls Try.prog 13 #[.agg #[.int .i64 n.op, vi, .int .i64 n.k, .int .i64 n.stride, .int .i64 n.pad, .int .i64 n.out, .int .i64 n.mul, .int .i64 n.shift, .int .i64 n.zero, .int .i64 n.th, .int .i64 n.tw, .int .i64 n.tc, vw, vb], lv, .int .i64 first, .int .i64 rows] W fun e w' => e = .returned (.tuple #[.agg #[.int .i64 0, .int .i64 0, .int .i64 0, .int .i64 0], .int .i64 q]) ∧ Grown W w' := by
  have TK := Lib.hid (fun w (g : Past W w) => taskOf_err n vi vw vb lv vs q w (hin.grow g) (hl.grow g) hq h0)
  have d1 : (q != 0) = true := by simpa using h0
  have d2 : (q == 0) = false := by simpa using h0
  clear hq h0
  obtain ⟨A1, c1, rfl, _⟩ := hl
  obtain ⟨Ai, ci, rfl, _⟩ := hin.1
  obtain ⟨Aw, cw, rfl, _⟩ := hin.2.1
  obtain ⟨Ab, cb, rfl, _⟩ := hin.2.2
  clear hin
  go_enter Try.func13, Try.ntmps13
  go_upto_region 1 with fail
  refine opq (fun w' => (∀ o : Nat, w'.cell? ⟨W.heap.size, o, none⟩ = (#[.int .i64 n.op, (.slice Ai n.ins.length ci), .int .i64 n.k, .int .i64 n.stride, .int .i64 n.pad, .int .i64 n.out, .int .i64 n.mul, .int .i64 n.shift, .int .i64 n.zero, .int .i64 n.th, .int .i64 n.tw, .int .i64 n.tc, (.slice Aw n.ws.length cw), (.slice Ab n.bs.length cb)] : Array Value)[o]?) ∧ (∀ o : Nat, w'.cell? ⟨W.heap.size + 1, o, none⟩ = (#[.int .i64 0, .int .i64 0, .int .i64 0, .int .i64 0] : Array Value)[o]?) ∧ (∀ o : Nat, w'.frozen? ⟨W.heap.size + 1, o, none⟩ = false) ∧ Grown W w' ∧ W.heap.size + 2 ≤ w'.heap.size) (by ((repeat' with_reducible apply And.intro) <;> first | assumption | ((repeat (first | exact box_new (by first | omega | (simp; done) | (simp; omega)) | refine box_old ?_ (by first | omega | (simp; done) | (simp; omega)))); done) | ((repeat (first | exact free_new (by first | omega | (simp; done) | (simp; omega)) | refine free_alloc ?_)); done) | ((repeat (first | assumption | refine cell_alloc ?_ (by first | omega | (simp; done) | (simp; omega)))); done) | (go_cell; done) | (go_grown; done) | (simp; done) | (simp; omega))) ?_
  rintro W1 ⟨b4, b8, f8, g1, z1⟩
  go_wp2_with (refine wpList_load_box rfl 28 (.tmp 4) rfl W.heap.size #[.int .i64 n.op, (.slice Ai n.ins.length ci), .int .i64 n.k, .int .i64 n.stride, .int .i64 n.pad, .int .i64 n.out, .int .i64 n.mul, .int .i64 n.shift, .int .i64 n.zero, .int .i64 n.th, .int .i64 n.tw, .int .i64 n.tc, (.slice Aw n.ws.length cw), (.slice Ab n.bs.length cb)] rfl b4 Try.underlying28 rfl N14 ?_)
  refine (TK.out _ (Grown.past g1)).mono ?_
  rintro e w2 ⟨rfl, g⟩
  have b82 := box_grown g b8 (by omega)
  have f82 := free_grown g f8
  have g2 := grown_trans g1 g
  have z2 : W.heap.size + 2 ≤ w2.heap.size := by have := g.2.2; omega
  clear b4 b8 f8 g1 z1 g
  go_wp2_with (first | ((refine wpList_alloc_box rfl 63 rfl (.agg #[.int .i64 0, .slice none 0 0, .int .i64 0, .int .i64 0, .int .i64 0, .int .i64 0, .int .i64 0, .int .i64 0, .int .i64 0, .int .i64 0, .int .i64 0, .int .i64 0, .slice none 0 0, .slice none 0 0, .slice none 0 0, .int .i64 0, .int .i64 0, .int .i64 0]) Z18 (fun w' => (∀ o : Nat, w'.cell? ⟨w2.heap.size, o, none⟩ = (#[.int .i64 0, .slice none 0 0, .int .i64 0, .int .i64 0, .int .i64 0, .int .i64 0, .int .i64 0, .int .i64 0, .int .i64 0, .int .i64 0, .int .i64 0, .int .i64 0, .slice none 0 0, .slice none 0 0, .slice none 0 0, .int .i64 0, .int .i64 0, .int .i64 0] : Array Value)[o]?) ∧ (∀ o : Nat, w'.frozen? ⟨w2.heap.size, o, none⟩ = false) ∧ (∀ o : Nat, w'.cell? ⟨W.heap.size + 1, o, none⟩ = (#[.int .i64 0, .int .i64 0, .int .i64 0, .int .i64 0] : Array Value)[o]?) ∧ (∀ o : Nat, w'.frozen? ⟨W.heap.size + 1, o, none⟩ = false) ∧ Grown W w' ∧ w2.heap.size + 1 ≤ w'.heap.size) ⟨box_new rfl, free_alloc (free_new (Nat.le_refl _)), box_old b82 (by omega), free_alloc f82, Grown.alloc g2 _ _, by simp⟩ ?_); rintro w3 ⟨bz, fz, b83, f83, g3, z3⟩) | ((refine wpList_store_box rfl 63 (.tmp 10) (.tmp 16) rfl w2.heap.size #[.int .i64 0, .slice none 0 0, .int .i64 0, .int .i64 0, .int .i64 0, .int .i64 0, .int .i64 0, .int .i64 0, .int .i64 0, .int .i64 0, .int .i64 0, .int .i64 0, .slice none 0 0, .slice none 0 0, .slice none 0 0, .int .i64 0, .int .i64 0, .int .i64 0] #[.int .i64 0, .slice none 0 0, .int .i64 0, .int .i64 0, .int .i64 0, .int .i64 0, .int .i64 0, .int .i64 0, .int .i64 0, .int .i64 0, .int .i64 0, .int .i64 0, .slice none 0 0, .slice none 0 0, .slice none 0 0, .int .i64 0, .int .i64 0, .int .i64 0] rfl rfl bz fz rfl T18 (by simp [Value.oneCell']) (fun w' => (∀ o : Nat, w'.cell? ⟨w2.heap.size, o, none⟩ = (#[.int .i64 0, .slice none 0 0, .int .i64 0, .int .i64 0, .int .i64 0, .int .i64 0, .int .i64 0, .int .i64 0, .int .i64 0, .int .i64 0, .int .i64 0, .int .i64 0, .slice none 0 0, .slice none 0 0, .slice none 0 0, .int .i64 0, .int .i64 0, .int .i64 0] : Array Value)[o]?) ∧ (∀ o : Nat, w'.cell? ⟨W.heap.size + 1, o, none⟩ = (#[.int .i64 0, .int .i64 0, .int .i64 0, .int .i64 0] : Array Value)[o]?) ∧ (∀ o : Nat, w'.frozen? ⟨W.heap.size + 1, o, none⟩ = false) ∧ Grown W w' ∧ w2.heap.size + 1 ≤ w'.heap.size) ⟨box_setAll bz rfl, box_setOther (by omega) _ _ _ b83, free_setAll _ f83, grown_setAll (by omega) _ _ _ g3, size_setAll _ _ _ z3⟩ ?_); rintro w4 ⟨bt, b84, f84, g4, z4⟩) | ((refine wpList_store_box rfl 32 (.tmp 8) (.tmp 20) rfl (W.heap.size + 1) #[.int .i64 0, .int .i64 0, .int .i64 0, .int .i64 0] _ rfl rfl b84 f84 rfl A4 (by simp [Value.oneCell']) (fun w' => (∀ o : Nat, w'.cell? ⟨W.heap.size + 1, o, none⟩ = (#[.int .i64 0, .int .i64 0, .int .i64 0, .int .i64 0] : Array Value)[o]?) ∧ Grown W w') ⟨box_setAll b84 rfl, grown_setAll (by omega) _ _ _ g4⟩ ?_); rintro w9 ⟨b9, g9⟩))
  exact ret_box rfl (W.heap.size + 1) #[.int .i64 0, .int .i64 0, .int .i64 0, .int .i64 0] _ (.int .i64 q) rfl rfl b9 Try.underlying32 rfl A4 rfl ⟨rfl, g9⟩

set_option maxHeartbeats 4000000 in
theorem kneeds_with (n : NodeD) (vi vw vb lv : Value) (vs : List ValD) (m : Int × Int × Int) (first rows p0 p1 q0 q1 er : Int) (W : World) (hin : NodeIn W n vi vw vb) (hl : IsVals W lv vs) (h0 : valueE n vs = 0) (hm : Hid (m = madeS n vs))
    (ND : Hid (∀ w, Past W w → Calls Try.prog 23 #[.agg #[.int .i64 n.op, vi, .int .i64 n.k, .int .i64 n.stride, .int .i64 n.pad, .int .i64 n.out, .int .i64 n.mul, .int .i64 n.shift, .int .i64 n.zero, .int .i64 n.th, .int .i64 n.tw, .int .i64 n.tc, vw, vb, lv, .int .i64 m.1, .int .i64 m.2.1, .int .i64 m.2.2], .int .i64 first, .int .i64 rows] w fun e w' => e = .returned (.tuple #[.agg #[.int .i64 p0, .int .i64 p1, .int .i64 q0, .int .i64 q1], .int .i64 er]) ∧ Grown w w')) :
    Calls Try.prog 13 #[.agg #[.int .i64 n.op, vi, .int .i64 n.k, .int .i64 n.stride, .int .i64 n.pad, .int .i64 n.out, .int .i64 n.mul, .int .i64 n.shift, .int .i64 n.zero, .int .i64 n.th, .int .i64 n.tw, .int .i64 n.tc, vw, vb], lv, .int .i64 first, .int .i64 rows] W fun e w' => e = .returned (.tuple #[.agg #[.int .i64 p0, .int .i64 p1, .int .i64 q0, .int .i64 q1], .int .i64 er]) ∧ Grown W w' := by
  have TK := Lib.hid (fun w (g : Past W w) => taskOf_ok n vi vw vb lv vs m w (hin.grow g) (hl.grow g) h0 hm)
  clear h0 hm
  obtain ⟨A1, c1, rfl, _⟩ := hl
  obtain ⟨Ai, ci, rfl, _⟩ := hin.1
  obtain ⟨Aw, cw, rfl, _⟩ := hin.2.1
  obtain ⟨Ab, cb, rfl, _⟩ := hin.2.2
  clear hin
  go_enter Try.func13, Try.ntmps13
  go_upto_region 1 with fail
  refine opq (fun w' => (∀ o : Nat, w'.cell? ⟨W.heap.size, o, none⟩ = (#[.int .i64 n.op, (.slice Ai n.ins.length ci), .int .i64 n.k, .int .i64 n.stride, .int .i64 n.pad, .int .i64 n.out, .int .i64 n.mul, .int .i64 n.shift, .int .i64 n.zero, .int .i64 n.th, .int .i64 n.tw, .int .i64 n.tc, (.slice Aw n.ws.length cw), (.slice Ab n.bs.length cb)] : Array Value)[o]?) ∧ (∀ o : Nat, w'.cell? ⟨W.heap.size + 1, o, none⟩ = (#[.int .i64 0, .int .i64 0, .int .i64 0, .int .i64 0] : Array Value)[o]?) ∧ (∀ o : Nat, w'.frozen? ⟨W.heap.size + 1, o, none⟩ = false) ∧ Grown W w' ∧ W.heap.size + 2 ≤ w'.heap.size) (by ((repeat' with_reducible apply And.intro) <;> first | assumption | ((repeat (first | exact box_new (by first | omega | (simp; done) | (simp; omega)) | refine box_old ?_ (by first | omega | (simp; done) | (simp; omega)))); done) | ((repeat (first | exact free_new (by first | omega | (simp; done) | (simp; omega)) | refine free_alloc ?_)); done) | ((repeat (first | assumption | refine cell_alloc ?_ (by first | omega | (simp; done) | (simp; omega)))); done) | (go_cell; done) | (go_grown; done) | (simp; done) | (simp; omega))) ?_
  rintro W1 ⟨b4, b8, f8, g1, z1⟩
  go_wp2_with (refine wpList_load_box rfl 28 (.tmp 4) rfl W.heap.size #[.int .i64 n.op, (.slice Ai n.ins.length ci), .int .i64 n.k, .int .i64 n.stride, .int .i64 n.pad, .int .i64 n.out, .int .i64 n.mul, .int .i64 n.shift, .int .i64 n.zero, .int .i64 n.th, .int .i64 n.tw, .int .i64 n.tc, (.slice Aw n.ws.length cw), (.slice Ab n.bs.length cb)] rfl b4 Try.underlying28 rfl N14 ?_)
  refine (TK.out _ (Grown.past g1)).mono ?_
  rintro e w2 ⟨rfl, g⟩
  have b82 := box_grown g b8 (by omega)
  have f82 := free_grown g f8
  have g2 := grown_trans g1 g
  have z2 : W.heap.size + 2 ≤ w2.heap.size := by have := g.2.2; omega
  clear b4 b8 f8 g1 z1 g
  go_wp2_with (first | ((refine wpList_alloc_box rfl 63 rfl (.agg #[.int .i64 0, .slice none 0 0, .int .i64 0, .int .i64 0, .int .i64 0, .int .i64 0, .int .i64 0, .int .i64 0, .int .i64 0, .int .i64 0, .int .i64 0, .int .i64 0, .slice none 0 0, .slice none 0 0, .slice none 0 0, .int .i64 0, .int .i64 0, .int .i64 0]) Z18 (fun w' => (∀ o : Nat, w'.cell? ⟨w2.heap.size, o, none⟩ = (#[.int .i64 0, .slice none 0 0, .int .i64 0, .int .i64 0, .int .i64 0, .int .i64 0, .int .i64 0, .int .i64 0, .int .i64 0, .int .i64 0, .int .i64 0, .int .i64 0, .slice none 0 0, .slice none 0 0, .slice none 0 0, .int .i64 0, .int .i64 0, .int .i64 0] : Array Value)[o]?) ∧ (∀ o : Nat, w'.frozen? ⟨w2.heap.size, o, none⟩ = false) ∧ (∀ o : Nat, w'.cell? ⟨W.heap.size + 1, o, none⟩ = (#[.int .i64 0, .int .i64 0, .int .i64 0, .int .i64 0] : Array Value)[o]?) ∧ (∀ o : Nat, w'.frozen? ⟨W.heap.size + 1, o, none⟩ = false) ∧ Grown W w' ∧ w2.heap.size + 1 ≤ w'.heap.size) ⟨box_new rfl, free_alloc (free_new (Nat.le_refl _)), box_old b82 (by omega), free_alloc f82, Grown.alloc g2 _ _, by simp⟩ ?_); rintro w3 ⟨bz, fz, b83, f83, g3, z3⟩) | ((refine wpList_store_box rfl 63 (.tmp 10) (.tmp 16) rfl w2.heap.size #[.int .i64 n.op, (.slice Ai n.ins.length ci), .int .i64 n.k, .int .i64 n.stride, .int .i64 n.pad, .int .i64 n.out, .int .i64 n.mul, .int .i64 n.shift, .int .i64 n.zero, .int .i64 n.th, .int .i64 n.tw, .int .i64 n.tc, (.slice Aw n.ws.length cw), (.slice Ab n.bs.length cb), (.slice A1 vs.length c1), .int .i64 m.1, .int .i64 m.2.1, .int .i64 m.2.2] #[.int .i64 0, .slice none 0 0, .int .i64 0, .int .i64 0, .int .i64 0, .int .i64 0, .int .i64 0, .int .i64 0, .int .i64 0, .int .i64 0, .int .i64 0, .int .i64 0, .slice none 0 0, .slice none 0 0, .slice none 0 0, .int .i64 0, .int .i64 0, .int .i64 0] rfl rfl bz fz rfl T18 (by simp [Value.oneCell']) (fun w' => (∀ o : Nat, w'.cell? ⟨w2.heap.size, o, none⟩ = (#[.int .i64 n.op, (.slice Ai n.ins.length ci), .int .i64 n.k, .int .i64 n.stride, .int .i64 n.pad, .int .i64 n.out, .int .i64 n.mul, .int .i64 n.shift, .int .i64 n.zero, .int .i64 n.th, .int .i64 n.tw, .int .i64 n.tc, (.slice Aw n.ws.length cw), (.slice Ab n.bs.length cb), (.slice A1 vs.length c1), .int .i64 m.1, .int .i64 m.2.1, .int .i64 m.2.2] : Array Value)[o]?) ∧ (∀ o : Nat, w'.cell? ⟨W.heap.size + 1, o, none⟩ = (#[.int .i64 0, .int .i64 0, .int .i64 0, .int .i64 0] : Array Value)[o]?) ∧ (∀ o : Nat, w'.frozen? ⟨W.heap.size + 1, o, none⟩ = false) ∧ Grown W w' ∧ w2.heap.size + 1 ≤ w'.heap.size) ⟨box_setAll bz rfl, box_setOther (by omega) _ _ _ b83, free_setAll _ f83, grown_setAll (by omega) _ _ _ g3, size_setAll _ _ _ z3⟩ ?_); rintro w4 ⟨bt, b84, f84, g4, z4⟩) | (refine wpList_load_box rfl 63 (.tmp 10) rfl w2.heap.size #[.int .i64 n.op, (.slice Ai n.ins.length ci), .int .i64 n.k, .int .i64 n.stride, .int .i64 n.pad, .int .i64 n.out, .int .i64 n.mul, .int .i64 n.shift, .int .i64 n.zero, .int .i64 n.th, .int .i64 n.tw, .int .i64 n.tc, (.slice Aw n.ws.length cw), (.slice Ab n.bs.length cb), (.slice A1 vs.length c1), .int .i64 m.1, .int .i64 m.2.1, .int .i64 m.2.2] rfl bt Try.underlying63 rfl T18 ?_))
  refine (ND.out _ (Grown.past g4)).mono ?_
  rintro e w5 ⟨rfl, g⟩
  have b85 := box_grown g b84 (by omega)
  have f85 := free_grown g f84
  have g5 := grown_trans g4 g
  have z5 : W.heap.size + 2 ≤ w5.heap.size := by have := g.2.2; omega
  clear bt b84 f84 g4 g
  go_wp2_with ((refine wpList_store_box rfl 32 (.tmp 8) (.tmp 26) rfl (W.heap.size + 1) #[.int .i64 p0, .int .i64 p1, .int .i64 q0, .int .i64 q1] _ rfl rfl b85 f85 rfl A4 (by simp [Value.oneCell']) (fun w' => (∀ o : Nat, w'.cell? ⟨W.heap.size + 1, o, none⟩ = (#[.int .i64 p0, .int .i64 p1, .int .i64 q0, .int .i64 q1] : Array Value)[o]?) ∧ Grown W w') ⟨box_setAll b85 rfl, grown_setAll (by omega) _ _ _ g5⟩ ?_); rintro w9 ⟨b9, g9⟩)
  exact ret_box rfl (W.heap.size + 1) #[.int .i64 p0, .int .i64 p1, .int .i64 q0, .int .i64 q1] _ (.int .i64 er) rfl rfl b9 Try.underlying32 rfl A4 rfl ⟨rfl, g9⟩

theorem kneeds_any (n : NodeD) (vi vw vb lv : Value) (vs : List ValD) (first rows : Int) (W : World) (hin : NodeIn W n vi vw vb) (hl : IsVals W lv vs) (hf : -9223372036854775808 ≤ first ∧ first ≤ 9223372036854775807) :
    Calls Try.prog 13 #[.agg #[.int .i64 n.op, vi, .int .i64 n.k, .int .i64 n.stride, .int .i64 n.pad, .int .i64 n.out, .int .i64 n.mul, .int .i64 n.shift, .int .i64 n.zero, .int .i64 n.th, .int .i64 n.tw, .int .i64 n.tc, vw, vb], lv, .int .i64 first, .int .i64 rows] W (NeedsPost n vs first rows W) := by
  by_cases h0 : valueE n vs = 0
  · have mt := (value_parts h0).2.2.1
    obtain ⟨m1, m2, _⟩ := mt
    by_cases k : rowsOk n vs first rows
    · have hln : 1 ≤ vs.length ∧ vs.length ≤ 2 := by rcases vals_len h0 with ⟨_, l⟩ | ⟨_, l⟩ <;> omega
      obtain ⟨p0, p1, q0, q1, hn⟩ : ∃ p0 p1 q0 q1, NeedsAt n vs first rows vs.length p0 p1 q0 q1 := by
        rcases vals_len h0 with ⟨_, l⟩ | ⟨_, l⟩
        · exact ⟨_, _, _, _, fun e => by omega, fun _ => ⟨rfl, rfl⟩, fun e => by omega, fun _ => ⟨rfl, rfl⟩⟩
        · exact ⟨_, _, 0, 0, fun e => by omega, fun _ => ⟨rfl, rfl⟩, fun _ => ⟨rfl, rfl⟩, fun e => by omega⟩
      unfold NeedsPost
      rw [needs_in h0 k hn]
      refine kneeds_with n vi vw vb lv vs (madeS n vs) first rows p0 p1 q0 q1 0 W hin hl h0 (Lib.hid rfl) (Lib.hid fun w g => (needs_ok n vi vw vb lv vs (madeS n vs) first rows w (hl.grow g) (value_parts h0).1.1 hln.1 hln.2 ⟨m1, m2⟩ k.1 k.2.1 k.2.2).mono ?_)
      rintro e w' ⟨a0, a1, b0, b1, rfl, ha, g⟩
      have e1 := needs_in h0 k ha
      rw [needs_in h0 k hn] at e1
      simp only [Prod.mk.injEq] at e1
      obtain ⟨⟨rfl, rfl⟩, ⟨rfl, rfl⟩, _⟩ := e1
      exact ⟨rfl, g⟩
    · unfold NeedsPost
      rw [needs_out h0 k]
      exact kneeds_with n vi vw vb lv vs (madeS n vs) first rows 0 0 0 0 1 W hin hl h0 (Lib.hid rfl) (Lib.hid fun w g => needs_err n vi vw vb lv (madeS n vs) first rows w hf ⟨m1, m2⟩ k)
  · unfold NeedsPost
    rw [needs_bad h0]
    exact kneeds_bad n vi vw vb lv vs first rows _ W hin hl rfl h0
end Go.Proofs.Ytbkigldffcgodaa
