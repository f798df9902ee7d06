/- graph: Value. -/
import Derived.Test.YtgbedoffgahhaaaG8
import Derived.Test.YtgbedoffgahhaaaG11
import Derived.Laws.EntriesVeiled

namespace Go.Proofs.Ytgbedoffgahhaaa
open Go.ChangeShapes Go.WideShapes Go.ChangeAt Go.RowKit
set_option maxRecDepth 20000
set_option linter.unusedVariables false

theorem size_alloc2 {w : World} {m : Nat} {x : Obj} (_ : True) (h : m ≤ (w.alloc x).heap.size) : m ≤ (w.alloc x).heap.size := h
theorem valueE_11 {n : NodeD} {vs : List ValD} (h : ¬ (hasOp n.op ∧ takesP (opD n.op) n vs)) : valueE n vs = 11 := by unfold valueE; rw [if_pos h]
theorem valueE_10 {n : NodeD} {vs : List ValD} (h : hasOp n.op ∧ takesP (opD n.op) n vs) (k : ¬ ∀ j, j < vs.length → mayV (vs.getD j default)) : valueE n vs = 10 := by unfold valueE; rw [if_neg (fun f => f h), if_pos k]
theorem valueE_10' {n : NodeD} {vs : List ValD} (h : hasOp n.op ∧ takesP (opD n.op) n vs) (k : ∀ j, j < vs.length → mayV (vs.getD j default)) (m : ¬ mayT (madeS n vs)) : valueE n vs = 10 := by unfold valueE; rw [if_neg (fun f => f h), if_neg (fun f => f k), if_pos m]
def lensP (n : NodeD) (vs : List ValD) : Prop := (n.ws.length : Int) = (wantS n (vs.getD 0 default) (madeS n vs).2.2).1 ∧ (n.bs.length : Int) = (wantS n (vs.getD 0 default) (madeS n vs).2.2).2 ∧ ∀ j, j < n.bs.length → nearB (n.bs.getD j 0)
theorem valueE_12 {n : NodeD} {vs : List ValD} (h : hasOp n.op ∧ takesP (opD n.op) n vs) (k : ∀ j, j < vs.length → mayV (vs.getD j default)) (m : mayT (madeS n vs)) (l : ¬ lensP n vs) : valueE n vs = 12 := by unfold valueE; rw [if_neg (fun f => f h), if_neg (fun f => f k), if_neg (fun f => f m)]; unfold lensP at l; rw [if_pos l]
theorem valueE_0 {n : NodeD} {vs : List ValD} (h : hasOp n.op ∧ takesP (opD n.op) n vs) (k : ∀ j, j < vs.length → mayV (vs.getD j default)) (m : mayT (madeS n vs)) (l : lensP n vs) : valueE n vs = 0 := by unfold valueE; rw [if_neg (fun f => f h), if_neg (fun f => f k), if_neg (fun f => f m)]; unfold lensP at l; rw [if_neg (fun f => f l)]
theorem valueV_err {n : NodeD} {vs : List ValD} {e : Int} (h : valueE n vs = e) (h0 : e ≠ 0) : valueV n vs = ⟨0, 0, 0, 0⟩ := by unfold valueV; rw [if_neg (by rw [h]; exact h0)]
theorem valueV_ok {n : NodeD} {vs : List ValD} (h : valueE n vs = 0) : valueV n vs = ⟨(madeS n vs).1, (madeS n vs).2.1, (madeS n vs).2.2, n.zero⟩ := by unfold valueV; rw [if_pos h]

theorem box_set4 {w : World} {b : Nat} {x0 x1 x2 x3 y0 y1 y2 y3 : Value} (h : (∀ o : Nat, w.cell? ⟨b, o, none⟩ = (#[x0, x1, x2, x3] : Array Value)[o]?)) : (∀ o : Nat, ((((w.setCell ⟨b, 0, none⟩ y0).setCell ⟨b, 1, none⟩ y1).setCell ⟨b, 2, none⟩ y2).setCell ⟨b, 3, none⟩ y3).cell? ⟨b, o, none⟩ = (#[y0, y1, y2, y3] : Array Value)[o]?) := by
  have h0 := h 0
  have h1 := h 1
  have h2 := h 2
  have h3 := h 3
  have c0 : (((w.setCell ⟨b, 0, none⟩ y0).setCell ⟨b, 1, none⟩ y1).setCell ⟨b, 2, none⟩ y2).cell? ⟨b, 3, none⟩ = some x3 := by
    rw [World.cell?_setCell_other _ _ _ _ (by simp), World.cell?_setCell_other _ _ _ _ (by simp), World.cell?_setCell_other _ _ _ _ (by simp)]; exact h3
  have c1 : ((w.setCell ⟨b, 0, none⟩ y0).setCell ⟨b, 1, none⟩ y1).cell? ⟨b, 2, none⟩ = some x2 := by
    rw [World.cell?_setCell_other _ _ _ _ (by simp), World.cell?_setCell_other _ _ _ _ (by simp)]; exact h2
  have c2 : (w.setCell ⟨b, 0, none⟩ y0).cell? ⟨b, 1, none⟩ = some x1 := by
    rw [World.cell?_setCell_other _ _ _ _ (by simp)]; exact h1
  intro o
  match o with
  | 0 =>
    rw [World.cell?_setCell_other _ _ _ _ (by simp), World.cell?_setCell_other _ _ _ _ (by simp), World.cell?_setCell_other _ _ _ _ (by simp)]
    exact World.cell?_setCell_same w _ _ h0
  | 1 =>
    rw [World.cell?_setCell_other _ _ _ _ (by simp), World.cell?_setCell_other _ _ _ _ (by simp)]
    exact World.cell?_setCell_same _ _ _ c2
  | 2 =>
    rw [World.cell?_setCell_other _ _ _ _ (by simp)]
    exact World.cell?_setCell_same _ _ _ c1
  | 3 => exact World.cell?_setCell_same _ _ _ c0
  | k + 4 =>
    rw [World.cell?_setCell_other _ _ _ _ (by simp), World.cell?_setCell_other _ _ _ _ (by simp), World.cell?_setCell_other _ _ _ _ (by simp), World.cell?_setCell_other _ _ _ _ (by simp)]
    have := h (k + 4)
    simpa using this

theorem grown_undrew {w w' : World} (h : Grown w.drew w') : Grown w w' := h

theorem opD_vals (o : Int) : 1 ≤ (opD o).vals := by
  unfold opD
  repeat' split
  all_goals decide

def ValuePost (n : NodeD) (vs : List ValD) (W : World) (e : Ending) (w' : World) : Prop := e = .returned (.tuple #[.agg #[.int .i64 ((valueV n vs).h), .int .i64 ((valueV n vs).w), .int .i64 ((valueV n vs).c), .int .i64 ((valueV n vs).z)], .int .i64 (valueE n vs)]) ∧ Grown W w'
theorem value_err {n : NodeD} {vs : List ValD} {W w' : World} {q : Int} (h : valueE n vs = q) (h0 : q ≠ 0) (g : Grown W w') : ValuePost n vs W (.returned (.tuple #[.agg #[.int .i64 0, .int .i64 0, .int .i64 0, .int .i64 0], .int .i64 q])) w' := by
  refine ⟨?_, g⟩
  rw [valueV_err h h0, h]

theorem enters_mayNotBe : Enters 48 := fun xs w => by kernel_rfl
theorem enters_tooFar : Enters 55 := fun xs w => by kernel_rfl

set_option maxHeartbeats 8000000 in
theorem value_any (n : NodeD) (vi vw vb lv : Value) (vs : List ValD) (W : World) (hin : NodeIn W n vi vw vb) (hv : IsVals W lv vs) : Calls Try.prog 37 #[.agg #[.int .i64 n.op, vi, .int .i64 n.k, .int .i64 n.stride, .int .i64 n.pad, .int .i64 n.out, .int .i64 n.mul, .int .i64 n.shift, .int .i64 n.zero, .int .i64 n.th, .int .i64 n.tw, .int .i64 n.tc, vw, vb], lv] W (ValuePost n vs W) := by
  go_enter Try.func37, Try.ntmps37
  go_upto_region 1 with fail
  refine opq (fun w' => (∀ o : Nat, w'.cell? ⟨W.heap.size, o, none⟩ = (#[.int .i64 n.op, vi, .int .i64 n.k, .int .i64 n.stride, .int .i64 n.pad, .int .i64 n.out, .int .i64 n.mul, .int .i64 n.shift, .int .i64 n.zero, .int .i64 n.th, .int .i64 n.tw, .int .i64 n.tc, vw, vb] : Array Value)[o]?) ∧ (∀ o : Nat, w'.cell? ⟨W.heap.size + 1, o, none⟩ = (#[.int .i64 0, .int .i64 0, .int .i64 0, .int .i64 0] : Array Value)[o]?) ∧ (∀ o : Nat, w'.frozen? ⟨W.heap.size + 1, o, none⟩ = false) ∧ Grown W w' ∧ W.heap.size + 2 ≤ w'.heap.size) kLaid ?_
  rintro W1 ⟨b1, b2, f2, g1, s1⟩
  go_wp2_with fail
  by_cases h : hasOp n.op
  · refine (opOf_any n _ h).mono ?_
    rintro e w1 ⟨mf, mc, cf, p, rfl, g, HM⟩
    have HM := Lib.hid HM
    obtain ⟨r, hr⟩ : ∃ r, opD n.op = r := ⟨_, rfl⟩
    rw [hr]
    have R := Lib.hid hr
    clear hr
    obtain ⟨c1, c2, f3, g2, s2⟩ : (∀ o : Nat, w1.cell? ⟨W.heap.size, o, none⟩ = (#[.int .i64 n.op, vi, .int .i64 n.k, .int .i64 n.stride, .int .i64 n.pad, .int .i64 n.out, .int .i64 n.mul, .int .i64 n.shift, .int .i64 n.zero, .int .i64 n.th, .int .i64 n.tw, .int .i64 n.tc, vw, vb] : Array Value)[o]?) ∧ (∀ o : Nat, w1.cell? ⟨W.heap.size + 1, o, none⟩ = (#[.int .i64 0, .int .i64 0, .int .i64 0, .int .i64 0] : Array Value)[o]?) ∧ (∀ o : Nat, w1.frozen? ⟨W.heap.size + 1, o, none⟩ = false) ∧ Grown W w1 ∧ W.heap.size + 2 ≤ w1.heap.size := by (exact kKeep)
    have GW := Lib.hid g1
    clear b1 b2 f2 s1
    obtain ⟨P6, hP6⟩ : ∃ P6, w1.heap.size = P6 := ⟨_, rfl⟩
    unfold opV
    go_upto_region 2 with fail
    refine opq (fun w' => (∀ o : Nat, w'.cell? ⟨W.heap.size, o, none⟩ = (#[.int .i64 n.op, vi, .int .i64 n.k, .int .i64 n.stride, .int .i64 n.pad, .int .i64 n.out, .int .i64 n.mul, .int .i64 n.shift, .int .i64 n.zero, .int .i64 n.th, .int .i64 n.tw, .int .i64 n.tc, vw, vb] : Array Value)[o]?) ∧ (∀ o : Nat, w'.cell? ⟨W.heap.size + 1, o, none⟩ = (#[.int .i64 0, .int .i64 0, .int .i64 0, .int .i64 0] : Array Value)[o]?) ∧ (∀ o : Nat, w'.frozen? ⟨W.heap.size + 1, o, none⟩ = false) ∧ Grown W w' ∧ W.heap.size + 2 ≤ w'.heap.size ∧ (∀ o : Nat, w'.cell? ⟨P6, o, none⟩ = (#[.int .i64 r.vals, .int .i64 r.k1, .int .i64 r.k2, .int .i64 r.s1, .int .i64 r.s2, .int .i64 r.p1, .int .i64 r.p2, .int .i64 r.o1, .int .i64 r.o2, .bool r.resh, .bool r.keeps, .func (.func mf) #[] mc, .func (.func cf) #[] #[.pointer (some p)]] : Array Value)[o]?) ∧ P6 + 1 ≤ w'.heap.size ∧ Grown w1 w') (by
      have p1 : Grown w1 w1 := Grown.refl _
      subst hP6
      (exact kKeep)) ?_
    rintro w2 ⟨d1, d2, f4, g3, s3, d3, s4, p2⟩
    have q6 : W.heap.size + 2 ≤ P6 := by omega
    clear c1 c2 f3 s2 hP6 g
    have tk : Hid ((takesP r n vs) ∨ ¬ takesP r n vs) := Lib.hid (Classical.em _)
    rcases tk.out with k | k
    · skip
      have ht : Hid (true = true ↔ takesP r n vs) := Lib.hid ⟨fun _ => k, fun _ => rfl⟩
      have TK := Lib.hid k
      clear k tk
      have hF : Hid (∀ x ∈ vs, ∀ w, Calls Try.prog 48 #[.agg #[.int .i64 x.h, .int .i64 x.w, .int .i64 x.c, .int .i64 x.z]] w fun e w' => e = .returned (.bool (!mayB (shD x))) ∧ Grown w w') := Lib.hid (fun x _ w => mayNotBe_any x.h x.w x.c x.z w)
      have MM : Hid ((∀ j, j < vs.length → mayV (vs.getD j default)) ∨ ¬ ∀ j, j < vs.length → mayV (vs.getD j default)) := Lib.hid (Classical.em _)
      go_upto_region 4 with (first | (go_at_call 53; with_reducible refine (takes_any r _ _ n vi vw vb lv vs _ true (hv.grow (Grown.past g3)) ht).mono ?_; rintro e w3 ⟨rfl, g4⟩; obtain ⟨e1, e2, e3, e4, e5, e6, e7, e8⟩ : (∀ o : Nat, w3.cell? ⟨W.heap.size, o, none⟩ = (#[.int .i64 n.op, vi, .int .i64 n.k, .int .i64 n.stride, .int .i64 n.pad, .int .i64 n.out, .int .i64 n.mul, .int .i64 n.shift, .int .i64 n.zero, .int .i64 n.th, .int .i64 n.tw, .int .i64 n.tc, vw, vb] : Array Value)[o]?) ∧ (∀ o : Nat, w3.cell? ⟨W.heap.size + 1, o, none⟩ = (#[.int .i64 0, .int .i64 0, .int .i64 0, .int .i64 0] : Array Value)[o]?) ∧ (∀ o : Nat, w3.frozen? ⟨W.heap.size + 1, o, none⟩ = false) ∧ Grown W w3 ∧ W.heap.size + 2 ≤ w3.heap.size ∧ (∀ o : Nat, w3.cell? ⟨P6, o, none⟩ = (#[.int .i64 r.vals, .int .i64 r.k1, .int .i64 r.k2, .int .i64 r.s1, .int .i64 r.s2, .int .i64 r.p1, .int .i64 r.p2, .int .i64 r.o1, .int .i64 r.o2, .bool r.resh, .bool r.keeps, .func (.func mf) #[] mc, .func (.func cf) #[] #[.pointer (some p)]] : Array Value)[o]?) ∧ P6 + 1 ≤ w3.heap.size ∧ Grown w1 w3 := by (exact kKeep)))
      clear d1 d2 f4 g3 s3 d3 s4 p2 g4
      rcases MM.out with k | k
      · have ht2 : Hid (false = true ↔ ∃ j, j < vs.length ∧ (!mayB (shD (vs.getD j default))) = true) := Lib.hid ⟨fun j => Bool.noConfusion j, fun ⟨j, h1, h2⟩ => by
          have := k j h1
          rw [show mayB (shD (vs.getD j default)) = true from mayB_t this] at h2
          cases h2⟩
        have CV := Lib.hid (fun w (g : Grown W w) => containsVals_any _ (fun x => !mayB (shD x)) vs lv w false (hv.grow (Grown.past g)) enters_mayNotBe hF.out ht2)
        have MV := Lib.hid k
        clear k MM
        go_upto_region 6 with (first | (go_at_call 47; with_reducible refine (CV.out _ e4).mono ?_; rintro e w4 ⟨rfl, g4⟩; obtain ⟨i1, i2, i3, i4, i5, i6, i7, i8⟩ : (∀ o : Nat, w4.cell? ⟨W.heap.size, o, none⟩ = (#[.int .i64 n.op, vi, .int .i64 n.k, .int .i64 n.stride, .int .i64 n.pad, .int .i64 n.out, .int .i64 n.mul, .int .i64 n.shift, .int .i64 n.zero, .int .i64 n.th, .int .i64 n.tw, .int .i64 n.tc, vw, vb] : Array Value)[o]?) ∧ (∀ o : Nat, w4.cell? ⟨W.heap.size + 1, o, none⟩ = (#[.int .i64 0, .int .i64 0, .int .i64 0, .int .i64 0] : Array Value)[o]?) ∧ (∀ o : Nat, w4.frozen? ⟨W.heap.size + 1, o, none⟩ = false) ∧ Grown W w4 ∧ W.heap.size + 2 ≤ w4.heap.size ∧ (∀ o : Nat, w4.cell? ⟨P6, o, none⟩ = (#[.int .i64 r.vals, .int .i64 r.k1, .int .i64 r.k2, .int .i64 r.s1, .int .i64 r.s2, .int .i64 r.p1, .int .i64 r.p2, .int .i64 r.o1, .int .i64 r.o2, .bool r.resh, .bool r.keeps, .func (.func mf) #[] mc, .func (.func cf) #[] #[.pointer (some p)]] : Array Value)[o]?) ∧ P6 + 1 ≤ w4.heap.size ∧ Grown w1 w4 := by (exact kKeep)))
        clear e1 e2 e3 e4 e5 e6 e7 e8 g4
        obtain ⟨s, hs⟩ : ∃ s, madeS n vs = s := ⟨_, rfl⟩
        have MK := Lib.hid (HM.out vi vw vb lv vs ⟨R.out.symm ▸ TK.out, MV.out, hv.grow (Grown.past g1)⟩)
        rw [hs] at MK
        have HS := Lib.hid hs
        clear hs HM
        have h1s : w1.heap.size ≤ w4.heap.size := i8.2.2
        have h2s : W.heap.size ≤ w4.heap.size := i4.2.2
        go_cut [8] (fun c8 w' => ∃ P8 : Nat, c8 = .pointer (some ⟨P8, 0, none⟩) ∧ P6 + 1 ≤ P8 ∧ (∀ o : Nat, w'.cell? ⟨P8, o, none⟩ = (#[.int .i64 s.1, .int .i64 s.2.1, .int .i64 s.2.2, .int .i64 n.zero] : Array Value)[o]?) ∧ (∀ o : Nat, w'.cell? ⟨W.heap.size, o, none⟩ = (#[.int .i64 n.op, vi, .int .i64 n.k, .int .i64 n.stride, .int .i64 n.pad, .int .i64 n.out, .int .i64 n.mul, .int .i64 n.shift, .int .i64 n.zero, .int .i64 n.th, .int .i64 n.tw, .int .i64 n.tc, vw, vb] : Array Value)[o]?) ∧ (∀ o : Nat, w'.cell? ⟨W.heap.size + 1, o, none⟩ = (#[.int .i64 0, .int .i64 0, .int .i64 0, .int .i64 0] : Array Value)[o]?) ∧ (∀ o : Nat, w'.frozen? ⟨W.heap.size + 1, o, none⟩ = false) ∧ Grown W w' ∧ W.heap.size + 2 ≤ w'.heap.size ∧ (∀ o : Nat, w'.cell? ⟨P6, o, none⟩ = (#[.int .i64 r.vals, .int .i64 r.k1, .int .i64 r.k2, .int .i64 r.s1, .int .i64 r.s2, .int .i64 r.p1, .int .i64 r.p2, .int .i64 r.o1, .int .i64 r.o2, .bool r.resh, .bool r.keeps, .func (.func mf) #[] mc, .func (.func cf) #[] #[.pointer (some p)]] : Array Value)[o]?) ∧ P6 + 1 ≤ w'.heap.size ∧ Grown w1 w' ∧ P8 + 1 ≤ w'.heap.size)
        case first =>
          rcases MK.out.1 with ⟨fid, hm, hE, hC⟩ | ⟨fid, pp, hm, hE, hC⟩
          · obtain ⟨rfl, rfl⟩ : mf = fid ∧ mc = #[] := by simpa using hm
            have HC := Lib.hid (fun w (g : Grown w1 w) => hC w (Grown.past g))
            have hE := fun xs w => hE xs w
            clear hm hC
            go_region_held3 (fun w' => (∀ o : Nat, w'.cell? ⟨W.heap.size, o, none⟩ = (#[.int .i64 n.op, vi, .int .i64 n.k, .int .i64 n.stride, .int .i64 n.pad, .int .i64 n.out, .int .i64 n.mul, .int .i64 n.shift, .int .i64 n.zero, .int .i64 n.th, .int .i64 n.tw, .int .i64 n.tc, vw, vb] : Array Value)[o]?) ∧ (∀ o : Nat, w'.cell? ⟨W.heap.size + 1, o, none⟩ = (#[.int .i64 0, .int .i64 0, .int .i64 0, .int .i64 0] : Array Value)[o]?) ∧ (∀ o : Nat, w'.frozen? ⟨W.heap.size + 1, o, none⟩ = false) ∧ Grown W w' ∧ W.heap.size + 2 ≤ w'.heap.size ∧ (∀ o : Nat, w'.cell? ⟨P6, o, none⟩ = (#[.int .i64 r.vals, .int .i64 r.k1, .int .i64 r.k2, .int .i64 r.s1, .int .i64 r.s2, .int .i64 r.p1, .int .i64 r.p2, .int .i64 r.o1, .int .i64 r.o2, .bool r.resh, .bool r.keeps, .func (.func mf) #[] #[], .func (.func cf) #[] #[.pointer (some p)]] : Array Value)[o]?) ∧ P6 + 1 ≤ w'.heap.size ∧ Grown w1 w') (exact kKeep)
              (first | ((with_reducible refine (HC.out _ (by (try go_split_ands); assumption)).mono ?_); rintro e w5 ⟨rfl, g⟩; obtain ⟨k1, k2, k3, k4, k5, k6, k7, k8⟩ : (∀ o : Nat, w5.cell? ⟨W.heap.size, o, none⟩ = (#[.int .i64 n.op, vi, .int .i64 n.k, .int .i64 n.stride, .int .i64 n.pad, .int .i64 n.out, .int .i64 n.mul, .int .i64 n.shift, .int .i64 n.zero, .int .i64 n.th, .int .i64 n.tw, .int .i64 n.tc, vw, vb] : Array Value)[o]?) ∧ (∀ o : Nat, w5.cell? ⟨W.heap.size + 1, o, none⟩ = (#[.int .i64 0, .int .i64 0, .int .i64 0, .int .i64 0] : Array Value)[o]?) ∧ (∀ o : Nat, w5.frozen? ⟨W.heap.size + 1, o, none⟩ = false) ∧ Grown W w5 ∧ W.heap.size + 2 ≤ w5.heap.size ∧ (∀ o : Nat, w5.cell? ⟨P6, o, none⟩ = (#[.int .i64 r.vals, .int .i64 r.k1, .int .i64 r.k2, .int .i64 r.s1, .int .i64 r.s2, .int .i64 r.p1, .int .i64 r.p2, .int .i64 r.o1, .int .i64 r.o2, .bool r.resh, .bool r.keeps, .func (.func mf) #[] #[], .func (.func cf) #[] #[.pointer (some p)]] : Array Value)[o]?) ∧ P6 + 1 ≤ w5.heap.size ∧ Grown w1 w5 := kKeep; first | (have z : (∀ o : Nat, w5.cell? ⟨w4.heap.size, o, none⟩ = (#[.int .i64 0, .int .i64 0, .int .i64 0, .int .i64 0] : Array Value)[o]?) := box_grown g (box_drew (box_new rfl)) (by simp); have zf : (∀ o : Nat, w5.frozen? ⟨w4.heap.size, o, none⟩ = false) := free_grown g (free_drew (free_alloc (free_new (Nat.le_refl _)))); have zs : w4.heap.size + 1 ≤ w5.heap.size := size_grown g (by simp)) | skip))
            all_goals
              go_wp2_with fail
              go_meet
              go_split_ands
              refine ⟨_, rfl, ?_, ?_, ?_⟩
              · omega
              · first | (with_reducible exact box_drew (box_new (by simp))) | (with_reducible exact box_new (by simp)) | (with_reducible exact box_set4 z) | (with_reducible exact box_drew (box_set4 z))
              · (exact kKeep)
          · obtain ⟨rfl, rfl⟩ : mf = fid ∧ mc = #[.pointer (some pp)] := by simpa using hm
            have HC := Lib.hid (fun w (g : Grown w1 w) => hC w (Grown.past g))
            have hE := fun xs w => hE xs w
            clear hm hC
            go_region_held3 (fun w' => (∀ o : Nat, w'.cell? ⟨W.heap.size, o, none⟩ = (#[.int .i64 n.op, vi, .int .i64 n.k, .int .i64 n.stride, .int .i64 n.pad, .int .i64 n.out, .int .i64 n.mul, .int .i64 n.shift, .int .i64 n.zero, .int .i64 n.th, .int .i64 n.tw, .int .i64 n.tc, vw, vb] : Array Value)[o]?) ∧ (∀ o : Nat, w'.cell? ⟨W.heap.size + 1, o, none⟩ = (#[.int .i64 0, .int .i64 0, .int .i64 0, .int .i64 0] : Array Value)[o]?) ∧ (∀ o : Nat, w'.frozen? ⟨W.heap.size + 1, o, none⟩ = false) ∧ Grown W w' ∧ W.heap.size + 2 ≤ w'.heap.size ∧ (∀ o : Nat, w'.cell? ⟨P6, o, none⟩ = (#[.int .i64 r.vals, .int .i64 r.k1, .int .i64 r.k2, .int .i64 r.s1, .int .i64 r.s2, .int .i64 r.p1, .int .i64 r.p2, .int .i64 r.o1, .int .i64 r.o2, .bool r.resh, .bool r.keeps, .func (.func mf) #[] #[.pointer (some pp)], .func (.func cf) #[] #[.pointer (some p)]] : Array Value)[o]?) ∧ P6 + 1 ≤ w'.heap.size ∧ Grown w1 w') (exact kKeep)
              (first | ((with_reducible refine (HC.out _ (by (try go_split_ands); assumption)).mono ?_); rintro e w5 ⟨rfl, g⟩; obtain ⟨k1, k2, k3, k4, k5, k6, k7, k8⟩ : (∀ o : Nat, w5.cell? ⟨W.heap.size, o, none⟩ = (#[.int .i64 n.op, vi, .int .i64 n.k, .int .i64 n.stride, .int .i64 n.pad, .int .i64 n.out, .int .i64 n.mul, .int .i64 n.shift, .int .i64 n.zero, .int .i64 n.th, .int .i64 n.tw, .int .i64 n.tc, vw, vb] : Array Value)[o]?) ∧ (∀ o : Nat, w5.cell? ⟨W.heap.size + 1, o, none⟩ = (#[.int .i64 0, .int .i64 0, .int .i64 0, .int .i64 0] : Array Value)[o]?) ∧ (∀ o : Nat, w5.frozen? ⟨W.heap.size + 1, o, none⟩ = false) ∧ Grown W w5 ∧ W.heap.size + 2 ≤ w5.heap.size ∧ (∀ o : Nat, w5.cell? ⟨P6, o, none⟩ = (#[.int .i64 r.vals, .int .i64 r.k1, .int .i64 r.k2, .int .i64 r.s1, .int .i64 r.s2, .int .i64 r.p1, .int .i64 r.p2, .int .i64 r.o1, .int .i64 r.o2, .bool r.resh, .bool r.keeps, .func (.func mf) #[] #[.pointer (some pp)], .func (.func cf) #[] #[.pointer (some p)]] : Array Value)[o]?) ∧ P6 + 1 ≤ w5.heap.size ∧ Grown w1 w5 := kKeep; first | (have z : (∀ o : Nat, w5.cell? ⟨w4.heap.size, o, none⟩ = (#[.int .i64 0, .int .i64 0, .int .i64 0, .int .i64 0] : Array Value)[o]?) := box_grown g (box_drew (box_new rfl)) (by simp); have zf : (∀ o : Nat, w5.frozen? ⟨w4.heap.size, o, none⟩ = false) := free_grown g (free_drew (free_alloc (free_new (Nat.le_refl _)))); have zs : w4.heap.size + 1 ≤ w5.heap.size := size_grown g (by simp)) | skip))
            all_goals
              go_wp2_with fail
              go_meet
              go_split_ands
              refine ⟨_, rfl, ?_, ?_, ?_⟩
              · omega
              · first | (with_reducible exact box_drew (box_new (by simp))) | (with_reducible exact box_new (by simp)) | (with_reducible exact box_set4 z) | (with_reducible exact box_drew (box_set4 z))
              · (exact kKeep)
        case rest =>
          obtain ⟨P8, rfl, q8, j9, j1, j2, j3, j4, j5, j6, j7, j8, j10⟩ := hcut
          clear i1 i2 i3 i4 i5 i6 i7 i8
          have MT : Hid (mayT s ∨ ¬ mayT s) := Lib.hid (Classical.em _)
          rcases MT.out with k | k
          · have CM := Lib.hid (fun w => by
              have := mayNotBe_any s.1 s.2.1 s.2.2 n.zero w
              rw [show mayB (s.1, s.2.1, s.2.2) = true from mayB_t k] at this
              exact this)
            have CT := Lib.hid (MK.out.2 k)
            have MS := Lib.hid k
            clear k MT MK
            go_upto_region 9 with (first | (go_at_call 48; with_reducible refine (CM.out _).mono ?_; rintro e w6 ⟨rfl, g4⟩; obtain ⟨l1, l2, l3, l4, l5, l6, l7, l8, l9, l10⟩ : (∀ o : Nat, w6.cell? ⟨P8, o, none⟩ = (#[.int .i64 s.1, .int .i64 s.2.1, .int .i64 s.2.2, .int .i64 n.zero] : Array Value)[o]?) ∧ (∀ o : Nat, w6.cell? ⟨W.heap.size, o, none⟩ = (#[.int .i64 n.op, vi, .int .i64 n.k, .int .i64 n.stride, .int .i64 n.pad, .int .i64 n.out, .int .i64 n.mul, .int .i64 n.shift, .int .i64 n.zero, .int .i64 n.th, .int .i64 n.tw, .int .i64 n.tc, vw, vb] : Array Value)[o]?) ∧ (∀ o : Nat, w6.cell? ⟨W.heap.size + 1, o, none⟩ = (#[.int .i64 0, .int .i64 0, .int .i64 0, .int .i64 0] : Array Value)[o]?) ∧ (∀ o : Nat, w6.frozen? ⟨W.heap.size + 1, o, none⟩ = false) ∧ Grown W w6 ∧ W.heap.size + 2 ≤ w6.heap.size ∧ (∀ o : Nat, w6.cell? ⟨P6, o, none⟩ = (#[.int .i64 r.vals, .int .i64 r.k1, .int .i64 r.k2, .int .i64 r.s1, .int .i64 r.s2, .int .i64 r.p1, .int .i64 r.p2, .int .i64 r.o1, .int .i64 r.o2, .bool r.resh, .bool r.keeps, .func (.func mf) #[] mc, .func (.func cf) #[] #[.pointer (some p)]] : Array Value)[o]?) ∧ P6 + 1 ≤ w6.heap.size ∧ Grown w1 w6 ∧ P8 + 1 ≤ w6.heap.size := by (exact kKeep)))
            clear j1 j2 j3 j4 j5 j6 j7 j8 j9 j10 g4
            have n0 : 0 < vs.length := by
              have l := TK.out.1
              rw [← R.out] at l
              have := opD_vals n.op
              omega
            obtain ⟨b, off, cap, rfl, u1, u2, u3, u4⟩ := slice_of hv n0
            obtain ⟨x, hx⟩ : ∃ x, vs.getD 0 default = x := ⟨_, rfl⟩
            obtain ⟨y1, y2, y3, y4⟩ := u4 0 n0
            rw [hx] at CT y1 y2 y3
            simp only [Nat.zero_mul, Nat.add_zero] at y1 y2 y3
            have HX := Lib.hid hx
            obtain ⟨⟨wa, wb⟩, hw⟩ : ∃ w, wantS n x s.2.2 = w := ⟨_, rfl⟩
            have IB := Lib.hid hin.2.2
            obtain ⟨A2, c2, rfl, v1, v2, _, _, _⟩ := hin.2.1
            obtain ⟨A3, c3, rfl, v3, v4, _, _, _⟩ := hin.2.2
            obtain ⟨fid, pp, hm, hE, hC⟩ := CT.out
            obtain ⟨rfl, rfl⟩ : cf = fid ∧ p = pp := by simpa using hm
            have HC : Hid (∀ w, Grown w1 w → Calls Try.prog cf #[.agg #[.int .i64 n.op, vi, .int .i64 n.k, .int .i64 n.stride, .int .i64 n.pad, .int .i64 n.out, .int .i64 n.mul, .int .i64 n.shift, .int .i64 n.zero, .int .i64 n.th, .int .i64 n.tw, .int .i64 n.tc, (.slice A2 n.ws.length c2), (.slice A3 n.bs.length c3)], .agg #[.int .i64 x.h, .int .i64 x.w, .int .i64 x.c], .agg #[.int .i64 s.1, .int .i64 s.2.1, .int .i64 s.2.2], .pointer (some p)] w fun e w'' => e = .returned (.tuple #[.int .i64 wa, .int .i64 wb]) ∧ Grown w w'') := Lib.hid (fun w g => by
              have := hC w (Grown.past g)
              rw [hw] at this
              exact this)
            have hE := fun xs w => hE xs w
            have HW := Lib.hid hw
            have m1 : n.ws.length ≤ 9223372036854775807 := by unfold maxLen at v2; omega
            have m2 : n.bs.length ≤ 9223372036854775807 := by unfold maxLen at v4; omega
            clear hm hC CT hx hw u4 y4 v1 v2 v3 v4 hin hv u2
            have z1 := cell_grown l5 y1 u3
            have z2 := cell_grown l5 y2 u3
            have z3 := cell_grown l5 y3 u3
            clear y1 y2 y3
            have j0 : (0 : Int) < (vs.length : Int) := by omega
            go_cut [9, 10] (fun c9 c10 w' => c9 = .int .i64 wa ∧ c10 = .int .i64 wb ∧ (∀ o : Nat, w'.cell? ⟨W.heap.size, o, none⟩ = (#[.int .i64 n.op, vi, .int .i64 n.k, .int .i64 n.stride, .int .i64 n.pad, .int .i64 n.out, .int .i64 n.mul, .int .i64 n.shift, .int .i64 n.zero, .int .i64 n.th, .int .i64 n.tw, .int .i64 n.tc, (.slice A2 n.ws.length c2), (.slice A3 n.bs.length c3)] : Array Value)[o]?) ∧ (∀ o : Nat, w'.cell? ⟨W.heap.size + 1, o, none⟩ = (#[.int .i64 0, .int .i64 0, .int .i64 0, .int .i64 0] : Array Value)[o]?) ∧ (∀ o : Nat, w'.frozen? ⟨W.heap.size + 1, o, none⟩ = false) ∧ Grown W w' ∧ W.heap.size + 2 ≤ w'.heap.size ∧ (∀ o : Nat, w'.cell? ⟨P8, o, none⟩ = (#[.int .i64 s.1, .int .i64 s.2.1, .int .i64 s.2.2, .int .i64 n.zero] : Array Value)[o]?) ∧ P8 + 1 ≤ w'.heap.size)
            case first =>
              go_region_held3 (fun w' => (∀ o : Nat, w'.cell? ⟨P8, o, none⟩ = (#[.int .i64 s.1, .int .i64 s.2.1, .int .i64 s.2.2, .int .i64 n.zero] : Array Value)[o]?) ∧ w'.cell? ⟨b, off, none⟩ = some (.int .i64 x.h) ∧ w'.cell? ⟨b, off + 1, none⟩ = some (.int .i64 x.w) ∧ w'.cell? ⟨b, off + 2, none⟩ = some (.int .i64 x.c) ∧ (∀ o : Nat, w'.cell? ⟨W.heap.size, o, none⟩ = (#[.int .i64 n.op, vi, .int .i64 n.k, .int .i64 n.stride, .int .i64 n.pad, .int .i64 n.out, .int .i64 n.mul, .int .i64 n.shift, .int .i64 n.zero, .int .i64 n.th, .int .i64 n.tw, .int .i64 n.tc, (.slice A2 n.ws.length c2), (.slice A3 n.bs.length c3)] : Array Value)[o]?) ∧ (∀ o : Nat, w'.cell? ⟨W.heap.size + 1, o, none⟩ = (#[.int .i64 0, .int .i64 0, .int .i64 0, .int .i64 0] : Array Value)[o]?) ∧ (∀ o : Nat, w'.frozen? ⟨W.heap.size + 1, o, none⟩ = false) ∧ Grown W w' ∧ W.heap.size + 2 ≤ w'.heap.size ∧ (∀ o : Nat, w'.cell? ⟨P6, o, none⟩ = (#[.int .i64 r.vals, .int .i64 r.k1, .int .i64 r.k2, .int .i64 r.s1, .int .i64 r.s2, .int .i64 r.p1, .int .i64 r.p2, .int .i64 r.o1, .int .i64 r.o2, .bool r.resh, .bool r.keeps, .func (.func mf) #[] mc, .func (.func cf) #[] #[.pointer (some p)]] : Array Value)[o]?) ∧ P6 + 1 ≤ w'.heap.size ∧ Grown w1 w' ∧ P8 + 1 ≤ w'.heap.size) (exact kKeep)
                (first | ((with_reducible refine (HC.out _ (by (try go_split_ands); assumption)).mono ?_); rintro e w7 ⟨rfl, g⟩))
              all_goals
                go_wp2_with fail
                go_meet
                exact ⟨rfl, rfl, by (exact kKeep)⟩
            case rest =>
              obtain ⟨rfl, rfl, o1, o2, o3, o4, o5, o6, o7⟩ := hcut
              clear l1 l2 l3 l4 l5 l6 l7 l8 l9 l10 z1 z2 z3 hE
              have q1 := valueE_12 (n := n) (vs := vs) ⟨h, R.out.symm ▸ TK.out⟩ MV.out (HS.out.symm ▸ MS.out)
              have q0 := valueE_0 (n := n) (vs := vs) ⟨h, R.out.symm ▸ TK.out⟩ MV.out (HS.out.symm ▸ MS.out)
              have QE : Hid (lensP n vs ↔ ((n.ws.length : Int) = wa ∧ (n.bs.length : Int) = wb ∧ ∀ j, j < n.bs.length → nearB (n.bs.getD j 0))) := Lib.hid (by unfold lensP; rw [HS.out, HX.out, HW.out])
              have Q1 := Lib.hid q1
              have Q0 := Lib.hid q0
              clear q1 q0
              cases e1 : ((n.ws.length : Int) == wa) with
              | false =>
                have e1' : ((n.ws.length : Int) != wa) = true := by simp [bne, e1]
                have q := Q1.out (fun l => by have := (QE.out.mp l).1; rw [this] at e1; simp at e1)
                have Q := Lib.hid q
                clear q
                go_wp2_with fail
                exact bodyPost_ret (v := .tuple #[.agg #[.int .i64 0, .int .i64 0, .int .i64 0, .int .i64 0], .int .i64 12]) (by simp [results, Try.results37, go_sem, *]) rfl (value_err Q.out (by decide) kKeep)
              | true =>
                have e1' : ((n.ws.length : Int) != wa) = false := by simp [bne, e1]
                cases e2 : ((n.bs.length : Int) == wb) with
                | false =>
                  have e2' : ((n.bs.length : Int) != wb) = true := by simp [bne, e2]
                  have q := Q1.out (fun l => by have := (QE.out.mp l).2.1; rw [this] at e2; simp at e2)
                  have Q := Lib.hid q
                  clear q
                  go_wp2_with fail
                  exact bodyPost_ret (v := .tuple #[.agg #[.int .i64 0, .int .i64 0, .int .i64 0, .int .i64 0], .int .i64 12]) (by simp [results, Try.results37, go_sem, *]) rfl (value_err Q.out (by decide) kKeep)
                | true =>
                  have e2' : ((n.bs.length : Int) != wb) = false := by simp [bne, e2]
                  have HFB : Hid (∀ y ∈ n.bs, (Lit.int .i32 y).wf = true → ∀ w, Calls Try.prog 55 #[.int .i32 y] w fun e w' => e = .returned (.bool (!holdB (-16777216) 16777216 y)) ∧ Grown w w') := Lib.hid (fun y _ wf w => tooFar_any y w wf)
                  have BB : Hid ((∀ j, j < n.bs.length → nearB (n.bs.getD j 0)) ∨ ¬ ∀ j, j < n.bs.length → nearB (n.bs.getD j 0)) := Lib.hid (Classical.em _)
                  rcases BB.out with kb | kb
                  · have q := Q0.out (QE.out.mpr ⟨by simpa using e1, by simpa using e2, kb⟩)
                    have ht3 : Hid (false = true ↔ ∃ j, j < n.bs.length ∧ (!holdB (-16777216) 16777216 (n.bs.getD j 0)) = true) := Lib.hid ⟨fun j => Bool.noConfusion j, fun ⟨j, h1, h2⟩ => by
                      have := kb j h1
                      rw [holdB_t.mpr this] at h2
                      cases h2⟩
                    have CV := Lib.hid (fun w (g : Grown W w) => containsNums_any _ (fun y => !holdB (-16777216) 16777216 y) n.bs _ w false (IB.out.grow (Grown.past g)) enters_tooFar HFB.out ht3)
                    have fin : Hid (ValuePost n vs W = fun e w' => e = .returned (.tuple #[.agg #[.int .i64 s.1, .int .i64 s.2.1, .int .i64 s.2.2, .int .i64 n.zero], .int .i64 0]) ∧ Grown W w') := Lib.hid (by
                      unfold ValuePost; rw [valueV_ok q, q, HS.out])
                    clear q kb BB
                    go_wp2_with (first | ((with_reducible refine (CV.out _ o4).mono ?_); rintro e w8 ⟨rfl, g5⟩; obtain ⟨t1, t2, t3, t4, t5, t6, t7⟩ : (∀ o : Nat, w8.cell? ⟨W.heap.size, o, none⟩ = (#[.int .i64 n.op, vi, .int .i64 n.k, .int .i64 n.stride, .int .i64 n.pad, .int .i64 n.out, .int .i64 n.mul, .int .i64 n.shift, .int .i64 n.zero, .int .i64 n.th, .int .i64 n.tw, .int .i64 n.tc, (.slice A2 n.ws.length c2), (.slice A3 n.bs.length c3)] : Array Value)[o]?) ∧ (∀ o : Nat, w8.cell? ⟨W.heap.size + 1, o, none⟩ = (#[.int .i64 0, .int .i64 0, .int .i64 0, .int .i64 0] : Array Value)[o]?) ∧ (∀ o : Nat, w8.frozen? ⟨W.heap.size + 1, o, none⟩ = false) ∧ Grown W w8 ∧ W.heap.size + 2 ≤ w8.heap.size ∧ (∀ o : Nat, w8.cell? ⟨P8, o, none⟩ = (#[.int .i64 s.1, .int .i64 s.2.1, .int .i64 s.2.2, .int .i64 n.zero] : Array Value)[o]?) ∧ P8 + 1 ≤ w8.heap.size := by (exact kKeep)))
                    exact bodyPost_ret (v := .tuple #[.agg #[.int .i64 s.1, .int .i64 s.2.1, .int .i64 s.2.2, .int .i64 n.zero], .int .i64 0]) (by simp [results, Try.results37, go_sem, *]) rfl (by rw [fin.out]; exact ⟨rfl, by (exact kKeep)⟩)
                  · have q := Q1.out (fun l => kb (QE.out.mp l).2.2)
                    have ht3 : Hid (true = true ↔ ∃ j, j < n.bs.length ∧ (!holdB (-16777216) 16777216 (n.bs.getD j 0)) = true) := Lib.hid ⟨fun _ => by
                      apply Classical.byContradiction
                      intro c
                      apply kb
                      intro j hj
                      apply Classical.byContradiction
                      intro d
                      apply c
                      refine ⟨j, hj, ?_⟩
                      rw [holdB_f.mpr d]
                      rfl, fun _ => rfl⟩
                    have CV := Lib.hid (fun w (g : Grown W w) => containsNums_any _ (fun y => !holdB (-16777216) 16777216 y) n.bs _ w true (IB.out.grow (Grown.past g)) enters_tooFar HFB.out ht3)
                    have Q := Lib.hid q
                    clear q kb BB
                    go_wp2_with (first | ((with_reducible refine (CV.out _ o4).mono ?_); rintro e w8 ⟨rfl, g5⟩; obtain ⟨t1, t2, t3, t4, t5, t6, t7⟩ : (∀ o : Nat, w8.cell? ⟨W.heap.size, o, none⟩ = (#[.int .i64 n.op, vi, .int .i64 n.k, .int .i64 n.stride, .int .i64 n.pad, .int .i64 n.out, .int .i64 n.mul, .int .i64 n.shift, .int .i64 n.zero, .int .i64 n.th, .int .i64 n.tw, .int .i64 n.tc, (.slice A2 n.ws.length c2), (.slice A3 n.bs.length c3)] : Array Value)[o]?) ∧ (∀ o : Nat, w8.cell? ⟨W.heap.size + 1, o, none⟩ = (#[.int .i64 0, .int .i64 0, .int .i64 0, .int .i64 0] : Array Value)[o]?) ∧ (∀ o : Nat, w8.frozen? ⟨W.heap.size + 1, o, none⟩ = false) ∧ Grown W w8 ∧ W.heap.size + 2 ≤ w8.heap.size ∧ (∀ o : Nat, w8.cell? ⟨P8, o, none⟩ = (#[.int .i64 s.1, .int .i64 s.2.1, .int .i64 s.2.2, .int .i64 n.zero] : Array Value)[o]?) ∧ P8 + 1 ≤ w8.heap.size := by (exact kKeep)))
                    exact bodyPost_ret (v := .tuple #[.agg #[.int .i64 0, .int .i64 0, .int .i64 0, .int .i64 0], .int .i64 12]) (by simp [results, Try.results37, go_sem, *]) rfl (value_err Q.out (by decide) kKeep)
          · have q := valueE_10' (n := n) (vs := vs) ⟨h, R.out.symm ▸ TK.out⟩ MV.out (HS.out.symm ▸ k)
            have Q := Lib.hid q
            have CM := Lib.hid (fun w => by
              have := mayNotBe_any s.1 s.2.1 s.2.2 n.zero w
              rw [show mayB (s.1, s.2.1, s.2.2) = false from mayB_f k] at this
              exact this)
            clear q k MT MK
            go_wp2_with (first | (go_at_call 48; with_reducible refine (CM.out _).mono ?_; rintro e w6 ⟨rfl, g4⟩; obtain ⟨l1, l2, l3, l4⟩ : (∀ o : Nat, w6.cell? ⟨W.heap.size + 1, o, none⟩ = (#[.int .i64 0, .int .i64 0, .int .i64 0, .int .i64 0] : Array Value)[o]?) ∧ (∀ o : Nat, w6.frozen? ⟨W.heap.size + 1, o, none⟩ = false) ∧ Grown W w6 ∧ W.heap.size + 2 ≤ w6.heap.size := by (exact kKeep)))
            exact bodyPost_ret (v := .tuple #[.agg #[.int .i64 0, .int .i64 0, .int .i64 0, .int .i64 0], .int .i64 10]) (by simp [results, Try.results37, go_sem, *]) rfl (value_err Q.out (by decide) kKeep)
      · have q := valueE_10 (n := n) (vs := vs) ⟨h, R.out.symm ▸ TK.out⟩ k
        have Q := Lib.hid q
        have ht2 : Hid (true = true ↔ ∃ j, j < vs.length ∧ (!mayB (shD (vs.getD j default))) = true) := Lib.hid ⟨fun _ => by
          apply Classical.byContradiction
          intro c
          apply k
          intro j hj
          apply Classical.byContradiction
          intro d
          apply c
          refine ⟨j, hj, ?_⟩
          rw [show mayB (shD (vs.getD j default)) = false from mayB_f d]
          rfl, fun _ => rfl⟩
        have CV := Lib.hid (fun w (g : Grown W w) => containsVals_any _ (fun x => !mayB (shD x)) vs lv w true (hv.grow (Grown.past g)) enters_mayNotBe hF.out ht2)
        clear q k MM
        go_wp2_with (first | (go_at_call 47; with_reducible refine (CV.out _ e4).mono ?_; rintro e w4 ⟨rfl, g4⟩; obtain ⟨i1, i2, i3, i4⟩ : (∀ o : Nat, w4.cell? ⟨W.heap.size + 1, o, none⟩ = (#[.int .i64 0, .int .i64 0, .int .i64 0, .int .i64 0] : Array Value)[o]?) ∧ (∀ o : Nat, w4.frozen? ⟨W.heap.size + 1, o, none⟩ = false) ∧ Grown W w4 ∧ W.heap.size + 2 ≤ w4.heap.size := by (exact kKeep)))
        exact bodyPost_ret (v := .tuple #[.agg #[.int .i64 0, .int .i64 0, .int .i64 0, .int .i64 0], .int .i64 10]) (by simp [results, Try.results37, go_sem, *]) rfl (value_err Q.out (by decide) kKeep)
    · have q := valueE_11 (n := n) (vs := vs) (fun j => k (R.out ▸ j.2))
      have Q := Lib.hid q
      have ht : Hid (false = true ↔ takesP r n vs) := Lib.hid ⟨fun j => Bool.noConfusion j, fun j => absurd j k⟩
      clear q k tk
      go_wp2_with (first | (go_at_call 53; with_reducible refine (takes_any r _ _ n vi vw vb lv vs _ false (hv.grow (Grown.past g3)) ht).mono ?_; rintro e w3 ⟨rfl, g4⟩; obtain ⟨e1, e2, e3, e4⟩ : (∀ o : Nat, w3.cell? ⟨W.heap.size + 1, o, none⟩ = (#[.int .i64 0, .int .i64 0, .int .i64 0, .int .i64 0] : Array Value)[o]?) ∧ (∀ o : Nat, w3.frozen? ⟨W.heap.size + 1, o, none⟩ = false) ∧ Grown W w3 ∧ W.heap.size + 2 ≤ w3.heap.size := by (exact kKeep)))
      exact bodyPost_ret (v := .tuple #[.agg #[.int .i64 0, .int .i64 0, .int .i64 0, .int .i64 0], .int .i64 11]) (by simp [results, Try.results37, go_sem, *]) rfl (value_err Q.out (by decide) kKeep)
  · refine (opOf_no n.op _ h).mono ?_
    rintro e w1 ⟨rfl, g⟩
    obtain ⟨c1, c2, f3, g2, s2⟩ : (∀ o : Nat, w1.cell? ⟨W.heap.size, o, none⟩ = (#[.int .i64 n.op, vi, .int .i64 n.k, .int .i64 n.stride, .int .i64 n.pad, .int .i64 n.out, .int .i64 n.mul, .int .i64 n.shift, .int .i64 n.zero, .int .i64 n.th, .int .i64 n.tw, .int .i64 n.tc, vw, vb] : Array Value)[o]?) ∧ (∀ o : Nat, w1.cell? ⟨W.heap.size + 1, o, none⟩ = (#[.int .i64 0, .int .i64 0, .int .i64 0, .int .i64 0] : Array Value)[o]?) ∧ (∀ o : Nat, w1.frozen? ⟨W.heap.size + 1, o, none⟩ = false) ∧ Grown W w1 ∧ W.heap.size + 2 ≤ w1.heap.size := by (exact kKeep)
    clear b1 b2 f2 g1 s1
    have q := valueE_11 (n := n) (vs := vs) (fun k => h k.1)
    have Q := Lib.hid q
    clear q h
    unfold opV
    go_upto_region 2 with fail
    refine opq (fun w' => (∀ o : Nat, w'.cell? ⟨W.heap.size + 1, o, none⟩ = (#[.int .i64 0, .int .i64 0, .int .i64 0, .int .i64 0] : Array Value)[o]?) ∧ (∀ o : Nat, w'.frozen? ⟨W.heap.size + 1, o, none⟩ = false) ∧ Grown W w' ∧ W.heap.size + 2 ≤ w'.heap.size) kKeep ?_
    rintro w2 ⟨d2, f4, g3, s3⟩
    clear c1 c2 f3 g2 s2 g
    go_wp2_with fail
    exact bodyPost_ret (v := .tuple #[.agg #[.int .i64 0, .int .i64 0, .int .i64 0, .int .i64 0], .int .i64 11]) (by simp [results, Try.results37, go_sem, *]) rfl (value_err Q.out (by decide) kKeep)
end Go.Proofs.Ytgbedoffgahhaaa
