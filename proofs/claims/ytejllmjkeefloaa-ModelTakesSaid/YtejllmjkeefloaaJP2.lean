/- What a graph's nodes make: numbers of GraphMakes. Check; graphs that a law has cut. -/
import Derived.Test.YtejllmjkeefloaaJV4
import Derived.Test.YtejllmjkeefloaaJG6A
namespace Go.Proofs.Ytejllmjkeefloaa
open Go.ChangeShapes Go.WideShapes Go.ChangeAt Go.RowKit
set_option linter.unusedVariables false

/-- What holds of a graph that may be. -/
theorem values_ok {g : GraphD} (h : valuesE g = 0) : beginsE g = 0 ∧ goS g.nodes g.ins = (0, valuesL g) ∧ sumW g.nodes ≤ 4096 ∧ namedP (valuesL g) g.outs := by
  have h' := h
  unfold valuesE at h
  by_cases a : beginsE g ≠ 0
  · rw [if_pos a] at h; exact absurd h a
  rw [if_neg a] at h
  by_cases b : (goS g.nodes g.ins).1 ≠ 0
  · rw [if_pos b] at h; exact absurd h b
  rw [if_neg b] at h
  by_cases c : 4096 < sumW g.nodes
  · rw [if_pos c] at h; cases h
  rw [if_neg c] at h
  have e : valuesL g = (goS g.nodes g.ins).2 := by unfold valuesL; rw [if_pos h']
  by_cases d : namedP (goS g.nodes g.ins).2 g.outs
  · refine ⟨by simpa using a, ?_, by omega, by rw [e]; exact d⟩
    rw [e]
    have : (goS g.nodes g.ins).1 = 0 := by simpa using b
    exact Prod.ext this rfl
  · rw [if_pos d] at h; cases h
theorem begins_ok {g : GraphD} (h : beginsE g = 0) : (1 ≤ g.ins.length ∧ g.ins.length ≤ 4 ∧ g.nodes.length ≤ 12 ∧ 1 ≤ g.outs.length ∧ g.outs.length ≤ 4) ∧ (∀ j, j < g.ins.length → mayV (g.ins.getD j default)) ∧ (∀ j, j < g.ins.length → -128 ≤ (g.ins.getD j default).z ∧ (g.ins.getD j default).z ≤ 127) := by
  unfold beginsE at h
  by_cases a : 4 < g.ins.length ∨ 12 < g.nodes.length ∨ 4 < g.outs.length
  · rw [if_pos a] at h; cases h
  rw [if_neg a] at h
  by_cases b : g.ins.length = 0 ∨ g.outs.length = 0
  · rw [if_pos b] at h; cases h
  rw [if_neg b] at h
  by_cases c : ∀ j, j < g.ins.length → mayV (g.ins.getD j default)
  · rw [if_neg (fun f => f c)] at h
    by_cases d : ∀ j, j < g.ins.length → -128 ≤ (g.ins.getD j default).z ∧ (g.ins.getD j default).z ≤ 127
    · exact ⟨by omega, c, d⟩
    · rw [if_pos d] at h; cases h
  · rw [if_pos c] at h; cases h
theorem begins_mk {g : GraphD} (h : 1 ≤ g.ins.length ∧ g.ins.length ≤ 4 ∧ g.nodes.length ≤ 12 ∧ 1 ≤ g.outs.length ∧ g.outs.length ≤ 4) (c : ∀ j, j < g.ins.length → mayV (g.ins.getD j default)) (d : ∀ j, j < g.ins.length → -128 ≤ (g.ins.getD j default).z ∧ (g.ins.getD j default).z ≤ 127) : beginsE g = 0 := by
  unfold beginsE
  rw [if_neg (by omega), if_neg (by omega), if_neg (fun f => f c), if_neg (fun f => f d)]
end Go.Proofs.Ytejllmjkeefloaa
namespace Go.Proofs.Ytejllmjkeefloaa
open Go.ChangeShapes Go.WideShapes Go.ChangeAt Go.RowKit
set_option maxRecDepth 20000
set_option linter.unusedVariables false

/-- A block that holds no number. -/
def NoInt (w : World) (B : Nat) : Prop := ∀ o k n, w.cell? ⟨B, o, none⟩ ≠ some (.int k n)
theorem noInt_box {w : World} {B : Nat} {a1 a2 a3 : Option Addr} {l1 l2 l3 c1 c2 c3 : Nat} (h : (∀ o : Nat, w.cell? ⟨B, o, none⟩ = (#[.slice a1 l1 c1, .slice a2 l2 c2, .slice a3 l3 c3] : Array Value)[o]?)) : NoInt w B := by
  intro o k n
  rw [h o]
  match o with
  | 0 => simp
  | 1 => simp
  | 2 => simp
  | o + 3 => simp
/-- All but block B is as it was. -/
def Save (B : Nat) (w w' : World) : Prop := w.heap.size ≤ w'.heap.size ∧ ∀ k, k < w.heap.size → k ≠ B → w'.heap[k]? = w.heap[k]?
theorem Save.refl (B : Nat) (w : World) : Save B w w := ⟨Nat.le_refl _, fun _ _ _ => rfl⟩
theorem Save.set {B : Nat} {w w' : World} (h : Save B w w') (o : Nat) (u : Value) : Save B w (w'.setCell ⟨B, o, none⟩ u) :=
  ⟨by simpa [World.setCell] using h.1, fun k hk hne => (Below.heap_setCell w' ⟨B, o, none⟩ u k hne).trans (h.2 k hk hne)⟩
theorem Save.cell {B : Nat} {w w' : World} (h : Save B w w') {b o : Nat} (hb : b < w.heap.size) (hne : b ≠ B) : w'.cell? ⟨b, o, none⟩ = w.cell? ⟨b, o, none⟩ := World.cell?_of_block (h.2 b hb hne)
theorem nums_save {k : IntKind} {B : Nat} {w w' : World} {v : Value} {xs : List Int} (h : IsNums k w v xs) (hN : NoInt w B) (g : Save B w w') : IsNums k w' v xs := by
  obtain ⟨A, cap, h1, h2, h3, h4, h5, h6⟩ := h
  refine ⟨A, cap, h1, h2, h3, h4, h5, fun hp => ?_⟩
  obtain ⟨b, off, e, hb, hc⟩ := h6 hp
  have hne : b ≠ B := fun e => hN _ _ _ (e ▸ hc 0 hp)
  exact ⟨b, off, e, Nat.lt_of_lt_of_le hb g.1, fun i hi => (g.cell hb hne).trans (hc i hi)⟩
theorem vals_save {B : Nat} {w w' : World} {v : Value} {xs : List ValD} (h : IsVals w v xs) (hN : NoInt w B) (g : Save B w w') : IsVals w' v xs := by
  obtain ⟨A, cap, h1, h2, h3, h4, h5, h6⟩ := h
  refine ⟨A, cap, h1, h2, h3, h4, h5, fun hp => ?_⟩
  obtain ⟨b, off, e, hb, hc⟩ := h6 hp
  have hne : b ≠ B := fun e => hN _ _ _ (e ▸ (hc 0 hp).1)
  exact ⟨b, off, e, Nat.lt_of_lt_of_le hb g.1, fun i hi => ⟨(g.cell hb hne).trans (hc i hi).1, (g.cell hb hne).trans (hc i hi).2.1, (g.cell hb hne).trans (hc i hi).2.2.1, (g.cell hb hne).trans (hc i hi).2.2.2⟩⟩
theorem nodes_save {B : Nat} {w w' : World} {v : Value} {ns : List NodeD} (h : IsNodes w v ns) (hN : NoInt w B) (g : Save B w w') : IsNodes w' v ns := by
  obtain ⟨A, cap, h1, h2, h3, h4, h5, h6⟩ := h
  refine ⟨A, cap, h1, h2, h3, h4, h5, fun hp => ?_⟩
  obtain ⟨b, off, e, hb, hc⟩ := h6 hp
  have hne : b ≠ B := fun e => by
    obtain ⟨vi, vw, vb, _, k⟩ := hc 0 hp
    exact hN _ _ _ (e ▸ k 0 (by omega))
  refine ⟨b, off, e, Nat.lt_of_lt_of_le hb g.1, fun i hi => ?_⟩
  obtain ⟨vi, vw, vb, hin, k⟩ := hc i hi
  exact ⟨vi, vw, vb, ⟨nums_save hin.1 hN g, nums_save hin.2.1 hN g, nums_save hin.2.2 hN g⟩, fun j hj => (g.cell hb hne).trans (k j hj)⟩
theorem box_set3 {w : World} {b : Nat} {x0 x1 x2 y0 y1 y2 : Value} (h : (∀ o : Nat, w.cell? ⟨b, o, none⟩ = (#[x0, x1, x2] : Array Value)[o]?)) : (∀ o : Nat, (((w.setCell ⟨b, 0, none⟩ y0).setCell ⟨b, 1, none⟩ y1).setCell ⟨b, 2, none⟩ y2).cell? ⟨b, o, none⟩ = (#[y0, y1, y2] : Array Value)[o]?) := by
  have h0 := h 0
  have h1 := h 1
  have h2 := h 2
  have c1 : ((w.setCell ⟨b, 0, none⟩ y0).setCell ⟨b, 1, none⟩ y1).cell? ⟨b, 2, none⟩ = some x2 := by
    rw [World.cell?_setCell_other _ _ _ _ (by simp), World.cell?_setCell_other _ _ _ _ (by simp)]; exact h2
  have c2 : (w.setCell ⟨b, 0, none⟩ y0).cell? ⟨b, 1, none⟩ = some x1 := by
    rw [World.cell?_setCell_other _ _ _ _ (by simp)]; exact h1
  intro o
  match o with
  | 0 =>
    rw [World.cell?_setCell_other _ _ _ _ (by simp), World.cell?_setCell_other _ _ _ _ (by simp)]
    exact World.cell?_setCell_same w _ _ h0
  | 1 =>
    rw [World.cell?_setCell_other _ _ _ _ (by simp)]
    exact World.cell?_setCell_same _ _ _ c2
  | 2 => exact World.cell?_setCell_same _ _ _ c1
  | k + 3 =>
    rw [World.cell?_setCell_other _ _ _ _ (by simp), World.cell?_setCell_other _ _ _ _ (by simp), World.cell?_setCell_other _ _ _ _ (by simp)]
    have := h (k + 3)
    simpa using this
theorem check_any (g : GraphD) (gv : Value) (W : World) (hg : IsGraph W gv g) (hc : Cut g) : Calls Try.prog 22 #[gv] W fun e w' => e = .returned (.int .i64 (valuesE g)) ∧ Past W w' := by
  have HG := Lib.hid hg
  obtain ⟨iv, nv, ov, rfl, hi, hn, ho⟩ := hg
  obtain ⟨A1, c1, rfl, _, _, _, _, _⟩ := hi
  obtain ⟨A2, c2, rfl, _, _, _, _, _⟩ := hn
  obtain ⟨A3, c3, rfl, _, _, _, _, _⟩ := ho
  have HV := Lib.hid (fun w (p : Past W w) => values_any g _ w (HG.out.grow p) hc)
  clear hc
  go_enter Try.func22, Try.ntmps22
  go_upto_region 1 with fail
  refine opq (fun w' => (∀ o : Nat, w'.cell? ⟨W.heap.size, o, none⟩ = (#[.slice A1 g.ins.length c1, .slice A2 g.nodes.length c2, .slice A3 g.outs.length c3] : Array Value)[o]?) ∧ Past W w') kKeep ?_
  rintro w1 ⟨b1, p1⟩
  go_wp2_with fail
  refine (HV.out _ p1).mono ?_
  rintro e w2 ⟨v, rfl, hv, p2⟩
  obtain ⟨A, c, rfl, _, _, _, _, _⟩ := hv
  go_wp2_with fail
  go_ret
  exact ⟨rfl, p1.trans p2⟩
end Go.Proofs.Ytejllmjkeefloaa
