/- What Value answers at the examples and pairs of the laws: plain numbers. -/
import Derived.Test.YtgbedoffgahhaaaSpec
namespace Go.Proofs.Ytgbedoffgahhaaa
open Go.ChangeShapes Go.WideShapes Go.ChangeAt Go.RowKit
set_option linter.unusedVariables false

theorem valueE_mk11 {n : NodeD} {vs : List ValD} (h : ¬ (hasOp n.op ∧ takesP (opD n.op) n vs)) : valueE n vs = 11 := by unfold valueE; rw [if_pos h]
theorem valueE_mk10 {n : NodeD} {vs : List ValD} (h : hasOp n.op ∧ takesP (opD n.op) n vs) (k : ¬ ∀ j, j < vs.length → mayV (vs.getD j default)) : valueE n vs = 10 := by unfold valueE; rw [if_neg (fun f => f h), if_pos k]
theorem valueE_mk10' {n : NodeD} {vs : List ValD} (h : hasOp n.op ∧ takesP (opD n.op) n vs) (m : ¬ mayT (madeS n vs)) : valueE n vs = 10 := by
  by_cases k : ∀ j, j < vs.length → mayV (vs.getD j default)
  · unfold valueE; rw [if_neg (fun f => f h), if_neg (fun f => f k), if_pos m]
  · exact valueE_mk10 h k
theorem valueE_mk0 {n : NodeD} {vs : List ValD} (h : hasOp n.op ∧ takesP (opD n.op) n vs) (k : ∀ j, j < vs.length → mayV (vs.getD j default)) (m : mayT (madeS n vs)) (l1 : (n.ws.length : Int) = (wantS n (vs.getD 0 default) (madeS n vs).2.2).1) (l2 : (n.bs.length : Int) = (wantS n (vs.getD 0 default) (madeS n vs).2.2).2) (l3 : ∀ j, j < n.bs.length → nearB (n.bs.getD j 0)) : valueE n vs = 0 := by
  unfold valueE; rw [if_neg (fun f => f h), if_neg (fun f => f k), if_neg (fun f => f m), if_neg (fun f => f ⟨l1, l2, l3⟩)]
theorem valueV_mk {n : NodeD} {vs : List ValD} (h : valueE n vs = 0) : valueV n vs = ⟨(madeS n vs).1, (madeS n vs).2.1, (madeS n vs).2.2, n.zero⟩ := by unfold valueV; rw [if_pos h]

theorem below_one {p : Nat → Prop} (h : p 0) : ∀ j, j < 1 → p j := fun j hj => by
  obtain rfl : j = 0 := by omega
  exact h
theorem below_two {p : Nat → Prop} (h : p 0) (k : p 1) : ∀ j, j < 2 → p j := fun j hj => by
  match j, hj with
  | 0, _ => exact h
  | 1, _ => exact k

/-- The document's example. -/
theorem shown_E : valueE ⟨4, [], 2, 2, 0, 0, 1, 0, 0, 0, 0, 0, [], []⟩ [⟨5, 4, 3, 0⟩] = 0 ∧ valueV ⟨4, [], 2, 2, 0, 0, 1, 0, 0, 0, 0, 0, [], []⟩ [⟨5, 4, 3, 0⟩] = ⟨2, 2, 3, 0⟩ := by
  have m : madeS ⟨4, [], 2, 2, 0, 0, 1, 0, 0, 0, 0, 0, [], []⟩ [⟨5, 4, 3, 0⟩] = (2, 2, 3) := by
    have e1 : outI 5 2 2 0 = 2 := by rw [outI_yes (by unfold mayWin; omega)]; decide
    have e2 : outI 4 2 2 0 = 2 := by rw [outI_yes (by unfold mayWin; omega)]; decide
    simp [madeS, e1, e2]
  have E : valueE ⟨4, [], 2, 2, 0, 0, 1, 0, 0, 0, 0, 0, [], []⟩ [⟨5, 4, 3, 0⟩] = 0 := by
    refine valueE_mk0 ⟨by unfold hasOp; decide, ?_⟩ (below_one ?_) (by rw [m]; unfold mayT mayS; decide) (by simp [wantS]) (by simp [wantS]) (by simp)
    · refine ⟨rfl, below_one ?_, ?_, ?_⟩
      · decide
      · unfold scaledP; decide
      · unfold setP opD; decide
    · unfold mayV mayS; decide
  refine ⟨E, ?_⟩
  rw [valueV_mk E, m]

/-- A sum or a product of two values, by a nought that may be. -/
def pairN (o z : Int) : NodeD := ⟨o, [], 0, 0, 0, 0, 1, 0, z, 0, 0, 0, [], []⟩

theorem pair_takes {o z : Int} {a b : ValD} (ho : o = 6 ∨ o = 7) (z1 : -128 ≤ z) (z2 : z ≤ 127) : hasOp (pairN o z).op ∧ takesP (opD (pairN o z).op) (pairN o z) [a, b] := by
  rcases ho with rfl | rfl
  · refine ⟨by unfold hasOp; simp [pairN], rfl, below_two ?_ ?_, ?_, ?_⟩
    · intro h; cases h.1
    · intro h; cases h.1
    · exact ⟨by simp [pairN], by simp [pairN], z1, z2⟩
    · unfold setP; simp [opD, pairN]
  · refine ⟨by unfold hasOp; simp [pairN], rfl, below_two ?_ ?_, ?_, ?_⟩
    · intro h; cases h.1
    · intro h; cases h.1
    · exact ⟨by simp [pairN], by simp [pairN], z1, z2⟩
    · unfold setP; simp [opD, pairN]

theorem pair_made {o z : Int} {a b : ValD} (ho : o = 6 ∨ o = 7) : madeS (pairN o z) [a, b] = alikeS [a, b] := by
  rcases ho with rfl | rfl <;> simp [madeS, pairN]

theorem alike_two {a b : ValD} (h : a.h = b.h ∧ a.w = b.w ∧ a.c = b.c) : alikeS [a, b] = (a.h, a.w, a.c) := by
  unfold alikeS
  rw [if_pos]
  · rfl
  · exact below_two (p := fun j => shD ([a, b].getD j default) = shD ([a, b].getD 0 default)) rfl (by simp [shD, h.1, h.2.1, h.2.2])

theorem alike_not {a b : ValD} (h : ¬ (a.h = b.h ∧ a.w = b.w ∧ a.c = b.c)) : alikeS [a, b] = (0, 0, 0) := by
  unfold alikeS
  rw [if_neg]
  intro k
  have := k 1 (by simp)
  simp only [shD, List.getD, List.getElem?_cons_succ, List.getElem?_cons_zero, Option.getD_some, Prod.mk.injEq] at this
  exact h ⟨this.1.symm, this.2.1.symm, this.2.2.symm⟩

theorem pair_yes {o z : Int} {a b : ValD} (ho : o = 6 ∨ o = 7) (z1 : -128 ≤ z) (z2 : z ≤ 127) (m : mayV a) (h : a.h = b.h ∧ a.w = b.w ∧ a.c = b.c) : valueE (pairN o z) [a, b] = 0 ∧ valueV (pairN o z) [a, b] = ⟨a.h, a.w, a.c, z⟩ := by
  have M : madeS (pairN o z) [a, b] = (a.h, a.w, a.c) := by rw [pair_made ho, alike_two h]
  have mb : mayV b := by unfold mayV at m ⊢; rw [← h.1, ← h.2.1, ← h.2.2]; exact m
  have W : wantS (pairN o z) a a.c = (0, 0) := by rcases ho with rfl | rfl <;> simp [wantS, pairN]
  have E : valueE (pairN o z) [a, b] = 0 := by
    refine valueE_mk0 (pair_takes ho z1 z2) (below_two m mb) (by rw [M]; exact m) ?_ ?_ (by simp [pairN])
    · rw [M]; show _ = (wantS (pairN o z) a a.c).1; rw [W]; rfl
    · rw [M]; show _ = (wantS (pairN o z) a a.c).2; rw [W]; rfl
  refine ⟨E, ?_⟩
  rw [valueV_mk E, M]
  rfl

theorem pair_no {o z : Int} {a b : ValD} (ho : o = 6 ∨ o = 7) (z1 : -128 ≤ z) (z2 : z ≤ 127) (h : ¬ (mayV a ∧ (a.h = b.h ∧ a.w = b.w ∧ a.c = b.c))) : valueE (pairN o z) [a, b] = 10 := by
  by_cases m : mayV a
  · refine valueE_mk10' (pair_takes ho z1 z2) ?_
    rw [pair_made ho, alike_not (fun k => h ⟨m, k⟩)]
    unfold mayT mayS
    simp
  · refine valueE_mk10 (pair_takes ho z1 z2) (fun k => m ?_)
    exact k 0 (by simp)
end Go.Proofs.Ytgbedoffgahhaaa
