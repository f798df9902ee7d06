/- GraphBounds in numbers: graphs of small values, of OpRelus of the first one, that come out of the first one. -/
import Derived.Test.YtpfenpfnflkfiaaP2
namespace Go.Proofs.Ytpfenpfnflkfiaa
open Go.ChangeShapes Go.WideShapes Go.ChangeAt Go.RowKit
set_option linter.unusedVariables false

def oneV : ValD := ⟨1, 1, 1, 0⟩
def reluN : NodeD := ⟨8, [0], 0, 0, 0, 0, 1, 0, 0, 0, 0, 0, [], []⟩
def boundG (a b c : Nat) : GraphD := ⟨List.replicate a oneV, List.replicate b reluN, List.replicate c 0⟩

theorem relu_E : valueE reluN [oneV] = 0 ∧ valueV reluN [oneV] = oneV := by
  have m : madeS reluN [oneV] = (1, 1, 1) := by
    have : madeS reluN [oneV] = alikeS [oneV] := by simp [madeS, reluN]
    rw [this]
    unfold alikeS
    rw [if_pos]
    · rfl
    · exact below_one (p := fun j => shD ([oneV].getD j default) = shD ([oneV].getD 0 default)) rfl
  have E : valueE reluN [oneV] = 0 := by
    refine valueE_mk0 ⟨by unfold hasOp; decide, ?_⟩ (below_one ?_) (by rw [m]; unfold mayT mayS; decide) (by simp [wantS, reluN]) (by simp [wantS, reluN]) (by simp [reluN])
    · refine ⟨rfl, below_one ?_, ?_, ?_⟩
      · decide
      · unfold scaledP; decide
      · unfold setP opD; decide
    · unfold mayV mayS; decide
  refine ⟨E, ?_⟩
  rw [valueV_mk E, m]
  rfl

theorem goS_relu (b : Nat) : ∀ a : Nat, 1 ≤ a → goS (List.replicate b reluN) (List.replicate a oneV) = (0, List.replicate (a + b) oneV) := by
  induction b with
  | zero => intro a _; rfl
  | succ b ih =>
    intro a ha
    rw [List.replicate_succ]
    have hn : namedL (List.replicate a oneV) reluN.ins = [oneV] := by
      cases a with
      | zero => omega
      | succ a => rfl
    have hp : namedP (List.replicate a oneV) reluN.ins := by
      intro j hj
      simp only [reluN, List.length_cons, List.length_nil] at hj
      obtain rfl : j = 0 := by omega
      simp [reluN]
      omega
    rw [goS_ok hp (by rw [hn]; exact relu_E.1), hn, relu_E.2]
    have e : List.replicate a oneV ++ [oneV] = List.replicate (a + 1) oneV := by rw [← List.replicate_succ']
    rw [e, ih (a + 1) (by omega)]
    have : a + 1 + b = a + (b + 1) := by omega
    rw [this]

theorem sumW_relu (b : Nat) : sumW (List.replicate b reluN) = 0 := by
  induction b with
  | zero => rfl
  | succ b ih => rw [List.replicate_succ, sumW, ih]; rfl

theorem repl_getD {α : Type} [Inhabited α] (n j : Nat) (x d : α) (h : j < n) : (List.replicate n x).getD j d = x := by simp [List.getD, h]

theorem bound_E (a b c : Nat) : valuesE (boundG a b c) = if 4 < a ∨ 12 < b ∨ 4 < c then 3 else if a = 0 ∨ c = 0 then 13 else 0 := by
  have l1 : (boundG a b c).ins.length = a := by simp [boundG]
  have l2 : (boundG a b c).nodes.length = b := by simp [boundG]
  have l3 : (boundG a b c).outs.length = c := by simp [boundG]
  by_cases h1 : 4 < a ∨ 12 < b ∨ 4 < c
  · rw [if_pos h1]
    have e : beginsE (boundG a b c) = 3 := by unfold beginsE; rw [l1, l2, l3, if_pos h1]
    unfold valuesE; rw [if_pos (by rw [e]; decide), e]
  · rw [if_neg h1]
    by_cases h2 : a = 0 ∨ c = 0
    · rw [if_pos h2]
      have e : beginsE (boundG a b c) = 13 := by unfold beginsE; rw [l1, l2, l3, if_neg h1, if_pos h2]
      unfold valuesE; rw [if_pos (by rw [e]; decide), e]
    · rw [if_neg h2]
      have hv : ∀ j, j < (boundG a b c).ins.length → (boundG a b c).ins.getD j default = oneV := fun j hj => repl_getD _ _ _ _ (by omega)
      have e : beginsE (boundG a b c) = 0 := begins_mk (by rw [l1, l2, l3]; omega) (fun j hj => by rw [hv j hj]; unfold mayV mayS; decide) (fun j hj => by rw [hv j hj]; decide)
      have g : goS (boundG a b c).nodes (boundG a b c).ins = (0, List.replicate (a + b) oneV) := goS_relu b a (by omega)
      have s : sumW (boundG a b c).nodes = 0 := sumW_relu b
      unfold valuesE
      rw [if_neg (by rw [e]; decide), g, if_neg (by simp), s, if_neg (by decide), if_neg]
      intro f
      apply f
      intro j hj
      rw [l3] at hj
      have : (boundG a b c).outs.getD j 0 = 0 := repl_getD _ _ _ _ hj
      rw [this]
      simp only [List.length_replicate]
      omega

theorem bound_L (a b c : Nat) : (valuesE (boundG a b c) = 0 → (valuesL (boundG a b c)).length = a + b) ∧ (valuesE (boundG a b c) ≠ 0 → valuesL (boundG a b c) = []) := by
  refine ⟨fun h => ?_, fun h => by unfold valuesL; rw [if_neg h]⟩
  have := (makes_facts h).1
  rw [this]
  simp [boundG]
end Go.Proofs.Ytpfenpfnflkfiaa
