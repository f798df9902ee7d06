/- The walk of GraphValues, whole. -/
import Derived.Test.YtpfenpfnflkfiaaR3D
import Derived.Test.YtpfenpfnflkfiaaV5
namespace Go.Proofs.Ytpfenpfnflkfiaa
open Go.ChangeShapes Go.WideShapes Go.ChangeAt Go.RowKit
set_option linter.unusedVariables false

theorem values_walk (W : World) (nv : Value) (n0 : NodeD) (hn : IsNode W nv n0) (lv : Value) (l0 : List ValD) (hl : IsVals W lv l0) :
    Calls Try.prog 3 #[nv, lv] W fun e w' => e = .returned (.bool true) ∧ Past W w' := by
  rcases vals_cut 4 hl with ⟨A, len, cap, rfl, h, hv⟩ | ⟨b, off, len, cap, rfl, h, h1, hv⟩
  · exact values_in W nv _ _ n0 _ A len cap rfl hv hn (.inl ⟨h, rfl⟩) (by omega) (fun n vi vw vb lv vs W h1 h2 => rvalue_any n vi vw vb lv vs W h1 h2)
  · refine values_in W nv _ _ n0 _ (some ⟨b, off, none⟩) len cap rfl hv hn (.inr ⟨h, h1, rfl, b, off, rfl⟩) ?_ (fun n vi vw vb lv vs W h1 h2 => rvalue_any n vi vw vb lv vs W h1 h2)
    obtain ⟨A, c, e, _, h3, _⟩ := hv
    simp only [Value.slice.injEq] at e
    obtain ⟨_, _, rfl⟩ := e
    unfold maxLen at h3
    omega
end Go.Proofs.Ytpfenpfnflkfiaa
