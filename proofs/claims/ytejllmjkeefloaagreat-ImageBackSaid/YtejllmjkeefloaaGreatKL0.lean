/- Value at nodes without slices. The reference of layer 3: ints, SameValues. -/
import Derived.Test.YtejllmjkeefloaaGreatKG12
import Derived.Test.YtejllmjkeefloaaGreatKP1
import Derived.OpenShut
import Derived.Deep.QuietTactic
import Derived.BigQuiet
import Derived.Test.YtejllmjkeefloaaGreatKRead
namespace Go.Proofs.YtejllmjkeefloaaGreat
open Go.ChangeShapes Go.WideShapes Go.ChangeAt Go.RowKit
set_option maxRecDepth 20000
set_option linter.unusedVariables false

theorem vals_one {w : World} {b : Nat} {x : ValD} (hb : b < w.heap.size) (wf : ValWf x) (h : ValAt w b 0 x) : IsVals w (.slice (some ⟨b, 0, none⟩) 1 1) [x] :=
  ⟨some ⟨b, 0, none⟩, 1, rfl, Nat.le_refl _, by decide, (fun h => by cases h), by simpa using wf, fun _ => ⟨b, 0, rfl, hb, fun i hi => by
    simp only [List.length_cons, List.length_nil] at hi
    obtain rfl : i = 0 := by omega
    simpa using h⟩⟩
end Go.Proofs.YtejllmjkeefloaaGreat
namespace Go.Proofs.YtejllmjkeefloaaGreat
open Go.ChangeShapes Go.WideShapes Go.ChangeAt Go.RowKit
set_option linter.unusedVariables false

theorem getD_ext {xs ys : List Int} (h : xs.length = ys.length) : xs = ys ↔ ∀ j, j < xs.length → xs.getD j 0 = ys.getD j 0 := by
  constructor
  · rintro rfl j _; rfl
  · intro k
    refine List.ext_getElem h (fun i h1 h2 => ?_)
    have := k i h1
    simpa [List.getD, h1, h2] using this
theorem vals_ext {xs ys : List ValD} (h : xs.length = ys.length) : xs = ys ↔ ∀ j, j < xs.length → xs.getD j default = ys.getD j default := by
  constructor
  · rintro rfl j _; rfl
  · intro k
    refine List.ext_getElem h (fun i h1 h2 => ?_)
    have := k i h1
    simpa [List.getD, h1, h2] using this
end Go.Proofs.YtejllmjkeefloaaGreat
