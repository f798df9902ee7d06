/- GraphSame's walk, whole. -/
import Derived.Test.YtpfenpfnflkfiaaE7
import Derived.Test.YtpfenpfnflkfiaaE9
namespace Go.Proofs.Ytpfenpfnflkfiaa
open Go.ChangeShapes Go.WideShapes Go.ChangeAt Go.RowKit
theorem same_walk (W : World) (va : Value) (a0 : GraphD) (ha : IsGraph W va a0) (vb : Value) (b0 : GraphD) (hb : IsGraph W vb b0) : Calls Try.prog 4 #[va, vb] W fun e w' => e = .returned (.bool true) ∧ Past W w' :=
  same_walk0 same_node_ok W va a0 ha vb b0 hb
end Go.Proofs.Ytpfenpfnflkfiaa
