/- graph: opOf. -/
import Derived.Test.YtgbedoffgahhaaaG4
import Derived.Test.YtgbedoffgahhaaaG5
import Derived.Laws.EntriesVeiled
namespace Go.Proofs.Ytgbedoffgahhaaa
open Go.ChangeShapes Go.WideShapes Go.ChangeAt Go.RowKit
set_option maxRecDepth 20000
set_option linter.unusedVariables false

theorem slid_any (f : FuncId) (w : World) : Calls Try.prog 67 #[.func (.func f) #[] #[]] w fun e w' => e = .returned (.func (.func 84) #[] #[.pointer (some ⟨w.heap.size, 0, none⟩)]) ∧ w' = w.alloc (.cells #[.func (.func f) #[] #[]] 117) := by
  go_enter Try.func67, Try.ntmps67
  go_wp2
  go_ret
  exact ⟨rfl, rfl⟩

theorem ofChannels_any (f : FuncId) (w : World) : Calls Try.prog 69 #[.func (.func f) #[] #[]] w fun e w' => e = .returned (.func (.func 87) #[] #[.pointer (some ⟨w.heap.size, 0, none⟩)]) ∧ w' = w.alloc (.cells #[.func (.func f) #[] #[]] 117) := by
  go_enter Try.func69, Try.ntmps69
  go_wp2
  go_ret
  exact ⟨rfl, rfl⟩

theorem always_any (m : Int) (w : World) : Calls Try.prog 75 #[.int .i64 m] w fun e w' => e = .returned (.func (.func 88) #[] #[.pointer (some ⟨w.heap.size, 0, none⟩)]) ∧ w' = w.alloc (.cells #[.int .i64 m] 3) := by
  go_enter Try.func75, Try.ntmps75
  go_wp2
  go_ret
  exact ⟨rfl, rfl⟩

/-- What sets an op apart: how many values, its bounds, whether it reshapes, whether it keeps the nought. -/
structure OpD where
  vals : Int
  k1 : Int
  k2 : Int
  s1 : Int
  s2 : Int
  p1 : Int
  p2 : Int
  o1 : Int
  o2 : Int
  resh : Bool
  keeps : Bool

def opV (r : OpD) (mk ct : Value) : Value := .agg #[.int .i64 r.vals, .int .i64 r.k1, .int .i64 r.k2, .int .i64 r.s1, .int .i64 r.s2, .int .i64 r.p1, .int .i64 r.p2, .int .i64 r.o1, .int .i64 r.o2, .bool r.resh, .bool r.keeps, mk, ct]

/-- A maker without a captured variable; a counter that captured one. -/
def Made0 (r : OpD) (mf cf : FuncId) (cv : Value) (w : World) (e : Ending) (w' : World) : Prop := ∃ q : Nat, e = .returned (.tuple #[opV r (.func (.func mf) #[] #[]) (.func (.func cf) #[] #[.pointer (some ⟨q, 0, none⟩)]), .bool true]) ∧ w'.cell? ⟨q, 0, none⟩ = some cv ∧ q < w'.heap.size ∧ Grown w w'
/-- Both captured one. -/
def Made1 (r : OpD) (mf cf : FuncId) (mv cv : Value) (w : World) (e : Ending) (w' : World) : Prop := ∃ p q : Nat, e = .returned (.tuple #[opV r (.func (.func mf) #[] #[.pointer (some ⟨p, 0, none⟩)]) (.func (.func cf) #[] #[.pointer (some ⟨q, 0, none⟩)]), .bool true]) ∧ w'.cell? ⟨p, 0, none⟩ = some mv ∧ p < w'.heap.size ∧ w'.cell? ⟨q, 0, none⟩ = some cv ∧ q < w'.heap.size ∧ Grown w w'

end Go.Proofs.Ytgbedoffgahhaaa
