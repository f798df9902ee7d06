/- The laws' head. -/
import Derived.Test.YtdfkpclilcnofaaS6
import Derived.Lib.SlBytesConst
namespace Go.Proofs.Ytdfkpclilcnofaa
open Go.ChangeShapes Go.WideShapes Go.ChangeAt Go.RowKit
set_option maxRecDepth 20000
set_option linter.unusedVariables false
set_option linter.unusedSimpArgs false

def exB : List Nat := [49, 50, 51, 52, 53, 54, 55, 56, 57]
theorem exB_sum : sumD exB = 3421780262 := by decide +kernel
theorem exB_B : Bytes exB := by unfold Bytes exB; decide
theorem nums_mark (w : World) (l : List Nat) (f : Nat × Nat) (hb : Bytes l) (hm : l.length ≤ maxLen) : IsNums .u8 (w.alloc (.cells ⟨cellB l⟩ 5 f)) (.slice (some ⟨w.heap.size, 0, none⟩) l.length l.length) (ints l) := by
  have hh : (w.alloc (.cells ⟨cellB l⟩ 5 f)).heap[w.heap.size]? = some (.cells ⟨cellB l⟩ 5 f) := heap_alloc_new w _
  refine ⟨some ⟨w.heap.size, 0, none⟩, l.length, by rw [ints_len], by rw [ints_len]; exact Nat.le_refl _, hm, (fun h => by cases h), ints_wf hb, fun _ => ⟨w.heap.size, 0, rfl, (Array.getElem?_eq_some_iff.1 hh).1, fun i hi => ?_⟩⟩
  rw [ints_len] at hi
  rw [ints_at, Nat.zero_add, ← cellB_at l i hi]
  unfold World.cell?
  simp only [hh]
  simp
theorem nums_nil (w : World) : IsNums .u8 w (.slice none 0 0) (ints []) := ⟨none, 0, rfl, Nat.le_refl _, Nat.zero_le _, fun _ => rfl, by simp [ints], by simp [ints]⟩

set_option maxHeartbeats 2000000 in
theorem shown_any (W : World) : Calls Try.prog 7 #[] W fun e w' => e = .returned (.bool true) ∧ Past W w' := by
  have N1 := Lib.hid (fun f => sum_any exB _ _ (nums_mark W exB f exB_B (by simp [exB, maxLen])) exB_B (by simp [exB]))
  have kc := fun (w : World) (C : Array Value) (n c : Nat) => Lib.run_convert_bytes_const (P := Try.prog) w 22 5 C n c Try.underlying22 Try.underlying5
  have N2 := Lib.hid (fun w => seal_any [] _ w (nums_nil w) (by simp [Bytes]) (by simp))
  go_enter Try.func7, Try.ntmps7
  go_wp2_with fail
  refine (N1.out _).mono ?_
  rintro e w1 ⟨rfl, g⟩
  rw [exB_sum]
  have p1 : Past W w1 := ((Past.refl W).alloc _).trans (Grown.past g)
  clear N1 g
  go_wp2_with fail
  refine (N2.out _).mono ?_
  rintro e w2 ⟨rfl, _, g⟩
  go_wp2_with fail
  go_ret
  exact ⟨rfl, p1.trans g⟩
end Go.Proofs.Ytdfkpclilcnofaa
