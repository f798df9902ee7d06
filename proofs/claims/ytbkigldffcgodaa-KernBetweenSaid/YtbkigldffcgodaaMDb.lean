/- Two bytes side by side, as an argument is read. -/
import Derived.Test.YtbkigldffcgodaaMLa
namespace Go.Proofs.Ytbkigldffcgodaa
open Go.ChangeShapes Go.WideShapes Go.ChangeAt Go.RowKit
set_option linter.unusedVariables false
set_option maxRecDepth 20000
variable {H : Type} {enc : TypeId × Value → H} {W : World}

theorem cellsByte : Try.prog.cellsOf 5 = 1 := by kernel_rfl
theorem cellsBytes2 : Try.prog.cellsOf 39 = 2 := by kernel_rfl

/-- Both numbers of a pair of bytes can be read by themselves. -/
theorem bytes2_read {fuel : Nat} {a b : Value} {x : DataW H × List MemPlace} (h : DataW.trod enc Try.prog W 0 (fun _ => true) true fuel 39 [a, b] = some x) :
    ∃ m y z, DataW.trod enc Try.prog W 0 (fun _ => true) true m 5 [a] = some y ∧ DataW.trod enc Try.prog W 0 (fun _ => true) true m 5 [b] = some z := by
  match fuel, h with
  | 0, h => simp [DataW.trod] at h
  | m + 1, h =>
    unfold DataW.trod at h
    rw [Try.underlying39] at h
    simp [show List.range 2 = [0, 1] from rfl, cellsByte] at h
    have h := h.2
    rcases e0 : DataW.trod enc Try.prog W 0 (fun _ => true) true m 5 [a] with _ | y
    · rw [e0] at h; simp at h
    · rcases e1 : DataW.trod enc Try.prog W 0 (fun _ => true) true m 5 [b] with _ | z
      · rw [e0, e1] at h; simp at h
      · exact ⟨m, y, z, e0, e1⟩

theorem open_bytes2 {r : Reach} {b0 : Nat} {v : Value} {d : DataW H} {p : List MemPlace} (hv : Value.okWide Try.prog W r b0 39 v) (h : DataW.Trod enc Try.prog W 0 (fun _ => true) true 39 v d p) : ∃ x : Int × Int, v = .agg #[.int .u8 x.1, .int .u8 x.2] ∧ (Lit.int .u8 x.1).wf = true ∧ (Lit.int .u8 x.2).wf = true := by
  obtain ⟨cs, rfl, hsz, _⟩ : ∃ cs, v = .agg cs ∧ cs.size = Try.prog.cellsOf 39 ∧ Row.okWide Try.prog W r b0 39 cs := by simpa [Value.okWide, Try.underlying39] using hv
  rw [cellsBytes2] at hsz
  obtain ⟨l⟩ := cs
  obtain ⟨a, b, rfl⟩ := two_values hsz
  obtain ⟨fuel, hf⟩ := h
  obtain ⟨m, y, z, h1, h2⟩ := bytes2_read hf
  obtain ⟨n1, e1, _, w1⟩ := DataW.trod_int Try.underlying5 h1
  obtain ⟨n2, e2, _, w2⟩ := DataW.trod_int Try.underlying5 h2
  simp at e1 e2
  subst e1 e2
  exact ⟨(n1, n2), rfl, w1, w2⟩

end Go.Proofs.Ytbkigldffcgodaa
