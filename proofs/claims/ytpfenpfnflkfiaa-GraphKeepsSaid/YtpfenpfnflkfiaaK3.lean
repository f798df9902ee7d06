/- Two bytes side by side, as an argument is read; GraphKeeps's walk over them. -/
import Derived.Test.YtpfenpfnflkfiaaK2
namespace Go.Proofs.Ytpfenpfnflkfiaa
open Go.ChangeShapes Go.WideShapes Go.ChangeAt Go.RowKit
set_option linter.unusedVariables false
set_option maxRecDepth 20000
variable {H : Type} {enc : TypeId × Value → H} {W : World}

theorem cellsByte : Try.prog.cellsOf 5 = 1 := by kernel_rfl
theorem cellsBytes2 : Try.prog.cellsOf 51 = 2 := by kernel_rfl

/-- Both numbers of a pair of bytes can be read by themselves. -/
theorem bytes2_read {fuel : Nat} {a b : Value} {x : DataW H × List MemPlace} (h : DataW.trod enc Try.prog W 0 (fun _ => true) true fuel 51 [a, b] = some x) :
    ∃ m y z, DataW.trod enc Try.prog W 0 (fun _ => true) true m 5 [a] = some y ∧ DataW.trod enc Try.prog W 0 (fun _ => true) true m 5 [b] = some z := by
  match fuel, h with
  | 0, h => simp [DataW.trod] at h
  | m + 1, h =>
    unfold DataW.trod at h
    rw [Try.underlying51] at h
    simp [show List.range 2 = [0, 1] from rfl, cellsByte] at h
    have h := h.2
    rcases e0 : DataW.trod enc Try.prog W 0 (fun _ => true) true m 5 [a] with _ | y
    · rw [e0] at h; simp at h
    · rcases e1 : DataW.trod enc Try.prog W 0 (fun _ => true) true m 5 [b] with _ | z
      · rw [e0, e1] at h; simp at h
      · exact ⟨m, y, z, e0, e1⟩

theorem two_values {l : List Value} (h : (⟨l⟩ : Array Value).size = 2) : ∃ a b, l = [a, b] := by
  match l, h with
  | [a, b], _ => exact ⟨a, b, rfl⟩

theorem open_bytes2 {r : Reach} {b0 : Nat} {v : Value} {d : DataW H} {p : List MemPlace} (hv : Value.okWide Try.prog W r b0 51 v) (h : DataW.Trod enc Try.prog W 0 (fun _ => true) true 51 v d p) : ∃ x : Int × Int, v = .agg #[.int .u8 x.1, .int .u8 x.2] ∧ (Lit.int .u8 x.1).wf = true ∧ (Lit.int .u8 x.2).wf = true := by
  obtain ⟨cs, rfl, hsz, _⟩ : ∃ cs, v = .agg cs ∧ cs.size = Try.prog.cellsOf 51 ∧ Row.okWide Try.prog W r b0 51 cs := by simpa [Value.okWide, Try.underlying51] using hv
  rw [cellsBytes2] at hsz
  obtain ⟨l⟩ := cs
  obtain ⟨a, b, rfl⟩ := two_values hsz
  obtain ⟨fuel, hf⟩ := h
  obtain ⟨m, y, z, h1, h2⟩ := bytes2_read hf
  obtain ⟨n1, e1, _, w1⟩ := DataW.trod_int Try.underlying5 h1
  obtain ⟨n2, e2, _, w2⟩ := DataW.trod_int Try.underlying5 h2
  simp at e1 e2
  subst e1 e2
  exact ⟨(n1, n2), rfl, w1, w2⟩

theorem keeps_walk2 (W : World) (va : Value) (v : ValD) (ha : IsVal va v ∧ ValWf v) (z0 : Int) (wz : (Lit.int .i64 z0).wf = true) (vb : Value) (x : Int × Int) (hb : vb = .agg #[.int .u8 x.1, .int .u8 x.2] ∧ (Lit.int .u8 x.1).wf = true ∧ (Lit.int .u8 x.2).wf = true) :
    Calls Try.prog 8 #[va, .int .i64 z0, vb] W fun e w' => e = .returned (.bool true) ∧ Past W w' := by
  obtain ⟨rfl, h1, h2⟩ := hb
  exact keeps_walk W va v ha z0 wz x.1 x.2 h1 h2
end Go.Proofs.Ytpfenpfnflkfiaa
