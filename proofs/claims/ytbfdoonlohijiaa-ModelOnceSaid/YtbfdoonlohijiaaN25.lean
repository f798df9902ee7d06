/- The walk of ModelOnce: what it calls. -/
import Derived.Test.YtbfdoonlohijiaaN21
namespace Go.Proofs.Ytbfdoonlohijiaa
open Go.ChangeShapes Go.WideShapes Go.ChangeAt Go.RowKit
set_option maxRecDepth 20000
set_option linter.unusedVariables false

theorem cellsBytes : Try.prog.cellsOf 22 = 1 := by kernel_rfl
theorem cellsByte : Try.prog.cellsOf 5 = 1 := by kernel_rfl
theorem open_bytes_val {H : Type} {enc : TypeId × Value → H} {W : World} {r : Reach} {b0 : Nat} {v : Value} {d : DataW H} {p : List MemPlace} (hv : Value.okWide Try.prog W r b0 22 v) (h : DataW.Trod enc Try.prog W 0 (fun _ => true) true 22 v d p) : ∃ xs, IsNums .u8 W v xs := by
  obtain ⟨a, l, c, rfl⟩ := okWide_slice Try.underlying22 hv
  obtain ⟨fuel, hf⟩ := h
  exact open_nums (k := .u8) Try.underlying22 Try.underlying5 cellsByte hf

def ShortPost (A : Option Addr) (cap : Nat) (xs : List Int) (W : World) (e : Ending) (w' : World) : Prop := e = .returned (.slice A (xs.take 20000).length cap) ∧ Past W w'
theorem short_any (A : Option Addr) (cap : Nat) (xs : List Int) (W : World) (h : IsNums .u8 W (.slice A xs.length cap) xs) : Calls Try.prog 9 #[.slice A xs.length cap] W (ShortPost A cap xs W) := by
  obtain ⟨A', cap', e, h2, h3, _, _, h6⟩ := h
  simp only [Value.slice.injEq, true_and] at e
  obtain ⟨rfl, rfl⟩ := e
  have hm : xs.length ≤ 9223372036854775807 := by unfold maxLen at h3; omega
  by_cases c : 20000 < xs.length
  · have e : (xs.take 20000).length = 20000 := by simp; omega
    obtain ⟨b, off, rfl, _⟩ := h6 (by omega)
    unfold ShortPost
    rw [e]
    have hc : 20000 ≤ cap := by omega
    clear e h6
    go_enter Try.func9, Try.ntmps9
    go_wp2_with fail
    go_ret
    exact ⟨rfl, Past.refl _⟩
  · have e : xs.take 20000 = xs := List.take_of_length_le (by omega)
    unfold ShortPost
    rw [e]
    clear e h6
    go_enter Try.func9, Try.ntmps9
    go_wp2_with fail
    go_ret
    exact ⟨rfl, Past.refl _⟩

theorem xor_byte (x y : Int) (x0 : 0 ≤ x) (x1 : x < 256) (y0 : 0 ≤ y) (y1 : y < 256) (hy : y ≠ 0) : (0 ≤ bits .xor .u8 x y ∧ bits .xor .u8 x y < 256) ∧ bits .xor .u8 x y ≠ x := by
  have hx : (BitVec.ofInt 8 x).toNat = x.toNat := by rw [BitVec.toNat_ofInt]; omega
  have hy' : (BitVec.ofInt 8 y).toNat = y.toNat := by rw [BitVec.toNat_ofInt]; omega
  have lt := (BitVec.ofInt 8 x ^^^ BitVec.ofInt 8 y).isLt
  have e : bits .xor .u8 x y = ((BitVec.ofInt 8 x ^^^ BitVec.ofInt 8 y).toNat : Int) := by
    show IntKind.u8.wrap ((BitVec.ofInt 8 x ^^^ BitVec.ofInt 8 y).toNat : Int) = _
    rw [IntWalk.u8_in _ (by omega)]
  rw [e]
  refine ⟨by omega, fun f => hy ?_⟩
  have f' : (BitVec.ofInt 8 x ^^^ BitVec.ofInt 8 y) = BitVec.ofInt 8 x := BitVec.eq_of_toNat_eq (by rw [hx]; omega)
  have f2 : BitVec.ofInt 8 y = 0#8 := by
    have := congrArg (fun z => BitVec.ofInt 8 x ^^^ z) f'
    simpa [← BitVec.xor_assoc] using this
  rw [f2] at hy'
  simp at hy'
  omega
end Go.Proofs.Ytbfdoonlohijiaa
