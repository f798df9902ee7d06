/- '&' as a rest; two boxes that calls leave alone. -/
import Derived.Test.YtcidpbdgikkndaaLawMath
namespace Go.Proofs.Ytcidpbdgikkndaa
open Go.ChangeShapes Go.WideShapes Go.ChangeAt Go.RowKit
/-- '&' with 2 ^ n - 1 is the rest, of a number that is not negative. -/
theorem mask_mod (x : Int) (n : Nat) (h0 : 0 ≤ x) (h1 : x ≤ 9223372036854775807) (hn : n ≤ 62) : bits .and .i64 x (2 ^ n - 1) = x % 2 ^ n := by
  have p : (2 : Int) ^ n ≤ 2 ^ 62 := by exact_mod_cast Nat.pow_le_pow_right (by omega) hn
  have p1 : (1 : Int) ≤ 2 ^ n := by exact_mod_cast Nat.one_le_two_pow
  have c : ((2 : Int) ^ n - 1).toNat = 2 ^ n - 1 := by
    have : ((2 : Int) ^ n) = ((2 ^ n : Nat) : Int) := by simp
    omega
  have h2 : (BitVec.ofInt 64 ((2 : Int) ^ n - 1)).toNat = 2 ^ n - 1 := by
    rw [BitVec.toNat_ofInt]
    omega
  have h3 : (BitVec.ofInt 64 x).toNat = x.toNat := by
    rw [BitVec.toNat_ofInt]
    omega
  have h4 : (BitVec.ofInt 64 x &&& BitVec.ofInt 64 ((2 : Int) ^ n - 1)).toNat = x.toNat % 2 ^ n := by
    rw [BitVec.toNat_and, h2, h3, Nat.and_two_pow_sub_one_eq_mod]
  have h5 : ((x.toNat % 2 ^ n : Nat) : Int) = x % 2 ^ n := by
    rw [Int.natCast_emod, Int.toNat_of_nonneg h0]; simp
  show IntKind.i64.wrap ((BitVec.ofInt 64 x &&& BitVec.ofInt 64 ((2 : Int) ^ n - 1)).toNat : Int) = _
  rw [h4, h5]
  have b1 := Int.emod_nonneg x (show (2 : Int) ^ n ≠ 0 by omega)
  have b2 := Int.emod_lt_of_pos x (show 0 < (2 : Int) ^ n by omega)
  exact IntWalk.i64_in _ (by omega)

/-- The two boxes of a law over a shape and three numbers: what lies in them. -/
def Kept (b : Nat) (z0 z1 z2 y0 y1 y2 : Value) (w0 w' : World) : Prop :=
  w'.cell? ⟨b, 0, none⟩ = some z0 ∧ w'.cell? ⟨b, 1, none⟩ = some z1 ∧ w'.cell? ⟨b, 2, none⟩ = some z2 ∧ w'.cell? ⟨b + 1, 0, none⟩ = some y0 ∧ w'.cell? ⟨b + 1, 1, none⟩ = some y1 ∧ w'.cell? ⟨b + 1, 2, none⟩ = some y2 ∧ Grown w0 w' ∧ b + 1 < w'.heap.size

theorem kept_step {b : Nat} {z0 z1 z2 y0 y1 y2 : Value} {w0 w1 w2 : World} (h : Kept b z0 z1 z2 y0 y1 y2 w0 w1) (g : Grown w1 w2) : Kept b z0 z1 z2 y0 y1 y2 w0 w2 := by
  obtain ⟨h0, h1, h2, h3, h4, h5, h6, h7⟩ := h
  have l : b < w1.heap.size := by omega
  exact ⟨(grown_cell g l).trans h0, (grown_cell g l).trans h1, (grown_cell g l).trans h2, (grown_cell g h7).trans h3, (grown_cell g h7).trans h4, (grown_cell g h7).trans h5, grown_trans h6 g, by have := g.2.2; omega⟩

end Go.Proofs.Ytcidpbdgikkndaa
