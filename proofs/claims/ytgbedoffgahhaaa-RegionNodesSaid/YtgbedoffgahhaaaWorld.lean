/- Worlds that grow; bounds of numbers and masks. -/
import Derived.Test.YtgbedoffgahhaaaProg
import Derived.Lib.Hide
import Derived.Handy
import Derived.Outline
import Derived.RegionTactic
import Derived.WalkKit
import Derived.ProofKit
import Derived.LoopTactic
import Derived.Deep.RegionHeld3
namespace Go.Proofs.Ytgbedoffgahhaaa
open Go.ChangeShapes Go.WideShapes Go.ChangeAt Go.RowKit

theorem grown_trans {a b c : World} (h : Grown a b) (k : Grown b c) : Grown a c :=
  ⟨World.keptBut_trans h.1 (World.keptBut_mono (fun _ f => f.elim) k.1), fun x => (k.2.1 x).trans (h.2.1 x), Nat.le_trans h.2.2 k.2.2⟩

theorem grown_cell {W w' : World} (h : Grown W w') {p : Addr} (hp : p.block < W.heap.size) : w'.cell? p = W.cell? p := by
  have k := h.1.2.2 p.block hp
  unfold World.cell?
  cases e1 : W.heap[p.block]? with
  | none => rw [e1] at k; simp at e1; omega
  | some o =>
    rw [e1] at k
    cases e2 : w'.heap[p.block]? with
    | none => rw [e2] at k; cases o <;> simp at k
    | some o' =>
      rw [e2] at k
      cases o <;> cases o' <;> simp_all

theorem grown_free {W w' : World} (h : Grown W w') {p : Addr} (hp : W.heap.size ≤ p.block) : w'.frozen? p = false := (h.2.1 p).trans (by unfold World.frozen?; rw [Array.getElem?_eq_none hp])

theorem wf_bd {x : Int} (h : (Lit.int .i64 x).wf = true) : -9223372036854775808 ≤ x ∧ x ≤ 9223372036854775807 := by
  simpa [Lit.wf, IntKind.min, IntKind.max, IntKind.bits, IntKind.signed] using h

theorem wf_u8 {x : Int} (h : (Lit.int .u8 x).wf = true) : 0 ≤ x ∧ x ≤ 255 := by
  simpa [Lit.wf, IntKind.min, IntKind.max, IntKind.bits, IntKind.signed] using h

theorem ret_two {k : IntKind} {a b c d : Int} (h : a = b) (g : c = d) : Ending.returned (.tuple #[.int k a, .int k c]) = .returned (.tuple #[.int k b, .int k d]) := by rw [h, g]

theorem mask_u8 (x b : Int) (h0 : 0 ≤ b) (h1 : b ≤ 255) : 0 ≤ bits .and .u8 x b ∧ bits .and .u8 x b ≤ b := by
  have h2 : (BitVec.ofInt 8 b).toNat = b.toNat := by
    rw [BitVec.toNat_ofInt]
    omega
  have h3 : (BitVec.ofInt 8 x &&& BitVec.ofInt 8 b).toNat ≤ b.toNat := by
    rw [BitVec.toNat_and, h2]; exact Nat.and_le_right
  show 0 ≤ IntKind.u8.wrap ((BitVec.ofInt 8 x &&& BitVec.ofInt 8 b).toNat : Int) ∧ IntKind.u8.wrap ((BitVec.ofInt 8 x &&& BitVec.ofInt 8 b).toNat : Int) ≤ b
  rw [IntWalk.u8_in _ (by omega)]
  omega

theorem mask_bd (x b : Int) (h0 : 0 ≤ b) (h1 : b ≤ 9223372036854775807) : 0 ≤ bits .and .i64 x b ∧ bits .and .i64 x b ≤ b := by
  have h2 : (BitVec.ofInt 64 b).toNat = b.toNat := by
    rw [BitVec.toNat_ofInt]
    omega
  have h3 : (BitVec.ofInt 64 x &&& BitVec.ofInt 64 b).toNat ≤ b.toNat := by
    rw [BitVec.toNat_and, h2]; exact Nat.and_le_right
  show 0 ≤ IntKind.i64.wrap ((BitVec.ofInt 64 x &&& BitVec.ofInt 64 b).toNat : Int) ∧ IntKind.i64.wrap ((BitVec.ofInt 64 x &&& BitVec.ofInt 64 b).toNat : Int) ≤ b
  rw [IntKind.wrap_i64]
  omega

/-- '&' with 2 ^ n - 1 is the rest, of a number that is not negative. -/
theorem mask_mod (x : Int) (n : Nat) (h0 : 0 ≤ x) (h1 : x ≤ 9223372036854775807) (hn : n ≤ 62) : bits .and .i64 x (2 ^ n - 1) = x % 2 ^ n := by
  have p : (2 : Int) ^ n ≤ 2 ^ 62 := by exact_mod_cast Nat.pow_le_pow_right (by omega) hn
  have p1 : (1 : Int) ≤ 2 ^ n := by exact_mod_cast Nat.one_le_two_pow
  have c : ((2 : Int) ^ n - 1).toNat = 2 ^ n - 1 := by
    have : ((2 : Int) ^ n) = ((2 ^ n : Nat) : Int) := by simp
    omega
  have h2 : (BitVec.ofInt 64 ((2 : Int) ^ n - 1)).toNat = 2 ^ n - 1 := by
    rw [BitVec.toNat_ofInt]
    omega
  have h3 : (BitVec.ofInt 64 x).toNat = x.toNat := by
    rw [BitVec.toNat_ofInt]
    omega
  have h4 : (BitVec.ofInt 64 x &&& BitVec.ofInt 64 ((2 : Int) ^ n - 1)).toNat = x.toNat % 2 ^ n := by
    rw [BitVec.toNat_and, h2, h3, Nat.and_two_pow_sub_one_eq_mod]
  have h5 : ((x.toNat % 2 ^ n : Nat) : Int) = x % 2 ^ n := by
    rw [Int.natCast_emod, Int.toNat_of_nonneg h0]; simp
  show IntKind.i64.wrap ((BitVec.ofInt 64 x &&& BitVec.ofInt 64 ((2 : Int) ^ n - 1)).toNat : Int) = _
  rw [h4, h5]
  have b1 := Int.emod_nonneg x (show (2 : Int) ^ n ≠ 0 by omega)
  have b2 := Int.emod_lt_of_pos x (show 0 < (2 : Int) ^ n by omega)
  exact IntWalk.i64_in _ (by omega)

theorem mul_bd {x y a b : Int} (h1 : 1 ≤ x) (h2 : x ≤ a) (h3 : 1 ≤ y) (h4 : y ≤ b) : 1 ≤ x * y ∧ x * y ≤ a * b := by
  constructor
  · have := Int.mul_le_mul h1 h3 (by omega) (by omega); simpa using this
  · exact Int.mul_le_mul h2 h4 (by omega) (by omega)

end Go.Proofs.Ytgbedoffgahhaaa
