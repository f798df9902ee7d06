/- Bounds of masks and bytes; Out where the stride is one, and where the window fits. -/
import Derived.Test.YtcidpbdgikkndaaFns
namespace Go.Proofs.Ytcidpbdgikkndaa
open Go.ChangeShapes Go.WideShapes Go.ChangeAt Go.RowKit

theorem wf_u8 {x : Int} (h : (Lit.int .u8 x).wf = true) : 0 ≤ x ∧ x ≤ 255 := by
  simpa [Lit.wf, IntKind.min, IntKind.max, IntKind.bits, IntKind.signed] using h

theorem mask_u8 (x b : Int) (h0 : 0 ≤ b) (h1 : b ≤ 255) : 0 ≤ bits .and .u8 x b ∧ bits .and .u8 x b ≤ b := by
  have h2 : (BitVec.ofInt 8 b).toNat = b.toNat := by
    rw [BitVec.toNat_ofInt]
    omega
  have h3 : (BitVec.ofInt 8 x &&& BitVec.ofInt 8 b).toNat ≤ b.toNat := by
    rw [BitVec.toNat_and, h2]; exact Nat.and_le_right
  show 0 ≤ IntKind.u8.wrap ((BitVec.ofInt 8 x &&& BitVec.ofInt 8 b).toNat : Int) ∧ IntKind.u8.wrap ((BitVec.ofInt 8 x &&& BitVec.ofInt 8 b).toNat : Int) ≤ b
  rw [IntWalk.u8_in _ (by omega)]
  omega

theorem mask_bd (x b : Int) (h0 : 0 ≤ b) (h1 : b ≤ 9223372036854775807) : 0 ≤ bits .and .i64 x b ∧ bits .and .i64 x b ≤ b := by
  have h2 : (BitVec.ofInt 64 b).toNat = b.toNat := by
    rw [BitVec.toNat_ofInt]
    omega
  have h3 : (BitVec.ofInt 64 x &&& BitVec.ofInt 64 b).toNat ≤ b.toNat := by
    rw [BitVec.toNat_and, h2]; exact Nat.and_le_right
  show 0 ≤ IntKind.i64.wrap ((BitVec.ofInt 64 x &&& BitVec.ofInt 64 b).toNat : Int) ∧ IntKind.i64.wrap ((BitVec.ofInt 64 x &&& BitVec.ofInt 64 b).toNat : Int) ≤ b
  rw [IntKind.wrap_i64]
  omega

theorem out_one {size k pad : Int} (h1 : 1 ≤ size) (h2 : size ≤ 64) (h3 : 1 ≤ k) (h4 : k ≤ 16) (h5 : 0 ≤ pad) (h6 : pad ≤ 16) : outI size k 1 pad = max 0 (size + 2 * pad - k + 1) := by
  by_cases c : k ≤ size + 2 * pad
  · rw [outI_yes ⟨h1, h2, h3, h4, by omega, by omega, h5, h6, c⟩, Int.ediv_one]; omega
  · rw [outI_no (fun h => c h.2.2.2.2.2.2.2.2)]; omega

theorem out_fit {size k stride pad q : Int} (hq : Hid (q = outI size k stride pad)) (h1 : 1 ≤ size) (h2 : size ≤ 64) (h3 : 1 ≤ k) (h4 : k ≤ 16) (h7 : 1 ≤ stride) (h8 : stride ≤ 16) (h5 : 0 ≤ pad) (h6 : pad ≤ 16) (c : k ≤ size + 2 * pad) :
    1 ≤ q ∧ q ≤ 97 ∧ 0 ≤ (q - 1) * stride ∧ (q - 1) * stride + k ≤ size + 2 * pad ∧ size + 2 * pad < q * stride + k ∧ 0 ≤ q * stride ∧ q * stride ≤ 200 := by
  have hw : mayWin size k stride pad := ⟨h1, h2, h3, h4, h7, h8, h5, h6, c⟩
  have b := out_bd hw
  rw [← hq.out] at b
  have p := place_bd hw (p := q - 1) (by omega) (by rw [← hq.out]; omega)
  have e : q * stride = (q - 1) * stride + stride := by rw [Int.sub_mul]; omega
  have l : ¬ (q * stride ≤ size + 2 * pad - k) := by
    rw [← Int.le_ediv_iff_mul_le (by omega)]
    have := hq.out
    rw [outI_yes hw] at this
    omega
  exact ⟨b.1, b.2, p.1, by omega, by omega, by omega, by omega⟩

end Go.Proofs.Ytcidpbdgikkndaa
