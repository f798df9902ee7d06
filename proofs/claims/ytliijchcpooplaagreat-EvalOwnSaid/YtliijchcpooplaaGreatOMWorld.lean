/- Worlds that grow; bounds of numbers and masks. Layer 2 in numbers: shapes, windows, what is under them. -/
import Derived.Test.YtliijchcpooplaaGreatProg
import Derived.Lib.Hide
import Derived.Handy
import Derived.Outline
import Derived.RegionTactic
import Derived.WalkKit
import Derived.ProofKit
import Derived.LoopTactic
import Derived.Deep.RegionHeld3
namespace Go.Proofs.YtliijchcpooplaaGreat
open Go.ChangeShapes Go.WideShapes Go.ChangeAt Go.RowKit
theorem grown_trans {a b c : World} (h : Grown a b) (k : Grown b c) : Grown a c :=
  ⟨World.keptBut_trans h.1 (World.keptBut_mono (fun _ f => f.elim) k.1), fun x => (k.2.1 x).trans (h.2.1 x), Nat.le_trans h.2.2 k.2.2⟩
theorem grown_cell {W w' : World} (h : Grown W w') {p : Addr} (hp : p.block < W.heap.size) : w'.cell? p = W.cell? p := by
  have k := h.1.2.2 p.block hp
  unfold World.cell?
  cases e1 : W.heap[p.block]? with
  | none => rw [e1] at k; simp at e1; omega
  | some o =>
    rw [e1] at k
    cases e2 : w'.heap[p.block]? with
    | none => rw [e2] at k; cases o <;> simp at k
    | some o' =>
      rw [e2] at k
      cases o <;> cases o' <;> simp_all
theorem ret_two {k : IntKind} {a b c d : Int} (h : a = b) (g : c = d) : Ending.returned (.tuple #[.int k a, .int k c]) = .returned (.tuple #[.int k b, .int k d]) := by rw [h, g]
theorem mul_bd {x y a b : Int} (h1 : 1 <= x) (h2 : x <= a) (h3 : 1 <= y) (h4 : y <= b) : 1 <= x * y /\ x * y <= a * b := by
  constructor
  . have := Int.mul_le_mul h1 h3 (by omega) (by omega); simpa using this
  . exact Int.mul_le_mul h2 h4 (by omega) (by omega)
def prodN (f : Nat -> Int) : Nat -> Int
  | 0 => 1
  | k + 1 => prodN f k * f k
def mayS (H W C : Int) : Prop := 1 <= H /\ H <= 16 /\ 1 <= W /\ W <= 16 /\ 1 <= C /\ C <= 8
def mayWin (size k stride pad : Int) : Prop := 1 <= size /\ size <= 64 /\ 1 <= k /\ k <= 16 /\ 1 <= stride /\ stride <= 16 /\ 0 <= pad /\ pad <= 16 /\ k <= size + 2 * pad
open Classical in
noncomputable def outI (size k stride pad : Int) : Int := if mayWin size k stride pad then 1 + (size + 2 * pad - k) / stride else 0
theorem outI_yes {size k stride pad : Int} (h : mayWin size k stride pad) : outI size k stride pad = 1 + (size + 2 * pad - k) / stride := by unfold outI; rw [if_pos h]
theorem outI_no {size k stride pad : Int} (h : ¬ mayWin size k stride pad) : outI size k stride pad = 0 := by unfold outI; rw [if_neg h]
open Classical in
noncomputable def sizeI (H W C : Int) : Int := if mayS H W C then H * W * C else 0
open Classical in
noncomputable def rowI (H W C : Int) : Int := if mayS H W C then W * C else 0
def inS (H W C y x c : Int) : Prop := mayS H W C /\ 0 <= y /\ y < H /\ 0 <= x /\ x < W /\ 0 <= c /\ c < C
open Classical in
noncomputable def indexI (H W C y x c : Int) : Int := if inS H W C y x c then (y * W + x) * C + c else -1
theorem indexI_yes {H W C y x c : Int} (h : inS H W C y x c) : indexI H W C y x c = (y * W + x) * C + c := by unfold indexI; rw [if_pos h]
theorem indexI_no {H W C y x c : Int} (h : ¬ inS H W C y x c) : indexI H W C y x c = -1 := by unfold indexI; rw [if_neg h]
theorem out_bd {size k stride pad : Int} (h : mayWin size k stride pad) : 1 <= outI size k stride pad /\ outI size k stride pad <= 97 := by
  rw [outI_yes h]
  obtain ⟨h1, h2, h3, h4, h5, h6, h7, h8, h9⟩ := h
  have d1 : (size + 2 * pad - k) / stride <= 96 := Int.le_trans (Int.ediv_le_self _ (by omega)) (by omega)
  have d2 : 0 <= (size + 2 * pad - k) / stride := Int.ediv_nonneg (by omega) (by omega)
  omega
theorem place_bd {size k stride pad p : Int} (h : mayWin size k stride pad) (h0 : 0 <= p) (hp : p < outI size k stride pad) : 0 <= p * stride /\ p * stride <= size + 2 * pad - k := by
  rw [outI_yes h] at hp
  obtain ⟨h1, h2, h3, h4, h5, h6, h7, h8, h9⟩ := h
  refine ⟨Int.mul_nonneg h0 (by omega), ?_⟩
  have : p * stride <= (size + 2 * pad - k) / stride * stride := Int.mul_le_mul_of_nonneg_right (by omega) (by omega)
  exact Int.le_trans this (Int.ediv_mul_le _ (by omega))
theorem out_ge {size k stride pad : Int} : 0 <= outI size k stride pad /\ outI size k stride pad <= 97 := by
  by_cases c : mayWin size k stride pad
  . have := out_bd c
    omega
  . rw [outI_no c]; omega
theorem out_one {size k pad : Int} (h1 : 1 <= size) (h2 : size <= 64) (h3 : 1 <= k) (h4 : k <= 16) (h5 : 0 <= pad) (h6 : pad <= 16) : outI size k 1 pad = max 0 (size + 2 * pad - k + 1) := by
  by_cases c : k <= size + 2 * pad
  . rw [outI_yes ⟨h1, h2, h3, h4, by omega, by omega, h5, h6, c⟩, Int.ediv_one]; omega
  . rw [outI_no (fun h => c h.2.2.2.2.2.2.2.2)]; omega
def leastI (stride pad p : Int) : Int := max (p * stride - pad) 0
def overI (k stride pad size p : Int) : Int := min (p * stride - pad + k) size
def rs (first k stride pad size : Int) : Nat -> Int × Int
  | 0 => (0, 0)
  | j + 1 => if leastI stride pad (first + j) < overI k stride pad size (first + j) then ((if (rs first k stride pad size j).2 = 0 then leastI stride pad (first + j) else (rs first k stride pad size j).1), overI k stride pad size (first + j)) else rs first k stride pad size j
theorem rs_out {first k stride pad size l b : Int} {j : Nat} (hl : Hid (l = leastI stride pad (first + j))) (hb : Hid (b = overI k stride pad size (first + j))) (h : ¬ l < b) :
    rs first k stride pad size (j + 1) = rs first k stride pad size j := by
  rw [hl.out, hb.out] at h
  simp only [rs]; rw [if_neg h]
theorem rs_first {first k stride pad size l b : Int} {j : Nat} (hl : Hid (l = leastI stride pad (first + j))) (hb : Hid (b = overI k stride pad size (first + j))) (h : l < b) (h0 : (rs first k stride pad size j).2 = 0) :
    rs first k stride pad size (j + 1) = (l, b) := by
  have h' := h
  rw [hl.out, hb.out] at h'
  simp only [rs]; rw [if_pos h', if_pos h0, hl.out, hb.out]
theorem rs_more {first k stride pad size l b : Int} {j : Nat} (hl : Hid (l = leastI stride pad (first + j))) (hb : Hid (b = overI k stride pad size (first + j))) (h : l < b) (h0 : (rs first k stride pad size j).2 ≠ 0) :
    rs first k stride pad size (j + 1) = ((rs first k stride pad size j).1, b) := by
  have h' := h
  rw [hl.out, hb.out] at h'
  simp only [rs]; rw [if_pos h', if_neg h0, hb.out]
def inR (first rows k stride pad size : Int) : Prop := mayWin size k stride pad /\ 0 <= first /\ 1 <= rows /\ rows <= outI size k stride pad - first
open Classical in
noncomputable def reachI (first rows k stride pad size : Int) : Int × Int := if inR first rows k stride pad size then rs first k stride pad size rows.toNat else (0, 0)
theorem reachI_yes {first rows k stride pad size : Int} (h : inR first rows k stride pad size) : reachI first rows k stride pad size = rs first k stride pad size rows.toNat := by unfold reachI; rw [if_pos h]
theorem reachI_no {first rows k stride pad size : Int} (h : ¬ inR first rows k stride pad size) : reachI first rows k stride pad size = (0, 0) := by unfold reachI; rw [if_neg h]
theorem not_inR {first rows k stride pad size : Int} (h : ¬ inR first rows k stride pad size) : outI size k stride pad = 0 ∨ first < 0 ∨ rows < 1 ∨ outI size k stride pad - first < rows := by
  by_cases c : mayWin size k stride pad
  . by_cases c1 : 0 <= first
    . by_cases c2 : 1 <= rows
      . have : ¬ rows <= outI size k stride pad - first := fun c3 => h ⟨c, c1, c2, c3⟩
        omega
      . omega
    . omega
  . exact Or.inl (outI_no c)
theorem rs_inv (first k stride pad size : Int) (h1 : 1 <= stride) (h2 : 1 <= size) (h3 : 1 <= k) (j : Nat) :
    ((rs first k stride pad size j).2 = 0 /\ (rs first k stride pad size j).1 = 0) ∨
    (0 < (rs first k stride pad size j).2 /\ 0 <= (rs first k stride pad size j).1 /\ (rs first k stride pad size j).1 <= leastI stride pad (first + j) /\ (rs first k stride pad size j).2 <= size /\ (rs first k stride pad size j).2 <= (first + j) * stride - pad + k) := by
  induction j with
  | zero => left; exact ⟨rfl, rfl⟩
  | succ j ih =>
    have e : (first + ((j + 1 : Nat) : Int)) * stride = (first + j) * stride + stride := by rw [Int.natCast_add, <- Int.add_assoc, Int.add_mul (first + j)]; simp
    by_cases hx : leastI stride pad (first + j) < overI k stride pad size (first + j)
    . by_cases h0 : (rs first k stride pad size j).2 = 0
      . rw [rs_first (Lib.hid rfl) (Lib.hid rfl) hx h0]
        right
        simp only [leastI, overI] at *
        omega
      . rw [rs_more (Lib.hid rfl) (Lib.hid rfl) hx h0]
        right
        simp only [leastI, overI] at *
        omega
    . rw [rs_out (Lib.hid rfl) (Lib.hid rfl) hx]
      simp only [leastI, overI] at *
      omega
theorem idx_lt {h w c y x d : Int} (k : inS h w c y x d) : 0 <= indexI h w c y x d /\ indexI h w c y x d < sizeI h w c /\ sizeI h w c <= 2048 /\ 1 <= rowI h w c /\ rowI h w c <= 128 := by
  have k' := k
  obtain ⟨m, k1, k2, k3, k4, k5, k6⟩ := k
  have m' := m
  obtain ⟨a1, a2, b1, b2, d1, d2⟩ := m'
  obtain ⟨n1, n2⟩ := mul_bd a1 a2 b1 b2
  obtain ⟨n3, n4⟩ := mul_bd n1 n2 d1 d2
  obtain ⟨n5, n6⟩ := mul_bd b1 b2 d1 d2
  rw [indexI_yes k']
  have e1 : sizeI h w c = h * w * c := by unfold sizeI; rw [if_pos m]
  have e2 : rowI h w c = w * c := by unfold rowI; rw [if_pos m]
  rw [e1, e2]
  have t1 : 0 <= y * w := Int.mul_nonneg k1 (by omega)
  have t2 : 0 <= (y * w + x) * c := Int.mul_nonneg (by omega) (by omega)
  have t3 : y * w <= (h - 1) * w := Int.mul_le_mul_of_nonneg_right (by omega) (by omega)
  have t4 : (h - 1) * w = h * w - w := by rw [Int.sub_mul, Int.one_mul]
  have t5 : (y * w + x) * c <= (h * w - 1) * c := Int.mul_le_mul_of_nonneg_right (by omega) (by omega)
  have t6 : (h * w - 1) * c = h * w * c - c := by rw [Int.sub_mul, Int.one_mul]
  omega
end Go.Proofs.YtliijchcpooplaaGreat
