/- Layer 2 in numbers: shapes, windows, what is under them. -/
import Derived.Test.YtgbedoffgahhaaaWorld
namespace Go.Proofs.Ytgbedoffgahhaaa
open Go.ChangeShapes Go.WideShapes Go.ChangeAt Go.RowKit

/-- The product of the first k. -/
def prodN (f : Nat → Int) : Nat → Int
  | 0 => 1
  | k + 1 => prodN f k * f k

def mayS (H W C : Int) : Prop := 1 ≤ H ∧ H ≤ 16 ∧ 1 ≤ W ∧ W ≤ 16 ∧ 1 ≤ C ∧ C ≤ 8

/-- What P2.2 asks of a window ahead of counting. -/
def mayWin (size k stride pad : Int) : Prop := 1 ≤ size ∧ size ≤ 64 ∧ 1 ≤ k ∧ k ≤ 16 ∧ 1 ≤ stride ∧ stride ≤ 16 ∧ 0 ≤ pad ∧ pad ≤ 16 ∧ k ≤ size + 2 * pad

open Classical in
/-- P2.2's number. -/
noncomputable def outI (size k stride pad : Int) : Int := if mayWin size k stride pad then 1 + (size + 2 * pad - k) / stride else 0

theorem outI_yes {size k stride pad : Int} (h : mayWin size k stride pad) : outI size k stride pad = 1 + (size + 2 * pad - k) / stride := by unfold outI; rw [if_pos h]

theorem outI_no {size k stride pad : Int} (h : ¬ mayWin size k stride pad) : outI size k stride pad = 0 := by unfold outI; rw [if_neg h]

open Classical in
noncomputable def sizeI (H W C : Int) : Int := if mayS H W C then H * W * C else 0

open Classical in
noncomputable def rowI (H W C : Int) : Int := if mayS H W C then W * C else 0

def inS (H W C y x c : Int) : Prop := mayS H W C ∧ 0 ≤ y ∧ y < H ∧ 0 ≤ x ∧ x < W ∧ 0 ≤ c ∧ c < C

open Classical in
/-- P2.1's place. -/
noncomputable def indexI (H W C y x c : Int) : Int := if inS H W C y x c then (y * W + x) * C + c else -1

theorem indexI_yes {H W C y x c : Int} (h : inS H W C y x c) : indexI H W C y x c = (y * W + x) * C + c := by unfold indexI; rw [if_pos h]

theorem indexI_no {H W C y x c : Int} (h : ¬ inS H W C y x c) : indexI H W C y x c = -1 := by unfold indexI; rw [if_neg h]

theorem idx_bd {H W C i k j : Int} (h : mayS H W C) (i1 : 0 ≤ i) (i2 : i ≤ H) (k1 : 0 ≤ k) (k2 : k ≤ W) (j1 : 0 ≤ j) (j2 : j ≤ C) : 0 ≤ (i * W + k) * C + j ∧ (i * W + k) * C + j ≤ 3000 := by
  obtain ⟨a1, a2, b1, b2, d1, d2⟩ := h
  have m1 : 0 ≤ i * W := Int.mul_nonneg i1 (by omega)
  have m2 : i * W ≤ 16 * 16 := Int.mul_le_mul (by omega) b2 (by omega) (by omega)
  have m3 : 0 ≤ (i * W + k) * C := Int.mul_nonneg (by omega) (by omega)
  have m4 : (i * W + k) * C ≤ 300 * 8 := Int.mul_le_mul (by omega) d2 (by omega) (by omega)
  omega

theorem out_bd {size k stride pad : Int} (h : mayWin size k stride pad) : 1 ≤ outI size k stride pad ∧ outI size k stride pad ≤ 97 := by
  rw [outI_yes h]
  obtain ⟨h1, h2, h3, h4, h5, h6, h7, h8, h9⟩ := h
  have d1 : (size + 2 * pad - k) / stride ≤ 96 := Int.le_trans (Int.ediv_le_self _ (by omega)) (by omega)
  have d2 : 0 ≤ (size + 2 * pad - k) / stride := Int.ediv_nonneg (by omega) (by omega)
  omega

/-- A place that is there. -/
theorem place_bd {size k stride pad p : Int} (h : mayWin size k stride pad) (h0 : 0 ≤ p) (hp : p < outI size k stride pad) : 0 ≤ p * stride ∧ p * stride ≤ size + 2 * pad - k := by
  rw [outI_yes h] at hp
  obtain ⟨h1, h2, h3, h4, h5, h6, h7, h8, h9⟩ := h
  refine ⟨Int.mul_nonneg h0 (by omega), ?_⟩
  have : p * stride ≤ (size + 2 * pad - k) / stride * stride := Int.mul_le_mul_of_nonneg_right (by omega) (by omega)
  exact Int.le_trans this (Int.ediv_mul_le _ (by omega))

theorem out_zero {size k stride pad : Int} : outI size k stride pad = 0 ↔ ¬ mayWin size k stride pad := by
  constructor
  · intro h c
    have := out_bd c
    omega
  · exact fun h => outI_no h

theorem out_ge {size k stride pad : Int} : 0 ≤ outI size k stride pad ∧ outI size k stride pad ≤ 97 := by
  by_cases c : mayWin size k stride pad
  · have := out_bd c
    omega
  · rw [outI_no c]; omega

theorem out_one {size k pad : Int} (h1 : 1 ≤ size) (h2 : size ≤ 64) (h3 : 1 ≤ k) (h4 : k ≤ 16) (h5 : 0 ≤ pad) (h6 : pad ≤ 16) : outI size k 1 pad = max 0 (size + 2 * pad - k + 1) := by
  by_cases c : k ≤ size + 2 * pad
  · rw [outI_yes ⟨h1, h2, h3, h4, by omega, by omega, h5, h6, c⟩, Int.ediv_one]; omega
  · rw [outI_no (fun h => c h.2.2.2.2.2.2.2.2)]; omega

theorem out_fit {size k stride pad q : Int} (hq : Hid (q = outI size k stride pad)) (h1 : 1 ≤ size) (h2 : size ≤ 64) (h3 : 1 ≤ k) (h4 : k ≤ 16) (h7 : 1 ≤ stride) (h8 : stride ≤ 16) (h5 : 0 ≤ pad) (h6 : pad ≤ 16) (c : k ≤ size + 2 * pad) :
    1 ≤ q ∧ q ≤ 97 ∧ 0 ≤ (q - 1) * stride ∧ (q - 1) * stride + k ≤ size + 2 * pad ∧ size + 2 * pad < q * stride + k ∧ 0 ≤ q * stride ∧ q * stride ≤ 200 := by
  have hw : mayWin size k stride pad := ⟨h1, h2, h3, h4, h7, h8, h5, h6, c⟩
  have b := out_bd hw
  rw [← hq.out] at b
  have p := place_bd hw (p := q - 1) (by omega) (by rw [← hq.out]; omega)
  have e : q * stride = (q - 1) * stride + stride := by rw [Int.sub_mul]; omega
  have l : ¬ (q * stride ≤ size + 2 * pad - k) := by
    rw [← Int.le_ediv_iff_mul_le (by omega)]
    have := hq.out
    rw [outI_yes hw] at this
    omega
  exact ⟨b.1, b.2, p.1, by omega, by omega, by omega, by omega⟩

def leastI (stride pad p : Int) : Int := max (p * stride - pad) 0

def overI (k stride pad size p : Int) : Int := min (p * stride - pad + k) size

/-- What is under the first j of the places from first on. -/
def rs (first k stride pad size : Int) : Nat → Int × Int
  | 0 => (0, 0)
  | j + 1 => if leastI stride pad (first + j) < overI k stride pad size (first + j) then ((if (rs first k stride pad size j).2 = 0 then leastI stride pad (first + j) else (rs first k stride pad size j).1), overI k stride pad size (first + j)) else rs first k stride pad size j

theorem rs_out {first k stride pad size l b : Int} {j : Nat} (hl : Hid (l = leastI stride pad (first + j))) (hb : Hid (b = overI k stride pad size (first + j))) (h : ¬ l < b) :
    rs first k stride pad size (j + 1) = rs first k stride pad size j := by
  rw [hl.out, hb.out] at h
  simp only [rs]; rw [if_neg h]

theorem rs_first {first k stride pad size l b : Int} {j : Nat} (hl : Hid (l = leastI stride pad (first + j))) (hb : Hid (b = overI k stride pad size (first + j))) (h : l < b) (h0 : (rs first k stride pad size j).2 = 0) :
    rs first k stride pad size (j + 1) = (l, b) := by
  have h' := h
  rw [hl.out, hb.out] at h'
  simp only [rs]; rw [if_pos h', if_pos h0, hl.out, hb.out]

theorem rs_more {first k stride pad size l b : Int} {j : Nat} (hl : Hid (l = leastI stride pad (first + j))) (hb : Hid (b = overI k stride pad size (first + j))) (h : l < b) (h0 : (rs first k stride pad size j).2 ≠ 0) :
    rs first k stride pad size (j + 1) = ((rs first k stride pad size j).1, b) := by
  have h' := h
  rw [hl.out, hb.out] at h'
  simp only [rs]; rw [if_pos h', if_neg h0, hb.out]

def inR (first rows k stride pad size : Int) : Prop := mayWin size k stride pad ∧ 0 ≤ first ∧ 1 ≤ rows ∧ rows ≤ outI size k stride pad - first

open Classical in
/-- P2.3's two numbers. -/
noncomputable def reachI (first rows k stride pad size : Int) : Int × Int := if inR first rows k stride pad size then rs first k stride pad size rows.toNat else (0, 0)

theorem reachI_yes {first rows k stride pad size : Int} (h : inR first rows k stride pad size) : reachI first rows k stride pad size = rs first k stride pad size rows.toNat := by unfold reachI; rw [if_pos h]

theorem reachI_no {first rows k stride pad size : Int} (h : ¬ inR first rows k stride pad size) : reachI first rows k stride pad size = (0, 0) := by unfold reachI; rw [if_neg h]

theorem not_inR {first rows k stride pad size : Int} (h : ¬ inR first rows k stride pad size) : outI size k stride pad = 0 ∨ first < 0 ∨ rows < 1 ∨ outI size k stride pad - first < rows := by
  by_cases c : mayWin size k stride pad
  · by_cases c1 : 0 ≤ first
    · by_cases c2 : 1 ≤ rows
      · have : ¬ rows ≤ outI size k stride pad - first := fun c3 => h ⟨c, c1, c2, c3⟩
        omega
      · omega
    · omega
  · exact Or.inl (outI_no c)

theorem rs_inv (first k stride pad size : Int) (h1 : 1 ≤ stride) (h2 : 1 ≤ size) (h3 : 1 ≤ k) (j : Nat) :
    ((rs first k stride pad size j).2 = 0 ∧ (rs first k stride pad size j).1 = 0) ∨
    (0 < (rs first k stride pad size j).2 ∧ 0 ≤ (rs first k stride pad size j).1 ∧ (rs first k stride pad size j).1 ≤ leastI stride pad (first + j) ∧ (rs first k stride pad size j).2 ≤ size ∧ (rs first k stride pad size j).2 ≤ (first + j) * stride - pad + k) := by
  induction j with
  | zero => left; exact ⟨rfl, rfl⟩
  | succ j ih =>
    have e : (first + ((j + 1 : Nat) : Int)) * stride = (first + j) * stride + stride := by rw [Int.natCast_add, ← Int.add_assoc, Int.add_mul (first + j)]; simp
    by_cases hx : leastI stride pad (first + j) < overI k stride pad size (first + j)
    · by_cases h0 : (rs first k stride pad size j).2 = 0
      · rw [rs_first (Lib.hid rfl) (Lib.hid rfl) hx h0]
        right
        simp only [leastI, overI] at *
        omega
      · rw [rs_more (Lib.hid rfl) (Lib.hid rfl) hx h0]
        right
        simp only [leastI, overI] at *
        omega
    · rw [rs_out (Lib.hid rfl) (Lib.hid rfl) hx]
      simp only [leastI, overI] at *
      omega

theorem rs_last {first k stride pad size : Int} {j : Nat} (h : leastI stride pad (first + j) < overI k stride pad size (first + j)) : (rs first k stride pad size (j + 1)).2 = overI k stride pad size (first + j) := by
  by_cases h0 : (rs first k stride pad size j).2 = 0
  · rw [rs_first (Lib.hid rfl) (Lib.hid rfl) h h0]
  · rw [rs_more (Lib.hid rfl) (Lib.hid rfl) h h0]

theorem rs_begin {first k stride pad size : Int} (h : leastI stride pad first < overI k stride pad size first) (j : Nat) :
    (rs first k stride pad size (j + 1)).1 = leastI stride pad first ∧ (rs first k stride pad size (j + 1)).2 ≠ 0 := by
  have l0 : 0 ≤ leastI stride pad first := by unfold leastI; omega
  induction j with
  | zero =>
    have e : first + ((0 : Nat) : Int) = first := by simp
    have h' := h
    rw [← e] at h'
    rw [rs_first (Lib.hid rfl) (Lib.hid rfl) h' rfl, e]
    exact ⟨rfl, by simp only []; omega⟩
  | succ j ih =>
    by_cases hx : leastI stride pad (first + ((j + 1 : Nat) : Int)) < overI k stride pad size (first + ((j + 1 : Nat) : Int))
    · rw [rs_more (Lib.hid rfl) (Lib.hid rfl) hx ih.2]
      have : 0 ≤ leastI stride pad (first + ((j + 1 : Nat) : Int)) := by unfold leastI; omega
      exact ⟨ih.1, by simp only []; omega⟩
    · rw [rs_out (Lib.hid rfl) (Lib.hid rfl) hx]
      exact ih

theorem rs_one {p k stride pad size : Int} : (leastI stride pad p < overI k stride pad size p → rs p k stride pad size 1 = (leastI stride pad p, overI k stride pad size p)) ∧ (¬ leastI stride pad p < overI k stride pad size p → rs p k stride pad size 1 = (0, 0)) := by
  have e : p + ((0 : Nat) : Int) = p := by simp
  constructor
  · intro h
    have h' := h
    rw [← e] at h'
    rw [rs_first (j := 0) (Lib.hid rfl) (Lib.hid rfl) h' rfl, e]
  · intro h
    have h' := h
    rw [← e] at h'
    rw [rs_out (j := 0) (Lib.hid rfl) (Lib.hid rfl) h']
    rfl

/-- Something is under every place of a window that is wider than the padding. -/
theorem under_some {size k stride pad p : Int} (hw : mayWin size k stride pad) (h0 : 0 ≤ p) (hp : p < outI size k stride pad) (c : pad < k) : leastI stride pad p < overI k stride pad size p := by
  obtain ⟨b1, b2⟩ := place_bd hw h0 hp
  obtain ⟨h1, h2, h3, h4, h5, h6, h7, h8, h9⟩ := hw
  unfold leastI overI
  omega

theorem least_mono {stride pad p q : Int} (h : 1 ≤ stride) (l : p ≤ q) : leastI stride pad p ≤ leastI stride pad q := by
  have := Int.mul_le_mul_of_nonneg_right l (show 0 ≤ stride by omega)
  unfold leastI
  omega

theorem over_mono {k stride pad size p q : Int} (h : 1 ≤ stride) (l : p ≤ q) : overI k stride pad size p ≤ overI k stride pad size q := by
  have := Int.mul_le_mul_of_nonneg_right l (show 0 ≤ stride by omega)
  unfold overI
  omega

theorem reach_one {size k stride pad p : Int} (hw : mayWin size k stride pad) (h0 : 0 ≤ p) (hp : p < outI size k stride pad) : reachI p 1 k stride pad size = rs p k stride pad size 1 :=
  reachI_yes ⟨hw, h0, by omega, by omega⟩

theorem reaches_facts {A M k stride pad size n F T O E L V : Int} (hw : mayWin size k stride pad) (hn : n = outI size k stride pad) (a1 : 0 ≤ A) (a2 : A < n) (b1 : 0 ≤ M) (b2 : M < n - A)
    (hF : F = (reachI A (1 + M) k stride pad size).1) (hT : T = (reachI A (1 + M) k stride pad size).2) (hO : O = (reachI A 1 k stride pad size).1) (hE : E = (reachI A 1 k stride pad size).2)
    (hL : L = (reachI (A + (1 + M) - 1) 1 k stride pad size).1) (hV : V = (reachI (A + (1 + M) - 1) 1 k stride pad size).2) :
    ((T = 0 ∨ E = 0 ∨ V = 0) → 0 < pad ∧ k ≤ pad) ∧ (T ≠ 0 → E ≠ 0 → V ≠ 0 → F = O ∧ T = V ∧ O ≤ L ∧ E ≤ V ∧ T ≤ size) := by
  have e1 : A + (1 + M) - 1 = A + (M.toNat : Int) := by omega
  have e2 : (1 + M).toNat = M.toNat + 1 := by omega
  rw [reachI_yes (show inR A (1 + M) k stride pad size from ⟨hw, a1, by omega, by omega⟩), e2] at hF hT
  rw [reach_one hw a1 (by omega)] at hO hE
  rw [e1, reach_one hw (by omega) (by omega)] at hL hV
  have g1 : 1 ≤ stride := hw.2.2.2.2.1
  have ml := least_mono (pad := pad) g1 (show A ≤ A + (M.toNat : Int) by omega)
  have mo := over_mono (k := k) (pad := pad) (size := size) g1 (show A ≤ A + (M.toNat : Int) by omega)
  have l0 : 0 ≤ leastI stride pad A := by unfold leastI; omega
  have l1 : 0 ≤ leastI stride pad (A + (M.toNat : Int)) := by unfold leastI; omega
  have o1 : overI k stride pad size (A + (M.toNat : Int)) ≤ size := by unfold overI; omega
  constructor
  · intro h
    by_cases c : pad < k
    · exfalso
      have u1 := under_some hw a1 (by omega) c
      have u2 := under_some hw (show 0 ≤ A + (M.toNat : Int) by omega) (by omega) c
      rw [rs_last u2] at hT
      rw [rs_one.1 u1] at hE
      rw [rs_one.1 u2] at hV
      simp only [] at hE hV
      omega
    · have := hw.2.2.1
      omega
  · intro t0 e0 v0
    by_cases u2 : leastI stride pad (A + (M.toNat : Int)) < overI k stride pad size (A + (M.toNat : Int))
    · by_cases u1 : leastI stride pad A < overI k stride pad size A
      · rw [rs_last u2] at hT
        rw [(rs_begin u1 _).1] at hF
        rw [rs_one.1 u1] at hO hE
        rw [rs_one.1 u2] at hL hV
        simp only [] at hO hE hL hV
        omega
      · rw [rs_one.2 u1] at hE
        exact absurd hE e0
    · rw [rs_one.2 u2] at hV
      exact absurd hV v0

/-- All places together: from the least of the first to the greatest of the last; and each within. -/
theorem whole_facts {k stride pad size n F T : Int} (hw : mayWin size k stride pad) (hn : n = outI size k stride pad) (c : pad < k) (hF : F = (reachI 0 n k stride pad size).1) (hT : T = (reachI 0 n k stride pad size).2) :
    F = 0 ∧ T = overI k stride pad size (n - 1) ∧ ∀ i : Int, 0 ≤ i → i < n → (reachI i 1 k stride pad size) = (leastI stride pad i, overI k stride pad size i) ∧ leastI stride pad i < overI k stride pad size i ∧ overI k stride pad size i - leastI stride pad i ≤ k ∧ F ≤ leastI stride pad i ∧ overI k stride pad size i ≤ T := by
  have n1 := (out_bd hw).1
  rw [← hn] at n1
  obtain ⟨m, hm⟩ : ∃ m : Nat, n = ((m + 1 : Nat) : Int) := ⟨(n - 1).toNat, by omega⟩
  have e2 : n.toNat = m + 1 := by omega
  rw [reachI_yes (show inR 0 n k stride pad size from ⟨hw, by omega, by omega, by omega⟩), e2] at hF hT
  have g1 : 1 ≤ stride := hw.2.2.2.2.1
  have u1 := under_some hw (show (0 : Int) ≤ 0 by omega) (by omega) c
  have u2 := under_some hw (show (0 : Int) ≤ 0 + (m : Int) by omega) (by omega) c
  rw [(rs_begin u1 _).1] at hF
  rw [rs_last u2] at hT
  have hF0 : F = 0 := by
    rw [hF]; unfold leastI
    have := hw.2.2.2.2.2.2.1
    omega
  have em : (0 : Int) + (m : Int) = n - 1 := by omega
  rw [em] at hT
  refine ⟨hF0, hT, fun i i0 i1 => ?_⟩
  have u := under_some hw i0 (by omega) c
  rw [reach_one hw i0 (by omega), rs_one.1 u]
  have mo := over_mono (k := k) (pad := pad) (size := size) g1 (show i ≤ n - 1 by omega)
  rw [← hT] at mo
  refine ⟨rfl, u, ?_, ?_, mo⟩
  · unfold leastI overI; omega
  · rw [hF0]; unfold leastI; omega

theorem idx_row {h w c y x d : Int} (k : inS h w c y x d) (l : y + 1 < h) : indexI h w c (y + 1) x d = indexI h w c y x d + rowI h w c := by
  obtain ⟨m, k1, k2, k3, k4, k5, k6⟩ := k
  rw [indexI_yes ⟨m, by omega, l, k3, k4, k5, k6⟩, indexI_yes ⟨m, k1, k2, k3, k4, k5, k6⟩]
  unfold rowI; rw [if_pos m, Int.add_mul y, Int.one_mul, show y * w + w + x = (y * w + x) + w by omega, Int.add_mul (y * w + x)]; omega

theorem idx_col {h w c y x d : Int} (k : inS h w c y x d) (l : x + 1 < w) : indexI h w c y (x + 1) d = indexI h w c y x d + c := by
  obtain ⟨m, k1, k2, k3, k4, k5, k6⟩ := k
  rw [indexI_yes ⟨m, k1, k2, by omega, l, k5, k6⟩, indexI_yes ⟨m, k1, k2, k3, k4, k5, k6⟩]
  rw [show y * w + (x + 1) = (y * w + x) + 1 by omega, Int.add_mul (y * w + x), Int.one_mul]; omega

theorem idx_chan {h w c y x d : Int} (k : inS h w c y x d) (l : d + 1 < c) : indexI h w c y x (d + 1) = indexI h w c y x d + 1 := by
  obtain ⟨m, k1, k2, k3, k4, k5, k6⟩ := k
  rw [indexI_yes ⟨m, k1, k2, k3, k4, by omega, l⟩, indexI_yes ⟨m, k1, k2, k3, k4, k5, k6⟩]
  omega

theorem idx_out {h w c y x d : Int} (k : y = h ∨ x = w ∨ d = c) : indexI h w c y x d = -1 := indexI_no (fun ⟨_, _, k2, _, k4, _, k6⟩ => by omega)

theorem idx_zero {h w c : Int} (m : mayS h w c) : indexI h w c 0 0 0 = 0 := by
  have m' := m
  obtain ⟨a1, a2, b1, b2, d1, d2⟩ := m'
  rw [indexI_yes ⟨m, by omega, by omega, by omega, by omega, by omega, by omega⟩]; simp

theorem idx_lt {h w c y x d : Int} (k : inS h w c y x d) : 0 ≤ indexI h w c y x d ∧ indexI h w c y x d < sizeI h w c ∧ sizeI h w c ≤ 2048 ∧ 1 ≤ rowI h w c ∧ rowI h w c ≤ 128 := by
  have k' := k
  obtain ⟨m, k1, k2, k3, k4, k5, k6⟩ := k
  have m' := m
  obtain ⟨a1, a2, b1, b2, d1, d2⟩ := m'
  obtain ⟨n1, n2⟩ := mul_bd a1 a2 b1 b2
  obtain ⟨n3, n4⟩ := mul_bd n1 n2 d1 d2
  obtain ⟨n5, n6⟩ := mul_bd b1 b2 d1 d2
  rw [indexI_yes k']
  have e1 : sizeI h w c = h * w * c := by unfold sizeI; rw [if_pos m]
  have e2 : rowI h w c = w * c := by unfold rowI; rw [if_pos m]
  rw [e1, e2]
  have t1 : 0 ≤ y * w := Int.mul_nonneg k1 (by omega)
  have t2 : 0 ≤ (y * w + x) * c := Int.mul_nonneg (by omega) (by omega)
  have t3 : y * w ≤ (h - 1) * w := Int.mul_le_mul_of_nonneg_right (by omega) (by omega)
  have t4 : (h - 1) * w = h * w - w := by rw [Int.sub_mul, Int.one_mul]
  have t5 : (y * w + x) * c ≤ (h * w - 1) * c := Int.mul_le_mul_of_nonneg_right (by omega) (by omega)
  have t6 : (h * w - 1) * c = h * w * c - c := by rw [Int.sub_mul, Int.one_mul]
  omega

theorem idx_last {h w c : Int} (m : mayS h w c) : indexI h w c (h - 1) (w - 1) (c - 1) = sizeI h w c - 1 := by
  have m' := m
  obtain ⟨a1, a2, b1, b2, d1, d2⟩ := m'
  rw [indexI_yes ⟨m, by omega, by omega, by omega, by omega, by omega, by omega⟩]
  unfold sizeI; rw [if_pos m, Int.sub_mul h, Int.one_mul, show h * w - w + (w - 1) = h * w - 1 by omega, Int.sub_mul (h * w)]; omega

end Go.Proofs.Ytgbedoffgahhaaa
