/- Windows in numbers: the greatest and the mean. -/
import Derived.Test.YtbkigldffcgodaaMSa
namespace Go.Proofs.Ytbkigldffcgodaa
open Go.ChangeShapes Go.WideShapes Go.ChangeAt Go.RowKit
set_option maxRecDepth 20000
set_option linter.unusedVariables false

def winK (op k s z : Int) : NodeD := ⟨op, [], k, s, 0, 0, 1, 0, z, 0, 0, 0, [], []⟩
def noView : ViewD := ⟨⟨0, 0, 0, 0⟩, 0, 0, []⟩
theorem win_out {size k s : Int} (k1 : 1 ≤ k) (k3 : k ≤ 3) (s1 : 1 ≤ s) (s2 : s ≤ 2) (h1 : k ≤ size) (h2 : size ≤ 16) : 1 ≤ outI size k s 0 ∧ outI size k s 0 ≤ 16 ∧ ∀ y i : Int, 0 ≤ y → y < outI size k s 0 → 0 ≤ i → i < k → 0 ≤ y * s + i ∧ y * s + i < size := by
  obtain ⟨q, hq⟩ : ∃ q, q = outI size k s 0 := ⟨_, rfl⟩
  obtain ⟨a, b, c, d, e, f, g⟩ := out_fit (Lib.hid hq) (by omega) (by omega) k1 (by omega) s1 (by omega) (by omega) (by omega) (by omega : k ≤ size + 2 * 0)
  rw [← hq]
  rcases (show s = 1 ∨ s = 2 by omega) with rfl | rfl
  · refine ⟨a, by omega, fun y i y0 y1 i0 i1 => ?_⟩; omega
  · refine ⟨a, by omega, fun y i y0 y1 i0 i1 => ?_⟩; omega
theorem win_made {op k s z : Int} (ho : op = 4 ∨ op = 5) (v : ValD) : madeS (winK op k s z) [v] = (outI v.h k s 0, outI v.w k s 0, v.c) := by rcases ho with rfl | rfl <;> simp [madeS, winK]
theorem win_may {op k s : Int} (ho : op = 4 ∨ op = 5) {v : ValD} (hm : mayV v) (hz : -128 ≤ v.z ∧ v.z ≤ 127) (k1 : 1 ≤ k) (k3 : k ≤ 3) (s1 : 1 ≤ s) (s2 : s ≤ 2) (kh : k ≤ v.h) (kw : k ≤ v.w) : valueE (winK op k s v.z) [v] = 0 := by
  obtain ⟨m1, m2, m3, m4, m5, m6⟩ := id hm
  have oh := win_out k1 k3 s1 s2 kh m2
  have ow := win_out k1 k3 s1 s2 kw m4
  have z0 := Int.le_refl 0
  have sp : scaledP (winK op k s v.z) := ⟨(show (1 : Int) ≤ 1 ∧ (1 : Int) ≤ 32767 by decide), (show (0 : Int) ≤ 0 ∧ (0 : Int) ≤ 31 by decide), hz⟩
  have nk : ¬ ((0 : Int) < 3 ∧ k ≤ 0) := by omega
  refine valueE_0 ⟨(show 1 ≤ op ∧ op ≤ 12 by omega), ?_, fun j hj => ?_, sp, ?_⟩ (fun j hj => ?_) ?_ ?_
  · rcases ho with rfl | rfl <;> rfl
  · rw [one_get v j hj]
    rintro ⟨_, h⟩
    exact h rfl
  · rcases ho with rfl | rfl <;> exact ⟨⟨⟨k1, k3⟩, ⟨s1, s2⟩, ⟨z0, z0⟩, ⟨z0, z0⟩⟩, nk, Or.inr ⟨rfl, rfl, rfl⟩⟩
  · rw [one_get v j hj]; exact hm
  · rw [win_made ho]; exact ⟨oh.1, oh.2.1, ow.1, ow.2.1, m5, m6⟩
  · unfold lensP
    rw [win_made ho]
    rcases ho with rfl | rfl <;> exact ⟨rfl, rfl, fun j hj => by simp [winK] at hj⟩
theorem win_make {op k s : Int} (ho : op = 4 ∨ op = 5) {v : ValD} {xs : List Int} (hm : mayV v) (hz : -128 ≤ v.z ∧ v.z ≤ 127) (k1 : 1 ≤ k) (k3 : k ≤ 3) (s1 : 1 ≤ s) (s2 : s ≤ 2) (kh : k ≤ v.h) (kw : k ≤ v.w) (hx : FullV (viewOf v xs)) (b : ViewD) :
    MakeOk (winK op k s v.z) [v] (viewOf v xs) b (outI v.h k s 0, outI v.w k s 0, v.c) :=
  ⟨win_may ho hm hz k1 k3 s1 s2 kh kw, (win_made ho v).symm, hx, rfl, fun h => by
    have h : op = 6 ∨ op = 7 ∨ op = 10 := h
    omega⟩

theorem under_in {op k s : Int} {v : ValD} (hm : mayV v) (k1 : 1 ≤ k) (k3 : k ≤ 3) (s1 : 1 ≤ s) (s2 : s ≤ 2) (kh : k ≤ v.h) (kw : k ≤ v.w) {y x c : Int} (y0 : 0 ≤ y) (y1 : y < outI v.h k s 0) (x0 : 0 ≤ x) (x1 : x < outI v.w k s 0) (c0 : 0 ≤ c) (c1 : c < v.c)
    {p : Nat} (hp : p < k.toNat * k.toNat) : ∃ i : Nat, (i : Int) < sizeI v.h v.w v.c ∧ ∀ ys : List Int, underN (winK op k s v.z) (viewOf v ys) y x c p = ys.getD i 0 := by
  obtain ⟨m1, m2, m3, m4, m5, m6⟩ := id hm
  have oh := (win_out k1 k3 s1 s2 kh m2).2.2
  have ow := (win_out k1 k3 s1 s2 kw m4).2.2
  have kn : 0 < k.toNat := by omega
  have q1 : p / k.toNat < k.toNat := Nat.div_lt_of_lt_mul hp
  have q2 : p % k.toNat < k.toNat := Nat.mod_lt _ kn
  obtain ⟨pd, hpd⟩ : ∃ pd, p / k.toNat = pd := ⟨_, rfl⟩
  obtain ⟨pm, hpm⟩ : ∃ pm, p % k.toNat = pm := ⟨_, rfl⟩
  rw [hpd] at q1
  rw [hpm] at q2
  obtain ⟨r, hr⟩ : ∃ r, y * s + (pd : Int) = r := ⟨_, rfl⟩
  obtain ⟨t, ht⟩ : ∃ t, x * s + (pm : Int) = t := ⟨_, rfl⟩
  have ry := oh y (pd : Int) y0 y1 (by omega) (by omega)
  have tx := ow x (pm : Int) x0 x1 (by omega) (by omega)
  rw [hr] at ry
  rw [ht] at tx
  have hi : inS v.h v.w v.c r t c := ⟨hm, ry.1, ry.2, tx.1, tx.2, c0, c1⟩
  obtain ⟨i0, i1, _⟩ := idx_lt hi
  rw [indexI_yes hi] at i0 i1
  refine ⟨((r * v.w + t) * v.c + c).toNat, by omega, fun ys => ?_⟩
  have e : underN (winK op k s v.z) (viewOf v ys) y x c p = atD (viewOf v ys) r t c := by
    unfold underN lookD sideD
    show atD (viewOf v ys) (y * s - 0 + ((p / k.toNat : Nat) : Int)) (x * s - 0 + ((p % k.toNat : Nat) : Int)) c = _
    rw [Int.sub_zero, Int.sub_zero, hpd, hpm, hr, ht]
  rw [e]
  have e2 : atD (viewOf v ys) r t c = ys.getD (placeD (viewOf v ys) r t c).toNat 0 := by unfold atD; exact if_pos hi
  rw [e2]
  unfold placeD
  show ys.getD ((r * v.w + t) * v.c + c - 0 * (v.w * v.c)).toNat 0 = _
  rw [Int.zero_mul, Int.sub_zero]

theorem mostN_le {f : Nat → Int} {M : Int} {k : Nat} (h0 : -128 ≤ M) (h : ∀ i, i < k → f i ≤ M) : mostN f k ≤ M := by
  induction k with
  | zero => exact h0
  | succ k ih =>
    have a := ih (fun i hi => h i (by omega))
    have b := h k (by omega)
    simp only [mostN]
    omega
theorem mostN_ge {f : Nat → Int} {k i : Nat} (hi : i < k) : f i ≤ mostN f k := by
  induction k with
  | zero => omega
  | succ k ih =>
    simp only [mostN]
    rcases (show i = k ∨ i < k by omega) with rfl | h
    · omega
    · have := ih h
      omega
/-- The least of the first ones. -/
def leastN (f : Nat → Int) : Nat → Int
  | 0 => 127
  | k + 1 => min (leastN f k) (f k)
theorem leastN_le {f : Nat → Int} {k i : Nat} (hi : i < k) : leastN f k ≤ f i := by
  induction k with
  | zero => omega
  | succ k ih =>
    simp only [leastN]
    rcases (show i = k ∨ i < k by omega) with rfl | h
    · omega
    · have := ih h
      omega
theorem leastN_bd {f : Nat → Int} {k : Nat} (h : ∀ i, i < k → -128 ≤ f i ∧ f i ≤ 127) : -128 ≤ leastN f k ∧ leastN f k ≤ 127 := by
  induction k with
  | zero => simp [leastN]
  | succ k ih =>
    have a := ih (fun i hi => h i (by omega))
    have b := h k (by omega)
    simp only [leastN]
    omega
theorem mean_mid {f : Nat → Int} {lo hi kk : Int} {K : Nat} (hK : (K : Int) = kk) (h0 : 1 ≤ kk) (h : ∀ i, i < K → lo ≤ f i ∧ f i ≤ hi) : lo ≤ fx.rd (sumN f K) kk ∧ fx.rd (sumN f K) kk ≤ hi := by
  have s := sumN_mid h
  rw [hK] at s
  have e1 := fx.rd_mul lo kk h0
  have e2 := fx.rd_mul hi kk h0
  have m1 := fx.rd_mono (lo * kk) _ kk h0 s.1
  have m2 := fx.rd_mono _ (hi * kk) kk h0 s.2
  rw [e1] at m1
  rw [e2] at m2
  exact ⟨m1, m2⟩

/-- Each number upside down. -/
def turnL (xs : List Int) (k : Nat) : List Int := (List.range k).map (fun i => -1 - xs.getD i 0)
theorem turnL_succ (xs : List Int) (k : Nat) : turnL xs (k + 1) = turnL xs k ++ [-1 - xs.getD k 0] := by unfold turnL; rw [List.range_succ, List.map_append]; rfl
theorem turnL_len (xs : List Int) (k : Nat) : (turnL xs k).length = k := by simp [turnL]
theorem turnL_at (xs : List Int) {k i : Nat} (h : i < k) : (turnL xs k).getD i 0 = -1 - xs.getD i 0 := by unfold turnL; simp [List.getD, h]
theorem turnL_bd {xs : List Int} (h : ∀ x ∈ xs, -128 ≤ x ∧ x ≤ 127) (k : Nat) : ∀ x ∈ turnL xs k, -128 ≤ x ∧ x ≤ 127 := by
  intro x hx
  unfold turnL at hx
  obtain ⟨i, _, rfl⟩ := List.mem_map.1 hx
  have := getD_i8 h i
  omega

/-- The mean lies between the least and the greatest under its window, and these among all. -/
theorem between_at {k s : Int} {v : ValD} {D : List Int} {N : Nat} (hm : mayV v) (k1 : 1 ≤ k) (k3 : k ≤ 3) (s1 : 1 ≤ s) (s2 : s ≤ 2) (kh : k ≤ v.h) (kw : k ≤ v.w) (hN : sizeI v.h v.w v.c = N) (hl : D.length = N) (hD : ∀ x ∈ D, -128 ≤ x ∧ x ≤ 127)
    {A B C i : Nat} (ea : outI v.h k s 0 = A) (eb : outI v.w k s 0 = B) (ec : v.c = C) (hi : i < A * (B * C)) (b : ViewD) (m : Int × Int × Int) (hmc : m.2.2.toNat = C) :
    (allL (winK 5 k s v.z) (viewOf v D) b m (B * C) (A * (B * C))).getD i 0 ≤ (allL (winK 4 k s v.z) (viewOf v D) b m (B * C) (A * (B * C))).getD i 0 ∧
    -1 - (allL (winK 4 k s v.z) (viewOf v (turnL D N)) b m (B * C) (A * (B * C))).getD i 0 ≤ (allL (winK 5 k s v.z) (viewOf v D) b m (B * C) (A * (B * C))).getD i 0 ∧
    (allL (winK 4 k s v.z) (viewOf v D) b m (B * C) (A * (B * C))).getD i 0 ≤ mostN (fun j => D.getD j 0) N ∧
    leastN (fun j => D.getD j 0) N ≤ (allL (winK 5 k s v.z) (viewOf v D) b m (B * C) (A * (B * C))).getD i 0 := by
  obtain ⟨y, x, c, hy, hx, hc, rfl⟩ := place_of hi
  rw [allL_at _ _ _ _ hmc hy hx hc, allL_at _ _ _ _ hmc hy hx hc, allL_at _ _ _ _ hmc hy hx hc, num5 rfl, num4 rfl, num4 rfl]
  have K : ((k.toNat * k.toNat : Nat) : Int) = k * k := by rw [Int.natCast_mul, Int.toNat_of_nonneg (by omega)]
  have kk := (mul_bd k1 k3 k1 k3).1
  have un : ∀ p, p < k.toNat * k.toNat → ∃ i : Nat, i < N ∧ ∀ ys : List Int, underN (winK 4 k s v.z) (viewOf v ys) y x c p = ys.getD i 0 := by
    intro p hp
    obtain ⟨i, h1, h2⟩ := under_in (op := 4) hm k1 k3 s1 s2 kh kw (y := y) (x := x) (c := c) (by omega) (by omega) (by omega) (by omega) (by omega) (by omega) hp
    exact ⟨i, by omega, h2⟩
  have e5 : ∀ u, underN (winK 5 k s v.z) u y x c = underN (winK 4 k s v.z) u y x c := fun u => rfl
  rw [e5]
  show fx.rd (sumN (underN (winK 4 k s v.z) (viewOf v D) y x c) (k.toNat * k.toNat)) (k * k) ≤ mostN (underN (winK 4 k s v.z) (viewOf v D) y x c) (k.toNat * k.toNat) ∧
    -1 - mostN (underN (winK 4 k s v.z) (viewOf v (turnL D N)) y x c) (k.toNat * k.toNat) ≤ fx.rd (sumN (underN (winK 4 k s v.z) (viewOf v D) y x c) (k.toNat * k.toNat)) (k * k) ∧
    mostN (underN (winK 4 k s v.z) (viewOf v D) y x c) (k.toNat * k.toNat) ≤ mostN (fun j => D.getD j 0) N ∧
    leastN (fun j => D.getD j 0) N ≤ fx.rd (sumN (underN (winK 4 k s v.z) (viewOf v D) y x c) (k.toNat * k.toNat)) (k * k)
  have up := fun p (hp : p < k.toNat * k.toNat) => mostN_ge (f := underN (winK 4 k s v.z) (viewOf v D) y x c) hp
  have lo := fun p (hp : p < k.toNat * k.toNat) => mostN_ge (f := underN (winK 4 k s v.z) (viewOf v (turnL D N)) y x c) hp
  have tw : ∀ p, p < k.toNat * k.toNat → underN (winK 4 k s v.z) (viewOf v (turnL D N)) y x c p = -1 - underN (winK 4 k s v.z) (viewOf v D) y x c p := by
    intro p hp
    obtain ⟨i, h1, h2⟩ := un p hp
    rw [h2, h2, turnL_at _ h1]
  have all : ∀ p, p < k.toNat * k.toNat → leastN (fun j => D.getD j 0) N ≤ underN (winK 4 k s v.z) (viewOf v D) y x c p ∧ underN (winK 4 k s v.z) (viewOf v D) y x c p ≤ mostN (fun j => D.getD j 0) N := by
    intro p hp
    obtain ⟨i, h1, h2⟩ := un p hp
    rw [h2]
    exact ⟨leastN_le (f := fun j => D.getD j 0) h1, mostN_ge (f := fun j => D.getD j 0) h1⟩
  have m1 := mean_mid (f := underN (winK 4 k s v.z) (viewOf v D) y x c) K kk (lo := -1 - mostN (underN (winK 4 k s v.z) (viewOf v (turnL D N)) y x c) (k.toNat * k.toNat)) (hi := mostN (underN (winK 4 k s v.z) (viewOf v D) y x c) (k.toNat * k.toNat)) (fun p hp => ⟨by have := lo p hp; rw [tw p hp] at this; omega, up p hp⟩)
  have m2 := mean_mid (f := underN (winK 4 k s v.z) (viewOf v D) y x c) K kk (fun p hp => all p hp)
  exact ⟨m1.2, m1.1, mostN_le (mostN_bd (f := fun j => D.getD j 0) (fun i _ => getD_i8 hD i)).1 (fun p hp => (all p hp).2), m2.1⟩
end Go.Proofs.Ytbkigldffcgodaa
