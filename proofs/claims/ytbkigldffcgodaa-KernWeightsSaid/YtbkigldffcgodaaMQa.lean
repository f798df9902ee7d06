/- Nodes that keep numbers, in numbers. -/
import Derived.Test.YtbkigldffcgodaaMPa
namespace Go.Proofs.Ytbkigldffcgodaa
open Go.ChangeShapes Go.WideShapes Go.ChangeAt Go.RowKit
set_option maxRecDepth 20000
set_option linter.unusedVariables false

theorem reluZ_made {z : Int} (v : ValD) : madeS (pairK 8 1 0 z) [v] = (v.h, v.w, v.c) := by
  have : madeS (pairK 8 1 0 z) [v] = alikeS [v] := by simp [madeS, pairK]
  rw [this]
  exact alike_of (by simp) (one_get v)
theorem reluZ_make {v : ValD} {xs : List Int} (hm : mayV v) (hz : -128 ≤ v.z ∧ v.z ≤ 127) (hx : FullV (viewOf v xs)) (b : ViewD) : MakeOk (pairK 8 1 0 v.z) [v] (viewOf v xs) b (v.h, v.w, v.c) := by
  have z0 := Int.le_refl 0
  refine ⟨valueE_0 ⟨(show hasOp 8 by unfold hasOp; decide), rfl, fun j hj => ?_, ⟨(show (1 : Int) ≤ 1 ∧ (1 : Int) ≤ 32767 by decide), (show (0 : Int) ≤ 0 ∧ (0 : Int) ≤ 31 by decide), hz⟩, ⟨⟨⟨z0, z0⟩, ⟨z0, z0⟩, ⟨z0, z0⟩, ⟨z0, z0⟩⟩, (by decide : ¬ ((0 : Int) < 0 ∧ (0 : Int) ≤ 0)), Or.inr ⟨rfl, rfl, rfl⟩⟩⟩ (fun j hj => ?_) ?_ ?_, (reluZ_made v).symm, hx, rfl, fun h => ?_⟩
  · rw [one_get v j hj]
    rintro ⟨_, h⟩
    exact h rfl
  · rw [one_get v j hj]; exact hm
  · rw [reluZ_made]; exact hm
  · unfold lensP
    rw [reluZ_made]
    exact ⟨rfl, rfl, fun j hj => by simp [pairK] at hj⟩
  · have h : (8 : Int) = 6 ∨ (8 : Int) = 7 ∨ (8 : Int) = 10 := h
    omega
theorem reluZ_at {v : ValD} (xs : List Int) (b : ViewD) (hm : mayV v) {H W C i : Nat} (eh : v.h = H) (ew : v.w = W) (ec : v.c = C) (hi : i < H * (W * C)) :
    (allL (pairK 8 1 0 v.z) (viewOf v xs) b (v.h, v.w, v.c) (W * C) (H * (W * C))).getD i 0 = max (xs.getD i 0) v.z := by
  obtain ⟨y, x, c, hy, hx, hc, rfl⟩ := place_of hi
  rw [allL_at _ _ _ _ (by show v.c.toNat = C; omega) hy hx hc, num8 rfl, atD_in hm eh ew ec hy hx hc]
  rfl
theorem reluZ_twice {v : ValD} (xs : List Int) (b : ViewD) (hm : mayV v) {H W C : Nat} (eh : v.h = H) (ew : v.w = W) (ec : v.c = C) {R : List Int} (hR : allL (pairK 8 1 0 v.z) (viewOf v xs) b (v.h, v.w, v.c) (W * C) (H * (W * C)) = R) :
    allL (pairK 8 1 0 v.z) (viewOf v R) b (v.h, v.w, v.c) (W * C) (H * (W * C)) = R := by
  have lR : R.length = H * (W * C) := by rw [← hR, allL_len]
  refine list_ext (by rw [allL_len, lR]) (fun i hi => ?_)
  rw [allL_len] at hi
  rw [reluZ_at R b hm eh ew ec hi]
  have := reluZ_at xs b hm eh ew ec hi
  rw [hR] at this
  rw [this]
  omega

def reshK (z h w c : Int) : NodeD := ⟨11, [], 0, 0, 0, 0, 1, 0, z, h, w, c, [], []⟩
theorem resh_made {z : Int} {v : ValD} (hm : mayV v) : madeS (reshK z v.w v.h v.c) [v] = (v.w, v.h, v.c) := by
  obtain ⟨a, b, c, d, e, f⟩ := id hm
  have h2 : mayS v.w v.h v.c := ⟨c, d, a, b, e, f⟩
  have es : sizeI v.w v.h v.c = sizeI v.h v.w v.c := by
    unfold sizeI
    rw [if_pos h2, if_pos (show mayS v.h v.w v.c from hm), Int.mul_comm v.w v.h]
  have : madeS (reshK z v.w v.h v.c) [v] = if sizeI v.w v.h v.c = sizeI v.h v.w v.c then (v.w, v.h, v.c) else (0, 0, 0) := by simp [madeS, reshK]
  rw [this, if_pos es]
theorem resh_make {v : ValD} {xs : List Int} (hm : mayV v) (hz : -128 ≤ v.z ∧ v.z ≤ 127) (hx : FullV (viewOf v xs)) (b : ViewD) : MakeOk (reshK v.z v.w v.h v.c) [v] (viewOf v xs) b (v.w, v.h, v.c) := by
  have z0 := Int.le_refl 0
  obtain ⟨a1, b1, c1, d1, e1, f1⟩ := id hm
  refine ⟨valueE_0 ⟨(show hasOp 11 by unfold hasOp; decide), rfl, fun j hj => ?_, ⟨(show (1 : Int) ≤ 1 ∧ (1 : Int) ≤ 32767 by decide), (show (0 : Int) ≤ 0 ∧ (0 : Int) ≤ 31 by decide), hz⟩, ⟨⟨⟨z0, z0⟩, ⟨z0, z0⟩, ⟨z0, z0⟩, ⟨z0, z0⟩⟩, (by decide : ¬ ((0 : Int) < 0 ∧ (0 : Int) ≤ 0)), Or.inl rfl⟩⟩ (fun j hj => ?_) ?_ ?_, (resh_made hm).symm, hx, rfl, fun h => ?_⟩
  · rw [one_get v j hj]
    rintro ⟨_, h⟩
    exact h rfl
  · rw [one_get v j hj]; exact hm
  · rw [resh_made hm]; exact ⟨c1, d1, a1, b1, e1, f1⟩
  · unfold lensP
    rw [resh_made hm]
    exact ⟨rfl, rfl, fun j hj => by simp [reshK] at hj⟩
  · have h : (11 : Int) = 6 ∨ (11 : Int) = 7 ∨ (11 : Int) = 10 := h
    omega
theorem resh_is {v : ValD} {xs : List Int} (b : ViewD) (hm : mayV v) {H W C : Nat} (eh : v.h = H) (ew : v.w = W) (ec : v.c = C) (hl : xs.length = H * (W * C)) :
    allL (reshK v.z v.w v.h v.c) (viewOf v xs) b (v.w, v.h, v.c) (H * C) (W * (H * C)) = xs := by
  obtain ⟨a1, b1, c1, d1, e1, f1⟩ := id hm
  have h2 : mayS v.w v.h v.c := ⟨c1, d1, a1, b1, e1, f1⟩
  refine allL_is _ _ _ (v.w, v.h, v.c) (by show v.c.toNat = C; omega) (by rw [hl, Nat.mul_left_comm]) (fun y x c hy hx hc => ?_)
  rw [num11 rfl]
  show xs.getD (indexI v.w v.h v.c y x c).toNat 0 = _
  rw [indexI_yes ⟨h2, by omega, by omega, by omega, by omega, by omega, by omega⟩, eh, ec]
  have e : ((y : Int) * (H : Int) + x) * (C : Int) + c = (((y * H + x) * C + c : Nat) : Int) := by simp
  rw [e, Int.toNat_natCast]

theorem one_out {size : Int} (h1 : 1 ≤ size) (h2 : size ≤ 16) : outI size 1 1 0 = size := by
  rw [out_one h1 (by omega) (by decide) (by decide) (by decide) (by decide)]
  omega
theorem one_under {op : Int} {v : ValD} (xs : List Int) (hm : mayV v) {H W C y x c : Nat} (eh : v.h = H) (ew : v.w = W) (ec : v.c = C) (hy : y < H) (hx : x < W) (hc : c < C) : underN (winK op 1 1 v.z) (viewOf v xs) y x c 0 = xs.getD ((y * W + x) * C + c) 0 := by
  rw [← atD_in (xs := xs) hm eh ew ec hy hx hc]
  unfold underN lookD sideD
  show atD (viewOf v xs) ((y : Int) * 1 - 0 + ((0 / (1 : Int).toNat : Nat) : Int)) ((x : Int) * 1 - 0 + ((0 % (1 : Int).toNat : Nat) : Int)) c = _
  have e1 : (y : Int) * 1 - 0 + ((0 / (1 : Int).toNat : Nat) : Int) = y := by simp
  have e2 : (x : Int) * 1 - 0 + ((0 % (1 : Int).toNat : Nat) : Int) = x := by simp
  rw [e1, e2]
theorem most_one {v : ValD} {xs : List Int} (b : ViewD) (hm : mayV v) {H W C : Nat} (eh : v.h = H) (ew : v.w = W) (ec : v.c = C) (hl : xs.length = H * (W * C)) (hx : ∀ x ∈ xs, -128 ≤ x ∧ x ≤ 127) :
    allL (winK 4 1 1 v.z) (viewOf v xs) b (v.h, v.w, v.c) (W * C) (H * (W * C)) = xs := by
  refine allL_is _ _ _ (v.h, v.w, v.c) (by show v.c.toNat = C; omega) hl (fun y x c hy hx' hc => ?_)
  rw [num4 rfl]
  show mostN (underN (winK 4 1 1 v.z) (viewOf v xs) y x c) 1 = _
  simp only [mostN]
  rw [one_under xs hm eh ew ec hy hx' hc]
  have := getD_i8 hx ((y * W + x) * C + c)
  omega
theorem mean_one {v : ValD} {xs : List Int} (b : ViewD) (hm : mayV v) {H W C : Nat} (eh : v.h = H) (ew : v.w = W) (ec : v.c = C) (hl : xs.length = H * (W * C)) :
    allL (winK 5 1 1 v.z) (viewOf v xs) b (v.h, v.w, v.c) (W * C) (H * (W * C)) = xs := by
  refine allL_is _ _ _ (v.h, v.w, v.c) (by show v.c.toNat = C; omega) hl (fun y x c hy hx' hc => ?_)
  rw [num5 rfl]
  show fx.rd (sumN (underN (winK 5 1 1 v.z) (viewOf v xs) y x c) 1) (1 * 1) = _
  simp only [sumN]
  rw [one_under xs hm eh ew ec hy hx' hc, Int.zero_add]
  have := fx.rd_mul (xs.getD ((y * W + x) * C + c) 0) 1 (by decide)
  simpa using this

def padK (z : Int) : NodeD := ⟨9, [], 0, 0, 1, 0, 1, 0, z, 0, 0, 0, [], []⟩
theorem pad_made {z : Int} (v : ValD) : madeS (padK z) [v] = (v.h + 2, v.w + 2, v.c) := by simp [madeS, padK]
theorem pad_make {v : ValD} {xs : List Int} (hm : mayV v) (hz : -128 ≤ v.z ∧ v.z ≤ 127) (h14 : v.h ≤ 14) (w14 : v.w ≤ 14) (hx : FullV (viewOf v xs)) (b : ViewD) : MakeOk (padK v.z) [v] (viewOf v xs) b (v.h + 2, v.w + 2, v.c) := by
  have z0 := Int.le_refl 0
  have o1 := Int.le_refl 1
  obtain ⟨a1, b1, c1, d1, e1, f1⟩ := id hm
  refine ⟨valueE_0 ⟨(show hasOp 9 by unfold hasOp; decide), rfl, fun j hj => ?_, ⟨(show (1 : Int) ≤ 1 ∧ (1 : Int) ≤ 32767 by decide), (show (0 : Int) ≤ 0 ∧ (0 : Int) ≤ 31 by decide), hz⟩, ⟨⟨⟨z0, z0⟩, ⟨z0, z0⟩, ⟨o1, o1⟩, ⟨z0, z0⟩⟩, (by decide : ¬ ((0 : Int) < 0 ∧ (0 : Int) ≤ 1)), Or.inr ⟨rfl, rfl, rfl⟩⟩⟩ (fun j hj => ?_) ?_ ?_, (pad_made v).symm, hx, rfl, fun h => ?_⟩
  · rw [one_get v j hj]
    rintro ⟨_, h⟩
    exact h rfl
  · rw [one_get v j hj]; exact hm
  · rw [pad_made]; exact ⟨by show 1 ≤ v.h + 2; omega, by show v.h + 2 ≤ 16; omega, by show 1 ≤ v.w + 2; omega, by show v.w + 2 ≤ 16; omega, e1, f1⟩
  · unfold lensP
    rw [pad_made]
    exact ⟨rfl, rfl, fun j hj => by simp [padK] at hj⟩
  · have h : (9 : Int) = 6 ∨ (9 : Int) = 7 ∨ (9 : Int) = 10 := h
    omega
/-- A place of an OpPad: the value's own in its midst, and nought around. -/
theorem pad_at {v : ValD} (xs : List Int) (b : ViewD) (hm : mayV v) {H W C y x c : Nat} (eh : v.h = H) (ew : v.w = W) (ec : v.c = C) (hy : y < H + 2) (hx : x < W + 2) (hc : c < C) :
    (allL (padK v.z) (viewOf v xs) b (v.h + 2, v.w + 2, v.c) ((W + 2) * C) ((H + 2) * ((W + 2) * C))).getD ((y * (W + 2) + x) * C + c) 0 = if 1 ≤ y ∧ y ≤ H ∧ 1 ≤ x ∧ x ≤ W then xs.getD (((y - 1) * W + (x - 1)) * C + c) 0 else v.z := by
  rw [allL_at _ _ _ _ (by show v.c.toNat = C; omega) hy hx hc, num9 rfl]
  show atD (viewOf v xs) ((y : Int) - 1) ((x : Int) - 1) c = _
  by_cases k : 1 ≤ y ∧ y ≤ H ∧ 1 ≤ x ∧ x ≤ W
  · rw [if_pos k, ← atD_in (xs := xs) hm eh ew ec (y := y - 1) (x := x - 1) (by omega) (by omega) hc]
    congr 1 <;> omega
  · rw [if_neg k]
    unfold atD
    exact if_neg (fun h => k (by
      obtain ⟨_, h1, h2, h3, h4, _⟩ := h
      have h2 : (y : Int) - 1 < v.h := h2
      have h4 : (x : Int) - 1 < v.w := h4
      omega))

/-- How many of the first ones are not nought. -/
def cntN (z : Int) (f : Nat → Int) : Nat → Nat
  | 0 => 0
  | k + 1 => cntN z f k + (if f k = z then 0 else 1)
theorem cntN_add (z : Int) (f : Nat → Int) (a b : Nat) : cntN z f (a + b) = cntN z f a + cntN z (fun i => f (a + i)) b := by
  induction b with
  | zero => rfl
  | succ b ih =>
    rw [← Nat.add_assoc]
    simp only [cntN]
    rw [ih]
    omega
theorem cntN_in {z : Int} {f : Nat → Int} {lo n : Nat} (b : Nat) (h : ∀ i, i < b → f i ≠ z → lo ≤ i ∧ i < lo + n) : cntN z f b ≤ b - lo ∧ cntN z f b ≤ n := by
  induction b with
  | zero => simp [cntN]
  | succ b ih =>
    have a := ih (fun i hi => h i (by omega))
    simp only [cntN]
    by_cases c : f b = z
    · rw [if_pos c]; omega
    · rw [if_neg c]
      have := h b (by omega) c
      omega
theorem cntN_le (z : Int) (f : Nat → Int) (k : Nat) : cntN z f k ≤ k := by
  induction k with
  | zero => exact Nat.le_refl _
  | succ k ih => simp only [cntN]; split <;> omega
theorem pad_count {v : ValD} (xs : List Int) (b : ViewD) (hm : mayV v) {H W C : Nat} (eh : v.h = H) (ew : v.w = W) (ec : v.c = C) {Q : List Int}
    (hQ : allL (padK v.z) (viewOf v xs) b (v.h + 2, v.w + 2, v.c) ((W + 2) * C) ((H + 2) * ((W + 2) * C)) = Q) : cntN v.z (fun i => Q.getD i 0) ((H + 2) * ((W + 2) * C)) ≤ H * (W * C) := by
  have row : ∀ y, y < H + 2 → cntN v.z (fun i => Q.getD (y * ((W + 2) * C) + i) 0) ((W + 2) * C) ≤ if 1 ≤ y ∧ y ≤ H then W * C else 0 := by
    intro y hy
    have each : ∀ i, i < (W + 2) * C → Q.getD (y * ((W + 2) * C) + i) 0 ≠ v.z → (1 ≤ y ∧ y ≤ H) ∧ C ≤ i ∧ i < C + W * C := by
      intro i hi hne
      have hi1 : i < 1 * ((W + 2) * C) := by omega
      obtain ⟨y0, x, c, hy0, hx, hc, e⟩ := place_of hi1
      obtain rfl : y0 = 0 := by omega
      have e : i = x * C + c := by rw [e]; simp
      have e2 : y * ((W + 2) * C) + i = (y * (W + 2) + x) * C + c := by rw [e, Nat.add_mul (y * (W + 2)) x C, Nat.mul_assoc, Nat.add_assoc]
      rw [e2, ← hQ, pad_at xs b hm eh ew ec hy hx hc] at hne
      by_cases k : 1 ≤ y ∧ y ≤ H ∧ 1 ≤ x ∧ x ≤ W
      · refine ⟨⟨k.1, k.2.1⟩, ?_⟩
        have l1 : 1 * C ≤ x * C := Nat.mul_le_mul_right C k.2.2.1
        have l2 : x * C ≤ W * C := Nat.mul_le_mul_right C k.2.2.2
        omega
      · rw [if_neg k] at hne
        exact absurd rfl hne
    split
    · exact (cntN_in (lo := C) _ (fun i hi hne => (each i hi hne).2)).2
    · rename_i k
      have := (cntN_in (z := v.z) (f := fun i => Q.getD (y * ((W + 2) * C) + i) 0) (lo := 0) (n := 0) ((W + 2) * C) (fun i hi hne => absurd (each i hi hne).1 k)).2
      exact this
  have all : ∀ y, y ≤ H + 2 → cntN v.z (fun i => Q.getD i 0) (y * ((W + 2) * C)) ≤ (min (y - 1) H) * (W * C) := by
    intro y
    induction y with
    | zero => intro _; rw [Nat.zero_mul]; exact Nat.zero_le _
    | succ y ih =>
      intro hy
      have a := ih (by omega)
      have r := row y (by omega)
      have e : (y + 1) * ((W + 2) * C) = y * ((W + 2) * C) + (W + 2) * C := by rw [Nat.add_mul y 1, Nat.one_mul]
      rw [e, cntN_add]
      by_cases k : 1 ≤ y ∧ y ≤ H
      · rw [if_pos k] at r
        have m1 : min (y - 1) H = y - 1 := by omega
        have m2 : min (y + 1 - 1) H = (y - 1) + 1 := by omega
        rw [m1] at a
        rw [m2, Nat.add_mul (y - 1) 1, Nat.one_mul]
        omega
      · rw [if_neg k] at r
        have m1 : min (y - 1) H ≤ min (y + 1 - 1) H := by omega
        have := Nat.mul_le_mul_right (W * C) m1
        omega
  have := all (H + 2) (Nat.le_refl _)
  have m : min (H + 2 - 1) H = H := by omega
  rw [m] at this
  exact this
/-- An OpPad's midst is the value. -/
theorem pad_mid {v : ValD} (xs : List Int) (b : ViewD) (hm : mayV v) {H W C y j : Nat} (eh : v.h = H) (ew : v.w = W) (ec : v.c = C) (hy : y < H) (hj : j < W * C) {Q : List Int}
    (hQ : allL (padK v.z) (viewOf v xs) b (v.h + 2, v.w + 2, v.c) ((W + 2) * C) ((H + 2) * ((W + 2) * C)) = Q) : Q.getD ((y + 1) * ((W + 2) * C) + C + j) 0 = xs.getD (y * (W * C) + j) 0 ∧ (y + 1) * ((W + 2) * C) + C + j < (H + 2) * ((W + 2) * C) ∧ y * (W * C) + j < H * (W * C) := by
  have hj1 : j < 1 * (W * C) := by omega
  obtain ⟨y0, x, c, hy0, hx, hc, e⟩ := place_of hj1
  obtain rfl : y0 = 0 := by omega
  have e : j = x * C + c := by rw [e]; simp
  subst e
  have e1 : (y + 1) * ((W + 2) * C) + C + (x * C + c) = ((y + 1) * (W + 2) + (x + 1)) * C + c := by
    rw [Nat.add_mul ((y + 1) * (W + 2)), Nat.mul_assoc, Nat.add_mul x 1, Nat.one_mul]
    omega
  have e2 : y * (W * C) + (x * C + c) = (y * W + x) * C + c := by rw [Nat.add_mul, Nat.mul_assoc, Nat.add_assoc]
  rw [e1, e2]
  refine ⟨?_, place_lt (by omega) (by omega) hc, place_lt hy hx hc⟩
  rw [← hQ, pad_at xs b hm eh ew ec (by omega) (by omega) hc, if_pos ⟨by omega, by omega, by omega, by omega⟩]
  rfl
end Go.Proofs.Ytbkigldffcgodaa
