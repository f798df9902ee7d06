/- KernWeights in numbers. -/
import Derived.Test.YtbkigldffcgodaaMRa
import Derived.Test.YtbkigldffcgodaaMQa
import Derived.Test.YtbkigldffcgodaaMAp
namespace Go.Proofs.Ytbkigldffcgodaa
open Go.ChangeShapes Go.WideShapes Go.ChangeAt Go.RowKit
set_option maxRecDepth 20000
set_option linter.unusedVariables false

/-- Weights of 1 for a channel itself. -/
def eyeF (C j : Nat) : Int := if j / C = j % C then 1 else 0
theorem eye_at {C c d : Nat} (hd : d < C) : eyeF C (c * C + d) = if c = d then 1 else 0 := by
  have e1 : (c * C + d) / C = c := by rw [Nat.mul_comm, Nat.mul_add_div (by omega), Nat.div_eq_of_lt hd, Nat.add_zero]
  have e2 : (c * C + d) % C = d := by rw [Nat.mul_comm, Nat.mul_add_mod, Nat.mod_eq_of_lt hd]
  unfold eyeF
  rw [e1, e2]
theorem eye_bd (C j : Nat) : -128 ≤ eyeF C j ∧ eyeF C j ≤ 127 := by unfold eyeF; split <;> decide
theorem sumN_zero {f : Nat → Int} {k : Nat} (h : ∀ i, i < k → f i = 0) : sumN f k = 0 := by
  induction k with
  | zero => rfl
  | succ k ih => simp only [sumN]; rw [ih (fun i hi => h i (by omega)), h k (by omega)]; rfl
theorem sumN_one {f : Nat → Int} {k c : Nat} (hc : c < k) (h : ∀ i, i < k → i ≠ c → f i = 0) : sumN f k = f c := by
  induction k with
  | zero => omega
  | succ k ih =>
    simp only [sumN]
    rcases (show c = k ∨ c < k by omega) with rfl | hk
    · rw [sumN_zero (fun i hi => h i (by omega) (by omega)), Int.zero_add]
    · rw [ih hk (fun i hi hn => h i (by omega) hn), h k (by omega) (by omega), Int.add_zero]
theorem scaleD_plain {acc : Int} (ha : -2147483648 ≤ acc ∧ acc ≤ 2147483647) : scaleD acc 1 0 0 = min (max acc (-128)) 127 := by
  unfold scaleD
  have e1 : fx.held 1 32767 1 = 1 := by decide
  have e2 : fx.held 0 31 0 = 0 := by decide
  have e3 : fx.held (-2147483648) 2147483647 acc = acc := by unfold fx.held; omega
  have e0 : fx.held (-128) 127 0 = 0 := by decide
  rw [e0, e1, e2, e3, Int.mul_one, Int.zero_add]
  have e4 : fx.rd acc (2 ^ (0 : Int).toNat) = acc := by
    have := fx.rd_mul acc 1 (by decide)
    simpa using this
  rw [e4]
  unfold fx.held
  omega

def oneK (op out : Int) (ws bs : List Int) : NodeD := strK op 1 1 0 out 1 0 0 ws bs
theorem over_in {v : ValD} {xs : List Int} (hm : mayV v) {H W C : Nat} (eh : v.h = H) (ew : v.w = W) (ec : v.c = C) {y x c : Nat} (hy : y < H) (hx : x < W) (hc : c < C) : overD (viewOf v xs) y x c = xs.getD ((y * W + x) * C + c) 0 - v.z := by
  unfold overD
  rw [atD_in hm eh ew ec hy hx hc]
  rfl
theorem one_look (y : Nat) : lookD (1 : Int).toNat ((y : Int) * 1 - 0) 0 = (y : Int) := by unfold lookD; simp
theorem one_side (y : Nat) : sideD (1 : Int).toNat ((y : Int) * 1 - 0) 0 = (y : Int) := by unfold sideD; simp
theorem rep_at {b : Int} {k i : Nat} (h : i < k) : (List.replicate k b).getD i 0 = b := by simp [List.getD, h]
/-- A window of one: the sum over channels, and the bias. -/
theorem weigh_one {op out : Int} {ws bs : List Int} {v : ValD} (xs : List Int) {many : Nat} {fr : Int} {y x c : Nat} :
    weighN (oneK op out ws bs) (viewOf v xs) many fr y x c = bs.getD c 0 + sumN (fun d => overD (viewOf v xs) y x (fr + d) * ws.getD (c * many + d) 0) many := by
  unfold weighN
  show bs.getD c 0 + sumN (placeN (oneK op out ws bs) (viewOf v xs) many fr y x c) 1 = _
  simp only [sumN]
  rw [Int.zero_add]
  congr 1
  unfold placeN
  show sumN (fun d => overD (viewOf v xs) (lookD (1 : Int).toNat ((y : Int) * 1 - 0) 0) (sideD (1 : Int).toNat ((x : Int) * 1 - 0) 0) (fr + d) * ws.getD ((c * ((1 : Int).toNat * (1 : Int).toNat) + 0) * many + d) 0) many = _
  rw [one_look, one_side]
  have e : (c * ((1 : Int).toNat * (1 : Int).toNat) + 0) = c := by simp
  rw [e]
def wantW (b z q : Int) : Int := min (max (q - z + b) (-128)) 127
theorem num_range {q z b : Int} (hq : -128 ≤ q ∧ q ≤ 127) (hz : -128 ≤ z ∧ z ≤ 127) (hb : -999 ≤ b ∧ b ≤ 999) : -2147483648 ≤ b + (q - z) ∧ b + (q - z) ≤ 2147483647 := by omega
/-- OpConv with weights of 1 for a channel itself. -/
theorem conv_one {v : ValD} {xs : List Int} (hm : mayV v) (hz : -128 ≤ v.z ∧ v.z ≤ 127) (hx8 : ∀ x ∈ xs, -128 ≤ x ∧ x ≤ 127) {b : Int} (hb : -999 ≤ b ∧ b ≤ 999) {H W C i : Nat} (eh : v.h = H) (ew : v.w = W) (ec : v.c = C) (hi : i < H * (W * C)) (a2 : ViewD) :
    (allL (oneK 1 C (genL (eyeF C) (C * C)) (List.replicate C b)) (viewOf v xs) a2 (v.h, v.w, v.c) (W * C) (H * (W * C))).getD i 0 = wantW b v.z (xs.getD i 0) := by
  obtain ⟨y, x, c, hy, hx, hc, rfl⟩ := place_of hi
  rw [allL_at _ _ _ _ (by show v.c.toNat = C; omega) hy hx hc, num1 rfl]
  have ec' : (viewOf v xs).v.c.toNat = C := by show v.c.toNat = C; omega
  rw [ec', Int.toNat_natCast, weigh_one, rep_at hc]
  have s : sumN (fun d => overD (viewOf v xs) y x ((0 : Int) + d) * (genL (eyeF C) (C * C)).getD (c * C + d) 0) C = xs.getD ((y * W + x) * C + c) 0 - v.z := by
    have inr : ∀ d, d < C → c * C + d < C * C := fun d hd => by
      have : (c + 1) * C ≤ C * C := Nat.mul_le_mul_right C hc
      rw [Nat.add_mul, Nat.one_mul] at this
      omega
    rw [sumN_one hc (fun d hd hn => by rw [genL_at _ (inr d hd), eye_at hd, if_neg (fun e => hn e.symm), Int.mul_zero])]
    rw [genL_at _ (inr c hc), eye_at hc, if_pos rfl, Int.mul_one, Int.zero_add, over_in hm eh ew ec hy hx hc]
  rw [s]
  show scaleD _ 1 0 0 = _
  have q8 := getD_i8 hx8 ((y * W + x) * C + c)
  rw [scaleD_plain (num_range q8 hz hb)]
  unfold wantW
  omega
/-- OpDepth with one weight a channel. -/
theorem depth_one {v : ValD} {xs : List Int} (hm : mayV v) (hz : -128 ≤ v.z ∧ v.z ≤ 127) (hx8 : ∀ x ∈ xs, -128 ≤ x ∧ x ≤ 127) {b u : Int} (hb : -999 ≤ b ∧ b ≤ 999) (hu : u = 0 ∨ u = 1) {H W C i : Nat} (eh : v.h = H) (ew : v.w = W) (ec : v.c = C) (hi : i < H * (W * C)) (a2 : ViewD) :
    (allL (oneK 2 0 (List.replicate C u) (List.replicate C b)) (viewOf v xs) a2 (v.h, v.w, v.c) (W * C) (H * (W * C))).getD i 0 = if u = 1 then wantW b v.z (xs.getD i 0) else min (max b (-128)) 127 := by
  obtain ⟨y, x, c, hy, hx, hc, rfl⟩ := place_of hi
  rw [allL_at _ _ _ _ (by show v.c.toNat = C; omega) hy hx hc, num2 rfl, Int.toNat_natCast, weigh_one, rep_at hc]
  have s : sumN (fun d => overD (viewOf v xs) y x ((c : Int) + d) * (List.replicate C u).getD (c * 1 + d) 0) 1 = (xs.getD ((y * W + x) * C + c) 0 - v.z) * u := by
    simp only [sumN]
    rw [Int.zero_add, Nat.mul_one, Nat.add_zero, rep_at hc]
    have e : (c : Int) + ((0 : Nat) : Int) = c := by simp
    rw [e, over_in hm eh ew ec hy hx hc]
  rw [s]
  show scaleD _ 1 0 0 = _
  have q8 := getD_i8 hx8 ((y * W + x) * C + c)
  rcases hu with rfl | rfl
  · rw [Int.mul_zero, Int.add_zero, scaleD_plain (by omega)]
    simp
  · rw [Int.mul_one, scaleD_plain (num_range q8 hz hb), if_pos rfl]
    unfold wantW
    omega
/-- OpFull of one channel. -/
def wholeK (ws bs : List Int) : NodeD := strK 3 0 0 0 1 1 0 0 ws bs
theorem sumN_near {f : Nat → Int} {k : Nat} {B : Int} (h : ∀ i, i < k → -B ≤ f i ∧ f i ≤ B) : -(k * B) ≤ sumN f k ∧ sumN f k ≤ k * B := sumN_bd h
theorem full_one {v : ValD} {xs : List Int} (hz : -128 ≤ v.z ∧ v.z ≤ 127) (hx8 : ∀ x ∈ xs, -128 ≤ x ∧ x ≤ 127) {b : Int} (hb : -999 ≤ b ∧ b ≤ 999) {N : Nat} (hN : xs.length = N) (N2 : N ≤ 2048) (a2 : ViewD) :
    (allL (wholeK (List.replicate N 1) [b]) (viewOf v xs) a2 (1, 1, 1) 1 1).getD 0 0 = min (max (b + sumN (fun i => xs.getD i 0 - v.z) N) (-128)) 127 := by
  have h := allL_at (wholeK (List.replicate N 1) [b]) (viewOf v xs) a2 (1, 1, 1) (H := 1) (W := 1) (C := 1) (y := 0) (x := 0) (c := 0) rfl (by decide) (by decide) (by decide)
  refine h.trans ?_
  rw [num3 rfl]
  have s : wholeN (wholeK (List.replicate N 1) [b]) (viewOf v xs) ((0 : Nat) : Int).toNat = b + sumN (fun i => xs.getD i 0 - v.z) N := by
    unfold wholeN
    show b + sumN (fun i => (xs.getD i 0 - v.z) * (List.replicate N (1 : Int)).getD (0 * xs.length + i) 0) xs.length = _
    rw [hN]
    congr 1
    refine sumN_congr fun i hi => ?_
    rw [Nat.zero_mul, Nat.zero_add, rep_at hi, Int.mul_one]
  rw [s]
  show scaleD _ 1 0 0 = _
  have nb := sumN_bd (f := fun i => xs.getD i 0 - v.z) (B := 255) (k := N) (fun i _ => by have := getD_i8 hx8 i; omega)
  exact scaleD_plain (by omega)
theorem sum_step (xs : List Int) (z b : Int) (k : Nat) : b + sumN (fun i => xs.getD i 0 - z) (k + 1) = b + sumN (fun i => xs.getD i 0 - z) k + xs.getD k 0 - z := by
  simp only [sumN]
  omega
theorem sum_range {xs : List Int} (hx8 : ∀ x ∈ xs, -128 ≤ x ∧ x ≤ 127) {z b : Int} (hz : -128 ≤ z ∧ z ≤ 127) (hb : -999 ≤ b ∧ b ≤ 999) {k : Nat} (hk : k ≤ 2048) : -1000000 ≤ b + sumN (fun i => xs.getD i 0 - z) k ∧ b + sumN (fun i => xs.getD i 0 - z) k ≤ 1000000 := by
  have nb := sumN_bd (f := fun i => xs.getD i 0 - z) (B := 255) (k := k) (fun i _ => by have := getD_i8 hx8 i; omega)
  omega

theorem near_rep {b : Int} (hb : -999 ≤ b ∧ b ≤ 999) (k : Nat) : ∀ j, j < (List.replicate k b).length → nearB ((List.replicate k b).getD j 0) := by
  intro j hj
  rw [List.length_replicate] at hj
  rw [rep_at hj]
  unfold nearB
  omega
theorem conv_make {v : ValD} {xs : List Int} (hm : mayV v) (hx : FullV (viewOf v xs)) {b : Int} (hb : -999 ≤ b ∧ b ≤ 999) {C : Nat} (ec : v.c = C) (a2 : ViewD) : MakeOk (oneK 1 C (genL (eyeF C) (C * C)) (List.replicate C b)) [v] (viewOf v xs) a2 (v.h, v.w, v.c) := by
  have z0 := Int.le_refl 0
  have o1 := Int.le_refl 1
  obtain ⟨a1, b1, c1, d1, e1, f1⟩ := id hm
  have made : madeS (oneK 1 C (genL (eyeF C) (C * C)) (List.replicate C b)) [v] = (v.h, v.w, v.c) := by
    rw [made1 rfl]
    show (outI v.h 1 1 0, outI v.w 1 1 0, (C : Int)) = _
    rw [one_out a1 b1, one_out c1 d1, ec]
  refine ⟨valueE_0 ⟨(show hasOp 1 by unfold hasOp; decide), rfl, fun j hj => ?_, ⟨(show (1 : Int) ≤ 1 ∧ (1 : Int) ≤ 32767 by decide), (show (0 : Int) ≤ 0 ∧ (0 : Int) ≤ 31 by decide), (show (-128 : Int) ≤ 0 ∧ (0 : Int) ≤ 127 by decide)⟩,
    ⟨⟨⟨o1, (by decide : (1 : Int) ≤ 3)⟩, ⟨o1, (by decide : (1 : Int) ≤ 2)⟩, ⟨z0, (by decide : (0 : Int) ≤ 1)⟩, ⟨(show (1 : Int) ≤ (C : Int) by omega), (show (C : Int) ≤ 8 by omega)⟩⟩, (by decide : ¬ ((0 : Int) < 3 ∧ (1 : Int) ≤ 0)), Or.inr ⟨rfl, rfl, rfl⟩⟩⟩ (fun j hj => ?_) ?_ ?_, made.symm, hx, rfl, fun h => ?_⟩
  · rintro ⟨h, _⟩; exact absurd (show (false : Bool) = true from h) (by decide)
  · rw [one_get v j hj]; exact hm
  · rw [made]; exact hm
  · unfold lensP
    rw [made]
    refine ⟨?_, ?_, near_rep hb C⟩
    · have : wantS (oneK 1 C (genL (eyeF C) (C * C)) (List.replicate C b)) ([v].getD 0 default) (v.h, v.w, v.c).2.2 = (1 * 1 * v.c * v.c, v.c) := by simp [wantS, oneK, strK]
      rw [this, ec]
      show ((genL (eyeF C) (C * C)).length : Int) = 1 * 1 * (C : Int) * C
      rw [genL_len, Int.natCast_mul]
      simp
    · have : wantS (oneK 1 C (genL (eyeF C) (C * C)) (List.replicate C b)) ([v].getD 0 default) (v.h, v.w, v.c).2.2 = (1 * 1 * v.c * v.c, v.c) := by simp [wantS, oneK, strK]
      rw [this, ec]
      show ((List.replicate C b).length : Int) = (C : Int)
      rw [List.length_replicate]
  · have h : (1 : Int) = 6 ∨ (1 : Int) = 7 ∨ (1 : Int) = 10 := h
    omega
theorem depth_make {v : ValD} {xs : List Int} (hm : mayV v) (hx : FullV (viewOf v xs)) {b u : Int} (hb : -999 ≤ b ∧ b ≤ 999) {C : Nat} (ec : v.c = C) (a2 : ViewD) : MakeOk (oneK 2 0 (List.replicate C u) (List.replicate C b)) [v] (viewOf v xs) a2 (v.h, v.w, v.c) := by
  have z0 := Int.le_refl 0
  have o1 := Int.le_refl 1
  obtain ⟨a1, b1, c1, d1, e1, f1⟩ := id hm
  have made : madeS (oneK 2 0 (List.replicate C u) (List.replicate C b)) [v] = (v.h, v.w, v.c) := by
    rw [made2 (.inl rfl)]
    show (outI v.h 1 1 0, outI v.w 1 1 0, v.c) = _
    rw [one_out a1 b1, one_out c1 d1]
  refine ⟨valueE_0 ⟨(show hasOp 2 by unfold hasOp; decide), rfl, fun j hj => ?_, ⟨(show (1 : Int) ≤ 1 ∧ (1 : Int) ≤ 32767 by decide), (show (0 : Int) ≤ 0 ∧ (0 : Int) ≤ 31 by decide), (show (-128 : Int) ≤ 0 ∧ (0 : Int) ≤ 127 by decide)⟩,
    ⟨⟨⟨o1, (by decide : (1 : Int) ≤ 3)⟩, ⟨o1, (by decide : (1 : Int) ≤ 2)⟩, ⟨z0, (by decide : (0 : Int) ≤ 1)⟩, ⟨z0, z0⟩⟩, (by decide : ¬ ((0 : Int) < 3 ∧ (1 : Int) ≤ 0)), Or.inr ⟨rfl, rfl, rfl⟩⟩⟩ (fun j hj => ?_) ?_ ?_, made.symm, hx, rfl, fun h => ?_⟩
  · rintro ⟨h, _⟩; exact absurd (show (false : Bool) = true from h) (by decide)
  · rw [one_get v j hj]; exact hm
  · rw [made]; exact hm
  · unfold lensP
    rw [made]
    have : wantS (oneK 2 0 (List.replicate C u) (List.replicate C b)) ([v].getD 0 default) (v.h, v.w, v.c).2.2 = (1 * 1 * v.c, v.c) := by simp [wantS, oneK, strK]
    rw [this, ec]
    refine ⟨?_, ?_, near_rep hb C⟩
    · show ((List.replicate C u).length : Int) = 1 * 1 * (C : Int)
      rw [List.length_replicate]
      omega
    · show ((List.replicate C b).length : Int) = (C : Int)
      rw [List.length_replicate]
  · have h : (2 : Int) = 6 ∨ (2 : Int) = 7 ∨ (2 : Int) = 10 := h
    omega
theorem full_make {v : ValD} {xs : List Int} (hm : mayV v) (hx : FullV (viewOf v xs)) {b : Int} (hb : -999 ≤ b ∧ b ≤ 999) {N : Nat} (es : sizeI v.h v.w v.c = N) (a2 : ViewD) : MakeOk (wholeK (List.replicate N 1) [b]) [v] (viewOf v xs) a2 (1, 1, 1) := by
  have z0 := Int.le_refl 0
  have o1 := Int.le_refl 1
  have made : madeS (wholeK (List.replicate N 1) [b]) [v] = (1, 1, 1) := by simp [madeS, wholeK, strK]
  refine ⟨valueE_0 ⟨(show hasOp 3 by unfold hasOp; decide), rfl, fun j hj => ?_, ⟨(show (1 : Int) ≤ 1 ∧ (1 : Int) ≤ 32767 by decide), (show (0 : Int) ≤ 0 ∧ (0 : Int) ≤ 31 by decide), (show (-128 : Int) ≤ 0 ∧ (0 : Int) ≤ 127 by decide)⟩,
    ⟨⟨⟨z0, z0⟩, ⟨z0, z0⟩, ⟨z0, z0⟩, ⟨o1, (by decide : (1 : Int) ≤ 8)⟩⟩, (by decide : ¬ ((0 : Int) < 0 ∧ (0 : Int) ≤ 0)), Or.inr ⟨rfl, rfl, rfl⟩⟩⟩ (fun j hj => ?_) ?_ ?_, made.symm, hx, rfl, fun h => ?_⟩
  · rintro ⟨h, _⟩; exact absurd (show (false : Bool) = true from h) (by decide)
  · rw [one_get v j hj]; exact hm
  · rw [made]; exact ⟨o1, (by decide : (1 : Int) ≤ 16), o1, (by decide : (1 : Int) ≤ 16), o1, (by decide : (1 : Int) ≤ 8)⟩
  · unfold lensP
    rw [made]
    have : wantS (wholeK (List.replicate N 1) [b]) ([v].getD 0 default) (1, 1, (1 : Int)).2.2 = (sizeI v.h v.w v.c * 1, 1) := by simp [wantS, wholeK, strK]
    rw [this, es]
    refine ⟨?_, rfl, fun j hj => ?_⟩
    · show ((List.replicate N (1 : Int)).length : Int) = (N : Int) * 1
      rw [List.length_replicate, Int.mul_one]
    · have hj : j < 1 := hj
      obtain rfl : j = 0 := by omega
      show nearB b
      unfold nearB
      omega
  · have h : (3 : Int) = 6 ∨ (3 : Int) = 7 ∨ (3 : Int) = 10 := h
    omega
end Go.Proofs.Ytbkigldffcgodaa
