/- kern: views: at, over. kern in numbers: sums, the greatest, what is scaled. kern: over, and what the closures of ops of one number make. kern: what the closures of OpMul, OpRelu, OpPad, OpConcat, OpReshape, OpTable make. -/
import Derived.Test.YtliijchcpooplaaGreatOMFix
import Derived.Test.YtliijchcpooplaaGreatOMFxMath
import Derived.Test.YtliijchcpooplaaGreatOMSh2
import Derived.Test.YtliijchcpooplaaGreatOMG4
import Derived.Test.YtliijchcpooplaaGreatOMSh3
namespace Go.Proofs.YtliijchcpooplaaGreat
open Go.ChangeShapes Go.WideShapes Go.ChangeAt Go.RowKit
set_option maxRecDepth 20000
set_option linter.unusedVariables false
structure ViewD where
  v : ValD
  base : Int
  many : Int
  xs : List Int
deriving Inhabited
def placeD (u : ViewD) (y x c : Int) : Int := (y * u.v.w + x) * u.v.c + c - u.base * (u.v.w * u.v.c)
open Classical in
noncomputable def atD (u : ViewD) (y x c : Int) : Int := if inS u.v.h u.v.w u.v.c y x c then u.xs.getD (placeD u y x c).toNat 0 else u.v.z
def AtOk (u : ViewD) (y x c : Int) : Prop := inS u.v.h u.v.w u.v.c y x c -> 0 <= placeD u y x c /\ placeD u y x c < u.xs.length
def ViewOk (u : ViewD) : Prop := mayS u.v.h u.v.w u.v.c /\ (0 <= u.base /\ u.base <= 16) /\ (-128 <= u.v.z /\ u.v.z <= 127) /\ ∀ x ∈ u.xs, -128 <= x /\ x <= 127
theorem getD_i8 {xs : List Int} (h : ∀ x ∈ xs, -128 <= x /\ x <= 127) (k : Nat) : -128 <= xs.getD k 0 /\ xs.getD k 0 <= 127 := by
  by_cases c : k < xs.length
  . have : xs.getD k 0 ∈ xs := by simp [List.getD, c]
    exact h _ this
  . simp [List.getD, List.getElem?_eq_none (Nat.le_of_not_lt c)]
theorem atD_bd {u : ViewD} (h : ViewOk u) (y x c : Int) : -128 <= atD u y x c /\ atD u y x c <= 127 := by
  unfold atD
  split
  . exact getD_i8 h.2.2.2 _
  . exact h.2.2.1
set_option maxHeartbeats 4000000 in
theorem at_any (u : ViewD) (s : Value) (y x c q : Int) (W : World) (hs : IsNums .i8 W s u.xs) (ok : ViewOk u) (hq : Hid (q = atD u y x c)) (hr : AtOk u y x c) :
    Calls Tryz.prog 110 #[.agg #[.int .i64 u.v.h, .int .i64 u.v.w, .int .i64 u.v.c, .int .i64 u.v.z, .int .i64 u.base, .int .i64 u.many, s], .int .i64 y, .int .i64 x, .int .i64 c] W fun e w' => e = .returned (.int .i64 q) /\ Grown W w' := by
  obtain ⟨hm, ⟨b0, b1⟩, _, _⟩ := ok
  by_cases hi : inS u.v.h u.v.w u.v.c y x c
  . obtain ⟨r0, r1⟩ := hr hi
    obtain ⟨A, cap, rfl, a1, a2, _, a4, a5⟩ := hs
    obtain ⟨sb, so, rfl, hsb, hc⟩ := a5 (by omega)
    obtain ⟨i, hii⟩ : ∃ i, Hid (i = indexI u.v.h u.v.w u.v.c y x c) := ⟨_, Lib.hid rfl⟩
    obtain ⟨ro, hro⟩ : ∃ ro, Hid (ro = rowI u.v.h u.v.w u.v.c) := ⟨_, Lib.hid rfl⟩
    obtain ⟨i0, i1, i2, o0, o1⟩ := idx_lt hi
    rw [<- hii.out] at i0 i1
    rw [<- hro.out] at o0 o1
    have i3 : i <= 2048 := by omega
    have m0 : 0 <= u.base * ro := Int.mul_nonneg b0 (by omega)
    have m1 : u.base * ro <= 16 * 128 := Int.mul_le_mul b1 o1 (by omega) (by omega)
    obtain ⟨k, hk⟩ : ∃ k : Nat, Hid (k = (placeD u y x c).toNat) := ⟨_, Lib.hid rfl⟩
    have hp : i - u.base * ro = (k : Int) := by
      rw [hk.out, Int.toNat_of_nonneg r0, hii.out, hro.out, indexI_yes hi]
      unfold placeD rowI
      rw [if_pos hm]
    have k1 : (k : Int) < (u.xs.length : Int) := by rw [hk.out, Int.toNat_of_nonneg r0]; exact r1
    have k0 : (0 : Int) <= (k : Int) := by omega
    have e1 : IntKind.i64.wrap (u.base * ro) = u.base * ro := IntWalk.i64_in _ (by omega)
    have e2 : IntKind.i64.wrap (i - u.base * ro) = (k : Int) := by rw [<- hp]; exact IntWalk.i64_in _ (by omega)
    have Q : q = u.xs.getD k 0 := by rw [hq.out, hk.out]; unfold atD; rw [if_pos hi]
    have wf : -128 <= q /\ q <= 127 := by
      have := a4 (u.xs.getD k 0) (by have : k < u.xs.length := by omega
                                     simp [List.getD, this])
      rw [<- Q] at this
      simpa [Lit.wf, IntKind.min, IntKind.max, IntKind.bits, IntKind.signed] using this
    obtain ⟨q1, q2⟩ := wf
    have cq : W.cell? ⟨sb, so + k, none⟩ = some (.int .i8 q) := by rw [Q]; exact hc k (by omega)
    have e3 : IntKind.i64.wrap q = q := IntWalk.i64_in _ (by omega)
    have c1 : u.xs.length <= cap := a1
    have c2 : u.xs.length <= 9223372036854775807 := by unfold maxLen at a2; omega
    have d1 : decide (i < (0 : Int)) = false := by simp; omega
    clear hp Q hc a1 a2 a4 a5 hq hr r0 r1 hk i1 i2
    go_enter Tryz.func110, Tryz.ntmps110
    go_upto_region 1 with fail
    refine opq (fun w' => (Bx w' (W.heap.size) #[.int .i64 u.v.h, .int .i64 u.v.w, .int .i64 u.v.c, .int .i64 u.v.z, .int .i64 u.base, .int .i64 u.many, .slice (some ⟨sb, so, none⟩) u.xs.length cap]) /\ w'.cell? ⟨sb, so + k, none⟩ = some (.int .i8 q) /\ Grown W w' /\ W.heap.size + 1 <= w'.heap.size) kLaid ?_
    rintro W1 ⟨b1, y1, g1, z1⟩
    go_wp2_with fail
    refine (index_any _ _ _ _ _ _ i _ hii).mono ?_; rintro e w1 ⟨rfl, g⟩
    obtain ⟨b2, y2, g2, z2⟩ : (Bx w1 (W.heap.size) #[.int .i64 u.v.h, .int .i64 u.v.w, .int .i64 u.v.c, .int .i64 u.v.z, .int .i64 u.base, .int .i64 u.many, .slice (some ⟨sb, so, none⟩) u.xs.length cap]) /\ w1.cell? ⟨sb, so + k, none⟩ = some (.int .i8 q) /\ Grown W w1 /\ W.heap.size + 1 <= w1.heap.size := by (exact kKeep)
    have hsb1 : sb < w1.heap.size := by omega
    clear b1 y1 g1 z1 g cq
    go_upto_region 4 with fail
    refine wp_region_fill (fun w' => (Bx w' (W.heap.size) #[.int .i64 u.v.h, .int .i64 u.v.w, .int .i64 u.v.c, .int .i64 u.v.z, .int .i64 u.base, .int .i64 u.many, .slice (some ⟨sb, so, none⟩) u.xs.length cap]) /\ w'.cell? ⟨sb, so + k, none⟩ = some (.int .i8 q) /\ Grown W w' /\ W.heap.size + 1 <= w'.heap.size /\ sb + 1 <= w'.heap.size) [(22, ?va22), (23, ?va23), (24, ?va24), (25, ?va25), (26, ?va26), (27, ?va27), (28, ?va28), (29, ?va29), (30, ?va30), (31, ?va31), (32, ?va32), (33, ?va33), (34, ?va34), (35, ?va35), (36, ?va36), (37, ?va37), (8, ?va8)] [22, 23, 24, 25, 26, 27, 28, 29, 30, 31, 32, 33, 34, 35, 36, 37, 8] (by kernel_rfl) (by kernel_rfl) rfl (by kernel_rfl) ⟨b2, y2, g2, z2, hsb1⟩ (fun w h => h) ?alla ?fina
    case alla =>
      simp only [fillA, Act.put, fU1, fU2, fU3]
      iterate 17 (refine owes_cons (fun w hw K hK => ?_) ?_; focus ((have hS := Lib.hid hw); go_split_ands; go_simp; (try simp only [Act.put, List.setIfInBounds_toArray, List.set_cons_zero, List.set_cons_succ]); first | exact hK _ hS.out | (((with_reducible refine (row_any _ _ _ ro _ hro).mono ?_); rintro e w6 ⟨rfl, gg⟩); refine hK _ ?_; (exact kKeep))))
      exact True.intro
    case fina =>
      rintro w9 ⟨b9, y9, g9, z9, _⟩
      simp only [fillA, Act.put, fU1, fU2, fU3]
      go_wp2_with fail
      go_ret
      exact ⟨rfl, g9⟩
  . have Q : q = u.v.z := by rw [hq.out]; unfold atD; rw [if_neg hi]
    subst Q
    have hii : Hid ((-1 : Int) = indexI u.v.h u.v.w u.v.c y x c) := Lib.hid (indexI_no hi).symm
    clear hr hq hi
    go_enter Tryz.func110, Tryz.ntmps110
    go_upto_region 1 with fail
    refine opq (fun w' => (Bx w' (W.heap.size) #[.int .i64 u.v.h, .int .i64 u.v.w, .int .i64 u.v.c, .int .i64 u.v.z, .int .i64 u.base, .int .i64 u.many, s]) /\ Grown W w' /\ W.heap.size + 1 <= w'.heap.size) kLaid ?_
    rintro W1 ⟨b1, g1, z1⟩
    go_wp2_with fail
    refine (index_any _ _ _ _ _ _ (-1) _ hii).mono ?_; rintro e w1 ⟨rfl, g⟩
    obtain ⟨b2, g2, z2⟩ : (Bx w1 (W.heap.size) #[.int .i64 u.v.h, .int .i64 u.v.w, .int .i64 u.v.c, .int .i64 u.v.z, .int .i64 u.base, .int .i64 u.many, s]) /\ Grown W w1 /\ W.heap.size + 1 <= w1.heap.size := by (exact kKeep)
    clear b1 g1 z1 g
    go_wp2_with fail
    go_ret
    exact ⟨rfl, g2⟩
def sumN (f : Nat -> Int) : Nat -> Int
  | 0 => 0
  | k + 1 => sumN f k + f k
def mostN (f : Nat -> Int) : Nat -> Int
  | 0 => -128
  | k + 1 => max (mostN f k) (f k)
theorem sumN_bd {f : Nat -> Int} {B : Int} {k : Nat} (h : ∀ i, i < k -> -B <= f i /\ f i <= B) : -(k * B) <= sumN f k /\ sumN f k <= k * B := by
  induction k with
  | zero => simp [sumN]
  | succ k ih =>
    have a := ih (fun i hi => h i (by omega))
    have b := h k (by omega)
    have e : ((k + 1 : Nat) : Int) * B = k * B + B := by rw [Int.natCast_add, Int.add_mul]; simp
    simp only [sumN]
    rw [e]
    omega
theorem mostN_bd {f : Nat -> Int} {k : Nat} (h : ∀ i, i < k -> -128 <= f i /\ f i <= 127) : -128 <= mostN f k /\ mostN f k <= 127 := by
  induction k with
  | zero => simp [mostN]
  | succ k ih =>
    have a := ih (fun i hi => h i (by omega))
    have b := h k (by omega)
    simp only [mostN]
    omega
theorem sumN_congr {f g : Nat -> Int} {k : Nat} (h : ∀ i, i < k -> f i = g i) : sumN f k = sumN g k := by
  induction k with
  | zero => rfl
  | succ k ih => simp only [sumN]; rw [ih (fun i hi => h i (by omega)), h k (by omega)]
theorem prod_bd {a b A B : Int} (h1 : -A <= a) (h2 : a <= A) (h3 : -B <= b) (h4 : b <= B) : -(A * B) <= a * b /\ a * b <= A * B := by
  have hA : 0 <= A := by omega
  have hB : 0 <= B := by omega
  have k1 : 0 <= (A - a) * (B + b) := Int.mul_nonneg (by omega) (by omega)
  have k2 : 0 <= (A + a) * (B - b) := Int.mul_nonneg (by omega) (by omega)
  have k3 : 0 <= (A - a) * (B - b) := Int.mul_nonneg (by omega) (by omega)
  have k4 : 0 <= (A + a) * (B + b) := Int.mul_nonneg (by omega) (by omega)
  rw [Int.sub_mul, Int.mul_add, Int.mul_add] at k1
  rw [Int.add_mul, Int.mul_sub, Int.mul_sub] at k2
  rw [Int.sub_mul, Int.mul_sub, Int.mul_sub] at k3
  rw [Int.add_mul, Int.mul_add, Int.mul_add] at k4
  generalize a * b = p at *
  generalize A * B = q at *
  generalize A * b = r at *
  generalize a * B = t at *
  omega
def scaleD (acc mul shift zero : Int) : Int :=
  fx.held (-128) 127 (fx.held (-128) 127 zero + fx.rd (fx.held (-2147483648) 2147483647 acc * fx.held 1 32767 mul) (2 ^ (fx.held 0 31 shift).toNat))
theorem scaleD_bd (acc mul shift zero : Int) : -128 <= scaleD acc mul shift zero /\ scaleD acc mul shift zero <= 127 := by unfold scaleD fx.held; omega
theorem scaled_any (acc mul shift zero r : Int) (w : World) (hr : Hid (r = scaleD acc mul shift zero)) :
    Calls Tryz.prog 119 #[.int .i64 acc, .int .i64 mul, .int .i64 shift, .int .i64 zero] w fun e w' => e = .returned (.int .i64 r) /\ Grown w w' :=
  fx.scale_any acc mul shift zero _ _ _ _ _ _ r w (Lib.hid rfl) (Lib.hid rfl) (Lib.hid rfl) (Lib.hid rfl) (Lib.hid rfl) (Lib.hid rfl) (Lib.hid (by rw [hr.out]; rfl))
noncomputable def overD (u : ViewD) (y x c : Int) : Int := atD u y x c - u.v.z
theorem overD_bd {u : ViewD} (h : ViewOk u) (y x c : Int) : -255 <= overD u y x c /\ overD u y x c <= 255 := by
  have a := atD_bd h y x c
  have b := h.2.2.1
  unfold overD
  omega
def lookD (k : Nat) (s : Int) (p : Nat) : Int := s + ((p / k : Nat) : Int)
def sideD (k : Nat) (s : Int) (p : Nat) : Int := s + ((p % k : Nat) : Int)
noncomputable def placeN (n : NodeD) (a : ViewD) (many : Nat) (fr : Int) (y x : Int) (c : Nat) (p : Nat) : Int :=
  sumN (fun d => overD a (lookD n.k.toNat (y * n.stride - n.pad) p) (sideD n.k.toNat (x * n.stride - n.pad) p) (fr + d) * n.ws.getD ((c * (n.k.toNat * n.k.toNat) + p) * many + d) 0) many
noncomputable def weighN (n : NodeD) (a : ViewD) (many : Nat) (fr : Int) (y x : Int) (c : Nat) : Int :=
  n.bs.getD c 0 + sumN (placeN n a many fr y x c) (n.k.toNat * n.k.toNat)
def wholeN (n : NodeD) (a : ViewD) (c : Nat) : Int :=
  n.bs.getD c 0 + sumN (fun i => (a.xs.getD i 0 - a.v.z) * n.ws.getD (c * a.xs.length + i) 0) a.xs.length
noncomputable def underN (n : NodeD) (a : ViewD) (y x c : Int) (p : Nat) : Int := atD a (lookD n.k.toNat (y * n.stride - n.pad) p) (sideD n.k.toNat (x * n.stride - n.pad) p) c
noncomputable def numD (n : NodeD) (a b : ViewD) (m : Int × Int × Int) (y x c : Int) : Int :=
  if n.op = 1 then scaleD (weighN n a a.v.c.toNat 0 y x c.toNat) n.mul n.shift n.zero else
  if n.op = 2 then scaleD (weighN n a 1 c y x c.toNat) n.mul n.shift n.zero else
  if n.op = 3 then scaleD (wholeN n a c.toNat) n.mul n.shift n.zero else
  if n.op = 4 then mostN (underN n a y x c) (n.k.toNat * n.k.toNat) else
  if n.op = 5 then fx.rd (sumN (underN n a y x c) (n.k.toNat * n.k.toNat)) (n.k * n.k) else
  if n.op = 6 then scaleD (overD a y x c + overD b y x c) n.mul n.shift n.zero else
  if n.op = 7 then scaleD (overD a y x c * overD b y x c) n.mul n.shift n.zero else
  if n.op = 8 then max (atD a y x c) n.zero else
  if n.op = 9 then atD a (y - n.pad) (x - n.pad) c else
  if n.op = 10 then (if c < a.v.c then atD a y x c else atD b y x (c - a.v.c)) else
  if n.op = 11 then a.xs.getD (indexI m.1 m.2.1 m.2.2 y x c).toNat 0 else
  n.ws.getD (atD a y x c + 128).toNat 0
def RowOk (u : ViewD) (y : Int) : Prop := ∀ x c, AtOk u y x c
theorem over_any (u : ViewD) (s : Value) (y x c q : Int) (W : World) (hs : IsNums .i8 W s u.xs) (ok : ViewOk u) (hq : Hid (q = overD u y x c)) (hr : AtOk u y x c) :
    Calls Tryz.prog 107 #[.agg #[.int .i64 u.v.h, .int .i64 u.v.w, .int .i64 u.v.c, .int .i64 u.v.z, .int .i64 u.base, .int .i64 u.many, s], .int .i64 y, .int .i64 x, .int .i64 c] W fun e w' => e = .returned (.int .i64 q) /\ Grown W w' := by
  obtain ⟨a, ha⟩ : ∃ a, Hid (a = atD u y x c) := ⟨_, Lib.hid rfl⟩
  have bd := atD_bd ok y x c
  rw [<- ha.out] at bd
  obtain ⟨d1, d2⟩ := bd
  obtain ⟨z1, z2⟩ := ok.2.2.1
  have Q : q = a - u.v.z := by rw [hq.out, ha.out]; rfl
  have e1 : IntKind.i64.wrap (a - u.v.z) = q := by rw [Q]; exact IntWalk.i64_in _ (by omega)
  have AT1 := Lib.hid (fun w (g : Past W w) => at_any u s y x c a w (hs.grow g) ok ha hr)
  clear Q hs ok hr hq
  go_enter Tryz.func107, Tryz.ntmps107
  go_upto_region 1 with fail
  refine opq (fun w' => (Bx w' (W.heap.size) #[.int .i64 u.v.h, .int .i64 u.v.w, .int .i64 u.v.c, .int .i64 u.v.z, .int .i64 u.base, .int .i64 u.many, s]) /\ Grown W w' /\ W.heap.size + 1 <= w'.heap.size) kLaid ?_
  rintro W1 ⟨b1, g1, z1⟩
  refine wp_region_fill (fun w' => (Bx w' (W.heap.size) #[.int .i64 u.v.h, .int .i64 u.v.w, .int .i64 u.v.c, .int .i64 u.v.z, .int .i64 u.base, .int .i64 u.many, s]) /\ Grown W w' /\ W.heap.size + 1 <= w'.heap.size) [(9, ?va9), (10, ?va10), (11, ?va11), (12, ?va12), (13, ?va13), (14, ?va14), (15, ?va15), (16, ?va16), (17, ?va17), (8, ?va8)] [9, 10, 11, 12, 13, 14, 15, 16, 17, 8] (by kernel_rfl) (by kernel_rfl) rfl (by kernel_rfl) ⟨b1, g1, z1⟩ (fun w h => h) ?alla ?fina
  case alla =>
    simp only [fillA, Act.put, fU1, fU2, fU3]
    iterate 10 (refine owes_cons (fun w hw K hK => ?_) ?_; focus ((have hS := Lib.hid hw); go_split_ands; go_simp; (try simp only [Act.put, List.setIfInBounds_toArray, List.set_cons_zero, List.set_cons_succ]); first | exact hK _ hS.out | (((with_reducible refine (AT1.out _ (Grown.past (by with_reducible assumption))).mono ?_); rintro e w6 ⟨rfl, gg⟩); refine hK _ ?_; (exact kKeep))))
    exact True.intro
  case fina =>
    rintro w9 ⟨b9, g9, z9⟩
    simp only [fillA, Act.put, fU1, fU2, fU3]
    go_wp2_with fail
    go_ret
    exact ⟨rfl, g9⟩
theorem addOf_any (a b : ViewD) (sa sb : Value) (pa pb : Nat) (y x c q r t : Int) (W : World) (ha : (Bx W pa #[.int .i64 a.v.h, .int .i64 a.v.w, .int .i64 a.v.c, .int .i64 a.v.z, .int .i64 a.base, .int .i64 a.many, sa])) (hb : (Bx W pb #[.int .i64 b.v.h, .int .i64 b.v.w, .int .i64 b.v.c, .int .i64 b.v.z, .int .i64 b.base, .int .i64 b.many, sb])) (la : pa < W.heap.size) (lb : pb < W.heap.size)
    (na : IsNums .i8 W sa a.xs) (nb : IsNums .i8 W sb b.xs) (oa : ViewOk a) (ob : ViewOk b) (hq : Hid (q = overD a y x c)) (hr : Hid (r = overD b y x c)) (ra : AtOk a y x c) (rb : AtOk b y x c) (ht : Hid (t = q + r)) :
    Calls Tryz.prog 106 #[.int .i64 y, .int .i64 x, .int .i64 c, .pointer (some ⟨pa, 0, none⟩), .pointer (some ⟨pb, 0, none⟩)] W fun e w' => e = .returned (.int .i64 t) /\ Grown W w' := by
  have d1 := overD_bd oa y x c
  have d2 := overD_bd ob y x c
  rw [<- hq.out] at d1
  rw [<- hr.out] at d2
  have e1 : IntKind.i64.wrap (q + r) = t := by rw [ht.out]; exact IntWalk.i64_in _ (by omega)
  have A1 := Lib.hid (fun w (g : Grown W w) => over_any a sa y x c q w (na.grow (Grown.past g)) oa hq ra)
  have B1 := Lib.hid (fun w (g : Grown W w) => over_any b sb y x c r w (nb.grow (Grown.past g)) ob hr rb)
  have G0 := Grown.refl W
  have S0 : W.heap.size <= W.heap.size := Nat.le_refl _
  clear na nb oa ob ra rb hq hr d1 d2
  go_enter Tryz.func106, Tryz.ntmps106
  go_upto_region 1 with fail
  refine wp_region_fill (fun w' => (Bx w' pa #[.int .i64 a.v.h, .int .i64 a.v.w, .int .i64 a.v.c, .int .i64 a.v.z, .int .i64 a.base, .int .i64 a.many, sa]) /\ (Bx w' pb #[.int .i64 b.v.h, .int .i64 b.v.w, .int .i64 b.v.c, .int .i64 b.v.z, .int .i64 b.base, .int .i64 b.many, sb]) /\ Grown W w' /\ W.heap.size <= w'.heap.size) [(9, ?va9), (10, ?va10), (11, ?va11), (12, ?va12), (13, ?va13), (14, ?va14), (15, ?va15), (16, ?va16), (17, ?va17), (18, ?va18), (19, ?va19), (8, ?va8)] [9, 10, 11, 12, 13, 14, 15, 16, 17, 18, 19, 8] (by kernel_rfl) (by kernel_rfl) rfl (by kernel_rfl) ⟨ha, hb, G0, S0⟩ (fun w h => h) ?alla ?fina
  case alla =>
    simp only [fillA, Act.put, fU1, fU2, fU3]
    iterate 12 (refine owes_cons (fun w hw K hK => ?_) ?_; focus ((have hS := Lib.hid hw); go_split_ands; go_simp; (try simp only [Act.put, List.setIfInBounds_toArray, List.set_cons_zero, List.set_cons_succ]); first | exact hK _ hS.out | ((first | ((with_reducible refine (A1.out _ (by with_reducible assumption)).mono ?_); rintro e w6 ⟨rfl, gg⟩) | ((with_reducible refine (B1.out _ (by with_reducible assumption)).mono ?_); rintro e w6 ⟨rfl, gg⟩)); refine hK _ ?_; (exact kKeep))))
    exact True.intro
  case fina =>
    rintro w9 ⟨b9, c9, g9, z9⟩
    simp only [fillA, Act.put, fU1, fU2, fU3]
    go_wp2_with fail
    go_ret
    exact ⟨rfl, g9⟩
theorem mulOf_any (a b : ViewD) (sa sb : Value) (pa pb : Nat) (y x c q r t : Int) (W : World) (ha : (Bx W pa #[.int .i64 a.v.h, .int .i64 a.v.w, .int .i64 a.v.c, .int .i64 a.v.z, .int .i64 a.base, .int .i64 a.many, sa])) (hb : (Bx W pb #[.int .i64 b.v.h, .int .i64 b.v.w, .int .i64 b.v.c, .int .i64 b.v.z, .int .i64 b.base, .int .i64 b.many, sb])) (la : pa < W.heap.size) (lb : pb < W.heap.size)
    (na : IsNums .i8 W sa a.xs) (nb : IsNums .i8 W sb b.xs) (oa : ViewOk a) (ob : ViewOk b) (hq : Hid (q = overD a y x c)) (hr : Hid (r = overD b y x c)) (ra : AtOk a y x c) (rb : AtOk b y x c) (ht : Hid (t = q * r)) :
    Calls Tryz.prog 108 #[.int .i64 y, .int .i64 x, .int .i64 c, .pointer (some ⟨pa, 0, none⟩), .pointer (some ⟨pb, 0, none⟩)] W fun e w' => e = .returned (.int .i64 t) /\ Grown W w' := by
  have d1 := overD_bd oa y x c
  have d2 := overD_bd ob y x c
  rw [<- hq.out] at d1
  rw [<- hr.out] at d2
  have d3 := prod_bd d1.1 d1.2 d2.1 d2.2
  have e1 : IntKind.i64.wrap (q * r) = t := by rw [ht.out]; exact IntWalk.i64_in _ (by omega)
  have A1 := Lib.hid (fun w (g : Grown W w) => over_any a sa y x c q w (na.grow (Grown.past g)) oa hq ra)
  have B1 := Lib.hid (fun w (g : Grown W w) => over_any b sb y x c r w (nb.grow (Grown.past g)) ob hr rb)
  have G0 := Grown.refl W
  have S0 : W.heap.size <= W.heap.size := Nat.le_refl _
  clear na nb oa ob ra rb hq hr d1 d2 d3
  go_enter Tryz.func108, Tryz.ntmps108
  go_upto_region 1 with fail
  refine wp_region_fill (fun w' => (Bx w' pa #[.int .i64 a.v.h, .int .i64 a.v.w, .int .i64 a.v.c, .int .i64 a.v.z, .int .i64 a.base, .int .i64 a.many, sa]) /\ (Bx w' pb #[.int .i64 b.v.h, .int .i64 b.v.w, .int .i64 b.v.c, .int .i64 b.v.z, .int .i64 b.base, .int .i64 b.many, sb]) /\ Grown W w' /\ W.heap.size <= w'.heap.size) [(9, ?va9), (10, ?va10), (11, ?va11), (12, ?va12), (13, ?va13), (14, ?va14), (15, ?va15), (16, ?va16), (17, ?va17), (18, ?va18), (19, ?va19), (8, ?va8)] [9, 10, 11, 12, 13, 14, 15, 16, 17, 18, 19, 8] (by kernel_rfl) (by kernel_rfl) rfl (by kernel_rfl) ⟨ha, hb, G0, S0⟩ (fun w h => h) ?alla ?fina
  case alla =>
    simp only [fillA, Act.put, fU1, fU2, fU3]
    iterate 12 (refine owes_cons (fun w hw K hK => ?_) ?_; focus ((have hS := Lib.hid hw); go_split_ands; go_simp; (try simp only [Act.put, List.setIfInBounds_toArray, List.set_cons_zero, List.set_cons_succ]); first | exact hK _ hS.out | ((first | ((with_reducible refine (A1.out _ (by with_reducible assumption)).mono ?_); rintro e w6 ⟨rfl, gg⟩) | ((with_reducible refine (B1.out _ (by with_reducible assumption)).mono ?_); rintro e w6 ⟨rfl, gg⟩)); refine hK _ ?_; (exact kKeep))))
    exact True.intro
  case fina =>
    rintro w9 ⟨b9, c9, g9, z9⟩
    simp only [fillA, Act.put, fU1, fU2, fU3]
    go_wp2_with fail
    go_ret
    exact ⟨rfl, g9⟩
theorem relu_any (n : NodeD) (vi vw vb lv : Value) (m : Int × Int × Int) (pt : Nat) (a : ViewD) (sa : Value) (pa : Nat) (y x c q t : Int) (W : World) (ht : (Bx W pt #[.int .i64 n.op, vi, .int .i64 n.k, .int .i64 n.stride, .int .i64 n.pad, .int .i64 n.out, .int .i64 n.mul, .int .i64 n.shift, .int .i64 n.zero, .int .i64 n.th, .int .i64 n.tw, .int .i64 n.tc, vw, vb, lv, .int .i64 m.1, .int .i64 m.2.1, .int .i64 m.2.2])) (lt : pt < W.heap.size) (ha : (Bx W pa #[.int .i64 a.v.h, .int .i64 a.v.w, .int .i64 a.v.c, .int .i64 a.v.z, .int .i64 a.base, .int .i64 a.many, sa])) (la : pa < W.heap.size) (na : IsNums .i8 W sa a.xs) (oa : ViewOk a) (hz : -128 <= n.zero /\ n.zero <= 127) (hq : Hid (q = atD a y x c)) (ra : AtOk a y x c) (hm : Hid (t = max q n.zero)) :
    Calls Tryz.prog 109 #[.int .i64 y, .int .i64 x, .int .i64 c, .pointer (some ⟨pa, 0, none⟩), .pointer (some ⟨pt, 0, none⟩)] W fun e w' => e = .returned (.int .i64 t) /\ Grown W w' := by
  have A1 := Lib.hid (fun w (g : Grown W w) => at_any a sa y x c q w (na.grow (Grown.past g)) oa hq ra)
  have G0 := Grown.refl W
  have S0 : W.heap.size <= W.heap.size := Nat.le_refl _
  clear na oa ra hq
  have em : (if q < n.zero then n.zero else q) = t := by rw [hm.out]; split <;> omega
  clear hm
  go_enter Tryz.func109, Tryz.ntmps109
  go_upto_region 1 with fail
  refine wp_region_fill (fun w' => (Bx w' pt #[.int .i64 n.op, vi, .int .i64 n.k, .int .i64 n.stride, .int .i64 n.pad, .int .i64 n.out, .int .i64 n.mul, .int .i64 n.shift, .int .i64 n.zero, .int .i64 n.th, .int .i64 n.tw, .int .i64 n.tc, vw, vb, lv, .int .i64 m.1, .int .i64 m.2.1, .int .i64 m.2.2]) /\ (Bx w' pa #[.int .i64 a.v.h, .int .i64 a.v.w, .int .i64 a.v.c, .int .i64 a.v.z, .int .i64 a.base, .int .i64 a.many, sa]) /\ Grown W w' /\ W.heap.size <= w'.heap.size) [(9, ?va9), (10, ?va10), (11, ?va11), (12, ?va12), (13, ?va13), (14, ?va14), (15, ?va15), (16, ?va16), (17, ?va17), (8, ?va8)] [9, 10, 11, 12, 13, 14, 15, 16, 17, 8] (by kernel_rfl) (by kernel_rfl) rfl (by kernel_rfl) ⟨ht, ha, G0, S0⟩ (fun w h => h) ?alla ?fina
  case alla =>
    simp only [fillA, Act.put, fU1, fU2, fU3]
    iterate 10 (refine owes_cons (fun w hw K hK => ?_) ?_; focus ((have hS := Lib.hid hw); go_split_ands; go_simp; (try simp only [Act.put, List.setIfInBounds_toArray, List.set_cons_zero, List.set_cons_succ]); first | exact hK _ hS.out | ((((with_reducible refine (A1.out _ (by with_reducible assumption)).mono ?_); rintro e w6 ⟨rfl, gg⟩)); refine hK _ ?_; (exact kKeep))))
    exact True.intro
  case fina =>
    rintro w9 ⟨b9, c9, g9, z9⟩
    simp only [fillA, Act.put, fU1, fU2, fU3]
    go_wp2_with fail
    go_ret
    exact ⟨rfl, g9⟩
theorem padOf_any (n : NodeD) (vi vw vb lv : Value) (m : Int × Int × Int) (pt : Nat) (a : ViewD) (sa : Value) (pa : Nat) (y x c q t : Int) (W : World) (ht : (Bx W pt #[.int .i64 n.op, vi, .int .i64 n.k, .int .i64 n.stride, .int .i64 n.pad, .int .i64 n.out, .int .i64 n.mul, .int .i64 n.shift, .int .i64 n.zero, .int .i64 n.th, .int .i64 n.tw, .int .i64 n.tc, vw, vb, lv, .int .i64 m.1, .int .i64 m.2.1, .int .i64 m.2.2])) (lt : pt < W.heap.size) (ha : (Bx W pa #[.int .i64 a.v.h, .int .i64 a.v.w, .int .i64 a.v.c, .int .i64 a.v.z, .int .i64 a.base, .int .i64 a.many, sa])) (la : pa < W.heap.size) (na : IsNums .i8 W sa a.xs) (oa : ViewOk a) (hp0 : 0 <= n.pad) (hp1 : n.pad <= 1) (y1 : 0 <= y) (y2 : y <= 100) (x1 : 0 <= x) (x2 : x <= 100) (hq : Hid (q = atD a (y - n.pad) (x - n.pad) c)) (ra : AtOk a (y - n.pad) (x - n.pad) c) :
    Calls Tryz.prog 111 #[.int .i64 y, .int .i64 x, .int .i64 c, .pointer (some ⟨pa, 0, none⟩), .pointer (some ⟨pt, 0, none⟩)] W fun e w' => e = .returned (.int .i64 q) /\ Grown W w' := by
  have A1 := Lib.hid (fun w (g : Grown W w) => at_any a sa (y - n.pad) (x - n.pad) c q w (na.grow (Grown.past g)) oa hq ra)
  have e1 : IntKind.i64.wrap (y - n.pad) = y - n.pad := IntWalk.i64_in _ (by omega)
  have e2 : IntKind.i64.wrap (x - n.pad) = x - n.pad := IntWalk.i64_in _ (by omega)
  have G0 := Grown.refl W
  have S0 : W.heap.size <= W.heap.size := Nat.le_refl _
  clear na oa ra hq
  go_enter Tryz.func111, Tryz.ntmps111
  go_wp2_with fail
  ((with_reducible refine (A1.out _ (by with_reducible assumption)).mono ?_); rintro e w6 ⟨rfl, gg⟩)
  go_wp2_with fail
  go_ret
  exact ⟨rfl, gg⟩
theorem stackedOf_any (a b : ViewD) (sa sb : Value) (pa pb : Nat) (y x c q : Int) (W : World) (ha : (Bx W pa #[.int .i64 a.v.h, .int .i64 a.v.w, .int .i64 a.v.c, .int .i64 a.v.z, .int .i64 a.base, .int .i64 a.many, sa])) (hb : (Bx W pb #[.int .i64 b.v.h, .int .i64 b.v.w, .int .i64 b.v.c, .int .i64 b.v.z, .int .i64 b.base, .int .i64 b.many, sb])) (la : pa < W.heap.size) (lb : pb < W.heap.size)
    (na : IsNums .i8 W sa a.xs) (nb : IsNums .i8 W sb b.xs) (oa : ViewOk a) (ob : ViewOk b) (c1 : 0 <= c) (c2 : c <= 100) (hq : Hid (q = if c < a.v.c then atD a y x c else atD b y x (c - a.v.c))) (ra : AtOk a y x c) (rb : AtOk b y x (c - a.v.c)) :
    Calls Tryz.prog 129 #[.int .i64 y, .int .i64 x, .int .i64 c, .pointer (some ⟨pa, 0, none⟩), .pointer (some ⟨pb, 0, none⟩)] W fun e w' => e = .returned (.int .i64 q) /\ Grown W w' := by
  obtain ⟨_, _, _, _, m1, m2⟩ := oa.1
  by_cases l : c < a.v.c
  . have hq' : Hid (q = atD a y x c) := Lib.hid (by rw [hq.out, if_pos l])
    have A1 := Lib.hid (at_any a sa y x c q W na oa hq' ra)
    have d1 : decide (c < a.v.c) = true := by simpa using l
    clear na nb oa ob ra rb hq hq' l
    go_enter Tryz.func129, Tryz.ntmps129
    go_wp2_with fail
    refine A1.out.mono ?_
    rintro e w6 ⟨rfl, gg⟩
    go_wp2_with fail
    go_ret
    exact ⟨rfl, gg⟩
  . have hq' : Hid (q = atD b y x (c - a.v.c)) := Lib.hid (by rw [hq.out, if_neg l])
    have A1 := Lib.hid (at_any b sb y x (c - a.v.c) q W nb ob hq' rb)
    have d1 : decide (c < a.v.c) = false := by simpa using l
    have e1 : IntKind.i64.wrap (c - a.v.c) = c - a.v.c := IntWalk.i64_in _ (by omega)
    clear na nb oa ob ra rb hq hq' l
    go_enter Tryz.func129, Tryz.ntmps129
    go_wp2_with fail
    refine A1.out.mono ?_
    rintro e w6 ⟨rfl, gg⟩
    go_wp2_with fail
    go_ret
    exact ⟨rfl, gg⟩
theorem reshapeOf_any (n : NodeD) (vi vw vb lv : Value) (m : Int × Int × Int) (pt : Nat) (a : ViewD) (sb so cap k : Nat) (pa : Nat) (y x c q : Int) (W : World) (ht : (Bx W pt #[.int .i64 n.op, vi, .int .i64 n.k, .int .i64 n.stride, .int .i64 n.pad, .int .i64 n.out, .int .i64 n.mul, .int .i64 n.shift, .int .i64 n.zero, .int .i64 n.th, .int .i64 n.tw, .int .i64 n.tc, vw, vb, lv, .int .i64 m.1, .int .i64 m.2.1, .int .i64 m.2.2])) (lt : pt < W.heap.size) (ha : (Bx W pa #[.int .i64 a.v.h, .int .i64 a.v.w, .int .i64 a.v.c, .int .i64 a.v.z, .int .i64 a.base, .int .i64 a.many, .slice (some ⟨sb, so, none⟩) a.xs.length cap])) (la : pa < W.heap.size) (na : IsNums .i8 W (.slice (some ⟨sb, so, none⟩) a.xs.length cap) a.xs)
    (hk : Hid ((k : Int) = indexI m.1 m.2.1 m.2.2 y x c)) (hl : k < a.xs.length) (hq : Hid (q = a.xs.getD k 0)) :
    Calls Tryz.prog 113 #[.int .i64 y, .int .i64 x, .int .i64 c, .pointer (some ⟨pa, 0, none⟩), .pointer (some ⟨pt, 0, none⟩)] W fun e w' => e = .returned (.int .i64 q) /\ Grown W w' := by
  obtain ⟨A, cap', e, a1, a2, _, a4, a5⟩ := na
  simp only [Value.slice.injEq] at e
  obtain ⟨rfl, _, rfl⟩ := e
  obtain ⟨sb', so', e, hsb, hc⟩ := a5 (by omega)
  simp only [Option.some.injEq, Addr.mk.injEq, and_true] at e
  obtain ⟨rfl, rfl⟩ := e
  have wf : -128 <= q /\ q <= 127 := by
    have := a4 (a.xs.getD k 0) (by simp [List.getD, hl])
    rw [<- hq.out] at this
    simpa [Lit.wf, IntKind.min, IntKind.max, IntKind.bits, IntKind.signed] using this
  obtain ⟨q1, q2⟩ := wf
  have cq : W.cell? ⟨sb, so + k, none⟩ = some (.int .i8 q) := by rw [hq.out]; exact hc k hl
  have e3 : IntKind.i64.wrap q = q := IntWalk.i64_in _ (by omega)
  have k0 : (0 : Int) <= (k : Int) := by omega
  have k1 : (k : Int) < (a.xs.length : Int) := by omega
  have G0 := Grown.refl W
  have S0 : W.heap.size <= W.heap.size := Nat.le_refl _
  clear a2 a4 a5 hc hq
  go_enter Tryz.func113, Tryz.ntmps113
  go_upto_region 1 with fail
  refine wp_region_fill (fun w' => (Bx w' pt #[.int .i64 n.op, vi, .int .i64 n.k, .int .i64 n.stride, .int .i64 n.pad, .int .i64 n.out, .int .i64 n.mul, .int .i64 n.shift, .int .i64 n.zero, .int .i64 n.th, .int .i64 n.tw, .int .i64 n.tc, vw, vb, lv, .int .i64 m.1, .int .i64 m.2.1, .int .i64 m.2.2]) /\ (Bx w' pa #[.int .i64 a.v.h, .int .i64 a.v.w, .int .i64 a.v.c, .int .i64 a.v.z, .int .i64 a.base, .int .i64 a.many, .slice (some ⟨sb, so, none⟩) a.xs.length cap]) /\ Grown W w' /\ W.heap.size <= w'.heap.size /\ sb + 1 <= w'.heap.size /\ w'.cell? ⟨sb, so + k, none⟩ = some (.int .i8 q)) [(9, ?va9), (10, ?va10), (11, ?va11), (12, ?va12), (13, ?va13), (14, ?va14), (15, ?va15), (16, ?va16), (17, ?va17), (18, ?va18), (19, ?va19), (20, ?va20), (8, ?va8)] [9, 10, 11, 12, 13, 14, 15, 16, 17, 18, 19, 20, 8] (by kernel_rfl) (by kernel_rfl) rfl (by kernel_rfl) ⟨ht, ha, G0, S0, hsb, cq⟩ (fun w h => h) ?alla ?fina
  case alla =>
    simp only [fillA, Act.put, fU1, fU2, fU3]
    iterate 13 (refine owes_cons (fun w hw K hK => ?_) ?_; focus ((have hS := Lib.hid hw); go_split_ands; go_simp; (try simp only [Act.put, List.setIfInBounds_toArray, List.set_cons_zero, List.set_cons_succ]); first | exact hK _ hS.out | ((((with_reducible refine (index_any _ _ _ _ _ _ _ _ hk).mono ?_); rintro e w6 ⟨rfl, gg⟩)); refine hK _ ?_; (exact kKeep))))
    exact True.intro
  case fina =>
    rintro w9 ⟨b9, c9, g9, z9, _⟩
    simp only [fillA, Act.put, fU1, fU2, fU3]
    go_wp2_with fail
    go_ret
    exact ⟨rfl, g9⟩
theorem tableOf_any (n : NodeD) (vi vb lv : Value) (sb so cap k : Nat) (m : Int × Int × Int) (pt : Nat) (a : ViewD) (sa : Value) (pa : Nat) (y x c p q : Int) (W : World) (ht : (Bx W pt #[.int .i64 n.op, vi, .int .i64 n.k, .int .i64 n.stride, .int .i64 n.pad, .int .i64 n.out, .int .i64 n.mul, .int .i64 n.shift, .int .i64 n.zero, .int .i64 n.th, .int .i64 n.tw, .int .i64 n.tc, .slice (some ⟨sb, so, none⟩) n.ws.length cap, vb, lv, .int .i64 m.1, .int .i64 m.2.1, .int .i64 m.2.2])) (lt : pt < W.heap.size) (ha : (Bx W pa #[.int .i64 a.v.h, .int .i64 a.v.w, .int .i64 a.v.c, .int .i64 a.v.z, .int .i64 a.base, .int .i64 a.many, sa])) (la : pa < W.heap.size) (na : IsNums .i8 W sa a.xs) (oa : ViewOk a) (nw : IsNums .i8 W (.slice (some ⟨sb, so, none⟩) n.ws.length cap) n.ws)
    (hp : Hid (p = atD a y x c)) (ra : AtOk a y x c) (hk : Hid (p + 128 = (k : Int))) (hl : k < n.ws.length) (hq : Hid (q = n.ws.getD k 0)) :
    Calls Tryz.prog 115 #[.int .i64 y, .int .i64 x, .int .i64 c, .pointer (some ⟨pt, 0, none⟩), .pointer (some ⟨pa, 0, none⟩)] W fun e w' => e = .returned (.int .i64 q) /\ Grown W w' := by
  have bd := atD_bd oa y x c
  rw [<- hp.out] at bd
  have A1 := Lib.hid (fun w (g : Grown W w) => at_any a sa y x c p w (na.grow (Grown.past g)) oa hp ra)
  obtain ⟨A, cap', e, a1, a2, _, a4, a5⟩ := nw
  simp only [Value.slice.injEq] at e
  obtain ⟨rfl, _, rfl⟩ := e
  obtain ⟨sb', so', e, hsb, hc⟩ := a5 (by omega)
  simp only [Option.some.injEq, Addr.mk.injEq, and_true] at e
  obtain ⟨rfl, rfl⟩ := e
  have wf : -128 <= q /\ q <= 127 := by
    have := a4 (n.ws.getD k 0) (by simp [List.getD, hl])
    rw [<- hq.out] at this
    simpa [Lit.wf, IntKind.min, IntKind.max, IntKind.bits, IntKind.signed] using this
  obtain ⟨q1, q2⟩ := wf
  have cq : W.cell? ⟨sb, so + k, none⟩ = some (.int .i8 q) := by rw [hq.out]; exact hc k hl
  have e1 : IntKind.i64.wrap (p - -128) = (k : Int) := by rw [<- hk.out]; rw [show p - -128 = p + 128 by omega]; exact IntWalk.i64_in _ (by omega)
  have e2 : IntKind.i64.wrap (p + 128) = (k : Int) := by rw [<- hk.out]; exact IntWalk.i64_in _ (by omega)
  have e3 : IntKind.i64.wrap q = q := IntWalk.i64_in _ (by omega)
  have k0 : (0 : Int) <= (k : Int) := by omega
  have k1 : (k : Int) < (n.ws.length : Int) := by omega
  have G0 := Grown.refl W
  have S0 : W.heap.size <= W.heap.size := Nat.le_refl _
  clear a2 a4 a5 hc hq na oa ra bd hp
  go_enter Tryz.func115, Tryz.ntmps115
  go_upto_region 1 with fail
  refine wp_region_fill (fun w' => (Bx w' pt #[.int .i64 n.op, vi, .int .i64 n.k, .int .i64 n.stride, .int .i64 n.pad, .int .i64 n.out, .int .i64 n.mul, .int .i64 n.shift, .int .i64 n.zero, .int .i64 n.th, .int .i64 n.tw, .int .i64 n.tc, .slice (some ⟨sb, so, none⟩) n.ws.length cap, vb, lv, .int .i64 m.1, .int .i64 m.2.1, .int .i64 m.2.2]) /\ (Bx w' pa #[.int .i64 a.v.h, .int .i64 a.v.w, .int .i64 a.v.c, .int .i64 a.v.z, .int .i64 a.base, .int .i64 a.many, sa]) /\ Grown W w' /\ W.heap.size <= w'.heap.size /\ sb + 1 <= w'.heap.size /\ w'.cell? ⟨sb, so + k, none⟩ = some (.int .i8 q)) [(9, ?va9), (10, ?va10), (11, ?va11), (12, ?va12), (13, ?va13), (14, ?va14), (15, ?va15), (16, ?va16), (17, ?va17), (18, ?va18), (19, ?va19), (20, ?va20), (8, ?va8)] [9, 10, 11, 12, 13, 14, 15, 16, 17, 18, 19, 20, 8] (by kernel_rfl) (by kernel_rfl) rfl (by kernel_rfl) ⟨ht, ha, G0, S0, hsb, cq⟩ (fun w h => h) ?alla ?fina
  case alla =>
    simp only [fillA, Act.put, fU1, fU2, fU3]
    iterate 13 (refine owes_cons (fun w hw K hK => ?_) ?_; focus ((have hS := Lib.hid hw); go_split_ands; go_simp; (try simp only [Act.put, List.setIfInBounds_toArray, List.set_cons_zero, List.set_cons_succ]); first | exact hK _ hS.out | ((((with_reducible refine (A1.out _ (by with_reducible assumption)).mono ?_); rintro e w6 ⟨rfl, gg⟩)); refine hK _ ?_; (exact kKeep))))
    exact True.intro
  case fina =>
    rintro w9 ⟨b9, c9, g9, z9, _⟩
    simp only [fillA, Act.put, fU1, fU2, fU3]
    go_wp2_with fail
    go_ret
    exact ⟨rfl, g9⟩
end Go.Proofs.YtliijchcpooplaaGreat
