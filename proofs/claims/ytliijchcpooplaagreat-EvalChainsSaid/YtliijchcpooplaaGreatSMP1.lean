/- What Value answers at the examples and pairs of the laws: plain numbers. Value at nodes without slices. The reference of layer 3 in numbers: its node, made and many are P3.1's. The reference's sums and greatest under a window. -/
import Derived.Test.YtliijchcpooplaaGreatSMG12
import Derived.Test.YtliijchcpooplaaGreatSMG4
import Derived.Test.YtliijchcpooplaaGreatSMG8
import Derived.Test.YtliijchcpooplaaGreatSMR3B
import Derived.Test.YtliijchcpooplaaGreatSMR3C
import Derived.Test.YtliijchcpooplaaGreatSMKG
import Derived.Test.YtliijchcpooplaaGreatSMG6A
import Derived.Test.YtliijchcpooplaaGreatSQ1
namespace Go.Proofs.YtliijchcpooplaaGreat
open Go.ChangeShapes Go.WideShapes Go.ChangeAt Go.RowKit
set_option linter.unusedVariables false

theorem valueE_mk11 {n : NodeD} {vs : List ValD} (h : ¬ (hasOp n.op ∧ takesP (opD n.op) n vs)) : valueE n vs = 11 := by unfold valueE; rw [if_pos h]
theorem valueE_mk10 {n : NodeD} {vs : List ValD} (h : hasOp n.op ∧ takesP (opD n.op) n vs) (k : ¬ ∀ j, j < vs.length → mayV (vs.getD j default)) : valueE n vs = 10 := by unfold valueE; rw [if_neg (fun f => f h), if_pos k]
theorem valueE_mk10' {n : NodeD} {vs : List ValD} (h : hasOp n.op ∧ takesP (opD n.op) n vs) (m : ¬ mayT (madeS n vs)) : valueE n vs = 10 := by
  by_cases k : ∀ j, j < vs.length → mayV (vs.getD j default)
  · unfold valueE; rw [if_neg (fun f => f h), if_neg (fun f => f k), if_pos m]
  · exact valueE_mk10 h k
theorem valueV_mk {n : NodeD} {vs : List ValD} (h : valueE n vs = 0) : valueV n vs = ⟨(madeS n vs).1, (madeS n vs).2.1, (madeS n vs).2.2, n.zero⟩ := by unfold valueV; rw [if_pos h]
theorem below_one {p : Nat → Prop} (h : p 0) : ∀ j, j < 1 → p j := fun j hj => by
  obtain rfl : j = 0 := by omega
  exact h
theorem below_two {p : Nat → Prop} (h : p 0) (k : p 1) : ∀ j, j < 2 → p j := fun j hj => by
  match j, hj with
  | 0, _ => exact h
  | 1, _ => exact k
theorem alike_two {a b : ValD} (h : a.h = b.h ∧ a.w = b.w ∧ a.c = b.c) : alikeS [a, b] = (a.h, a.w, a.c) := by
  unfold alikeS
  rw [if_pos]
  · rfl
  · exact below_two (p := fun j => shD ([a, b].getD j default) = shD ([a, b].getD 0 default)) rfl (by simp [shD, h.1, h.2.1, h.2.2])
theorem alike_not {a b : ValD} (h : ¬ (a.h = b.h ∧ a.w = b.w ∧ a.c = b.c)) : alikeS [a, b] = (0, 0, 0) := by
  unfold alikeS
  rw [if_neg]
  intro k
  have := k 1 (by simp)
  simp only [shD, List.getD, List.getElem?_cons_succ, List.getElem?_cons_zero, Option.getD_some, Prod.mk.injEq] at this
  exact h ⟨this.1.symm, this.2.1.symm, this.2.2.symm⟩
end Go.Proofs.YtliijchcpooplaaGreat
namespace Go.Proofs.YtliijchcpooplaaGreat
open Go.ChangeShapes Go.WideShapes Go.ChangeAt Go.RowKit
set_option maxRecDepth 20000
set_option linter.unusedVariables false

theorem nums_nil (k : IntKind) (w : World) : IsNums k w (.slice none 0 0) [] := ⟨none, 0, rfl, Nat.le_refl _, Nat.zero_le _, fun _ => rfl, by simp, by simp⟩
theorem vals_one {w : World} {b : Nat} {x : ValD} (hb : b < w.heap.size) (wf : ValWf x) (h : ValAt w b 0 x) : IsVals w (.slice (some ⟨b, 0, none⟩) 1 1) [x] :=
  ⟨some ⟨b, 0, none⟩, 1, rfl, Nat.le_refl _, by decide, (fun h => by cases h), by simpa using wf, fun _ => ⟨b, 0, rfl, hb, fun i hi => by
    simp only [List.length_cons, List.length_nil] at hi
    obtain rfl : i = 0 := by omega
    simpa using h⟩⟩
end Go.Proofs.YtliijchcpooplaaGreat
namespace Go.Proofs.YtliijchcpooplaaGreat
open Go.ChangeShapes Go.WideShapes Go.ChangeAt Go.RowKit
set_option maxRecDepth 20000
set_option linter.unusedVariables false

theorem op_cases {o : Int} (h : hasOp o) : o = 1 ∨ o = 2 ∨ o = 3 ∨ o = 4 ∨ o = 5 ∨ o = 6 ∨ o = 7 ∨ o = 8 ∨ o = 9 ∨ o = 10 ∨ o = 11 ∨ o = 12 := by
  unfold hasOp at h
  omega
theorem vals_node {o : Int} (h : hasOp o) : (opD o).vals = nodeW o := by
  rcases op_cases h with rfl | rfl | rfl | rfl | rfl | rfl | rfl | rfl | rfl | rfl | rfl | rfl <;> rfl
theorem keeps_node {o : Int} (h : hasOp o) : (opD o).keeps = true ↔ o = 4 ∨ o = 5 ∨ o = 8 ∨ o = 9 ∨ o = 10 ∨ o = 11 := by
  rcases op_cases h with rfl | rfl | rfl | rfl | rfl | rfl | rfl | rfl | rfl | rfl | rfl | rfl <;> simp [opD]
theorem set_node {n : NodeD} (h : hasOp n.op) : setP (opD n.op) n ↔ nodeK n ∧ nodeP n ∧ nodeO n ∧ nodeT n := by
  unfold setP nodeK nodeP nodeO nodeT
  rcases op_cases h with e | e | e | e | e | e | e | e | e | e | e | e <;> rw [e] <;> simp [opD] <;> omega
/-- All that is ErrNode but for what stands for nought. -/
theorem takes_node {n : NodeD} {vs : List ValD} : (hasOp n.op ∧ takesP (opD n.op) n vs) ↔ ((1 ≤ n.op ∧ n.op ≤ 12) ∧ (vs.length : Int) = nodeW n.op ∧ nodeK n ∧ nodeP n ∧ nodeO n ∧ nodeT n ∧ nodeS n) ∧ ∀ j, j < vs.length → ¬ ((n.op = 4 ∨ n.op = 5 ∨ n.op = 8 ∨ n.op = 9 ∨ n.op = 10 ∨ n.op = 11) ∧ (vs.getD j default).z ≠ n.zero) := by
  constructor
  · rintro ⟨h, h1, h2, h3, h4⟩
    rw [vals_node h] at h1
    rw [set_node h] at h4
    exact ⟨⟨h, h1, h4.1, h4.2.1, h4.2.2.1, h4.2.2.2, h3⟩, fun j hj k => h2 j hj ⟨(keeps_node h).mpr k.1, k.2⟩⟩
  · rintro ⟨⟨h, h1, h2, h3, h4, h5, h6⟩, h7⟩
    exact ⟨h, by rw [vals_node h]; exact h1, fun j hj k => h7 j hj ⟨(keeps_node h).mp k.1, k.2⟩, h6, (set_node h).mpr ⟨h2, h3, h4, h5⟩⟩
theorem two_of {vs : List ValD} (h : vs.length = 2) : ∃ x y, vs = [x, y] := by
  match vs, h with
  | [x, y], _ => exact ⟨x, y, rfl⟩
theorem one_of {vs : List ValD} (h : vs.length = 1) : ∃ x, vs = [x] := by
  match vs, h with
  | [x], _ => exact ⟨x, rfl⟩
theorem alike_made {x y : ValD} : alikeS [x, y] = if y.h = x.h ∧ y.w = x.w ∧ y.c = x.c then (x.h, x.w, x.c) else (0, 0, 0) := by
  by_cases c : y.h = x.h ∧ y.w = x.w ∧ y.c = x.c
  · rw [if_pos c, alike_two ⟨c.1.symm, c.2.1.symm, c.2.2.symm⟩]
  · rw [if_neg c, alike_not (fun k => c ⟨k.1.symm, k.2.1.symm, k.2.2.symm⟩)]
theorem alike_one {x : ValD} : alikeS [x] = (x.h, x.w, x.c) := by
  unfold alikeS
  rw [if_pos]
  · rfl
  · exact below_one (p := fun j => shD ([x].getD j default) = shD ([x].getD 0 default)) rfl
theorem made_any (n : NodeD) (vi vw vb lv : Value) (vs : List ValD) (W : World) (hv : IsVals W lv vs) (ho : hasOp n.op) (hl : (vs.length : Int) = nodeW n.op) (hm : ∀ j, j < vs.length → mayV (vs.getD j default)) (s : Int × Int × Int) (hs : madeS n vs = s) :
    Calls Tryz.prog 32 #[.agg (nC n vi vw vb), lv] W fun e w' => e = .returned (.agg #[.int .i64 s.1, .int .i64 s.2.1, .int .i64 s.2.2]) ∧ Grown W w' := by
  obtain ⟨A, cap, rfl, h1, _, _, _, h6⟩ := hv
  have hp : 0 < vs.length := by
    unfold nodeW at hl
    split at hl <;> omega
  obtain ⟨b, off, rfl, hb, hx⟩ := h6 hp
  by_cases c2 : n.op = 6 ∨ n.op = 7 ∨ n.op = 10
  · have l2 : vs.length = 2 := by
      unfold nodeW at hl
      rw [if_pos c2] at hl
      omega
    obtain ⟨x, y, rfl⟩ := two_of l2
    have x0 : ValAt W b off x := by simpa using hx 0 (by simp)
    have y0 : ValAt W b (off + 4) y := by simpa using hx 1 (by simp)
    have mx : mayS x.h x.w x.c := hm 0 (by simp)
    have my : mayS y.h y.w y.c := hm 1 (by simp)
    rcases c2 with e | e | e
    · refine made_6 n vi vw vb x y b off _ cap W (by simp) h1 hb x0 y0 (by simp [e]) (by simp [e]) (by simp [e]) (by simp [e]) (by simp [e]) (by simp [e]) s (Lib.hid ?_)
      rw [← hs, ← alike_made]
      simp [madeS, e]
    · refine made_7 n vi vw vb x y b off _ cap W (by simp) h1 hb x0 y0 (by simp [e]) (by simp [e]) (by simp [e]) (by simp [e]) (by simp [e]) (by simp [e]) (by simp [e]) s (Lib.hid ?_)
      rw [← hs, ← alike_made]
      simp [madeS, e]
    · refine made_10 n vi vw vb x y b off _ cap W (by simp) h1 hb x0 y0 (by simp [e]) (by simp [e]) (by simp [e]) (by simp [e]) (by simp [e]) (by simp [e]) (by simp [e]) (by simp [e]) (by simp [e]) mx my s (Lib.hid ?_)
      rw [← hs]
      simp [madeS, e]
  · have l1 : vs.length = 1 := by
      unfold nodeW at hl
      rw [if_neg c2] at hl
      omega
    obtain ⟨x, rfl⟩ := one_of l1
    have x0 : ValAt W b off x := by simpa using hx 0 (by simp)
    have mx : mayS x.h x.w x.c := hm 0 (by simp)
    rcases op_cases ho with e | e | e | e | e | e | e | e | e | e | e | e
    · have := made_1 n vi vw vb x b off _ cap W (by simp) h1 hb x0 (by simp [e]) _ _ (Lib.hid rfl) (Lib.hid rfl)
      rw [← hs]
      have k : madeS n [x] = (outI x.h n.k n.stride n.pad, outI x.w n.k n.stride n.pad, n.out) := by unfold madeS; rw [if_pos e]; rfl
      rw [k]
      exact this
    · have := made_2 n vi vw vb x b off _ cap W (by simp) h1 hb x0 (by simp [e]) (by simp [e]) _ _ (Lib.hid rfl) (Lib.hid rfl)
      rw [← hs]
      simpa [madeS, e] using this
    · have := made_3 n vi vw vb x b off _ cap W (by simp) h1 hb x0 (by simp [e]) (by simp [e]) (by simp [e]) (by simp [e]) (by simp [e])
      rw [← hs]
      simpa [madeS, e] using this
    · have := made_4 n vi vw vb x b off _ cap W (by simp) h1 hb x0 (by simp [e]) (by simp [e]) (by simp [e]) _ _ (Lib.hid rfl) (Lib.hid rfl)
      rw [← hs]
      simpa [madeS, e] using this
    · have := made_5 n vi vw vb x b off _ cap W (by simp) h1 hb x0 (by simp [e]) (by simp [e]) (by simp [e]) (by simp [e]) _ _ (Lib.hid rfl) (Lib.hid rfl)
      rw [← hs]
      simpa [madeS, e] using this
    · exact absurd (.inl e) c2
    · exact absurd (.inr (.inl e)) c2
    · have := made_0 n vi vw vb x b off _ cap W (by simp) h1 hb x0 (by simp [e]) (by simp [e]) (by simp [e]) (by simp [e]) (by simp [e]) (by simp [e]) (by simp [e]) (by simp [e]) (by simp [e]) (by simp [e])
      rw [← hs]
      simpa [madeS, e, alike_one] using this
    · have := made_9 n vi vw vb x b off _ cap W (by simp) h1 hb x0 (by simp [e]) (by simp [e]) (by simp [e]) (by simp [e]) (by simp [e]) (by simp [e]) (by simp [e]) (by simp [e]) mx
      rw [← hs]
      simpa [madeS, e] using this
    · exact absurd (.inr (.inr e)) c2
    · refine made_11 n vi vw vb x b off _ cap W (by simp) h1 hb x0 (by simp [e]) (by simp [e]) (by simp [e]) (by simp [e]) (by simp [e]) (by simp [e]) (by simp [e]) (by simp [e]) (by simp [e]) (by simp [e]) _ _ (Lib.hid rfl) (Lib.hid rfl) s (Lib.hid ?_)
      rw [← hs]
      simp [madeS, e]
    · have := made_0 n vi vw vb x b off _ cap W (by simp) h1 hb x0 (by simp [e]) (by simp [e]) (by simp [e]) (by simp [e]) (by simp [e]) (by simp [e]) (by simp [e]) (by simp [e]) (by simp [e]) (by simp [e])
      rw [← hs]
      simpa [madeS, e, alike_one] using this
theorem size_bd {h w c : Int} (m : mayS h w c) : 1 ≤ sizeI h w c ∧ sizeI h w c ≤ 2048 := by
  unfold sizeI
  rw [if_pos m]
  obtain ⟨h1, h2, h3, h4, h5, h6⟩ := m
  obtain ⟨a1, a2⟩ := mul_bd h1 h2 h3 h4
  obtain ⟨a3, a4⟩ := mul_bd a1 a2 h5 h6
  omega
theorem many_any (n : NodeD) (vi vw vb : Value) (vs : List ValD) (W : World) (hp : 0 < vs.length) (ho : hasOp n.op) (hk : nodeK n) (hu : nodeO n) (hm : ∀ j, j < vs.length → mayV (vs.getD j default)) (x : ValD) (hx : vs.getD 0 default = x) (a b : Int) (ha : wantS n x (madeS n vs).2.2 = (a, b)) :
    Calls Tryz.prog 33 #[.agg (nC n vi vw vb), .agg #[.int .i64 x.h, .int .i64 x.w, .int .i64 x.c]] W fun e w' => e = .returned (.tuple #[.int .i64 a, .int .i64 b]) ∧ Grown W w' := by
  have mx : mayS x.h x.w x.c := by rw [← hx]; exact hm 0 hp
  have ms := size_bd mx
  have mc := mx
  obtain ⟨_, _, _, _, c1, c2⟩ := mc
  by_cases e1 : n.op = 1
  · unfold nodeK at hk
    unfold nodeO at hu
    rw [if_pos (by omega)] at hk hu
    have : wantS n x (madeS n vs).2.2 = (n.k * n.k * x.c * n.out, n.out) := by simp [wantS, madeS, e1]
    rw [this] at ha
    obtain ⟨rfl, rfl⟩ := Prod.mk.inj ha
    exact many_1 n vi vw vb x W hk.1.1 hk.1.2 c1 c2 hu.1 hu.2 (by simp [e1])
  by_cases e2 : n.op = 2
  · unfold nodeK at hk
    rw [if_pos (by omega)] at hk
    have : wantS n x (madeS n vs).2.2 = (n.k * n.k * x.c, x.c) := by simp only [wantS, madeS, e2, hx]; simp
    rw [this] at ha
    obtain ⟨rfl, rfl⟩ := Prod.mk.inj ha
    exact many_2 n vi vw vb x W hk.1.1 hk.1.2 c1 c2 (by simp [e2]) (by simp [e2])
  by_cases e3 : n.op = 3
  · unfold nodeO at hu
    rw [if_pos (by omega)] at hu
    have : wantS n x (madeS n vs).2.2 = (sizeI x.h x.w x.c * n.out, n.out) := by simp [wantS, madeS, e3]
    rw [this] at ha
    obtain ⟨rfl, rfl⟩ := Prod.mk.inj ha
    exact many_3 n vi vw vb x W _ (Lib.hid rfl) ms.1 ms.2 hu.1 hu.2 (by simp [e3]) (by simp [e3]) (by simp [e3])
  by_cases e4 : n.op = 12
  · have : wantS n x (madeS n vs).2.2 = (256, 0) := by simp [wantS, e4]
    rw [this] at ha
    obtain ⟨rfl, rfl⟩ := Prod.mk.inj ha
    exact many_12 n vi vw vb x W (by simp [e4]) (by simp [e4]) (by simp [e4]) (by simp [e4])
  · have : wantS n x (madeS n vs).2.2 = (0, 0) := by simp [wantS, e1, e2, e3, e4]
    rw [this] at ha
    obtain ⟨rfl, rfl⟩ := Prod.mk.inj ha
    exact many_0 n vi vw vb x W (by simp [e1]) (by simp [e2]) (by simp [e3]) (by simp [e4])
end Go.Proofs.YtliijchcpooplaaGreat
namespace Go.Proofs.YtliijchcpooplaaGreat
open Go.ChangeShapes Go.WideShapes Go.ChangeAt Go.RowKit
set_option maxRecDepth 20000
set_option linter.unusedVariables false

theorem place_in {kn i j : Nat} (hi : i < kn) (hj : j < kn) : i * kn + j < kn * kn := by
  have := Nat.mul_le_mul_right kn (show i + 1 ≤ kn by omega)
  rw [Nat.add_mul, Nat.one_mul] at this
  omega
theorem under_bd {n : NodeD} {u : ViewD} (ok : ViewOk u) (y x c : Int) (p : Nat) : -128 ≤ underN n u y x c p ∧ underN n u y x c p ≤ 127 := atD_bd ok _ _ _
theorem under_ij {n : NodeD} {u : ViewD} {kn i j : Nat} (hk : n.k.toNat = kn) (y x c : Int) (hj : j < kn) : underN n u y x c (i * kn + j) = atD u (y * n.stride - n.pad + i) (x * n.stride - n.pad + j) c := by
  unfold underN; rw [hk, look_ij _ hj, side_ij _ hj]
theorem sum_bd9 {f : Nat → Int} (h : ∀ p, -128 ≤ f p ∧ f p ≤ 127) {k : Nat} (hk : k ≤ 9) : -1152 ≤ sumN f k ∧ sumN f k ≤ 1152 := by
  have := sumN_bd (f := f) (B := 128) (k := k) (fun i _ => ⟨(h i).1, by have := (h i).2; omega⟩)
  omega
set_option maxHeartbeats 4000000 in
theorem rpool_any (n : NodeD) (vi vw vb : Value) (u : ViewD) (s : Value) (y x c q : Int) (W : World) (hs : IsNums .i8 W s u.xs) (F : FullV u) (ok : WinOk n y x) (hp : n.pad = 0) (t : Bool) (ht : (n.op == 4) = t)
    (hq : Hid (q = if t = true then mostN (underN n u y x c) (n.k.toNat * n.k.toNat) else fx.rd (sumN (underN n u y x c) (n.k.toNat * n.k.toNat)) (n.k * n.k))) :
    Calls Tryz.prog 65 #[.agg (nC n vi vw vb), .agg #[.int .i64 u.v.h, .int .i64 u.v.w, .int .i64 u.v.c, .int .i64 u.v.z], .agg #[.int .i64 0, .int .i64 u.v.h, s], .int .i64 y, .int .i64 x, .int .i64 c] W fun e w' => e = .returned (.int .i64 q) ∧ Grown W w' := by
  obtain ⟨⟨k1, k3⟩, ⟨t1, t2⟩, _, ⟨y0, y1⟩, ⟨x0, x1⟩⟩ := ok
  obtain ⟨kn, hk⟩ : ∃ kn : Nat, n.k = kn := ⟨n.k.toNat, by omega⟩
  have hkt : n.k.toNat = kn := by rw [hk]; rfl
  rw [hkt] at hq
  have HK := Lib.hid hk
  have kn1 : 1 ≤ kn := by omega
  have kn3 : kn ≤ 3 := by omega
  have kk9 : kn * kn ≤ 9 := Nat.mul_le_mul kn3 kn3
  have FE := Lib.hid (fun (i j : Nat) (hj : j < kn) => under_ij (n := n) (u := u) (i := i) hkt y x c hj)
  have FB := Lib.hid (under_bd (n := n) F.ok y x c)
  have HF := Lib.hid F
  have NA := Lib.hid hs
  obtain ⟨f, hf⟩ : ∃ f, underN n u y x c = f := ⟨_, rfl⟩
  rw [hf] at FE FB hq
  obtain ⟨ys, hys⟩ : ∃ ys, y * n.stride = ys := ⟨_, rfl⟩
  obtain ⟨xs, hxs⟩ : ∃ xs, x * n.stride = xs := ⟨_, rfl⟩
  have by1 : 0 ≤ ys ∧ ys ≤ 32 := by
    rw [← hys]; exact ⟨Int.mul_nonneg y0 (by omega), Int.le_trans (Int.mul_le_mul y1 t2 (by omega) (by omega)) (by omega)⟩
  have bx1 : 0 ≤ xs ∧ xs ≤ 32 := by
    rw [← hxs]; exact ⟨Int.mul_nonneg x0 (by omega), Int.le_trans (Int.mul_le_mul x1 t2 (by omega) (by omega)) (by omega)⟩
  have ey : IntKind.i64.wrap (y * n.stride) = ys := by rw [hys]; exact IntWalk.i64_in _ (by omega)
  have ex : IntKind.i64.wrap (x * n.stride) = xs := by rw [hxs]; exact IntWalk.i64_in _ (by omega)
  rw [hys, hxs, hp] at FE
  simp only [Int.sub_zero] at FE
  obtain ⟨M0, hM0⟩ : ∃ M, mostN f = M := ⟨_, rfl⟩
  obtain ⟨S0, hS0⟩ : ∃ S, sumN f = S := ⟨_, rfl⟩
  have MS := Lib.hid (fun (p : Nat) => show M0 (p + 1) = max (M0 p) (f p) by rw [← hM0]; rfl)
  have SS := Lib.hid (fun (p : Nat) => show S0 (p + 1) = S0 p + f p by rw [← hS0]; rfl)
  have SB := Lib.hid (fun (p : Nat) (hp : p ≤ 9) => show -1152 ≤ S0 p ∧ S0 p ≤ 1152 by rw [← hS0]; exact sum_bd9 FB.out hp)
  have M00 : M0 0 = -128 := by rw [← hM0]; rfl
  have S00 : S0 0 = 0 := by rw [← hS0]; rfl
  rw [hM0, hS0] at hq
  clear hs hk hkt hf hys hxs hM0 hS0 F hp
  go_enter Tryz.func65, Tryz.ntmps65
  go_upto_region 1 with fail
  refine opq (fun w' => (Bx w' (W.heap.size) (nC n vi vw vb)) ∧ (Bx w' (W.heap.size + 1) #[.int .i64 u.v.h, .int .i64 u.v.w, .int .i64 u.v.c, .int .i64 u.v.z]) ∧ (Bx w' (W.heap.size + 2) #[.int .i64 0, .int .i64 u.v.h, s]) ∧ Grown W w' ∧ W.heap.size + 3 ≤ w'.heap.size) kLaid ?_
  rintro W1 ⟨bn, bv, bw, g1, z1⟩
  go_wp2_with fail
  go_loopw [13, 14, 15] (fun mv av iv wr => ∃ i : Nat, i ≤ kn ∧ iv = .int .i64 i ∧ mv = .int .i64 (M0 (i * kn)) ∧ av = .int .i64 (S0 (i * kn)) ∧ ((Bx wr (W.heap.size) (nC n vi vw vb)) ∧ (Bx wr (W.heap.size + 1) #[.int .i64 u.v.h, .int .i64 u.v.w, .int .i64 u.v.c, .int .i64 u.v.z]) ∧ (Bx wr (W.heap.size + 2) #[.int .i64 0, .int .i64 u.v.h, s]) ∧ Grown W wr ∧ W.heap.size + 3 ≤ wr.heap.size)) (fun _ _ iv _ => kn - (intOf iv).toNat)
  case atStart => exact ⟨0, by omega, rfl, by rw [Nat.zero_mul, M00], by rw [Nat.zero_mul, S00], bn, bv, bw, g1, z1⟩
  case round =>
    obtain ⟨i, hi, rfl, rfl, rfl, rn, rv, rw_, rg, rz⟩ := hrel
    clear bn bv bw g1 z1 M00 S00
    by_cases h : i < kn
    · have d1 : decide ((i : Int) < n.k) = true := decide_eq_true (by have := HK.out; omega)
      obtain ⟨w8, hw8⟩ : ∃ w8, w8 = wr := ⟨_, rfl⟩
      subst hw8
      go_wp2_with fail
      go_loopw [13, 14, 16] (fun mv av jv wr => ∃ j : Nat, j ≤ kn ∧ jv = .int .i64 j ∧ mv = .int .i64 (M0 (i * kn + j)) ∧ av = .int .i64 (S0 (i * kn + j)) ∧ ((Bx wr (W.heap.size) (nC n vi vw vb)) ∧ (Bx wr (W.heap.size + 1) #[.int .i64 u.v.h, .int .i64 u.v.w, .int .i64 u.v.c, .int .i64 u.v.z]) ∧ (Bx wr (W.heap.size + 2) #[.int .i64 0, .int .i64 u.v.h, s]) ∧ Grown W wr ∧ W.heap.size + 3 ≤ wr.heap.size)) (fun _ _ jv _ => kn - (intOf jv).toNat)
      case atStart => exact ⟨0, by omega, rfl, rfl, rfl, rn, rv, rw_, rg, rz⟩
      case round =>
        obtain ⟨j, hj, rfl, rfl, rfl, sn, sv, sw, sg, sz⟩ := hrel
        clear rn rv rw_ rg rz
        by_cases h2 : j < kn
        · have d2 : decide ((j : Int) < n.k) = true := decide_eq_true (by have := HK.out; omega)
          have pl := place_in h h2
          obtain ⟨p, hpp⟩ : ∃ p, i * kn + j = p := ⟨_, rfl⟩
          have fe := FE.out i j h2
          have ms := MS.out p
          have ss := SS.out p
          have sb := SB.out p (by omega)
          have sb1 := SB.out (p + 1) (by omega)
          have fb := FB.out p
          rw [hpp] at fe pl
          rw [hpp]
          obtain ⟨v, hv⟩ : ∃ v, f p = v := ⟨_, rfl⟩
          rw [hv] at fe ms ss fb
          have RN := Lib.hid (rnum_any u s (ys + i) (xs + j) c v wr (NA.out.grow (Grown.past sg)) HF.out (Lib.hid fe))
          clear fe
          go_wp2_with fail
          refine RN.out.mono ?_
          rintro e w1 ⟨rfl, g2⟩
          obtain ⟨tn, tv, tw, tg, tz⟩ : (Bx w1 (W.heap.size) (nC n vi vw vb)) ∧ (Bx w1 (W.heap.size + 1) #[.int .i64 u.v.h, .int .i64 u.v.w, .int .i64 u.v.c, .int .i64 u.v.z]) ∧ (Bx w1 (W.heap.size + 2) #[.int .i64 0, .int .i64 u.v.h, s]) ∧ Grown W w1 ∧ W.heap.size + 3 ≤ w1.heap.size := by (exact kKeep)
          clear sn sv sw sg sz g2 RN
          go_wp2_with fail
          all_goals
            go_roundw
            case rel => exact ⟨j + 1, by omega, by go_num, by rw [← Nat.add_assoc, hpp, ms]; congr 1; omega, by rw [← Nat.add_assoc, hpp, ss], tn, tv, tw, tg, tz⟩
            case measure => simp [intOf]; omega
        · obtain rfl : j = kn := by omega
          have d2 : decide ((j : Int) < n.k) = false := decide_eq_false (by have := HK.out; omega)
          go_wp2_with fail
          go_roundw
          case rel => exact ⟨i + 1, by omega, by go_num, by rw [Nat.add_mul, Nat.one_mul], by rw [Nat.add_mul, Nat.one_mul], sn, sv, sw, sg, sz⟩
          case measure => simp [intOf]; omega
    · obtain rfl : i = kn := by omega
      have d1 : decide ((i : Int) < n.k) = false := decide_eq_false (by have := HK.out; omega)
      have sb := SB.out (i * i) kk9
      have e2 : n.k * n.k = ((i * i : Nat) : Int) := by rw [HK.out]; simp
      have q1 : 1 ≤ i * i := Nat.mul_le_mul kn1 kn1
      have e3 : IntKind.i64.wrap (n.k * n.k) = ((i * i : Nat) : Int) := by rw [e2]; exact IntWalk.i64_in _ (by omega)
      cases t with
      | true =>
        obtain rfl : q = M0 (i * i) := hq.out
        clear hq
        go_wp2_with fail
        go_ret
        exact ⟨rfl, rg⟩
      | false =>
        have Q : Hid (q = fx.rd (S0 (i * i)) ((i * i : Nat) : Int)) := Lib.hid (by rw [← e2]; exact hq.out)
        clear hq e2
        go_wp2_with fail
        refine (qdiv_any (S0 (i * i)) ((i * i : Nat) : Int) q _ Q (by omega) (by omega) (by omega) (by omega)).mono ?_
        rintro e w1 ⟨rfl, g2⟩
        go_wp2_with fail
        go_ret
        exact ⟨rfl, grown_trans rg g2⟩
end Go.Proofs.YtliijchcpooplaaGreat
