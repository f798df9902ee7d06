/- The reference of layer 3 in numbers: its node, made and many are P3.1's. -/
import Derived.Test.YtgbedoffgahhaaaR3B
import Derived.Test.YtgbedoffgahhaaaR3C
import Derived.Test.YtgbedoffgahhaaaR3E
import Derived.Test.YtgbedoffgahhaaaP1
import Derived.Test.YtgbedoffgahhaaaG12
namespace Go.Proofs.Ytgbedoffgahhaaa
open Go.ChangeShapes Go.WideShapes Go.ChangeAt Go.RowKit
set_option maxRecDepth 20000
set_option linter.unusedVariables false

theorem op_cases {o : Int} (h : hasOp o) : o = 1 ∨ o = 2 ∨ o = 3 ∨ o = 4 ∨ o = 5 ∨ o = 6 ∨ o = 7 ∨ o = 8 ∨ o = 9 ∨ o = 10 ∨ o = 11 ∨ o = 12 := by
  unfold hasOp at h
  omega

theorem vals_node {o : Int} (h : hasOp o) : (opD o).vals = nodeW o := by
  rcases op_cases h with rfl | rfl | rfl | rfl | rfl | rfl | rfl | rfl | rfl | rfl | rfl | rfl <;> rfl

theorem keeps_node {o : Int} (h : hasOp o) : (opD o).keeps = true ↔ o = 4 ∨ o = 5 ∨ o = 8 ∨ o = 9 ∨ o = 10 ∨ o = 11 := by
  rcases op_cases h with rfl | rfl | rfl | rfl | rfl | rfl | rfl | rfl | rfl | rfl | rfl | rfl <;> simp [opD]

theorem set_node {n : NodeD} (h : hasOp n.op) : setP (opD n.op) n ↔ nodeK n ∧ nodeP n ∧ nodeO n ∧ nodeT n := by
  unfold setP nodeK nodeP nodeO nodeT
  rcases op_cases h with e | e | e | e | e | e | e | e | e | e | e | e <;> rw [e] <;> simp [opD] <;> omega

/-- All that is ErrNode but for what stands for nought. -/
theorem takes_node {n : NodeD} {vs : List ValD} : (hasOp n.op ∧ takesP (opD n.op) n vs) ↔ ((1 ≤ n.op ∧ n.op ≤ 12) ∧ (vs.length : Int) = nodeW n.op ∧ nodeK n ∧ nodeP n ∧ nodeO n ∧ nodeT n ∧ nodeS n) ∧ ∀ j, j < vs.length → ¬ ((n.op = 4 ∨ n.op = 5 ∨ n.op = 8 ∨ n.op = 9 ∨ n.op = 10 ∨ n.op = 11) ∧ (vs.getD j default).z ≠ n.zero) := by
  constructor
  · rintro ⟨h, h1, h2, h3, h4⟩
    rw [vals_node h] at h1
    rw [set_node h] at h4
    exact ⟨⟨h, h1, h4.1, h4.2.1, h4.2.2.1, h4.2.2.2, h3⟩, fun j hj k => h2 j hj ⟨(keeps_node h).mpr k.1, k.2⟩⟩
  · rintro ⟨⟨h, h1, h2, h3, h4, h5, h6⟩, h7⟩
    exact ⟨h, by rw [vals_node h]; exact h1, fun j hj k => h7 j hj ⟨(keeps_node h).mp k.1, k.2⟩, h6, (set_node h).mpr ⟨h2, h3, h4, h5⟩⟩

theorem two_of {vs : List ValD} (h : vs.length = 2) : ∃ x y, vs = [x, y] := by
  match vs, h with
  | [x, y], _ => exact ⟨x, y, rfl⟩
theorem one_of {vs : List ValD} (h : vs.length = 1) : ∃ x, vs = [x] := by
  match vs, h with
  | [x], _ => exact ⟨x, rfl⟩

theorem alike_made {x y : ValD} : alikeS [x, y] = if y.h = x.h ∧ y.w = x.w ∧ y.c = x.c then (x.h, x.w, x.c) else (0, 0, 0) := by
  by_cases c : y.h = x.h ∧ y.w = x.w ∧ y.c = x.c
  · rw [if_pos c, alike_two ⟨c.1.symm, c.2.1.symm, c.2.2.symm⟩]
  · rw [if_neg c, alike_not (fun k => c ⟨k.1.symm, k.2.1.symm, k.2.2.symm⟩)]
theorem alike_one {x : ValD} : alikeS [x] = (x.h, x.w, x.c) := by
  unfold alikeS
  rw [if_pos]
  · rfl
  · exact below_one (p := fun j => shD ([x].getD j default) = shD ([x].getD 0 default)) rfl

theorem made_any (n : NodeD) (vi vw vb lv : Value) (vs : List ValD) (W : World) (hv : IsVals W lv vs) (ho : hasOp n.op) (hl : (vs.length : Int) = nodeW n.op) (hm : ∀ j, j < vs.length → mayV (vs.getD j default)) (s : Int × Int × Int) (hs : madeS n vs = s) :
    Calls Try.prog 32 #[.agg #[.int .i64 n.op, vi, .int .i64 n.k, .int .i64 n.stride, .int .i64 n.pad, .int .i64 n.out, .int .i64 n.mul, .int .i64 n.shift, .int .i64 n.zero, .int .i64 n.th, .int .i64 n.tw, .int .i64 n.tc, vw, vb], lv] W fun e w' => e = .returned (.agg #[.int .i64 s.1, .int .i64 s.2.1, .int .i64 s.2.2]) ∧ Grown W w' := by
  obtain ⟨A, cap, rfl, h1, _, _, _, h6⟩ := hv
  have hp : 0 < vs.length := by
    unfold nodeW at hl
    split at hl <;> omega
  obtain ⟨b, off, rfl, hb, hx⟩ := h6 hp
  by_cases c2 : n.op = 6 ∨ n.op = 7 ∨ n.op = 10
  · have l2 : vs.length = 2 := by
      unfold nodeW at hl
      rw [if_pos c2] at hl
      omega
    obtain ⟨x, y, rfl⟩ := two_of l2
    have x0 : ValAt W b off x := by simpa using hx 0 (by simp)
    have y0 : ValAt W b (off + 4) y := by simpa using hx 1 (by simp)
    have mx : mayS x.h x.w x.c := hm 0 (by simp)
    have my : mayS y.h y.w y.c := hm 1 (by simp)
    rcases c2 with e | e | e
    · refine made_6 n vi vw vb x y b off _ cap W (by simp) h1 hb x0 y0 (by simp [e]) (by simp [e]) (by simp [e]) (by simp [e]) (by simp [e]) (by simp [e]) s (Lib.hid ?_)
      rw [← hs, ← alike_made]
      simp [madeS, e]
    · refine made_7 n vi vw vb x y b off _ cap W (by simp) h1 hb x0 y0 (by simp [e]) (by simp [e]) (by simp [e]) (by simp [e]) (by simp [e]) (by simp [e]) (by simp [e]) s (Lib.hid ?_)
      rw [← hs, ← alike_made]
      simp [madeS, e]
    · refine made_10 n vi vw vb x y b off _ cap W (by simp) h1 hb x0 y0 (by simp [e]) (by simp [e]) (by simp [e]) (by simp [e]) (by simp [e]) (by simp [e]) (by simp [e]) (by simp [e]) (by simp [e]) mx my s (Lib.hid ?_)
      rw [← hs]
      simp [madeS, e]
  · have l1 : vs.length = 1 := by
      unfold nodeW at hl
      rw [if_neg c2] at hl
      omega
    obtain ⟨x, rfl⟩ := one_of l1
    have x0 : ValAt W b off x := by simpa using hx 0 (by simp)
    have mx : mayS x.h x.w x.c := hm 0 (by simp)
    rcases op_cases ho with e | e | e | e | e | e | e | e | e | e | e | e
    · have := made_1 n vi vw vb x b off _ cap W (by simp) h1 hb x0 (by simp [e]) _ _ (Lib.hid rfl) (Lib.hid rfl)
      rw [← hs]
      have k : madeS n [x] = (outI x.h n.k n.stride n.pad, outI x.w n.k n.stride n.pad, n.out) := by unfold madeS; rw [if_pos e]; rfl
      rw [k]
      exact this
    · have := made_2 n vi vw vb x b off _ cap W (by simp) h1 hb x0 (by simp [e]) (by simp [e]) _ _ (Lib.hid rfl) (Lib.hid rfl)
      rw [← hs]
      simpa [madeS, e] using this
    · have := made_3 n vi vw vb x b off _ cap W (by simp) h1 hb x0 (by simp [e]) (by simp [e]) (by simp [e]) (by simp [e]) (by simp [e])
      rw [← hs]
      simpa [madeS, e] using this
    · have := made_4 n vi vw vb x b off _ cap W (by simp) h1 hb x0 (by simp [e]) (by simp [e]) (by simp [e]) _ _ (Lib.hid rfl) (Lib.hid rfl)
      rw [← hs]
      simpa [madeS, e] using this
    · have := made_5 n vi vw vb x b off _ cap W (by simp) h1 hb x0 (by simp [e]) (by simp [e]) (by simp [e]) (by simp [e]) _ _ (Lib.hid rfl) (Lib.hid rfl)
      rw [← hs]
      simpa [madeS, e] using this
    · exact absurd (.inl e) c2
    · exact absurd (.inr (.inl e)) c2
    · have := made_0 n vi vw vb x b off _ cap W (by simp) h1 hb x0 (by simp [e]) (by simp [e]) (by simp [e]) (by simp [e]) (by simp [e]) (by simp [e]) (by simp [e]) (by simp [e]) (by simp [e]) (by simp [e])
      rw [← hs]
      simpa [madeS, e, alike_one] using this
    · have := made_9 n vi vw vb x b off _ cap W (by simp) h1 hb x0 (by simp [e]) (by simp [e]) (by simp [e]) (by simp [e]) (by simp [e]) (by simp [e]) (by simp [e]) (by simp [e]) mx
      rw [← hs]
      simpa [madeS, e] using this
    · exact absurd (.inr (.inr e)) c2
    · refine made_11 n vi vw vb x b off _ cap W (by simp) h1 hb x0 (by simp [e]) (by simp [e]) (by simp [e]) (by simp [e]) (by simp [e]) (by simp [e]) (by simp [e]) (by simp [e]) (by simp [e]) (by simp [e]) _ _ (Lib.hid rfl) (Lib.hid rfl) s (Lib.hid ?_)
      rw [← hs]
      simp [madeS, e]
    · have := made_0 n vi vw vb x b off _ cap W (by simp) h1 hb x0 (by simp [e]) (by simp [e]) (by simp [e]) (by simp [e]) (by simp [e]) (by simp [e]) (by simp [e]) (by simp [e]) (by simp [e]) (by simp [e])
      rw [← hs]
      simpa [madeS, e, alike_one] using this

theorem size_bd {h w c : Int} (m : mayS h w c) : 1 ≤ sizeI h w c ∧ sizeI h w c ≤ 2048 := by
  unfold sizeI
  rw [if_pos m]
  obtain ⟨h1, h2, h3, h4, h5, h6⟩ := m
  obtain ⟨a1, a2⟩ := mul_bd h1 h2 h3 h4
  obtain ⟨a3, a4⟩ := mul_bd a1 a2 h5 h6
  omega

theorem many_any (n : NodeD) (vi vw vb : Value) (vs : List ValD) (W : World) (hp : 0 < vs.length) (ho : hasOp n.op) (hk : nodeK n) (hu : nodeO n) (hm : ∀ j, j < vs.length → mayV (vs.getD j default)) (x : ValD) (hx : vs.getD 0 default = x) (a b : Int) (ha : wantS n x (madeS n vs).2.2 = (a, b)) :
    Calls Try.prog 33 #[.agg #[.int .i64 n.op, vi, .int .i64 n.k, .int .i64 n.stride, .int .i64 n.pad, .int .i64 n.out, .int .i64 n.mul, .int .i64 n.shift, .int .i64 n.zero, .int .i64 n.th, .int .i64 n.tw, .int .i64 n.tc, vw, vb], .agg #[.int .i64 x.h, .int .i64 x.w, .int .i64 x.c]] W fun e w' => e = .returned (.tuple #[.int .i64 a, .int .i64 b]) ∧ Grown W w' := by
  have mx : mayS x.h x.w x.c := by rw [← hx]; exact hm 0 hp
  have ms := size_bd mx
  have mc := mx
  obtain ⟨_, _, _, _, c1, c2⟩ := mc
  by_cases e1 : n.op = 1
  · unfold nodeK at hk
    unfold nodeO at hu
    rw [if_pos (by omega)] at hk hu
    have : wantS n x (madeS n vs).2.2 = (n.k * n.k * x.c * n.out, n.out) := by simp [wantS, madeS, e1]
    rw [this] at ha
    obtain ⟨rfl, rfl⟩ := Prod.mk.inj ha
    exact many_1 n vi vw vb x W hk.1.1 hk.1.2 c1 c2 hu.1 hu.2 (by simp [e1])
  by_cases e2 : n.op = 2
  · unfold nodeK at hk
    rw [if_pos (by omega)] at hk
    have : wantS n x (madeS n vs).2.2 = (n.k * n.k * x.c, x.c) := by simp only [wantS, madeS, e2, hx]; simp
    rw [this] at ha
    obtain ⟨rfl, rfl⟩ := Prod.mk.inj ha
    exact many_2 n vi vw vb x W hk.1.1 hk.1.2 c1 c2 (by simp [e2]) (by simp [e2])
  by_cases e3 : n.op = 3
  · unfold nodeO at hu
    rw [if_pos (by omega)] at hu
    have : wantS n x (madeS n vs).2.2 = (sizeI x.h x.w x.c * n.out, n.out) := by simp [wantS, madeS, e3]
    rw [this] at ha
    obtain ⟨rfl, rfl⟩ := Prod.mk.inj ha
    exact many_3 n vi vw vb x W _ (Lib.hid rfl) ms.1 ms.2 hu.1 hu.2 (by simp [e3]) (by simp [e3]) (by simp [e3])
  by_cases e4 : n.op = 12
  · have : wantS n x (madeS n vs).2.2 = (256, 0) := by simp [wantS, e4]
    rw [this] at ha
    obtain ⟨rfl, rfl⟩ := Prod.mk.inj ha
    exact many_12 n vi vw vb x W (by simp [e4]) (by simp [e4]) (by simp [e4]) (by simp [e4])
  · have : wantS n x (madeS n vs).2.2 = (0, 0) := by simp [wantS, e1, e2, e3, e4]
    rw [this] at ha
    obtain ⟨rfl, rfl⟩ := Prod.mk.inj ha
    exact many_0 n vi vw vb x W (by simp [e1]) (by simp [e2]) (by simp [e3]) (by simp [e4])
end Go.Proofs.Ytgbedoffgahhaaa
