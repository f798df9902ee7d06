/- graph: alike. -/
import Derived.Test.YtgbedoffgahhaaaG3
namespace Go.Proofs.Ytgbedoffgahhaaa
open Go.ChangeShapes Go.WideShapes Go.ChangeAt Go.RowKit
set_option maxRecDepth 20000
set_option linter.unusedVariables false

def shD (x : ValD) : Int × Int × Int := (x.h, x.w, x.c)
open Classical in
noncomputable def alikeS (xs : List ValD) : Int × Int × Int := if ∀ j, j < xs.length → shD (xs.getD j default) = shD (xs.getD 0 default) then shD (xs.getD 0 default) else (0, 0, 0)

set_option maxHeartbeats 2000000 in
theorem alike_any (n : NodeD) (vi vw vb : Value) (xs : List ValD) (b off cap : Nat) (W : World) (t : Int × Int × Int)
    (h0 : 0 < xs.length) (h1 : xs.length ≤ cap) (hm : cap ≤ maxLen) (hbb : b < W.heap.size) (hx : ∀ i, i < xs.length → ValAt W b (off + i * 4) (xs.getD i default)) (ht : Hid (t = alikeS xs)) :
    Calls Try.prog 76 #[.agg #[.int .i64 n.op, vi, .int .i64 n.k, .int .i64 n.stride, .int .i64 n.pad, .int .i64 n.out, .int .i64 n.mul, .int .i64 n.shift, .int .i64 n.zero, .int .i64 n.th, .int .i64 n.tw, .int .i64 n.tc, vw, vb], .slice (some ⟨b, off, none⟩) xs.length cap] W fun e w' => e = .returned (.agg #[.int .i64 t.1, .int .i64 t.2.1, .int .i64 t.2.2]) ∧ Grown W w' := by
  have hl1 : xs.length ≤ 9223372036854775807 := by unfold maxLen at hm; omega
  have HX := Lib.hid hx
  clear hx hm
  have x0 := HX.out 0 h0
  obtain ⟨x, hx0⟩ : ∃ x, xs.getD 0 default = x := ⟨_, rfl⟩
  rw [hx0, show off + 0 * 4 = off by omega] at x0
  have HX0 := Lib.hid hx0
  clear hx0
  obtain ⟨xh, xw, xc, xz⟩ := x
  obtain ⟨x1, x2, x3, x4⟩ := x0
  simp only at x1 x2 x3 x4
  go_enter Try.func76, Try.ntmps76
  go_wp2_with fail
  refine opq (fun w' => w'.cell? ⟨b, off, none⟩ = some (.int .i64 xh) ∧ w'.cell? ⟨b, off + 1, none⟩ = some (.int .i64 xw) ∧ w'.cell? ⟨b, off + 2, none⟩ = some (.int .i64 xc) ∧ (∀ o : Nat, w'.cell? ⟨W.heap.size + 1, o, none⟩ = (#[.int .i64 0, .int .i64 0, .int .i64 0] : Array Value)[o]?) ∧ (∀ o : Nat, w'.frozen? ⟨W.heap.size + 1, o, none⟩ = false) ∧ Grown W w' ∧ W.heap.size + 2 ≤ w'.heap.size) kLaid ?_
  rintro W1 ⟨y1, y2, y3, b1, f1, g1, z1⟩
  clear x1 x2 x3 x4
  go_loopw [9] (fun i wr => ∃ k : Nat, k ≤ xs.length ∧ i = .int .i64 k ∧ Hid (∀ j, j < k → shD (xs.getD j default) = (xh, xw, xc)) ∧ wr.cell? ⟨b, off, none⟩ = some (.int .i64 xh) ∧ wr.cell? ⟨b, off + 1, none⟩ = some (.int .i64 xw) ∧ wr.cell? ⟨b, off + 2, none⟩ = some (.int .i64 xc) ∧ (∀ o : Nat, wr.cell? ⟨W.heap.size + 1, o, none⟩ = (#[.int .i64 0, .int .i64 0, .int .i64 0] : Array Value)[o]?) ∧ (∀ o : Nat, wr.frozen? ⟨W.heap.size + 1, o, none⟩ = false) ∧ Grown W wr ∧ W.heap.size + 2 ≤ wr.heap.size) (fun i _ => xs.length - (intOf i).toNat)
  case atStart => exact ⟨0, by omega, rfl, Lib.hid (fun j h => by omega), y1, y2, y3, b1, f1, g1, z1⟩
  case round =>
    clear y1 y2 y3 b1 f1 g1 z1
    obtain ⟨k, hk, rfl, hs, y1, y2, y3, b1, f1, g1, z1⟩ := hrel
    by_cases l : k < xs.length
    · obtain ⟨c1, c2, c3, c4⟩ := (HX.out k l).grow hbb (Grown.past g1)
      obtain ⟨y, hy⟩ : ∃ y, xs.getD k default = y := ⟨_, rfl⟩
      rw [hy] at c1 c2 c3 c4
      obtain ⟨yh, yw, yc, yz⟩ := y
      simp only at c1 c2 c3 c4
      have HY := Lib.hid hy
      clear hy
      have i1 : (0 : Int) ≤ (k : Int) := by omega
      have n1 : b ≠ wr.heap.size := by omega
      have n2 : b < wr.heap.size := by omega
      have n3 : W.heap.size + 1 ≠ wr.heap.size := by omega
      have n4 : W.heap.size + 1 < wr.heap.size := by omega
      have i2 : (k : Int) < (xs.length : Int) := by omega
      by_cases q : yh = xh ∧ yw = xw ∧ yc = xc
      · obtain ⟨rfl, rfl, rfl⟩ := q
        have E : Hid (∀ j, j < k + 1 → shD (xs.getD j default) = (yh, yw, yc)) := Lib.hid (fun j h => by
          by_cases c : j = k
          · subst c; rw [HY.out]; rfl
          · exact hs.out j (by omega))
        go_wp2_with fail
        go_quiet (fail)
        go_wp2_with fail
        go_roundw
        case rel => exact ⟨k + 1, by omega, by go_num, E, by (exact kKeep)⟩
        case measure => simp [intOf]; omega
      · have T : t = (0, 0, 0) := by
          rw [ht.out]; unfold alikeS
          rw [if_neg]
          intro h
          have := h k l
          rw [HY.out, HX0.out] at this
          simp only [shD, Prod.mk.injEq] at this
          exact q this
        subst T
        by_cases q1 : yh = xh
        · subst q1
          by_cases q2 : yw = xw
          · subst q2
            have q3 : ¬ yc = xc := fun h => q ⟨rfl, rfl, h⟩
            clear q
            go_wp2_with fail
            go_quiet (fail)
            go_wp2_with fail
            exact bodyPost_ret (v := .agg #[.int .i64 0, .int .i64 0, .int .i64 0]) (by simp [results, Try.results76, go_sem, *]) rfl ⟨rfl, by (exact kKeep)⟩
          · clear q
            go_wp2_with fail
            go_quiet (fail)
            go_wp2_with fail
            exact bodyPost_ret (v := .agg #[.int .i64 0, .int .i64 0, .int .i64 0]) (by simp [results, Try.results76, go_sem, *]) rfl ⟨rfl, by (exact kKeep)⟩
        · clear q
          go_wp2_with fail
          go_quiet (fail)
          go_wp2_with fail
          exact bodyPost_ret (v := .agg #[.int .i64 0, .int .i64 0, .int .i64 0]) (by simp [results, Try.results76, go_sem, *]) rfl ⟨rfl, by (exact kKeep)⟩
    · have T : t = (xh, xw, xc) := by
        rw [ht.out]; unfold alikeS
        rw [if_pos]
        · rw [HX0.out]; rfl
        · intro j hj
          rw [hs.out j (by omega), HX0.out]; rfl
      subst T
      go_wp2_with fail
      exact bodyPost_ret (v := .agg #[.int .i64 xh, .int .i64 xw, .int .i64 xc]) (by simp [results, Try.results76, go_sem, *]) rfl ⟨rfl, by (exact kKeep)⟩
end Go.Proofs.Ytgbedoffgahhaaa
