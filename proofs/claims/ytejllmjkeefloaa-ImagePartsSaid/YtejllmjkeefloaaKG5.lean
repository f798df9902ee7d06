/- graph: alike. Commands as values: boxes of fourteen numbers; two commands compared. -/
import Derived.Test.YtejllmjkeefloaaKG3
import Derived.Test.YtejllmjkeefloaaKFixS
namespace Go.Proofs.Ytejllmjkeefloaa
open Go.ChangeShapes Go.WideShapes Go.ChangeAt Go.RowKit
set_option maxRecDepth 20000
set_option linter.unusedVariables false

def shD (x : ValD) : Int × Int × Int := (x.h, x.w, x.c)
open Classical in
noncomputable def alikeS (xs : List ValD) : Int × Int × Int := if ∀ j, j < xs.length → shD (xs.getD j default) = shD (xs.getD 0 default) then shD (xs.getD 0 default) else (0, 0, 0)
set_option maxHeartbeats 2000000 in
theorem alike_any (n : NodeD) (vi vw vb : Value) (xs : List ValD) (b off cap : Nat) (W : World) (t : Int × Int × Int)
    (h0 : 0 < xs.length) (h1 : xs.length ≤ cap) (hm : cap ≤ maxLen) (hbb : b < W.heap.size) (hx : ∀ i, i < xs.length → ValAt W b (off + i * 4) (xs.getD i default)) (ht : Hid (t = alikeS xs)) :
    Calls Try.prog 117 #[.agg #[.int .i64 n.op, vi, .int .i64 n.k, .int .i64 n.stride, .int .i64 n.pad, .int .i64 n.out, .int .i64 n.mul, .int .i64 n.shift, .int .i64 n.zero, .int .i64 n.th, .int .i64 n.tw, .int .i64 n.tc, vw, vb], .slice (some ⟨b, off, none⟩) xs.length cap] W fun e w' => e = .returned (.agg #[.int .i64 t.1, .int .i64 t.2.1, .int .i64 t.2.2]) ∧ Grown W w' := by
  have hl1 : xs.length ≤ 9223372036854775807 := by unfold maxLen at hm; omega
  have HX := Lib.hid hx
  clear hx hm
  have x0 := HX.out 0 h0
  obtain ⟨x, hx0⟩ : ∃ x, xs.getD 0 default = x := ⟨_, rfl⟩
  rw [hx0, show off + 0 * 4 = off by omega] at x0
  have HX0 := Lib.hid hx0
  clear hx0
  obtain ⟨xh, xw, xc, xz⟩ := x
  obtain ⟨x1, x2, x3, x4⟩ := x0
  simp only at x1 x2 x3 x4
  go_enter Try.func117, Try.ntmps117
  go_wp2_with fail
  refine opq (fun w' => w'.cell? ⟨b, off, none⟩ = some (.int .i64 xh) ∧ w'.cell? ⟨b, off + 1, none⟩ = some (.int .i64 xw) ∧ w'.cell? ⟨b, off + 2, none⟩ = some (.int .i64 xc) ∧ (∀ o : Nat, w'.cell? ⟨W.heap.size + 1, o, none⟩ = (#[.int .i64 0, .int .i64 0, .int .i64 0] : Array Value)[o]?) ∧ (∀ o : Nat, w'.frozen? ⟨W.heap.size + 1, o, none⟩ = false) ∧ Grown W w' ∧ W.heap.size + 2 ≤ w'.heap.size) kLaid ?_
  rintro W1 ⟨y1, y2, y3, b1, f1, g1, z1⟩
  clear x1 x2 x3 x4
  go_loopw [9] (fun i wr => ∃ k : Nat, k ≤ xs.length ∧ i = .int .i64 k ∧ Hid (∀ j, j < k → shD (xs.getD j default) = (xh, xw, xc)) ∧ wr.cell? ⟨b, off, none⟩ = some (.int .i64 xh) ∧ wr.cell? ⟨b, off + 1, none⟩ = some (.int .i64 xw) ∧ wr.cell? ⟨b, off + 2, none⟩ = some (.int .i64 xc) ∧ (∀ o : Nat, wr.cell? ⟨W.heap.size + 1, o, none⟩ = (#[.int .i64 0, .int .i64 0, .int .i64 0] : Array Value)[o]?) ∧ (∀ o : Nat, wr.frozen? ⟨W.heap.size + 1, o, none⟩ = false) ∧ Grown W wr ∧ W.heap.size + 2 ≤ wr.heap.size) (fun i _ => xs.length - (intOf i).toNat)
  case atStart => exact ⟨0, by omega, rfl, Lib.hid (fun j h => by omega), y1, y2, y3, b1, f1, g1, z1⟩
  case round =>
    clear y1 y2 y3 b1 f1 g1 z1
    obtain ⟨k, hk, rfl, hs, y1, y2, y3, b1, f1, g1, z1⟩ := hrel
    by_cases l : k < xs.length
    · obtain ⟨c1, c2, c3, c4⟩ := (HX.out k l).grow hbb (Grown.past g1)
      obtain ⟨y, hy⟩ : ∃ y, xs.getD k default = y := ⟨_, rfl⟩
      rw [hy] at c1 c2 c3 c4
      obtain ⟨yh, yw, yc, yz⟩ := y
      simp only at c1 c2 c3 c4
      have HY := Lib.hid hy
      clear hy
      have i1 : (0 : Int) ≤ (k : Int) := by omega
      have n1 : b ≠ wr.heap.size := by omega
      have n2 : b < wr.heap.size := by omega
      have n3 : W.heap.size + 1 ≠ wr.heap.size := by omega
      have n4 : W.heap.size + 1 < wr.heap.size := by omega
      have i2 : (k : Int) < (xs.length : Int) := by omega
      by_cases q : yh = xh ∧ yw = xw ∧ yc = xc
      · obtain ⟨rfl, rfl, rfl⟩ := q
        have E : Hid (∀ j, j < k + 1 → shD (xs.getD j default) = (yh, yw, yc)) := Lib.hid (fun j h => by
          by_cases c : j = k
          · subst c; rw [HY.out]; rfl
          · exact hs.out j (by omega))
        go_wp2_with fail
        go_quiet (fail)
        go_wp2_with fail
        go_roundw
        case rel => exact ⟨k + 1, by omega, by go_num, E, by (exact kKeep)⟩
        case measure => simp [intOf]; omega
      · have T : t = (0, 0, 0) := by
          rw [ht.out]; unfold alikeS
          rw [if_neg]
          intro h
          have := h k l
          rw [HY.out, HX0.out] at this
          simp only [shD, Prod.mk.injEq] at this
          exact q this
        subst T
        by_cases q1 : yh = xh
        · subst q1
          by_cases q2 : yw = xw
          · subst q2
            have q3 : ¬ yc = xc := fun h => q ⟨rfl, rfl, h⟩
            clear q
            go_wp2_with fail
            go_quiet (fail)
            go_wp2_with fail
            exact bodyPost_ret (v := .agg #[.int .i64 0, .int .i64 0, .int .i64 0]) (by simp [results, Try.results117, go_sem, *]) rfl ⟨rfl, by (exact kKeep)⟩
          · clear q
            go_wp2_with fail
            go_quiet (fail)
            go_wp2_with fail
            exact bodyPost_ret (v := .agg #[.int .i64 0, .int .i64 0, .int .i64 0]) (by simp [results, Try.results117, go_sem, *]) rfl ⟨rfl, by (exact kKeep)⟩
        · clear q
          go_wp2_with fail
          go_quiet (fail)
          go_wp2_with fail
          exact bodyPost_ret (v := .agg #[.int .i64 0, .int .i64 0, .int .i64 0]) (by simp [results, Try.results117, go_sem, *]) rfl ⟨rfl, by (exact kKeep)⟩
    · have T : t = (xh, xw, xc) := by
        rw [ht.out]; unfold alikeS
        rw [if_pos]
        · rw [HX0.out]; rfl
        · intro j hj
          rw [hs.out j (by omega), HX0.out]; rfl
      subst T
      go_wp2_with fail
      exact bodyPost_ret (v := .agg #[.int .i64 xh, .int .i64 xw, .int .i64 xc]) (by simp [results, Try.results117, go_sem, *]) rfl ⟨rfl, by (exact kKeep)⟩
end Go.Proofs.Ytejllmjkeefloaa
namespace Go.Proofs.Ytejllmjkeefloaa.Q8
open Go.ChangeShapes Go.WideShapes Go.ChangeAt Go.RowKit
set_option maxRecDepth 20000
set_option linter.unusedVariables false
set_option linter.unusedSimpArgs false

def cellC (c : List Int) : List Value := c.map (Value.int .i64)
theorem cellC_len (c : List Int) : (cellC c).length = c.length := by simp [cellC]
theorem cellC_at (c : List Int) (j : Nat) (h : j < c.length) : (cellC c)[j]? = some (.int .i64 (c.getD j 0)) := by simp [cellC, List.getD, h]
theorem boxC_cell {w : World} {Q j : Nat} {c : List Int} (h : (∀ o : Nat, w.cell? ⟨Q, o, none⟩ = (⟨cellC c⟩ : Array Value)[o]?)) (hj : j < c.length) : w.cell? ⟨Q, j, none⟩ = some (.int .i64 (c.getD j 0)) := by
  rw [h j]
  have := cellC_at c j hj
  simpa using this
theorem boxC_set {w : World} {Q j : Nat} {c : List Int} {x : Int} (h : (∀ o : Nat, w.cell? ⟨Q, o, none⟩ = (⟨cellC c⟩ : Array Value)[o]?)) (hj : j < c.length) : (∀ o : Nat, (w.setCell ⟨Q, j, none⟩ (.int .i64 x)).cell? ⟨Q, o, none⟩ = (⟨cellC (c.set j x)⟩ : Array Value)[o]?) := by
  intro i
  by_cases e : i = j
  · subst e
    rw [World.cell?_setCell_same w _ _ (boxC_cell h hj)]
    simp [cellC, hj]
  · rw [World.cell?_setCell_other _ _ _ _ (by simp <;> omega), h i]
    simp [cellC, List.getElem?_set, show ¬ j = i by omega]
set_option maxHeartbeats 4000000 in
theorem eq2 (a b c d : Int) (w : World) : (Op.equalIn 9999 49 (.agg #[.int .i64 a, .int .i64 b]) (.agg #[.int .i64 c, .int .i64 d])).run Try.prog w = .ok (a == c && b == d) w := by
  have ku := Try.underlying3
  have ka := Try.isAgg3
  have kz := Try.sizeOf3
  rw [show (9999 : Nat) = 9998 + 1 from rfl, Op.equalIn]
  simp only [Sem.run_bind, run_underlying Try.underlying49, Result.andThen_ok]
  simp only [Std.Legacy.Range.forIn_eq_forIn_range', Std.Legacy.Range.size, Nat.sub_zero, Nat.add_sub_cancel, Nat.div_one, List.range'_succ, List.range'_zero, List.forIn_cons, List.forIn_nil]
  cases e0 : (a == c)
  · go_simp
  cases e1 : (b == d)
  · go_simp
  · go_simp
set_option maxHeartbeats 4000000 in
theorem eqC_raw (a0 a1 a2 a3 a4 a5 a6 a7 a8 a9 a10 a11 a12 a13 b0 b1 b2 b3 b4 b5 b6 b7 b8 b9 b10 b11 b12 b13 : Int) (w : World) : (Op.equalIn 10000 51 (.agg #[.int .i64 a0, .int .i64 a1, .int .i64 a2, .int .i64 a3, .int .i64 a4, .int .i64 a5, .int .i64 a6, .int .i64 a7, .int .i64 a8, .int .i64 a9, .int .i64 a10, .int .i64 a11, .int .i64 a12, .int .i64 a13]) (.agg #[.int .i64 b0, .int .i64 b1, .int .i64 b2, .int .i64 b3, .int .i64 b4, .int .i64 b5, .int .i64 b6, .int .i64 b7, .int .i64 b8, .int .i64 b9, .int .i64 b10, .int .i64 b11, .int .i64 b12, .int .i64 b13])).run Try.prog w = .ok (a0 == b0 && (a1 == b1 && (a2 == b2 && (a3 == b3 && (a4 == b4 && (a5 == b5 && (a6 == b6 && (a7 == b7 && ((a8 == b8 && a9 == b9) && ((a10 == b10 && a11 == b11) && (a12 == b12 && a13 == b13))))))))))) w := by
  have ku := Try.underlying3
  have ka := Try.isAgg3
  have kz := Try.sizeOf3
  have ku2 := Try.underlying49
  have ka2 := Try.isAgg49
  have kz2 := Try.sizeOf49
  have ef : Try.prog.underlying 51 = some (.struct (Try.prog.fieldsOf 51)) := by kernel_rfl
  have ef2 := Try.underlying51
  rw [show (10000 : Nat) = 9999 + 1 from rfl, run_equalIn_struct w 9999 _ _ _ ef (by kernel_rfl)]
  rw [ef] at ef2
  simp only [Option.some.injEq, TypeDesc.struct.injEq] at ef2
  rw [ef2]
  clear ef ef2
  cases e0 : (a0 == b0)
  · go_simp
  cases e1 : (a1 == b1)
  · go_simp
  cases e2 : (a2 == b2)
  · go_simp
  cases e3 : (a3 == b3)
  · go_simp
  cases e4 : (a4 == b4)
  · go_simp
  cases e5 : (a5 == b5)
  · go_simp
  cases e6 : (a6 == b6)
  · go_simp
  cases e7 : (a7 == b7)
  · go_simp
  have q1 := eq2 a8 a9 b8 b9 w
  cases e8 : (a8 == b8 && a9 == b9)
  · rw [e8] at q1
    go_simp
  rw [e8] at q1
  have q2 := eq2 a10 a11 b10 b11 w
  cases e10 : (a10 == b10 && a11 == b11)
  · rw [e10] at q2
    go_simp
  rw [e10] at q2
  have q3 := eq2 a12 a13 b12 b13 w
  cases e12 : (a12 == b12 && a13 == b13)
  · rw [e12] at q3
    go_simp
  rw [e12] at q3
  · go_simp
theorem eqC {a b : List Int} (ha : a.length = 14) (hb : b.length = 14) (w : World) : (Op.equalIn 10000 51 (.agg ⟨cellC a⟩) (.agg ⟨cellC b⟩)).run Try.prog w = .ok (decide (a = b)) w := by
  obtain ⟨a0, a1, a2, a3, a4, a5, a6, a7, a8, a9, a10, a11, a12, a13, rfl⟩ := fourteen ha
  obtain ⟨b0, b1, b2, b3, b4, b5, b6, b7, b8, b9, b10, b11, b12, b13, rfl⟩ := fourteen hb
  have h := eqC_raw a0 a1 a2 a3 a4 a5 a6 a7 a8 a9 a10 a11 a12 a13 b0 b1 b2 b3 b4 b5 b6 b7 b8 b9 b10 b11 b12 b13 w
  refine h.trans ?_
  congr 1
  rw [Bool.eq_iff_iff]
  simp
  intro _ _ _ _ _ _ _ _
  constructor
  · rintro ⟨⟨h9, h10⟩, ⟨h11, h12⟩, h13, h14⟩
    exact ⟨h9, h10, h11, h12, h13, h14⟩
  · rintro ⟨h9, h10, h11, h12, h13, h14⟩
    exact ⟨⟨h9, h10⟩, ⟨h11, h12⟩, h13, h14⟩
end Go.Proofs.Ytejllmjkeefloaa.Q8
