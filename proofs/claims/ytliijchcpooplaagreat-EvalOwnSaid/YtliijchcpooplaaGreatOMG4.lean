/- graph: ofChannels' and always' closures; the makers. graph: alike. graph: opOf. graph in numbers: which nodes may be, what they make, how many weights: P3.1's answer as plain data. -/
import Derived.Test.YtliijchcpooplaaGreatOMSh2
import Derived.Laws.EntriesVeiled
namespace Go.Proofs.YtliijchcpooplaaGreat
open Go.ChangeShapes Go.WideShapes Go.ChangeAt Go.RowKit
set_option maxRecDepth 20000
set_option linter.unusedVariables false
theorem always1_any (n : NodeD) (vi vw vb : Value) (a b c d e f m : Int) (p : Addr) (W : World) (hp : W.cell? p = some (.int .i64 m)) (hpb : p.block < W.heap.size) :
    Calls Tryz.prog 96 #[.agg (nC n vi vw vb), .agg #[.int .i64 a, .int .i64 b, .int .i64 c], .agg #[.int .i64 d, .int .i64 e, .int .i64 f], .pointer (some p)] W fun e w' => e = .returned (.tuple #[.int .i64 m, .int .i64 0]) /\ Grown W w' := by
  go_enter Tryz.func96, Tryz.ntmps96
  go_upto_region 1 with fail
  refine opq (fun w' => w'.cell? p = some (.int .i64 m) /\ Grown W w') kLaid ?_
  rintro W1 ⟨hp1, g1⟩
  clear hp
  go_wp2_with fail
  go_ret2
  exact ⟨rfl, g1⟩
set_option maxHeartbeats 2000000 in
theorem ofChannels1_any (n : NodeD) (vi vw vb : Value) (a b c d e f m : Int) (p : Addr) (fid : FuncId) (W : World) (hp : W.cell? p = some (.func (.func fid) #[] #[])) (hpb : p.block < W.heap.size)
    (m1 : 0 <= m) (m2 : m <= 2048) (f1 : 1 <= f) (f2 : f <= 8)
    (hE : ∀ (xs : Array Value) (w : World), (callFunc fid xs).run Tryz.prog w = .ok (.enter fid xs) w)
    (hF : ∀ w, Calls Tryz.prog fid #[.agg (nC n vi vw vb), .agg #[.int .i64 a, .int .i64 b, .int .i64 c]] w fun e w' => e = .returned (.int .i64 m) /\ Grown w w') :
    Calls Tryz.prog 95 #[.agg (nC n vi vw vb), .agg #[.int .i64 a, .int .i64 b, .int .i64 c], .agg #[.int .i64 d, .int .i64 e, .int .i64 f], .pointer (some p)] W fun e w' => e = .returned (.tuple #[.int .i64 (m * f), .int .i64 f]) /\ Grown W w' := by
  have HF := Lib.hid hF
  have HE := Lib.hid hE
  have q1 : 0 <= m * f := Int.mul_nonneg m1 (by omega)
  have q2 : m * f <= 2048 * 8 := Int.mul_le_mul m2 f2 (by omega) (by omega)
  have e1 : IntKind.i64.wrap (m * f) = m * f := IntWalk.i64_in _ (by omega)
  clear hF hE
  go_enter Tryz.func95, Tryz.ntmps95
  go_wp2_with fail
  refine opq (fun w' => (Bx w' (W.heap.size) (nC n vi vw vb)) /\ (Bx w' (W.heap.size + 1) #[.int .i64 a, .int .i64 b, .int .i64 c]) /\ (Bx w' (W.heap.size + 1 + 1) #[.int .i64 d, .int .i64 e, .int .i64 f]) /\ w'.cell? p = some (.func (.func fid) #[] #[]) /\ Grown W w' /\ W.heap.size + 3 <= w'.heap.size) kLaid ?_
  rintro W1 ⟨b1, b2, b3, hp1, g1, z1⟩
  clear hp
  have hE := fun xs w => HE.out xs w
  go_region_held3 (fun w' => (Bx w' (W.heap.size) (nC n vi vw vb)) /\ (Bx w' (W.heap.size + 1) #[.int .i64 a, .int .i64 b, .int .i64 c]) /\ (Bx w' (W.heap.size + 1 + 1) #[.int .i64 d, .int .i64 e, .int .i64 f]) /\ w'.cell? p = some (.func (.func fid) #[] #[]) /\ Grown W w' /\ W.heap.size + 3 <= w'.heap.size) (exact kKeep)
    (first | ((with_reducible refine (HF.out _).mono ?_); rintro e w1 ⟨rfl, g⟩))
  all_goals
    go_wp2_with fail
    go_ret2
    exact ⟨rfl, (by (try go_split_ands); assumption)⟩
theorem point_any (n : NodeD) (vi vw vb lv : Value) (W : World) :
    Calls Tryz.prog 74 #[.agg (nC n vi vw vb), lv] W fun e w' => e = .returned (.agg #[.int .i64 1, .int .i64 1, .int .i64 n.out]) /\ Grown W w' := by
  go_enter Tryz.func74, Tryz.ntmps74
  go_wp2_with fail
  exact bodyPost_ret (v := .agg #[.int .i64 1, .int .i64 1, .int .i64 n.out]) (by simp [results, Tryz.results74, go_sem]) rfl ⟨rfl, by go_grown⟩
theorem framed_any (n : NodeD) (vi vw vb : Value) (x : ValD) (b off len cap : Nat) (W : World)
    (h0 : 0 < len) (h1 : len <= cap) (hbb : b < W.heap.size) (hx : ValAt W b off x) (hm : mayS x.h x.w x.c) (hp : n.pad = 1) :
    Calls Tryz.prog 78 #[.agg (nC n vi vw vb), .slice (some ⟨b, off, none⟩) len cap] W fun e w' => e = .returned (.agg #[.int .i64 (x.h + 2), .int .i64 (x.w + 2), .int .i64 x.c]) /\ Grown W w' := by
  obtain ⟨x1, x2, x3, x4⟩ := hx
  obtain ⟨m1, m2, m3, m4, m5, m6⟩ := hm
  obtain ⟨op, ins, k, stride, pad, out, mul, shift, zero, th, tw, tc, ws, bs⟩ := n
  obtain ⟨h, w, c, z⟩ := x
  simp only at *
  subst hp
  go_enter Tryz.func78, Tryz.ntmps78
  go_wp2_with fail
  exact bodyPost_ret (v := .agg #[.int .i64 (h + 2), .int .i64 (w + 2), .int .i64 c]) (by simp [results, Tryz.results78, go_sem]) rfl ⟨rfl, by go_grown⟩
set_option maxHeartbeats 2000000 in
theorem reshaped_any (n : NodeD) (vi vw vb : Value) (x : ValD) (q q' : Int) (b off len cap : Nat) (W : World)
    (h0 : 0 < len) (h1 : len <= cap) (hbb : b < W.heap.size) (hx : ValAt W b off x) (hq : Hid (q = sizeI n.th n.tw n.tc)) (hq' : Hid (q' = sizeI x.h x.w x.c)) (t : Int × Int × Int) (ht : Hid (t = if q = q' then (n.th, n.tw, n.tc) else (0, 0, 0))) :
    Calls Tryz.prog 80 #[.agg (nC n vi vw vb), .slice (some ⟨b, off, none⟩) len cap] W fun e w' => e = .returned (.agg #[.int .i64 t.1, .int .i64 t.2.1, .int .i64 t.2.2]) /\ Grown W w' := by
  obtain ⟨x1, x2, x3, x4⟩ := hx
  have j1 : (0 : Int) <= 0 := by omega
  have j2 : (0 : Int) < (len : Int) := by omega
  go_enter Tryz.func80, Tryz.ntmps80
  go_wp2_with fail
  refine opq (fun w' => (Bx w' (W.heap.size) (nC n vi vw vb)) /\ (Bx w' (W.heap.size + 1) #[.int .i64 0, .int .i64 0, .int .i64 0]) /\ w'.cell? ⟨b, off, none⟩ = some (.int .i64 x.h) /\ w'.cell? ⟨b, off + 1, none⟩ = some (.int .i64 x.w) /\ w'.cell? ⟨b, off + 2, none⟩ = some (.int .i64 x.c) /\ (Fr w' (W.heap.size + 1)) /\ Grown W w' /\ W.heap.size + 2 <= w'.heap.size) kLaid ?_
  rintro W1 ⟨b1, b2, y1, y2, y3, f1, g1, z1⟩
  clear x1 x2 x3 x4
  go_region_held3 (fun w' => (Bx w' (W.heap.size) (nC n vi vw vb)) /\ (Bx w' (W.heap.size + 1) #[.int .i64 0, .int .i64 0, .int .i64 0]) /\ w'.cell? ⟨b, off, none⟩ = some (.int .i64 x.h) /\ w'.cell? ⟨b, off + 1, none⟩ = some (.int .i64 x.w) /\ w'.cell? ⟨b, off + 2, none⟩ = some (.int .i64 x.c) /\ (Fr w' (W.heap.size + 1)) /\ Grown W w' /\ W.heap.size + 2 <= w'.heap.size) (exact kKeep)
    (first | (go_at_call 38; with_reducible refine (size_any n.th n.tw n.tc q _ hq).mono ?_; rintro e w1 ⟨rfl, g⟩) | (go_at_call 38; with_reducible refine (size_any x.h x.w x.c q' _ hq').mono ?_; rintro e w1 ⟨rfl, g⟩))
  all_goals
    go_split_ands
    clear b1 b2 y1 y2 y3 f1 g1 z1
    by_cases c : q = q'
    . have ht' := ht.out
      rw [if_pos c] at ht'
      subst ht' c
      go_wp2_with fail
      exact bodyPost_ret (v := .agg #[.int .i64 n.th, .int .i64 n.tw, .int .i64 n.tc]) (by simp [results, Tryz.results80, go_sem, *]) rfl ⟨rfl, by (exact kKeep)⟩
    . have ht' := ht.out
      rw [if_neg c] at ht'
      subst ht'
      go_wp2_with fail
      exact bodyPost_ret (v := .agg #[.int .i64 0, .int .i64 0, .int .i64 0]) (by simp [results, Tryz.results80, go_sem, *]) rfl ⟨rfl, by (exact kKeep)⟩
set_option maxHeartbeats 2000000 in
theorem stacked_any (n : NodeD) (vi vw vb : Value) (x y : ValD) (b off len cap : Nat) (W : World)
    (h0 : 1 < len) (h1 : len <= cap) (hbb : b < W.heap.size) (hx : ValAt W b off x) (hy : ValAt W b (off + 4) y) (mx : mayS x.h x.w x.c) (my : mayS y.h y.w y.c) (t : Int × Int × Int) (ht : Hid (t = if x.h = y.h /\ x.w = y.w then (x.h, x.w, x.c + y.c) else (0, 0, 0))) :
    Calls Tryz.prog 79 #[.agg (nC n vi vw vb), .slice (some ⟨b, off, none⟩) len cap] W fun e w' => e = .returned (.agg #[.int .i64 t.1, .int .i64 t.2.1, .int .i64 t.2.2]) /\ Grown W w' := by
  obtain ⟨x1, x2, x3, x4⟩ := hx
  obtain ⟨y1, y2, y3, y4⟩ := hy
  obtain ⟨_, _, _, _, m5, m6⟩ := mx
  obtain ⟨_, _, _, _, n5, n6⟩ := my
  have j1 : (0 : Int) <= 0 := by omega
  have h00 : 0 < len := by omega
  have j2 : (0 : Int) < (len : Int) := by omega
  have j3 : (1 : Int) < (len : Int) := by omega
  go_enter Tryz.func79, Tryz.ntmps79
  go_wp2_with fail
  refine opq (fun w' => (Bx w' (W.heap.size + 1) #[.int .i64 0, .int .i64 0, .int .i64 0]) /\ w'.cell? ⟨b, off, none⟩ = some (.int .i64 x.h) /\ w'.cell? ⟨b, off + 1, none⟩ = some (.int .i64 x.w) /\ w'.cell? ⟨b, off + 2, none⟩ = some (.int .i64 x.c) /\ w'.cell? ⟨b, off + 4, none⟩ = some (.int .i64 y.h) /\ w'.cell? ⟨b, off + 4 + 1, none⟩ = some (.int .i64 y.w) /\ w'.cell? ⟨b, off + 4 + 2, none⟩ = some (.int .i64 y.c) /\ (Fr w' (W.heap.size + 1)) /\ Grown W w' /\ W.heap.size + 2 <= w'.heap.size) kLaid ?_
  rintro W1 ⟨b1, z1, z2, z3, z4, z5, z6, f1, g1, s1⟩
  clear x1 x2 x3 x4 y1 y2 y3 y4
  go_cut [5, 6] (fun p q w' => ∃ P Q : Nat, p = .pointer (some ⟨P, 0, none⟩) /\ q = .pointer (some ⟨Q, 0, none⟩) /\ P ≠ Q /\ W.heap.size + 2 <= P /\ (Bx w' P #[.int .i64 x.h, .int .i64 x.w, .int .i64 x.c]) /\ (Bx w' Q #[.int .i64 y.h, .int .i64 y.w, .int .i64 y.c]) /\ (Bx w' (W.heap.size + 1) #[.int .i64 0, .int .i64 0, .int .i64 0]) /\ (Fr w' (W.heap.size + 1)) /\ (Fr w' P) /\ Grown W w')
  case first =>
    go_region_held3 (fun w' => w'.cell? ⟨b, off, none⟩ = some (.int .i64 x.h) /\ w'.cell? ⟨b, off + 1, none⟩ = some (.int .i64 x.w) /\ w'.cell? ⟨b, off + 2, none⟩ = some (.int .i64 x.c) /\ w'.cell? ⟨b, off + 4, none⟩ = some (.int .i64 y.h) /\ w'.cell? ⟨b, off + 4 + 1, none⟩ = some (.int .i64 y.w) /\ w'.cell? ⟨b, off + 4 + 2, none⟩ = some (.int .i64 y.c)) (exact kKeep) (fail)
    all_goals
      go_wp2_with fail
      go_meet
      exact ⟨_, _, rfl, rfl, by omega, by omega, by (exact kKeep)⟩
  case rest =>
    obtain ⟨P, Q, rfl, rfl, hne, hP, c1, c2, c3, c4, c5, c6⟩ := hcut
    have hQ := Ne.symm hne
    have r1 : P ≠ W.heap.size + 1 := by omega
    clear b1 z1 z2 z3 z4 z5 z6 f1 g1 s1 j1 j2 j3
    have ht' := ht.out
    clear ht
    by_cases e1 : x.h = y.h
    . by_cases e2 : x.w = y.w
      . rw [if_pos ⟨e1, e2⟩] at ht'
        subst ht'
        have b1 : (x.h == y.h) = true := by simp [e1]
        have b2 : (x.w == y.w) = true := by simp [e2]
        have b3 : (x.h != y.h) = false := by simp [e1]
        have b4 : (x.w != y.w) = false := by simp [e2]
        clear e1 e2
        go_wp2_with fail
        exact bodyPost_ret (v := .agg #[.int .i64 x.h, .int .i64 x.w, .int .i64 (x.c + y.c)]) (by simp [results, Tryz.results79, go_sem, *]) rfl ⟨rfl, by (exact kKeep)⟩
      . rw [if_neg (fun h => e2 h.2)] at ht'
        subst ht'
        have b1 : (x.h == y.h) = true := by simp [e1]
        have b3 : (x.h != y.h) = false := by simp [e1]
        clear e1
        go_wp2_with fail
        exact bodyPost_ret (v := .agg #[.int .i64 0, .int .i64 0, .int .i64 0]) (by simp [results, Tryz.results79, go_sem, *]) rfl ⟨rfl, by (exact kKeep)⟩
    . rw [if_neg (fun h => e1 h.1)] at ht'
      subst ht'
      go_wp2_with fail
      exact bodyPost_ret (v := .agg #[.int .i64 0, .int .i64 0, .int .i64 0]) (by simp [results, Tryz.results79, go_sem, *]) rfl ⟨rfl, by (exact kKeep)⟩
end Go.Proofs.YtliijchcpooplaaGreat
namespace Go.Proofs.YtliijchcpooplaaGreat
open Go.ChangeShapes Go.WideShapes Go.ChangeAt Go.RowKit
set_option maxRecDepth 20000
set_option linter.unusedVariables false
def shD (x : ValD) : Int × Int × Int := (x.h, x.w, x.c)
open Classical in
noncomputable def alikeS (xs : List ValD) : Int × Int × Int := if ∀ j, j < xs.length -> shD (xs.getD j default) = shD (xs.getD 0 default) then shD (xs.getD 0 default) else (0, 0, 0)
set_option maxHeartbeats 2000000 in
theorem alike_any (n : NodeD) (vi vw vb : Value) (xs : List ValD) (b off cap : Nat) (W : World) (t : Int × Int × Int)
    (h0 : 0 < xs.length) (h1 : xs.length <= cap) (hm : cap <= maxLen) (hbb : b < W.heap.size) (hx : ∀ i, i < xs.length -> ValAt W b (off + i * 4) (xs.getD i default)) (ht : Hid (t = alikeS xs)) :
    Calls Tryz.prog 77 #[.agg (nC n vi vw vb), .slice (some ⟨b, off, none⟩) xs.length cap] W fun e w' => e = .returned (.agg #[.int .i64 t.1, .int .i64 t.2.1, .int .i64 t.2.2]) /\ Grown W w' := by
  have hl1 : xs.length <= 9223372036854775807 := by unfold maxLen at hm; omega
  have HX := Lib.hid hx
  clear hx hm
  have x0 := HX.out 0 h0
  obtain ⟨x, hx0⟩ : ∃ x, xs.getD 0 default = x := ⟨_, rfl⟩
  rw [hx0, show off + 0 * 4 = off by omega] at x0
  have HX0 := Lib.hid hx0
  clear hx0
  obtain ⟨xh, xw, xc, xz⟩ := x
  obtain ⟨x1, x2, x3, x4⟩ := x0
  simp only at x1 x2 x3 x4
  go_enter Tryz.func77, Tryz.ntmps77
  go_wp2_with fail
  refine opq (fun w' => w'.cell? ⟨b, off, none⟩ = some (.int .i64 xh) /\ w'.cell? ⟨b, off + 1, none⟩ = some (.int .i64 xw) /\ w'.cell? ⟨b, off + 2, none⟩ = some (.int .i64 xc) /\ (Bx w' (W.heap.size + 1) #[.int .i64 0, .int .i64 0, .int .i64 0]) /\ (Fr w' (W.heap.size + 1)) /\ Grown W w' /\ W.heap.size + 2 <= w'.heap.size) kLaid ?_
  rintro W1 ⟨y1, y2, y3, b1, f1, g1, z1⟩
  clear x1 x2 x3 x4
  go_loopw [9] (fun i wr => ∃ k : Nat, k <= xs.length /\ i = .int .i64 k /\ Hid (∀ j, j < k -> shD (xs.getD j default) = (xh, xw, xc)) /\ wr.cell? ⟨b, off, none⟩ = some (.int .i64 xh) /\ wr.cell? ⟨b, off + 1, none⟩ = some (.int .i64 xw) /\ wr.cell? ⟨b, off + 2, none⟩ = some (.int .i64 xc) /\ (Bx wr (W.heap.size + 1) #[.int .i64 0, .int .i64 0, .int .i64 0]) /\ (Fr wr (W.heap.size + 1)) /\ Grown W wr /\ W.heap.size + 2 <= wr.heap.size) (fun i _ => xs.length - (intOf i).toNat)
  case atStart => exact ⟨0, by omega, rfl, Lib.hid (fun j h => by omega), y1, y2, y3, b1, f1, g1, z1⟩
  case round =>
    clear y1 y2 y3 b1 f1 g1 z1
    obtain ⟨k, hk, rfl, hs, y1, y2, y3, b1, f1, g1, z1⟩ := hrel
    by_cases l : k < xs.length
    . obtain ⟨c1, c2, c3, c4⟩ := (HX.out k l).grow hbb (Grown.past g1)
      obtain ⟨y, hy⟩ : ∃ y, xs.getD k default = y := ⟨_, rfl⟩
      rw [hy] at c1 c2 c3 c4
      obtain ⟨yh, yw, yc, yz⟩ := y
      simp only at c1 c2 c3 c4
      have HY := Lib.hid hy
      clear hy
      have i1 : (0 : Int) <= (k : Int) := by omega
      have n1 : b ≠ wr.heap.size := by omega
      have n2 : b < wr.heap.size := by omega
      have n3 : W.heap.size + 1 ≠ wr.heap.size := by omega
      have n4 : W.heap.size + 1 < wr.heap.size := by omega
      have i2 : (k : Int) < (xs.length : Int) := by omega
      by_cases q : yh = xh /\ yw = xw /\ yc = xc
      . obtain ⟨rfl, rfl, rfl⟩ := q
        have E : Hid (∀ j, j < k + 1 -> shD (xs.getD j default) = (yh, yw, yc)) := Lib.hid (fun j h => by
          by_cases c : j = k
          . subst c; rw [HY.out]; rfl
          . exact hs.out j (by omega))
        go_wp2_with fail
        go_quiet (fail)
        go_wp2_with fail
        go_roundw
        case rel => exact ⟨k + 1, by omega, by go_num, E, by (exact kKeep)⟩
        case measure => simp [intOf]; omega
      . have T : t = (0, 0, 0) := by
          rw [ht.out]; unfold alikeS
          rw [if_neg]
          intro h
          have := h k l
          rw [HY.out, HX0.out] at this
          simp only [shD, Prod.mk.injEq] at this
          exact q this
        subst T
        by_cases q1 : yh = xh
        . subst q1
          by_cases q2 : yw = xw
          . subst q2
            have q3 : ¬ yc = xc := fun h => q ⟨rfl, rfl, h⟩
            clear q
            go_wp2_with fail
            go_quiet (fail)
            go_wp2_with fail
            exact bodyPost_ret (v := .agg #[.int .i64 0, .int .i64 0, .int .i64 0]) (by simp [results, Tryz.results77, go_sem, *]) rfl ⟨rfl, by (exact kKeep)⟩
          . clear q
            go_wp2_with fail
            go_quiet (fail)
            go_wp2_with fail
            exact bodyPost_ret (v := .agg #[.int .i64 0, .int .i64 0, .int .i64 0]) (by simp [results, Tryz.results77, go_sem, *]) rfl ⟨rfl, by (exact kKeep)⟩
        . clear q
          go_wp2_with fail
          go_quiet (fail)
          go_wp2_with fail
          exact bodyPost_ret (v := .agg #[.int .i64 0, .int .i64 0, .int .i64 0]) (by simp [results, Tryz.results77, go_sem, *]) rfl ⟨rfl, by (exact kKeep)⟩
    . have T : t = (xh, xw, xc) := by
        rw [ht.out]; unfold alikeS
        rw [if_pos]
        . rw [HX0.out]; rfl
        . intro j hj
          rw [hs.out j (by omega), HX0.out]; rfl
      subst T
      go_wp2_with fail
      exact bodyPost_ret (v := .agg #[.int .i64 xh, .int .i64 xw, .int .i64 xc]) (by simp [results, Tryz.results77, go_sem, *]) rfl ⟨rfl, by (exact kKeep)⟩
end Go.Proofs.YtliijchcpooplaaGreat
namespace Go.Proofs.YtliijchcpooplaaGreat
open Go.ChangeShapes Go.WideShapes Go.ChangeAt Go.RowKit
set_option maxRecDepth 20000
set_option linter.unusedVariables false
theorem slid_any (f : FuncId) (w : World) : Calls Tryz.prog 68 #[.func (.func f) #[] #[]] w fun e w' => e = .returned (.func (.func 92) #[] #[.pointer (some ⟨w.heap.size, 0, none⟩)]) /\ w' = w.alloc (.cells #[.func (.func f) #[] #[]] 115) := by
  go_enter Tryz.func68, Tryz.ntmps68
  go_wp2
  go_ret
  exact ⟨rfl, rfl⟩
theorem ofChannels_any (f : FuncId) (w : World) : Calls Tryz.prog 70 #[.func (.func f) #[] #[]] w fun e w' => e = .returned (.func (.func 95) #[] #[.pointer (some ⟨w.heap.size, 0, none⟩)]) /\ w' = w.alloc (.cells #[.func (.func f) #[] #[]] 115) := by
  go_enter Tryz.func70, Tryz.ntmps70
  go_wp2
  go_ret
  exact ⟨rfl, rfl⟩
theorem always_any (m : Int) (w : World) : Calls Tryz.prog 76 #[.int .i64 m] w fun e w' => e = .returned (.func (.func 96) #[] #[.pointer (some ⟨w.heap.size, 0, none⟩)]) /\ w' = w.alloc (.cells #[.int .i64 m] 3) := by
  go_enter Tryz.func76, Tryz.ntmps76
  go_wp2
  go_ret
  exact ⟨rfl, rfl⟩
structure OpD where
  vals : Int
  k1 : Int
  k2 : Int
  s1 : Int
  s2 : Int
  p1 : Int
  p2 : Int
  o1 : Int
  o2 : Int
  resh : Bool
  keeps : Bool
def opV (r : OpD) (mk ct : Value) : Value := .agg #[.int .i64 r.vals, .int .i64 r.k1, .int .i64 r.k2, .int .i64 r.s1, .int .i64 r.s2, .int .i64 r.p1, .int .i64 r.p2, .int .i64 r.o1, .int .i64 r.o2, .bool r.resh, .bool r.keeps, mk, ct]
def Made0 (r : OpD) (mf cf : FuncId) (cv : Value) (w : World) (e : Ending) (w' : World) : Prop := ∃ q : Nat, e = .returned (.tuple #[opV r (.func (.func mf) #[] #[]) (.func (.func cf) #[] #[.pointer (some ⟨q, 0, none⟩)]), .bool true]) /\ w'.cell? ⟨q, 0, none⟩ = some cv /\ q < w'.heap.size /\ Grown w w'
def Made1 (r : OpD) (mf cf : FuncId) (mv cv : Value) (w : World) (e : Ending) (w' : World) : Prop := ∃ p q : Nat, e = .returned (.tuple #[opV r (.func (.func mf) #[] #[.pointer (some ⟨p, 0, none⟩)]) (.func (.func cf) #[] #[.pointer (some ⟨q, 0, none⟩)]), .bool true]) /\ w'.cell? ⟨p, 0, none⟩ = some mv /\ p < w'.heap.size /\ w'.cell? ⟨q, 0, none⟩ = some cv /\ q < w'.heap.size /\ Grown w w'
end Go.Proofs.YtliijchcpooplaaGreat
namespace Go.Proofs.YtliijchcpooplaaGreat
open Go.ChangeShapes Go.WideShapes Go.ChangeAt Go.RowKit
set_option linter.unusedVariables false
def opD (o : Int) : OpD :=
  if o = 1 then ⟨1, 1, 3, 1, 2, 0, 1, 1, 8, false, false⟩ else
  if o = 2 then ⟨1, 1, 3, 1, 2, 0, 1, 0, 0, false, false⟩ else
  if o = 3 then ⟨1, 0, 0, 0, 0, 0, 0, 1, 8, false, false⟩ else
  if o = 4 then ⟨1, 1, 3, 1, 2, 0, 0, 0, 0, false, true⟩ else
  if o = 5 then ⟨1, 1, 3, 1, 2, 0, 0, 0, 0, false, true⟩ else
  if o = 6 then ⟨2, 0, 0, 0, 0, 0, 0, 0, 0, false, false⟩ else
  if o = 7 then ⟨2, 0, 0, 0, 0, 0, 0, 0, 0, false, false⟩ else
  if o = 8 then ⟨1, 0, 0, 0, 0, 0, 0, 0, 0, false, true⟩ else
  if o = 9 then ⟨1, 0, 0, 0, 0, 1, 1, 0, 0, false, true⟩ else
  if o = 10 then ⟨2, 0, 0, 0, 0, 0, 0, 0, 0, false, true⟩ else
  if o = 11 then ⟨1, 0, 0, 0, 0, 0, 0, 0, 0, true, true⟩ else
  ⟨1, 0, 0, 0, 0, 0, 0, 0, 0, false, false⟩
def setP (r : OpD) (n : NodeD) : Prop := ((r.k1 <= n.k /\ n.k <= r.k2) /\ (r.s1 <= n.stride /\ n.stride <= r.s2) /\ (r.p1 <= n.pad /\ n.pad <= r.p2) /\ (r.o1 <= n.out /\ n.out <= r.o2)) /\ ¬ (0 < r.k2 /\ n.k <= n.pad) /\ (r.resh = true ∨ (n.th = 0 /\ n.tw = 0 /\ n.tc = 0))
def scaledP (n : NodeD) : Prop := (1 <= n.mul /\ n.mul <= 32767) /\ (0 <= n.shift /\ n.shift <= 31) /\ (-128 <= n.zero /\ n.zero <= 127)
def takesP (r : OpD) (n : NodeD) (vs : List ValD) : Prop := (vs.length : Int) = r.vals /\ (∀ j, j < vs.length -> ¬ (r.keeps = true /\ (vs.getD j default).z ≠ n.zero)) /\ scaledP n /\ setP r n
def hasOp (o : Int) : Prop := 1 <= o /\ o <= 12
noncomputable def madeS (n : NodeD) (vs : List ValD) : Int × Int × Int :=
  let x := vs.getD 0 default
  let y := vs.getD 1 default
  if n.op = 1 then (outI x.h n.k n.stride n.pad, outI x.w n.k n.stride n.pad, n.out) else
  if n.op = 2 ∨ n.op = 4 ∨ n.op = 5 then (outI x.h n.k n.stride n.pad, outI x.w n.k n.stride n.pad, x.c) else
  if n.op = 3 then (1, 1, n.out) else
  if n.op = 9 then (x.h + 2, x.w + 2, x.c) else
  if n.op = 10 then (if x.h = y.h /\ x.w = y.w then (x.h, x.w, x.c + y.c) else (0, 0, 0)) else
  if n.op = 11 then (if sizeI n.th n.tw n.tc = sizeI x.h x.w x.c then (n.th, n.tw, n.tc) else (0, 0, 0)) else
  alikeS vs
noncomputable def wantS (n : NodeD) (x : ValD) (c : Int) : Int × Int :=
  if n.op = 1 then (n.k * n.k * x.c * c, c) else
  if n.op = 2 then (n.k * n.k * c, c) else
  if n.op = 3 then (sizeI x.h x.w x.c * c, c) else
  if n.op = 12 then (256, 0) else (0, 0)
def mayV (x : ValD) : Prop := mayS x.h x.w x.c
def mayT (s : Int × Int × Int) : Prop := mayS s.1 s.2.1 s.2.2
def nearB (b : Int) : Prop := -16777216 <= b /\ b <= 16777216
open Classical in
noncomputable def valueE (n : NodeD) (vs : List ValD) : Int :=
  if ¬ (hasOp n.op /\ takesP (opD n.op) n vs) then 11 else
  if ¬ ∀ j, j < vs.length -> mayV (vs.getD j default) then 10 else
  if ¬ mayT (madeS n vs) then 10 else
  if ¬ ((n.ws.length : Int) = (wantS n (vs.getD 0 default) (madeS n vs).2.2).1 /\ (n.bs.length : Int) = (wantS n (vs.getD 0 default) (madeS n vs).2.2).2 /\ ∀ j, j < n.bs.length -> nearB (n.bs.getD j 0)) then 12 else 0
open Classical in
noncomputable def valueV (n : NodeD) (vs : List ValD) : ValD := if valueE n vs = 0 then ⟨(madeS n vs).1, (madeS n vs).2.1, (madeS n vs).2.2, n.zero⟩ else ⟨0, 0, 0, 0⟩
end Go.Proofs.YtliijchcpooplaaGreat
