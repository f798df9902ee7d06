/- graph: ofChannels' and always' closures; the makers. -/
import Derived.Test.YtgbedoffgahhaaaG3
namespace Go.Proofs.Ytgbedoffgahhaaa
open Go.ChangeShapes Go.WideShapes Go.ChangeAt Go.RowKit
set_option maxRecDepth 20000
set_option linter.unusedVariables false

theorem always1_any (n : NodeD) (vi vw vb : Value) (a b c d e f m : Int) (p : Addr) (W : World) (hp : W.cell? p = some (.int .i64 m)) (hpb : p.block < W.heap.size) :
    Calls Try.prog 88 #[.agg #[.int .i64 n.op, vi, .int .i64 n.k, .int .i64 n.stride, .int .i64 n.pad, .int .i64 n.out, .int .i64 n.mul, .int .i64 n.shift, .int .i64 n.zero, .int .i64 n.th, .int .i64 n.tw, .int .i64 n.tc, vw, vb], .agg #[.int .i64 a, .int .i64 b, .int .i64 c], .agg #[.int .i64 d, .int .i64 e, .int .i64 f], .pointer (some p)] W fun e w' => e = .returned (.tuple #[.int .i64 m, .int .i64 0]) ∧ Grown W w' := by
  go_enter Try.func88, Try.ntmps88
  go_upto_region 1 with fail
  refine opq (fun w' => w'.cell? p = some (.int .i64 m) ∧ Grown W w') kLaid ?_
  rintro W1 ⟨hp1, g1⟩
  clear hp
  go_wp2_with fail
  go_ret2
  exact ⟨rfl, g1⟩

set_option maxHeartbeats 2000000 in
theorem ofChannels1_any (n : NodeD) (vi vw vb : Value) (a b c d e f m : Int) (p : Addr) (fid : FuncId) (W : World) (hp : W.cell? p = some (.func (.func fid) #[] #[])) (hpb : p.block < W.heap.size)
    (m1 : 0 ≤ m) (m2 : m ≤ 2048) (f1 : 1 ≤ f) (f2 : f ≤ 8)
    (hE : ∀ (xs : Array Value) (w : World), (callFunc fid xs).run Try.prog w = .ok (.enter fid xs) w)
    (hF : ∀ w, Calls Try.prog fid #[.agg #[.int .i64 n.op, vi, .int .i64 n.k, .int .i64 n.stride, .int .i64 n.pad, .int .i64 n.out, .int .i64 n.mul, .int .i64 n.shift, .int .i64 n.zero, .int .i64 n.th, .int .i64 n.tw, .int .i64 n.tc, vw, vb], .agg #[.int .i64 a, .int .i64 b, .int .i64 c]] w fun e w' => e = .returned (.int .i64 m) ∧ Grown w w') :
    Calls Try.prog 87 #[.agg #[.int .i64 n.op, vi, .int .i64 n.k, .int .i64 n.stride, .int .i64 n.pad, .int .i64 n.out, .int .i64 n.mul, .int .i64 n.shift, .int .i64 n.zero, .int .i64 n.th, .int .i64 n.tw, .int .i64 n.tc, vw, vb], .agg #[.int .i64 a, .int .i64 b, .int .i64 c], .agg #[.int .i64 d, .int .i64 e, .int .i64 f], .pointer (some p)] W fun e w' => e = .returned (.tuple #[.int .i64 (m * f), .int .i64 f]) ∧ Grown W w' := by
  have HF := Lib.hid hF
  have HE := Lib.hid hE
  have q1 : 0 ≤ m * f := Int.mul_nonneg m1 (by omega)
  have q2 : m * f ≤ 2048 * 8 := Int.mul_le_mul m2 f2 (by omega) (by omega)
  have e1 : IntKind.i64.wrap (m * f) = m * f := IntWalk.i64_in _ (by omega)
  clear hF hE
  go_enter Try.func87, Try.ntmps87
  go_wp2_with fail
  refine opq (fun w' => (∀ o : Nat, w'.cell? ⟨W.heap.size, o, none⟩ = (#[.int .i64 n.op, vi, .int .i64 n.k, .int .i64 n.stride, .int .i64 n.pad, .int .i64 n.out, .int .i64 n.mul, .int .i64 n.shift, .int .i64 n.zero, .int .i64 n.th, .int .i64 n.tw, .int .i64 n.tc, vw, vb] : Array Value)[o]?) ∧ (∀ o : Nat, w'.cell? ⟨W.heap.size + 1, o, none⟩ = (#[.int .i64 a, .int .i64 b, .int .i64 c] : Array Value)[o]?) ∧ (∀ o : Nat, w'.cell? ⟨W.heap.size + 1 + 1, o, none⟩ = (#[.int .i64 d, .int .i64 e, .int .i64 f] : Array Value)[o]?) ∧ w'.cell? p = some (.func (.func fid) #[] #[]) ∧ Grown W w' ∧ W.heap.size + 3 ≤ w'.heap.size) kLaid ?_
  rintro W1 ⟨b1, b2, b3, hp1, g1, z1⟩
  clear hp
  have hE := fun xs w => HE.out xs w
  go_region_held3 (fun w' => (∀ o : Nat, w'.cell? ⟨W.heap.size, o, none⟩ = (#[.int .i64 n.op, vi, .int .i64 n.k, .int .i64 n.stride, .int .i64 n.pad, .int .i64 n.out, .int .i64 n.mul, .int .i64 n.shift, .int .i64 n.zero, .int .i64 n.th, .int .i64 n.tw, .int .i64 n.tc, vw, vb] : Array Value)[o]?) ∧ (∀ o : Nat, w'.cell? ⟨W.heap.size + 1, o, none⟩ = (#[.int .i64 a, .int .i64 b, .int .i64 c] : Array Value)[o]?) ∧ (∀ o : Nat, w'.cell? ⟨W.heap.size + 1 + 1, o, none⟩ = (#[.int .i64 d, .int .i64 e, .int .i64 f] : Array Value)[o]?) ∧ w'.cell? p = some (.func (.func fid) #[] #[]) ∧ Grown W w' ∧ W.heap.size + 3 ≤ w'.heap.size) (exact kKeep)
    (first | ((with_reducible refine (HF.out _).mono ?_); rintro e w1 ⟨rfl, g⟩))
  all_goals
    go_wp2_with fail
    go_ret2
    exact ⟨rfl, (by (try go_split_ands); assumption)⟩

theorem point_any (n : NodeD) (vi vw vb lv : Value) (W : World) :
    Calls Try.prog 73 #[.agg #[.int .i64 n.op, vi, .int .i64 n.k, .int .i64 n.stride, .int .i64 n.pad, .int .i64 n.out, .int .i64 n.mul, .int .i64 n.shift, .int .i64 n.zero, .int .i64 n.th, .int .i64 n.tw, .int .i64 n.tc, vw, vb], lv] W fun e w' => e = .returned (.agg #[.int .i64 1, .int .i64 1, .int .i64 n.out]) ∧ Grown W w' := by
  go_enter Try.func73, Try.ntmps73
  go_wp2_with fail
  exact bodyPost_ret (v := .agg #[.int .i64 1, .int .i64 1, .int .i64 n.out]) (by simp [results, Try.results73, go_sem]) rfl ⟨rfl, by go_grown⟩

theorem framed_any (n : NodeD) (vi vw vb : Value) (x : ValD) (b off len cap : Nat) (W : World) 
    (h0 : 0 < len) (h1 : len ≤ cap) (hbb : b < W.heap.size) (hx : ValAt W b off x) (hm : mayS x.h x.w x.c) (hp : n.pad = 1) :
    Calls Try.prog 77 #[.agg #[.int .i64 n.op, vi, .int .i64 n.k, .int .i64 n.stride, .int .i64 n.pad, .int .i64 n.out, .int .i64 n.mul, .int .i64 n.shift, .int .i64 n.zero, .int .i64 n.th, .int .i64 n.tw, .int .i64 n.tc, vw, vb], .slice (some ⟨b, off, none⟩) len cap] W fun e w' => e = .returned (.agg #[.int .i64 (x.h + 2), .int .i64 (x.w + 2), .int .i64 x.c]) ∧ Grown W w' := by
  obtain ⟨x1, x2, x3, x4⟩ := hx
  obtain ⟨m1, m2, m3, m4, m5, m6⟩ := hm
  obtain ⟨op, ins, k, stride, pad, out, mul, shift, zero, th, tw, tc, ws, bs⟩ := n
  obtain ⟨h, w, c, z⟩ := x
  simp only at *
  subst hp
  go_enter Try.func77, Try.ntmps77
  go_wp2_with fail
  exact bodyPost_ret (v := .agg #[.int .i64 (h + 2), .int .i64 (w + 2), .int .i64 c]) (by simp [results, Try.results77, go_sem]) rfl ⟨rfl, by go_grown⟩

set_option maxHeartbeats 2000000 in
theorem reshaped_any (n : NodeD) (vi vw vb : Value) (x : ValD) (q q' : Int) (b off len cap : Nat) (W : World)
    (h0 : 0 < len) (h1 : len ≤ cap) (hbb : b < W.heap.size) (hx : ValAt W b off x) (hq : Hid (q = sizeI n.th n.tw n.tc)) (hq' : Hid (q' = sizeI x.h x.w x.c)) (t : Int × Int × Int) (ht : Hid (t = if q = q' then (n.th, n.tw, n.tc) else (0, 0, 0))) :
    Calls Try.prog 79 #[.agg #[.int .i64 n.op, vi, .int .i64 n.k, .int .i64 n.stride, .int .i64 n.pad, .int .i64 n.out, .int .i64 n.mul, .int .i64 n.shift, .int .i64 n.zero, .int .i64 n.th, .int .i64 n.tw, .int .i64 n.tc, vw, vb], .slice (some ⟨b, off, none⟩) len cap] W fun e w' => e = .returned (.agg #[.int .i64 t.1, .int .i64 t.2.1, .int .i64 t.2.2]) ∧ Grown W w' := by
  obtain ⟨x1, x2, x3, x4⟩ := hx
  have j1 : (0 : Int) ≤ 0 := by omega
  have j2 : (0 : Int) < (len : Int) := by omega
  go_enter Try.func79, Try.ntmps79
  go_wp2_with fail
  refine opq (fun w' => (∀ o : Nat, w'.cell? ⟨W.heap.size, o, none⟩ = (#[.int .i64 n.op, vi, .int .i64 n.k, .int .i64 n.stride, .int .i64 n.pad, .int .i64 n.out, .int .i64 n.mul, .int .i64 n.shift, .int .i64 n.zero, .int .i64 n.th, .int .i64 n.tw, .int .i64 n.tc, vw, vb] : Array Value)[o]?) ∧ (∀ o : Nat, w'.cell? ⟨W.heap.size + 1, o, none⟩ = (#[.int .i64 0, .int .i64 0, .int .i64 0] : Array Value)[o]?) ∧ w'.cell? ⟨b, off, none⟩ = some (.int .i64 x.h) ∧ w'.cell? ⟨b, off + 1, none⟩ = some (.int .i64 x.w) ∧ w'.cell? ⟨b, off + 2, none⟩ = some (.int .i64 x.c) ∧ (∀ o : Nat, w'.frozen? ⟨W.heap.size + 1, o, none⟩ = false) ∧ Grown W w' ∧ W.heap.size + 2 ≤ w'.heap.size) kLaid ?_
  rintro W1 ⟨b1, b2, y1, y2, y3, f1, g1, z1⟩
  clear x1 x2 x3 x4
  go_region_held3 (fun w' => (∀ o : Nat, w'.cell? ⟨W.heap.size, o, none⟩ = (#[.int .i64 n.op, vi, .int .i64 n.k, .int .i64 n.stride, .int .i64 n.pad, .int .i64 n.out, .int .i64 n.mul, .int .i64 n.shift, .int .i64 n.zero, .int .i64 n.th, .int .i64 n.tw, .int .i64 n.tc, vw, vb] : Array Value)[o]?) ∧ (∀ o : Nat, w'.cell? ⟨W.heap.size + 1, o, none⟩ = (#[.int .i64 0, .int .i64 0, .int .i64 0] : Array Value)[o]?) ∧ w'.cell? ⟨b, off, none⟩ = some (.int .i64 x.h) ∧ w'.cell? ⟨b, off + 1, none⟩ = some (.int .i64 x.w) ∧ w'.cell? ⟨b, off + 2, none⟩ = some (.int .i64 x.c) ∧ (∀ o : Nat, w'.frozen? ⟨W.heap.size + 1, o, none⟩ = false) ∧ Grown W w' ∧ W.heap.size + 2 ≤ w'.heap.size) (exact kKeep)
    (first | (go_at_call 64; with_reducible refine (size_any n.th n.tw n.tc q _ hq).mono ?_; rintro e w1 ⟨rfl, g⟩) | (go_at_call 64; with_reducible refine (size_any x.h x.w x.c q' _ hq').mono ?_; rintro e w1 ⟨rfl, g⟩))
  all_goals
    go_split_ands
    clear b1 b2 y1 y2 y3 f1 g1 z1
    by_cases c : q = q'
    · have ht' := ht.out
      rw [if_pos c] at ht'
      subst ht' c
      go_wp2_with fail
      exact bodyPost_ret (v := .agg #[.int .i64 n.th, .int .i64 n.tw, .int .i64 n.tc]) (by simp [results, Try.results79, go_sem, *]) rfl ⟨rfl, by (exact kKeep)⟩
    · have ht' := ht.out
      rw [if_neg c] at ht'
      subst ht'
      go_wp2_with fail
      exact bodyPost_ret (v := .agg #[.int .i64 0, .int .i64 0, .int .i64 0]) (by simp [results, Try.results79, go_sem, *]) rfl ⟨rfl, by (exact kKeep)⟩

set_option maxHeartbeats 2000000 in
theorem stacked_any (n : NodeD) (vi vw vb : Value) (x y : ValD) (b off len cap : Nat) (W : World)
    (h0 : 1 < len) (h1 : len ≤ cap) (hbb : b < W.heap.size) (hx : ValAt W b off x) (hy : ValAt W b (off + 4) y) (mx : mayS x.h x.w x.c) (my : mayS y.h y.w y.c) (t : Int × Int × Int) (ht : Hid (t = if x.h = y.h ∧ x.w = y.w then (x.h, x.w, x.c + y.c) else (0, 0, 0))) :
    Calls Try.prog 78 #[.agg #[.int .i64 n.op, vi, .int .i64 n.k, .int .i64 n.stride, .int .i64 n.pad, .int .i64 n.out, .int .i64 n.mul, .int .i64 n.shift, .int .i64 n.zero, .int .i64 n.th, .int .i64 n.tw, .int .i64 n.tc, vw, vb], .slice (some ⟨b, off, none⟩) len cap] W fun e w' => e = .returned (.agg #[.int .i64 t.1, .int .i64 t.2.1, .int .i64 t.2.2]) ∧ Grown W w' := by
  obtain ⟨x1, x2, x3, x4⟩ := hx
  obtain ⟨y1, y2, y3, y4⟩ := hy
  obtain ⟨_, _, _, _, m5, m6⟩ := mx
  obtain ⟨_, _, _, _, n5, n6⟩ := my
  have j1 : (0 : Int) ≤ 0 := by omega
  have h00 : 0 < len := by omega
  have j2 : (0 : Int) < (len : Int) := by omega
  have j3 : (1 : Int) < (len : Int) := by omega
  go_enter Try.func78, Try.ntmps78
  go_wp2_with fail
  refine opq (fun w' => (∀ o : Nat, w'.cell? ⟨W.heap.size + 1, o, none⟩ = (#[.int .i64 0, .int .i64 0, .int .i64 0] : Array Value)[o]?) ∧ w'.cell? ⟨b, off, none⟩ = some (.int .i64 x.h) ∧ w'.cell? ⟨b, off + 1, none⟩ = some (.int .i64 x.w) ∧ w'.cell? ⟨b, off + 2, none⟩ = some (.int .i64 x.c) ∧ w'.cell? ⟨b, off + 4, none⟩ = some (.int .i64 y.h) ∧ w'.cell? ⟨b, off + 4 + 1, none⟩ = some (.int .i64 y.w) ∧ w'.cell? ⟨b, off + 4 + 2, none⟩ = some (.int .i64 y.c) ∧ (∀ o : Nat, w'.frozen? ⟨W.heap.size + 1, o, none⟩ = false) ∧ Grown W w' ∧ W.heap.size + 2 ≤ w'.heap.size) kLaid ?_
  rintro W1 ⟨b1, z1, z2, z3, z4, z5, z6, f1, g1, s1⟩
  clear x1 x2 x3 x4 y1 y2 y3 y4
  go_cut [5, 6] (fun p q w' => ∃ P Q : Nat, p = .pointer (some ⟨P, 0, none⟩) ∧ q = .pointer (some ⟨Q, 0, none⟩) ∧ P ≠ Q ∧ W.heap.size + 2 ≤ P ∧ (∀ o : Nat, w'.cell? ⟨P, o, none⟩ = (#[.int .i64 x.h, .int .i64 x.w, .int .i64 x.c] : Array Value)[o]?) ∧ (∀ o : Nat, w'.cell? ⟨Q, o, none⟩ = (#[.int .i64 y.h, .int .i64 y.w, .int .i64 y.c] : Array Value)[o]?) ∧ (∀ o : Nat, w'.cell? ⟨W.heap.size + 1, o, none⟩ = (#[.int .i64 0, .int .i64 0, .int .i64 0] : Array Value)[o]?) ∧ (∀ o : Nat, w'.frozen? ⟨W.heap.size + 1, o, none⟩ = false) ∧ (∀ o : Nat, w'.frozen? ⟨P, o, none⟩ = false) ∧ Grown W w')
  case first =>
    go_region_held3 (fun w' => w'.cell? ⟨b, off, none⟩ = some (.int .i64 x.h) ∧ w'.cell? ⟨b, off + 1, none⟩ = some (.int .i64 x.w) ∧ w'.cell? ⟨b, off + 2, none⟩ = some (.int .i64 x.c) ∧ w'.cell? ⟨b, off + 4, none⟩ = some (.int .i64 y.h) ∧ w'.cell? ⟨b, off + 4 + 1, none⟩ = some (.int .i64 y.w) ∧ w'.cell? ⟨b, off + 4 + 2, none⟩ = some (.int .i64 y.c)) (exact kKeep) (fail)
    all_goals
      go_wp2_with fail
      go_meet
      exact ⟨_, _, rfl, rfl, by omega, by omega, by (exact kKeep)⟩
  case rest =>
    obtain ⟨P, Q, rfl, rfl, hne, hP, c1, c2, c3, c4, c5, c6⟩ := hcut
    have hQ := Ne.symm hne
    have r1 : P ≠ W.heap.size + 1 := by omega
    clear b1 z1 z2 z3 z4 z5 z6 f1 g1 s1 j1 j2 j3
    have ht' := ht.out
    clear ht
    by_cases e1 : x.h = y.h
    · by_cases e2 : x.w = y.w
      · rw [if_pos ⟨e1, e2⟩] at ht'
        subst ht'
        have b1 : (x.h == y.h) = true := by simp [e1]
        have b2 : (x.w == y.w) = true := by simp [e2]
        have b3 : (x.h != y.h) = false := by simp [e1]
        have b4 : (x.w != y.w) = false := by simp [e2]
        clear e1 e2
        go_wp2_with fail
        exact bodyPost_ret (v := .agg #[.int .i64 x.h, .int .i64 x.w, .int .i64 (x.c + y.c)]) (by simp [results, Try.results78, go_sem, *]) rfl ⟨rfl, by (exact kKeep)⟩
      · rw [if_neg (fun h => e2 h.2)] at ht'
        subst ht'
        have b1 : (x.h == y.h) = true := by simp [e1]
        have b3 : (x.h != y.h) = false := by simp [e1]
        clear e1
        go_wp2_with fail
        exact bodyPost_ret (v := .agg #[.int .i64 0, .int .i64 0, .int .i64 0]) (by simp [results, Try.results78, go_sem, *]) rfl ⟨rfl, by (exact kKeep)⟩
    · rw [if_neg (fun h => e1 h.1)] at ht'
      subst ht'
      go_wp2_with fail
      exact bodyPost_ret (v := .agg #[.int .i64 0, .int .i64 0, .int .i64 0]) (by simp [results, Try.results78, go_sem, *]) rfl ⟨rfl, by (exact kKeep)⟩
end Go.Proofs.Ytgbedoffgahhaaa
