/- graph: the closures: slid's, ofChannels', always'. -/
import Derived.Test.YtgbedoffgahhaaaG2
namespace Go.Proofs.Ytgbedoffgahhaaa
open Go.ChangeShapes Go.WideShapes Go.ChangeAt Go.RowKit
set_option maxRecDepth 20000
set_option linter.unusedVariables false

theorem slid11_any (n : NodeD) (vi vw vb : Value) (x q : Int) (b : Nat) (W : World) (hq : Hid (q = outI x n.k n.stride n.pad)) (hb : (∀ o : Nat, W.cell? ⟨b, o, none⟩ = (#[.int .i64 n.op, vi, .int .i64 n.k, .int .i64 n.stride, .int .i64 n.pad, .int .i64 n.out, .int .i64 n.mul, .int .i64 n.shift, .int .i64 n.zero, .int .i64 n.th, .int .i64 n.tw, .int .i64 n.tc, vw, vb] : Array Value)[o]?)) :
    Calls Try.prog 85 #[.int .i64 x, .pointer (some ⟨b, 0, none⟩)] W fun e w' => e = .returned (.int .i64 q) ∧ Grown W w' := by
  go_enter Try.func85, Try.ntmps85
  go_wp2_with fail
  refine (out_any x n.k n.stride n.pad q _ hq).mono ?_; rintro e w1 ⟨rfl, g⟩
  go_wp2_with fail
  go_ret
  exact ⟨rfl, g⟩

set_option maxHeartbeats 2000000 in
theorem slid1_any (n : NodeD) (vi vw vb : Value) (x : ValD) (p : Addr) (fid : FuncId) (a c d : Int) (b off len cap : Nat) (W : World) (hp : W.cell? p = some (.func (.func fid) #[] #[])) (hpb : p.block < W.heap.size)
    (h0 : 0 < len) (h1 : len ≤ cap) (hbb : b < W.heap.size) (hx : ValAt W b off x) (ha : Hid (a = outI x.h n.k n.stride n.pad)) (hc : Hid (c = outI x.w n.k n.stride n.pad))
    (hE : ∀ (xs : Array Value) (w : World), (callFunc fid xs).run Try.prog w = .ok (.enter fid xs) w)
    (hF : ∀ w, Calls Try.prog fid #[.agg #[.int .i64 n.op, vi, .int .i64 n.k, .int .i64 n.stride, .int .i64 n.pad, .int .i64 n.out, .int .i64 n.mul, .int .i64 n.shift, .int .i64 n.zero, .int .i64 n.th, .int .i64 n.tw, .int .i64 n.tc, vw, vb], .agg #[.int .i64 x.h, .int .i64 x.w, .int .i64 x.c]] w fun e w' => e = .returned (.int .i64 d) ∧ Grown w w') :
    Calls Try.prog 84 #[.agg #[.int .i64 n.op, vi, .int .i64 n.k, .int .i64 n.stride, .int .i64 n.pad, .int .i64 n.out, .int .i64 n.mul, .int .i64 n.shift, .int .i64 n.zero, .int .i64 n.th, .int .i64 n.tw, .int .i64 n.tc, vw, vb], .slice (some ⟨b, off, none⟩) len cap, .pointer (some p)] W fun e w' => e = .returned (.agg #[.int .i64 a, .int .i64 c, .int .i64 d]) ∧ Grown W w' := by
  obtain ⟨x1, x2, x3, x4⟩ := hx
  have HF := Lib.hid hF
  have HE := Lib.hid hE
  clear hF hE
  go_enter Try.func84, Try.ntmps84
  go_wp2_with fail
  refine opq (fun w' => (∀ o : Nat, w'.cell? ⟨W.heap.size, o, none⟩ = (#[.int .i64 n.op, vi, .int .i64 n.k, .int .i64 n.stride, .int .i64 n.pad, .int .i64 n.out, .int .i64 n.mul, .int .i64 n.shift, .int .i64 n.zero, .int .i64 n.th, .int .i64 n.tw, .int .i64 n.tc, vw, vb] : Array Value)[o]?) ∧ (∀ o : Nat, w'.cell? ⟨W.heap.size + 1, o, none⟩ = (#[.int .i64 0, .int .i64 0, .int .i64 0] : Array Value)[o]?) ∧ (∀ o : Nat, w'.cell? ⟨W.heap.size + 1 + 1, o, none⟩ = (#[.int .i64 x.h, .int .i64 x.w, .int .i64 x.c] : Array Value)[o]?) ∧ w'.cell? p = some (.func (.func fid) #[] #[]) ∧ (∀ o : Nat, w'.frozen? ⟨W.heap.size + 1, o, none⟩ = false) ∧ Grown W w' ∧ W.heap.size + 3 ≤ w'.heap.size) kLaid ?_
  rintro W1 ⟨b1, b2, b3, hp1, f1, g1, z1⟩
  have i0 := has_box (o := 0) b2 (by decide)
  have i1 := has_box (o := 1) b2 (by decide)
  have i2 := has_box (o := 2) b2 (by decide)
  clear b2
  clear hp x1 x2 x3 x4
  have hE := fun xs w => HE.out xs w
  go_region_held3 (fun w' => (∀ o : Nat, w'.cell? ⟨W.heap.size, o, none⟩ = (#[.int .i64 n.op, vi, .int .i64 n.k, .int .i64 n.stride, .int .i64 n.pad, .int .i64 n.out, .int .i64 n.mul, .int .i64 n.shift, .int .i64 n.zero, .int .i64 n.th, .int .i64 n.tw, .int .i64 n.tc, vw, vb] : Array Value)[o]?) ∧ (w'.cell? ⟨W.heap.size + 1, 0, none⟩ = some (rd w' (W.heap.size + 1) 0) ∧ w'.cell? ⟨W.heap.size + 1, 1, none⟩ = some (rd w' (W.heap.size + 1) 1) ∧ w'.cell? ⟨W.heap.size + 1, 2, none⟩ = some (rd w' (W.heap.size + 1) 2)) ∧ (∀ o : Nat, w'.cell? ⟨W.heap.size + 1 + 1, o, none⟩ = (#[.int .i64 x.h, .int .i64 x.w, .int .i64 x.c] : Array Value)[o]?) ∧ w'.cell? p = some (.func (.func fid) #[] #[]) ∧ (∀ o : Nat, w'.frozen? ⟨W.heap.size + 1, o, none⟩ = false) ∧ Grown W w' ∧ W.heap.size + 3 ≤ w'.heap.size) (exact kKeep)
    (first | ((with_reducible refine (HF.out _).mono ?_); rintro e w1 ⟨rfl, g⟩) | (go_at_call 85; with_reducible refine (slid11_any n vi vw vb x.h a _ _ ha (by (try go_split_ands); assumption)).mono ?_; rintro e w1 ⟨rfl, g⟩) | (go_at_call 85; with_reducible refine (slid11_any n vi vw vb x.w c _ _ hc (by (try go_split_ands); assumption)).mono ?_; rintro e w1 ⟨rfl, g⟩))
  all_goals
    go_wp2_with fail
    go_split_ands
    have S3 := set3 (by with_reducible assumption) (by with_reducible assumption) (by with_reducible assumption)
    exact bodyPost_ret (v := .agg #[.int .i64 a, .int .i64 c, .int .i64 d]) (by simp [results, Try.results84, go_sem, S3.1, S3.2.1, S3.2.2]) rfl ⟨rfl, by with_reducible assumption⟩
end Go.Proofs.Ytgbedoffgahhaaa
