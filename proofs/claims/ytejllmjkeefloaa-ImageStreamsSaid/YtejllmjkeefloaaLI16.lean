/- Rows of bytes: appends of bytes, slices of them; wide, as a table. markOf; lay: an image's bytes, or the first error. Bytes as strings; the laws' head. Take and Whole of what was put; bounds of a graph that was cut. The reference of layer 3: many. -/
import Derived.Test.YtejllmjkeefloaaLI12
import Derived.Test.YtejllmjkeefloaaLV2
import Derived.Deep.DeepCutAuto
import Derived.Test.YtejllmjkeefloaaLA0
import Derived.Test.YtejllmjkeefloaaLI10b
import Derived.Test.YtejllmjkeefloaaLN6
import Derived.Test.YtejllmjkeefloaaLP2
import Derived.Laws.BytesArg
import Derived.OpenShut
import Derived.Deep.QuietTactic
import Derived.BigQuiet
import Derived.Test.YtejllmjkeefloaaLL0
import Derived.Test.YtejllmjkeefloaaLFix
import Derived.Test.YtejllmjkeefloaaLG2
import Derived.Test.YtejllmjkeefloaaLN13
import Derived.Test.YtejllmjkeefloaaLN20
import Derived.Test.YtejllmjkeefloaaLRead
import Derived.Test.YtejllmjkeefloaaLG5
namespace Go.Proofs.Ytejllmjkeefloaa.Q8
open Go.ChangeShapes Go.WideShapes Go.ChangeAt Go.RowKit
set_option maxRecDepth 20000
set_option linter.unusedVariables false
set_option linter.unusedSimpArgs false

/-- A row of bytes that a call owns. -/
def OwnR (w : World) (base : Nat) (v : Value) (xs : List Int) : Prop := w.ownsRow base 5 1 v xs.length (xs.map (Value.int .u8))
theorem OwnR.past {w w' : World} {base : Nat} {v : Value} {l : List Int} (h : OwnR w base v l) (g : Past w w') : OwnR w' base v l := by
  obtain ⟨hl, h⟩ := h
  refine ⟨hl, ?_⟩
  rcases h with ⟨rfl, h0⟩ | ⟨b, cap, cur, rfl, hb, hg, hn, hm, hs, ht⟩
  · exact .inl ⟨rfl, h0⟩
  · exact .inr ⟨b, cap, cur, rfl, hb, (g.2.2.2 b (Array.getElem?_eq_some_iff.1 hg).1).trans hg, hn, hm, hs, ht⟩
theorem wf_u8_of {l : List Int} (h : bytesP l) : ∀ x ∈ l, (Lit.int .u8 x).wf = true := fun x hx => by
  have := h x hx
  simp [Lit.wf, IntKind.min, IntKind.max, IntKind.bits, IntKind.signed]
  omega
theorem OwnR.nums {w : World} {base : Nat} {v : Value} {l : List Int} (h : OwnR w base v l) (hb : bytesP l) : IsNums .u8 w v l := nums_of_ownI (t := 5) h (wf_u8_of hb)
theorem OwnR.lt {w : World} {base : Nat} {v : Value} {l : List Int} (h : OwnR w base v l) {k : Nat} (hk : v.ownBlock = some k) : base ≤ k := (World.ownsRow.lt h k hk).1
theorem OwnR.alloc {w : World} {base : Nat} {v : Value} {l : List Int} (h : OwnR w base v l) (x : Obj) : OwnR (w.alloc x) base v l := World.ownsRow.alloc h x
/-- append of a row of bytes to one that the call owns. -/
theorem wpList_append_b {ops : Array Oper} {Q : Exit → Act → World → Prop} {rest : List Oper} {o : Oper} {a : Act} {w : World} (hgd : o.guard = none) (s x : Operand) (ho : o.op = .call { callee := .builtin .append, args := #[s, x], argTypes := #[22, 22] })
    (base : Nat) (v : Value) (xs : List Int) (hs : a.eval s = v) (hown : OwnR w base v xs) (ys : List Int) (A : Option Addr) (n cap : Nat) (hx : a.eval x = .slice A n cap) (hy : IsNums .u8 w (.slice A n cap) ys) (hm : xs.length + ys.length ≤ 1000000) (hbase : base ≤ w.heap.size)
    (h : ∀ v' w', OwnR w' base v' (xs ++ ys) → w.grownBy w' v.ownBlock → wpList Try.prog ops Q rest (a.put o.dst v') w') : wpList Try.prog ops Q (o :: rest) a w := by
  obtain ⟨i, hi, hz, hsz, hb⟩ := info_parts info8
  obtain ⟨A', cap', e, h2, h3, h4, h5, h6⟩ := hy
  simp only [Value.slice.injEq] at e
  obtain ⟨rfl, rfl, rfl⟩ := e
  by_cases hp : 0 < ys.length
  · obtain ⟨b, off, rfl, hbl, hc⟩ := h6 hp
    refine wpList_append_own _ hgd s x 22 ho base 5 i _ 1 1 Try.underlying22 hi hz hsz hb rfl (by decide) v xs.length (xs.map (Value.int .u8)) hs hown ⟨b, off, none⟩ ys.length cap (ys.map (Value.int .u8)) hx (by simp) (fun j u hu => ?_) (by intro u hu; simp only [List.mem_map] at hu; obtain ⟨z, _, rfl⟩ := hu; rfl) (by unfold maxLen; omega) (by omega) hbase ?_
    · rw [add_plain]
      have hj : j < ys.length := by
        by_cases q : j < ys.length
        · exact q
        · rw [List.getElem?_eq_none (by simpa using q)] at hu; cases hu
      rw [hc j hj]
      rw [← hu]
      simp [List.getD, hj]
    · intro v' w' ow g _
      exact h v' w' (by unfold OwnR; simpa using ow) g
  · have e0 : ys = [] := List.eq_nil_of_length_eq_zero (by omega)
    subst e0
    simp only [List.length_nil] at hx h4
    cases A with
    | none =>
      obtain rfl := h4 rfl
      have hr := run_append_owned_none (P := Try.prog) w base 22 o.type 5 i 1 Try.underlying22 hi v xs.length (xs.map (Value.int .u8)) hown
      refine wpList_plain hgd fun K hK => ?_
      unfold Oper.wp execOp
      simp only [ho, resolve, invoke, builtin, Sem.run_bind, Sem.run_pure, Result.andThen_ok, List.map_toArray, List.map_cons, List.map_nil, hs, hx, hr]
      exact hK _ _ (h v w (by simpa using hown) (World.grownBy.refl _ _))
    | some ad =>
      refine wpList_append_own _ hgd s x 22 ho base 5 i _ 1 1 Try.underlying22 hi hz hsz hb rfl (by decide) v xs.length (xs.map (Value.int .u8)) hs hown ad 0 cap [] hx rfl (fun j u hu => by simp at hu) (by simp) (by unfold maxLen; omega) (by omega) hbase ?_
      intro v' w' ow g _
      exact h v' w' (by unfold OwnR; simpa using ow) g
end Go.Proofs.Ytejllmjkeefloaa.Q8
namespace Go.Proofs.Ytejllmjkeefloaa
open Go.ChangeShapes Go.WideShapes Go.ChangeAt Go.RowKit
set_option maxRecDepth 20000
set_option linter.unusedVariables false
set_option linter.unusedSimpArgs false

theorem mark_any (x : Int) (W : World) (h0 : 0 ≤ x) (h1 : x < 16777216) : Calls Try.prog 56 #[.int .i64 x] W fun e w' => e = .returned (.agg #[.int .u8 (x / 65536 % 256), .int .u8 (x / 256 % 256), .int .u8 (x % 256)]) ∧ Past W w' := by
  go_enter Try.func56, Try.ntmps56
  go_upto_region 1 with fail
  obtain ⟨Q, hQ⟩ : ∃ Q, W.heap.size = Q := ⟨_, rfl⟩
  refine opq (fun w' => (∀ o : Nat, w'.cell? ⟨Q, o, none⟩ = (#[.int .u8 0, .int .u8 0, .int .u8 0] : Array Value)[o]?) ∧ (∀ o : Nat, w'.frozen? ⟨Q, o, none⟩ = false) ∧ Past W w' ∧ Q + 1 ≤ w'.heap.size) (by
    subst hQ
    exact ⟨by (exact kKeep), by (exact kKeep), by (exact kKeep), by (exact kKeep)⟩) ?_
  rintro w0 ⟨q0, f0, p0, s0⟩
  try rw [hQ]
  go_wp2_with fail
  have b4 := box_set3 (y0 := .int .u8 (x / 65536)) (y1 := .int .u8 (x / 256 % 256)) (y2 := .int .u8 (x % 256)) q0
  have p4 : Past W (((w0.setCell ⟨Q, 0, none⟩ (.int .u8 (x / 65536))).setCell ⟨Q, 1, none⟩ (.int .u8 (x / 256 % 256))).setCell ⟨Q, 2, none⟩ (.int .u8 (x % 256))) := ((p0.setCell (p := ⟨Q, 0, none⟩) (by simp only; omega) _).setCell (p := ⟨Q, 1, none⟩) (by simp only; omega) _).setCell (p := ⟨Q, 2, none⟩) (by simp only; omega) _
  clear q0 p0
  generalize (((w0.setCell ⟨Q, 0, none⟩ (.int .u8 (x / 65536))).setCell ⟨Q, 1, none⟩ (.int .u8 (x / 256 % 256))).setCell ⟨Q, 2, none⟩ (.int .u8 (x % 256))) = w9 at *
  exact bodyPost_ret (v := .agg #[.int .u8 (x / 65536), .int .u8 (x / 256 % 256), .int .u8 (x % 256)]) (by simp [results, Try.results56, go_sem, b4]) rfl ⟨by rw [show x / 65536 % 256 = x / 65536 by omega], p4⟩
end Go.Proofs.Ytejllmjkeefloaa
namespace Go.Proofs.Ytejllmjkeefloaa
open Go.ChangeShapes Go.WideShapes Go.ChangeAt Go.RowKit
set_option maxRecDepth 20000
set_option linter.unusedVariables false

end Go.Proofs.Ytejllmjkeefloaa

namespace Go.Proofs.Ytejllmjkeefloaa
open Go.ChangeShapes Go.WideShapes Go.ChangeAt Go.RowKit
set_option maxRecDepth 20000
set_option linter.unusedVariables false

theorem cut_lessD (g : GraphD) : Cut (lessD g) := by
  refine ⟨by simp [lessD]; omega, fun n hn => ?_⟩
  simp only [lessD, List.mem_map] at hn
  obtain ⟨m, _, rfl⟩ := hn
  constructor
  · simp [fewD]; omega
  · simp [fewD]; omega
theorem nodesLen_bd (ns : List NodeD) : nodesLen (ns.map fewD) ≤ 5116 * ns.length := by
  induction ns with
  | nil => simp [nodesLen]
  | cons n ns ih =>
    simp only [nodesLen, List.map_cons, List.sum_cons, List.length_cons] at ih ⊢
    have h1 : (fewD n).ins.length ≤ 20 := by simp [fewD]; omega
    have h2 : (fewD n).ws.length ≤ 5000 := by simp [fewD]; omega
    have h3 : (fewD n).bs.length ≤ 20 := by simp [fewD]; omega
    omega
theorem lessD_len (g : GraphD) : (graphB (lessD g)).length ≤ 100000 := by
  rw [graphB_len]
  have h1 : (lessD g).ins.length ≤ 6 := by simp [lessD]; omega
  have h2 : (lessD g).outs.length ≤ 6 := by simp [lessD]; omega
  have h3 := nodesLen_bd (g.nodes.take 14)
  have h4 : (g.nodes.take 14).length ≤ 14 := by simp; omega
  have e : (lessD g).nodes = (g.nodes.take 14).map fewD := rfl
  rw [e]
  omega
end Go.Proofs.Ytejllmjkeefloaa
namespace Go.Proofs.Ytejllmjkeefloaa
open Go.ChangeShapes Go.WideShapes Go.ChangeAt Go.RowKit
set_option maxRecDepth 20000
set_option linter.unusedVariables false

set_option maxHeartbeats 4000000 in
theorem many_1 (n : NodeD) (vi vw vb : Value) (x : ValD) (W : World) (k1 : 1 ≤ n.k) (k2 : n.k ≤ 3) (c1 : 1 ≤ x.c) (c2 : x.c ≤ 8) (o1 : 1 ≤ n.out) (o2 : n.out ≤ 8) (d1 : (n.op == 1) = true) :
    Calls Try.prog 65 #[.agg #[.int .i64 n.op, vi, .int .i64 n.k, .int .i64 n.stride, .int .i64 n.pad, .int .i64 n.out, .int .i64 n.mul, .int .i64 n.shift, .int .i64 n.zero, .int .i64 n.th, .int .i64 n.tw, .int .i64 n.tc, vw, vb], .agg #[.int .i64 x.h, .int .i64 x.w, .int .i64 x.c]] W fun e w' => e = .returned (.tuple #[.int .i64 (n.k * n.k * x.c * n.out), .int .i64 n.out]) ∧ Grown W w' := by
  obtain ⟨m1, m2⟩ := mul_bd k1 k2 k1 k2
  obtain ⟨m3, m4⟩ := mul_bd m1 m2 c1 c2
  obtain ⟨m5, m6⟩ := mul_bd m3 m4 o1 o2
  have e0 : IntKind.i64.wrap (n.k * n.k) = n.k * n.k := IntWalk.i64_in _ (by omega)
  have e1 : IntKind.i64.wrap (n.k * n.k * x.c) = n.k * n.k * x.c := IntWalk.i64_in _ (by omega)
  have e2 : IntKind.i64.wrap (n.k * n.k * x.c * n.out) = n.k * n.k * x.c * n.out := IntWalk.i64_in _ (by omega)
  clear m1 m2 m3 m4 m5 m6
  go_enter Try.func65, Try.ntmps65
  go_upto_region 1 with fail
  refine opq (fun w' => (∀ o : Nat, w'.cell? ⟨W.heap.size, o, none⟩ = (#[.int .i64 n.op, vi, .int .i64 n.k, .int .i64 n.stride, .int .i64 n.pad, .int .i64 n.out, .int .i64 n.mul, .int .i64 n.shift, .int .i64 n.zero, .int .i64 n.th, .int .i64 n.tw, .int .i64 n.tc, vw, vb] : Array Value)[o]?) ∧ (∀ o : Nat, w'.cell? ⟨W.heap.size + 1, o, none⟩ = (#[.int .i64 x.h, .int .i64 x.w, .int .i64 x.c] : Array Value)[o]?) ∧ Grown W w') kLaid ?_
  rintro W1 ⟨b1, b2, g1⟩
  go_upto_region 3 with fail
  go_quiet (fail)
  go_wp2_with fail
  go_ret2
  exact ⟨rfl, by (exact kKeep)⟩
set_option maxHeartbeats 4000000 in
theorem many_2 (n : NodeD) (vi vw vb : Value) (x : ValD) (W : World) (k1 : 1 ≤ n.k) (k2 : n.k ≤ 3) (c1 : 1 ≤ x.c) (c2 : x.c ≤ 8) (d1 : (n.op == 1) = false) (d2 : (n.op == 2) = true) :
    Calls Try.prog 65 #[.agg #[.int .i64 n.op, vi, .int .i64 n.k, .int .i64 n.stride, .int .i64 n.pad, .int .i64 n.out, .int .i64 n.mul, .int .i64 n.shift, .int .i64 n.zero, .int .i64 n.th, .int .i64 n.tw, .int .i64 n.tc, vw, vb], .agg #[.int .i64 x.h, .int .i64 x.w, .int .i64 x.c]] W fun e w' => e = .returned (.tuple #[.int .i64 (n.k * n.k * x.c), .int .i64 x.c]) ∧ Grown W w' := by
  obtain ⟨m1, m2⟩ := mul_bd k1 k2 k1 k2
  obtain ⟨m3, m4⟩ := mul_bd m1 m2 c1 c2
  have e0 : IntKind.i64.wrap (n.k * n.k) = n.k * n.k := IntWalk.i64_in _ (by omega)
  have e1 : IntKind.i64.wrap (n.k * n.k * x.c) = n.k * n.k * x.c := IntWalk.i64_in _ (by omega)
  clear m1 m2 m3 m4
  go_enter Try.func65, Try.ntmps65
  go_upto_region 1 with fail
  refine opq (fun w' => (∀ o : Nat, w'.cell? ⟨W.heap.size, o, none⟩ = (#[.int .i64 n.op, vi, .int .i64 n.k, .int .i64 n.stride, .int .i64 n.pad, .int .i64 n.out, .int .i64 n.mul, .int .i64 n.shift, .int .i64 n.zero, .int .i64 n.th, .int .i64 n.tw, .int .i64 n.tc, vw, vb] : Array Value)[o]?) ∧ (∀ o : Nat, w'.cell? ⟨W.heap.size + 1, o, none⟩ = (#[.int .i64 x.h, .int .i64 x.w, .int .i64 x.c] : Array Value)[o]?) ∧ Grown W w') kLaid ?_
  rintro W1 ⟨b1, b2, g1⟩
  go_upto_region 5 with fail
  go_quiet (fail)
  go_wp2_with fail
  go_ret2
  exact ⟨rfl, by (exact kKeep)⟩
set_option maxHeartbeats 4000000 in
theorem many_3 (n : NodeD) (vi vw vb : Value) (x : ValD) (W : World) (q : Int) (hq : Hid (q = sizeI x.h x.w x.c)) (q1 : 1 ≤ q) (q2 : q ≤ 2048) (o1 : 1 ≤ n.out) (o2 : n.out ≤ 8) (d1 : (n.op == 1) = false) (d2 : (n.op == 2) = false) (d3 : (n.op == 3) = true) :
    Calls Try.prog 65 #[.agg #[.int .i64 n.op, vi, .int .i64 n.k, .int .i64 n.stride, .int .i64 n.pad, .int .i64 n.out, .int .i64 n.mul, .int .i64 n.shift, .int .i64 n.zero, .int .i64 n.th, .int .i64 n.tw, .int .i64 n.tc, vw, vb], .agg #[.int .i64 x.h, .int .i64 x.w, .int .i64 x.c]] W fun e w' => e = .returned (.tuple #[.int .i64 (q * n.out), .int .i64 n.out]) ∧ Grown W w' := by
  obtain ⟨m5, m6⟩ := mul_bd q1 q2 o1 o2
  have e2 : IntKind.i64.wrap (q * n.out) = q * n.out := IntWalk.i64_in _ (by omega)
  clear m5 m6
  go_enter Try.func65, Try.ntmps65
  go_upto_region 1 with fail
  refine opq (fun w' => (∀ o : Nat, w'.cell? ⟨W.heap.size, o, none⟩ = (#[.int .i64 n.op, vi, .int .i64 n.k, .int .i64 n.stride, .int .i64 n.pad, .int .i64 n.out, .int .i64 n.mul, .int .i64 n.shift, .int .i64 n.zero, .int .i64 n.th, .int .i64 n.tw, .int .i64 n.tc, vw, vb] : Array Value)[o]?) ∧ (∀ o : Nat, w'.cell? ⟨W.heap.size + 1, o, none⟩ = (#[.int .i64 x.h, .int .i64 x.w, .int .i64 x.c] : Array Value)[o]?) ∧ Grown W w' ∧ W.heap.size + 2 ≤ w'.heap.size) kLaid ?_
  rintro W1 ⟨b1, b2, g1, z1⟩
  go_upto_region 7 with fail
  go_region_held3 (fun w' => (∀ o : Nat, w'.cell? ⟨W.heap.size, o, none⟩ = (#[.int .i64 n.op, vi, .int .i64 n.k, .int .i64 n.stride, .int .i64 n.pad, .int .i64 n.out, .int .i64 n.mul, .int .i64 n.shift, .int .i64 n.zero, .int .i64 n.th, .int .i64 n.tw, .int .i64 n.tc, vw, vb] : Array Value)[o]?) ∧ (∀ o : Nat, w'.cell? ⟨W.heap.size + 1, o, none⟩ = (#[.int .i64 x.h, .int .i64 x.w, .int .i64 x.c] : Array Value)[o]?) ∧ Grown W w' ∧ W.heap.size + 2 ≤ w'.heap.size) (exact kKeep) (first | (go_at_call 90; with_reducible refine (rsize_any x.h x.w x.c q _ hq).mono ?_; rintro e w1 ⟨rfl, g⟩))
  all_goals
    go_wp2_with fail
    go_split_ands
    go_ret2
    exact ⟨rfl, by (exact kKeep)⟩
set_option maxHeartbeats 4000000 in
theorem many_12 (n : NodeD) (vi vw vb : Value) (x : ValD) (W : World) (d1 : (n.op == 1) = false) (d2 : (n.op == 2) = false) (d3 : (n.op == 3) = false) (d12 : (n.op == 12) = true) :
    Calls Try.prog 65 #[.agg #[.int .i64 n.op, vi, .int .i64 n.k, .int .i64 n.stride, .int .i64 n.pad, .int .i64 n.out, .int .i64 n.mul, .int .i64 n.shift, .int .i64 n.zero, .int .i64 n.th, .int .i64 n.tw, .int .i64 n.tc, vw, vb], .agg #[.int .i64 x.h, .int .i64 x.w, .int .i64 x.c]] W fun e w' => e = .returned (.tuple #[.int .i64 256, .int .i64 0]) ∧ Grown W w' := by
  go_enter Try.func65, Try.ntmps65
  go_upto_region 1 with fail
  refine opq (fun w' => (∀ o : Nat, w'.cell? ⟨W.heap.size, o, none⟩ = (#[.int .i64 n.op, vi, .int .i64 n.k, .int .i64 n.stride, .int .i64 n.pad, .int .i64 n.out, .int .i64 n.mul, .int .i64 n.shift, .int .i64 n.zero, .int .i64 n.th, .int .i64 n.tw, .int .i64 n.tc, vw, vb] : Array Value)[o]?) ∧ (∀ o : Nat, w'.cell? ⟨W.heap.size + 1, o, none⟩ = (#[.int .i64 x.h, .int .i64 x.w, .int .i64 x.c] : Array Value)[o]?) ∧ Grown W w') kLaid ?_
  rintro W1 ⟨b1, b2, g1⟩
  go_wp2_with fail
  go_ret2
  exact ⟨rfl, by (exact kKeep)⟩
set_option maxHeartbeats 4000000 in
theorem many_0 (n : NodeD) (vi vw vb : Value) (x : ValD) (W : World) (d1 : (n.op == 1) = false) (d2 : (n.op == 2) = false) (d3 : (n.op == 3) = false) (d12 : (n.op == 12) = false) :
    Calls Try.prog 65 #[.agg #[.int .i64 n.op, vi, .int .i64 n.k, .int .i64 n.stride, .int .i64 n.pad, .int .i64 n.out, .int .i64 n.mul, .int .i64 n.shift, .int .i64 n.zero, .int .i64 n.th, .int .i64 n.tw, .int .i64 n.tc, vw, vb], .agg #[.int .i64 x.h, .int .i64 x.w, .int .i64 x.c]] W fun e w' => e = .returned (.tuple #[.int .i64 0, .int .i64 0]) ∧ Grown W w' := by
  go_enter Try.func65, Try.ntmps65
  go_upto_region 1 with fail
  refine opq (fun w' => (∀ o : Nat, w'.cell? ⟨W.heap.size, o, none⟩ = (#[.int .i64 n.op, vi, .int .i64 n.k, .int .i64 n.stride, .int .i64 n.pad, .int .i64 n.out, .int .i64 n.mul, .int .i64 n.shift, .int .i64 n.zero, .int .i64 n.th, .int .i64 n.tw, .int .i64 n.tc, vw, vb] : Array Value)[o]?) ∧ (∀ o : Nat, w'.cell? ⟨W.heap.size + 1, o, none⟩ = (#[.int .i64 x.h, .int .i64 x.w, .int .i64 x.c] : Array Value)[o]?) ∧ Grown W w') kLaid ?_
  rintro W1 ⟨b1, b2, g1⟩
  go_wp2_with fail
  go_ret2
  exact ⟨rfl, by (exact kKeep)⟩
end Go.Proofs.Ytejllmjkeefloaa
