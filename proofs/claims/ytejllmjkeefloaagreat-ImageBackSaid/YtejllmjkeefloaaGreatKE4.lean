/- graph.sameNode's closure. Two rows of eight numbers compared. markOf; lay: an image's bytes, or the first error. Bytes as strings; the laws' head. Take and Whole of what was put; bounds of a graph that was cut. -/
import Derived.Test.YtejllmjkeefloaaGreatKSh1A
import Derived.Test.YtejllmjkeefloaaGreatKR3Node
import Derived.Deep.DeepCutAuto
import Derived.Test.YtejllmjkeefloaaGreatKA0
import Derived.Test.YtejllmjkeefloaaGreatKI10
import Derived.Test.YtejllmjkeefloaaGreatKE1
import Derived.Test.YtejllmjkeefloaaGreatKI13
import Derived.Test.YtejllmjkeefloaaGreatKV4
import Derived.Laws.BytesArg
import Derived.Test.YtejllmjkeefloaaGreatKP1
import Derived.Test.YtejllmjkeefloaaGreatKFix
import Derived.Test.YtejllmjkeefloaaGreatKN17
namespace Go.Proofs.YtejllmjkeefloaaGreat
open Go.ChangeShapes Go.WideShapes Go.ChangeAt Go.RowKit
set_option maxRecDepth 20000
set_option linter.unusedVariables false

set_option maxHeartbeats 4000000 in
theorem single_any (n : NodeD) (vi vw vb : Value) (W : World) : Calls Tryz.prog 85 #[.agg #[.int .i64 n.op, vi, .int .i64 n.k, .int .i64 n.stride, .int .i64 n.pad, .int .i64 n.out, .int .i64 n.mul, .int .i64 n.shift, .int .i64 n.zero, .int .i64 n.th, .int .i64 n.tw, .int .i64 n.tc, vw, vb]] W fun e w' => e = .returned (.agg #[.int .i64 n.op, .int .i64 n.k, .int .i64 n.stride, .int .i64 n.pad, .int .i64 n.out, .int .i64 n.mul, .int .i64 n.shift, .int .i64 n.zero]) ∧ Grown W w' := by
  go_enter Tryz.func85, Tryz.ntmps85
  go_upto_region 1 with fail
  refine opq (fun w' => (∀ o : Nat, w'.cell? ⟨W.heap.size, o, none⟩ = (#[.int .i64 n.op, vi, .int .i64 n.k, .int .i64 n.stride, .int .i64 n.pad, .int .i64 n.out, .int .i64 n.mul, .int .i64 n.shift, .int .i64 n.zero, .int .i64 n.th, .int .i64 n.tw, .int .i64 n.tc, vw, vb] : Array Value)[o]?) ∧ (∀ o : Nat, w'.cell? ⟨W.heap.size + 1, o, none⟩ = (#[.int .i64 0, .int .i64 0, .int .i64 0, .int .i64 0, .int .i64 0, .int .i64 0, .int .i64 0, .int .i64 0] : Array Value)[o]?) ∧ (∀ o : Nat, w'.frozen? ⟨W.heap.size + 1, o, none⟩ = false) ∧ Grown W w' ∧ W.heap.size + 2 ≤ w'.heap.size) kLaid ?_
  rintro w1 ⟨b1, b2, f2, g1, s1⟩
  go_wp2_with fail
  exact bodyPost_ret (v := .agg #[.int .i64 n.op, .int .i64 n.k, .int .i64 n.stride, .int .i64 n.pad, .int .i64 n.out, .int .i64 n.mul, .int .i64 n.shift, .int .i64 n.zero]) (by simp [results, Tryz.results85, go_sem, *]) rfl ⟨rfl, by (exact kKeep)⟩
end Go.Proofs.YtejllmjkeefloaaGreat
namespace Go.Proofs.YtejllmjkeefloaaGreat
open Go.ChangeShapes Go.WideShapes Go.ChangeAt Go.RowKit
set_option maxRecDepth 20000
set_option linter.unusedVariables false

set_option maxHeartbeats 4000000 in
theorem eq8 (a0 a1 a2 a3 a4 a5 a6 a7 b0 b1 b2 b3 b4 b5 b6 b7 : Int) (w : World) : (Op.equalIn 10000 123 (.agg #[.int .i64 a0, .int .i64 a1, .int .i64 a2, .int .i64 a3, .int .i64 a4, .int .i64 a5, .int .i64 a6, .int .i64 a7]) (.agg #[.int .i64 b0, .int .i64 b1, .int .i64 b2, .int .i64 b3, .int .i64 b4, .int .i64 b5, .int .i64 b6, .int .i64 b7])).run Tryz.prog w = .ok (a0 == b0 && (a1 == b1 && (a2 == b2 && (a3 == b3 && (a4 == b4 && (a5 == b5 && (a6 == b6 && a7 == b7))))))) w := by
  have ku := Tryz.underlying3
  have ka := Tryz.isAgg3
  have kz := Tryz.sizeOf3
  rw [show (10000 : Nat) = 9999 + 1 from rfl, Op.equalIn]
  simp only [Sem.run_bind, run_underlying Tryz.underlying123, Result.andThen_ok]
  simp only [Std.Legacy.Range.forIn_eq_forIn_range', Std.Legacy.Range.size, Nat.sub_zero, Nat.add_sub_cancel, Nat.div_one, List.range'_succ, List.range'_zero, List.forIn_cons, List.forIn_nil]
  cases e0 : (a0 == b0)
  · go_simp
  cases e1 : (a1 == b1)
  · go_simp
  cases e2 : (a2 == b2)
  · go_simp
  cases e3 : (a3 == b3)
  · go_simp
  cases e4 : (a4 == b4)
  · go_simp
  cases e5 : (a5 == b5)
  · go_simp
  cases e6 : (a6 == b6)
  · go_simp
  cases e7 : (a7 == b7)
  · go_simp
  · go_simp
end Go.Proofs.YtejllmjkeefloaaGreat
namespace Go.Proofs.YtejllmjkeefloaaGreat
open Go.ChangeShapes Go.WideShapes Go.ChangeAt Go.RowKit
set_option maxRecDepth 20000
set_option linter.unusedVariables false
set_option linter.unusedSimpArgs false

theorem mark_any (x : Int) (W : World) (h0 : 0 ≤ x) (h1 : x < 16777216) : Calls Tryz.prog 55 #[.int .i64 x] W fun e w' => e = .returned (.agg #[.int .u8 (x / 65536 % 256), .int .u8 (x / 256 % 256), .int .u8 (x % 256)]) ∧ Past W w' := by
  go_enter Tryz.func55, Tryz.ntmps55
  go_upto_region 1 with fail
  obtain ⟨Q, hQ⟩ : ∃ Q, W.heap.size = Q := ⟨_, rfl⟩
  refine opq (fun w' => (∀ o : Nat, w'.cell? ⟨Q, o, none⟩ = (#[.int .u8 0, .int .u8 0, .int .u8 0] : Array Value)[o]?) ∧ (∀ o : Nat, w'.frozen? ⟨Q, o, none⟩ = false) ∧ Past W w' ∧ Q + 1 ≤ w'.heap.size) (by
    subst hQ
    exact ⟨by (exact kKeep), by (exact kKeep), by (exact kKeep), by (exact kKeep)⟩) ?_
  rintro w0 ⟨q0, f0, p0, s0⟩
  try rw [hQ]
  go_wp2_with fail
  have b4 := box_set3 (y0 := .int .u8 (x / 65536)) (y1 := .int .u8 (x / 256 % 256)) (y2 := .int .u8 (x % 256)) q0
  have p4 : Past W (((w0.setCell ⟨Q, 0, none⟩ (.int .u8 (x / 65536))).setCell ⟨Q, 1, none⟩ (.int .u8 (x / 256 % 256))).setCell ⟨Q, 2, none⟩ (.int .u8 (x % 256))) := ((p0.setCell (p := ⟨Q, 0, none⟩) (by simp only; omega) _).setCell (p := ⟨Q, 1, none⟩) (by simp only; omega) _).setCell (p := ⟨Q, 2, none⟩) (by simp only; omega) _
  clear q0 p0
  generalize (((w0.setCell ⟨Q, 0, none⟩ (.int .u8 (x / 65536))).setCell ⟨Q, 1, none⟩ (.int .u8 (x / 256 % 256))).setCell ⟨Q, 2, none⟩ (.int .u8 (x % 256))) = w9 at *
  exact bodyPost_ret (v := .agg #[.int .u8 (x / 65536), .int .u8 (x / 256 % 256), .int .u8 (x % 256)]) (by simp [results, Tryz.results55, go_sem, b4]) rfl ⟨by rw [show x / 65536 % 256 = x / 65536 by omega], p4⟩
end Go.Proofs.YtejllmjkeefloaaGreat
namespace Go.Proofs.YtejllmjkeefloaaGreat
open Go.ChangeShapes Go.WideShapes Go.ChangeAt Go.RowKit
set_option maxRecDepth 20000
set_option linter.unusedVariables false

theorem str_of_nums {w : World} {v : Value} {xs : List Int} (h : IsNums .u8 w v xs) : (convert 22 9 v).run Tryz.prog w = .ok (.string (strOfNums xs)) w := by
  obtain ⟨A, cap, rfl, h2, h3, h4, h5, h6⟩ := h
  by_cases hp : 0 < xs.length
  · obtain ⟨b, off, rfl, hb, hc⟩ := h6 hp
    exact run_convert_bytes_arg w 22 5 Tryz.underlying22 Tryz.underlying5 b off xs.length cap xs rfl hc 9 Tryz.underlying9
  · obtain rfl : xs = [] := List.eq_nil_of_length_eq_zero (by omega)
    cases A with
    | none => exact run_convert_bytes_nil w 22 5 Tryz.underlying22 Tryz.underlying5 _ _ 9 Tryz.underlying9
    | some a =>
      rw [run_convert_bytes_string w 22 9 5 _ _ _ Tryz.underlying22 Tryz.underlying5 Tryz.underlying9]
      simp [Conv.bytesToString, loadCells]
      rfl
end Go.Proofs.YtejllmjkeefloaaGreat

namespace Go.Proofs.YtejllmjkeefloaaGreat
open Go.ChangeShapes Go.WideShapes Go.ChangeAt Go.RowKit
set_option maxRecDepth 20000
set_option linter.unusedVariables false

theorem cut_lessD (g : GraphD) : Cut (lessD g) := by
  refine ⟨by simp [lessD]; omega, fun n hn => ?_⟩
  simp only [lessD, List.mem_map] at hn
  obtain ⟨m, _, rfl⟩ := hn
  constructor
  · simp [fewD]; omega
  · simp [fewD]; omega
theorem nodesLen_bd (ns : List NodeD) : nodesLen (ns.map fewD) ≤ 5116 * ns.length := by
  induction ns with
  | nil => simp [nodesLen]
  | cons n ns ih =>
    simp only [nodesLen, List.map_cons, List.sum_cons, List.length_cons] at ih ⊢
    have h1 : (fewD n).ins.length ≤ 20 := by simp [fewD]; omega
    have h2 : (fewD n).ws.length ≤ 5000 := by simp [fewD]; omega
    have h3 : (fewD n).bs.length ≤ 20 := by simp [fewD]; omega
    omega
theorem lessD_len (g : GraphD) : (graphB (lessD g)).length ≤ 100000 := by
  rw [graphB_len]
  have h1 : (lessD g).ins.length ≤ 6 := by simp [lessD]; omega
  have h2 : (lessD g).outs.length ≤ 6 := by simp [lessD]; omega
  have h3 := nodesLen_bd (g.nodes.take 14)
  have h4 : (g.nodes.take 14).length ≤ 14 := by simp; omega
  have e : (lessD g).nodes = (g.nodes.take 14).map fewD := rfl
  rw [e]
  omega
end Go.Proofs.YtejllmjkeefloaaGreat
