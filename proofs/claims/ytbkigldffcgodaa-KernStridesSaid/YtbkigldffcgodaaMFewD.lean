/- few: a node of at most 20 values, 5000 weights and 20 biases. -/
import Derived.Test.YtbkigldffcgodaaMRead
import Derived.OpenShut
namespace Go.Proofs.Ytbkigldffcgodaa
open Go.ChangeShapes Go.WideShapes Go.ChangeAt Go.RowKit

theorem results_cell_one {fn : Func} {p : Tmp} {ty : TypeId} (h : fn.results = #[.cell p ty]) (tmps : Array Value) (P : Program) (w : World) :
    (results fn tmps).run P w = ((asAddr (tmps.getD p undef)).run P w).andThen fun a w₁ => (loadVar ty a).run P w₁ := by
  simp only [results, h]
  simp [Sem.run_bind, Result.andThen]

set_option linter.unusedVariables false
def fewD (n : NodeD) : NodeD := { n with ins := n.ins.take 20, ws := n.ws.take 5000, bs := n.bs.take 20 }

/-- A slice, or its first m. -/
theorem nums_cut {k : IntKind} {w : World} {v : Value} {xs : List Int} (m : Nat) (h : IsNums k w v xs) :
    (∃ (A : Option Addr) (len cap : Nat), v = .slice A len cap ∧ len ≤ m ∧ len ≤ cap ∧ cap ≤ maxLen ∧ IsNums k w (.slice A len cap) (xs.take m)) ∨
    (∃ (b off len cap : Nat), v = .slice (some ⟨b, off, none⟩) len cap ∧ m < len ∧ len ≤ cap ∧ cap ≤ maxLen ∧ IsNums k w (.slice (some ⟨b, off, none⟩) m cap) (xs.take m)) := by
  have h0 := h
  obtain ⟨A, cap, h1, h2, h3, h4, h5, h6⟩ := h
  by_cases c : xs.length ≤ m
  · exact Or.inl ⟨A, xs.length, cap, h1, c, h2, h3, by rw [List.take_of_length_le c, ← h1]; exact h0⟩
  · obtain ⟨b, off, rfl, hb, hc⟩ := h6 (by omega)
    have hl : (xs.take m).length = m := by rw [List.length_take]; omega
    refine Or.inr ⟨b, off, xs.length, cap, h1, by omega, h2, h3, some ⟨b, off, none⟩, cap, by rw [hl], by omega, h3, (fun h => by cases h), fun x hx => h5 x (List.mem_of_mem_take hx), fun _ => ⟨b, off, rfl, hb, fun i hi => ?_⟩⟩
    rw [hl] at hi
    rw [hc i (by omega)]
    simp [List.getD, hi]

theorem few_end {w0 w w' : World} {n : NodeD} {v1 v2 v3 : Value} (h1 : IsNums .i64 w0 v1 (n.ins.take 20)) (h2 : IsNums .i8 w0 v2 (n.ws.take 5000)) (h3 : IsNums .i32 w0 v3 (n.bs.take 20)) (wf : NodeWf n) (g : Grown w w') :
    IsNode w0 (.agg ⟨nodeCells (fewD n) v1 v2 v3⟩) (fewD n) ∧ Grown w w' :=
  ⟨⟨v1, v2, v3, rfl, ⟨h1, h2, h3⟩, wf⟩, g⟩

theorem few_000 (w0 w : World) (n : NodeD) (WF : Hid (NodeWf n)) (A1 : Option Addr) (l1 c1 : Nat) (p1 : l1 ≤ 20) (q1 : l1 ≤ c1) (r1 : c1 ≤ maxLen) (S1 : IsNums .i64 w0 (.slice A1 l1 c1) (n.ins.take 20)) (A2 : Option Addr) (l2 c2 : Nat) (p2 : l2 ≤ 5000) (q2 : l2 ≤ c2) (r2 : c2 ≤ maxLen) (S2 : IsNums .i8 w0 (.slice A2 l2 c2) (n.ws.take 5000)) (A3 : Option Addr) (l3 c3 : Nat) (p3 : l3 ≤ 20) (q3 : l3 ≤ c3) (r3 : c3 ≤ maxLen) (S3 : IsNums .i32 w0 (.slice A3 l3 c3) (n.bs.take 20)) :
    Calls Try.prog 14 #[.agg #[.int .i64 n.op, .slice A1 l1 c1, .int .i64 n.k, .int .i64 n.stride, .int .i64 n.pad, .int .i64 n.out, .int .i64 n.mul, .int .i64 n.shift, .int .i64 n.zero, .int .i64 n.th, .int .i64 n.tw, .int .i64 n.tc, .slice A2 l2 c2, .slice A3 l3 c3]] w fun e w' => e = .returned (.agg ⟨nodeCells (fewD n) (.slice A1 l1 c1) (.slice A2 l2 c2) (.slice A3 l3 c3)⟩) ∧ IsNode w0 (.agg ⟨nodeCells (fewD n) (.slice A1 l1 c1) (.slice A2 l2 c2) (.slice A3 l3 c3)⟩) (fewD n) ∧ Grown w w' := by
  go_enter Try.func14, Try.ntmps14
  go_wp2
  try simp only [Exit.inBlock, Exit.then]
  refine bodyPost_ret (v := .agg ⟨nodeCells (fewD n) (.slice A1 l1 c1) (.slice A2 l2 c2) (.slice A3 l3 c3)⟩) ?_ rfl ⟨rfl, ?_⟩
  · rw [results_cell_one rfl]
    go_simp
    rfl
  · refine few_end S1 S2 S3 WF.out ?_
    repeat (first | exact Grown.refl _ | (with_reducible apply Grown.drew) | (with_reducible apply Grown.alloc) | (with_reducible refine Grown.setCell ?_ (by simp) _))

theorem few_001 (w0 w : World) (n : NodeD) (WF : Hid (NodeWf n)) (A1 : Option Addr) (l1 c1 : Nat) (p1 : l1 ≤ 20) (q1 : l1 ≤ c1) (r1 : c1 ≤ maxLen) (S1 : IsNums .i64 w0 (.slice A1 l1 c1) (n.ins.take 20)) (A2 : Option Addr) (l2 c2 : Nat) (p2 : l2 ≤ 5000) (q2 : l2 ≤ c2) (r2 : c2 ≤ maxLen) (S2 : IsNums .i8 w0 (.slice A2 l2 c2) (n.ws.take 5000)) (b3 o3 l3 c3 : Nat) (p3 : 20 < l3) (q3 : l3 ≤ c3) (r3 : c3 ≤ maxLen) (S3 : IsNums .i32 w0 (.slice (some ⟨b3, o3, none⟩) 20 c3) (n.bs.take 20)) :
    Calls Try.prog 14 #[.agg #[.int .i64 n.op, .slice A1 l1 c1, .int .i64 n.k, .int .i64 n.stride, .int .i64 n.pad, .int .i64 n.out, .int .i64 n.mul, .int .i64 n.shift, .int .i64 n.zero, .int .i64 n.th, .int .i64 n.tw, .int .i64 n.tc, .slice A2 l2 c2, .slice (some ⟨b3, o3, none⟩) l3 c3]] w fun e w' => e = .returned (.agg ⟨nodeCells (fewD n) (.slice A1 l1 c1) (.slice A2 l2 c2) (.slice (some ⟨b3, o3, none⟩) 20 c3)⟩) ∧ IsNode w0 (.agg ⟨nodeCells (fewD n) (.slice A1 l1 c1) (.slice A2 l2 c2) (.slice (some ⟨b3, o3, none⟩) 20 c3)⟩) (fewD n) ∧ Grown w w' := by
  go_enter Try.func14, Try.ntmps14
  go_wp2
  try simp only [Exit.inBlock, Exit.then]
  refine bodyPost_ret (v := .agg ⟨nodeCells (fewD n) (.slice A1 l1 c1) (.slice A2 l2 c2) (.slice (some ⟨b3, o3, none⟩) 20 c3)⟩) ?_ rfl ⟨rfl, ?_⟩
  · rw [results_cell_one rfl]
    go_simp
    rfl
  · refine few_end S1 S2 S3 WF.out ?_
    repeat (first | exact Grown.refl _ | (with_reducible apply Grown.drew) | (with_reducible apply Grown.alloc) | (with_reducible refine Grown.setCell ?_ (by simp) _))

theorem few_010 (w0 w : World) (n : NodeD) (WF : Hid (NodeWf n)) (A1 : Option Addr) (l1 c1 : Nat) (p1 : l1 ≤ 20) (q1 : l1 ≤ c1) (r1 : c1 ≤ maxLen) (S1 : IsNums .i64 w0 (.slice A1 l1 c1) (n.ins.take 20)) (b2 o2 l2 c2 : Nat) (p2 : 5000 < l2) (q2 : l2 ≤ c2) (r2 : c2 ≤ maxLen) (S2 : IsNums .i8 w0 (.slice (some ⟨b2, o2, none⟩) 5000 c2) (n.ws.take 5000)) (A3 : Option Addr) (l3 c3 : Nat) (p3 : l3 ≤ 20) (q3 : l3 ≤ c3) (r3 : c3 ≤ maxLen) (S3 : IsNums .i32 w0 (.slice A3 l3 c3) (n.bs.take 20)) :
    Calls Try.prog 14 #[.agg #[.int .i64 n.op, .slice A1 l1 c1, .int .i64 n.k, .int .i64 n.stride, .int .i64 n.pad, .int .i64 n.out, .int .i64 n.mul, .int .i64 n.shift, .int .i64 n.zero, .int .i64 n.th, .int .i64 n.tw, .int .i64 n.tc, .slice (some ⟨b2, o2, none⟩) l2 c2, .slice A3 l3 c3]] w fun e w' => e = .returned (.agg ⟨nodeCells (fewD n) (.slice A1 l1 c1) (.slice (some ⟨b2, o2, none⟩) 5000 c2) (.slice A3 l3 c3)⟩) ∧ IsNode w0 (.agg ⟨nodeCells (fewD n) (.slice A1 l1 c1) (.slice (some ⟨b2, o2, none⟩) 5000 c2) (.slice A3 l3 c3)⟩) (fewD n) ∧ Grown w w' := by
  go_enter Try.func14, Try.ntmps14
  go_wp2
  try simp only [Exit.inBlock, Exit.then]
  refine bodyPost_ret (v := .agg ⟨nodeCells (fewD n) (.slice A1 l1 c1) (.slice (some ⟨b2, o2, none⟩) 5000 c2) (.slice A3 l3 c3)⟩) ?_ rfl ⟨rfl, ?_⟩
  · rw [results_cell_one rfl]
    go_simp
    rfl
  · refine few_end S1 S2 S3 WF.out ?_
    repeat (first | exact Grown.refl _ | (with_reducible apply Grown.drew) | (with_reducible apply Grown.alloc) | (with_reducible refine Grown.setCell ?_ (by simp) _))

theorem few_011 (w0 w : World) (n : NodeD) (WF : Hid (NodeWf n)) (A1 : Option Addr) (l1 c1 : Nat) (p1 : l1 ≤ 20) (q1 : l1 ≤ c1) (r1 : c1 ≤ maxLen) (S1 : IsNums .i64 w0 (.slice A1 l1 c1) (n.ins.take 20)) (b2 o2 l2 c2 : Nat) (p2 : 5000 < l2) (q2 : l2 ≤ c2) (r2 : c2 ≤ maxLen) (S2 : IsNums .i8 w0 (.slice (some ⟨b2, o2, none⟩) 5000 c2) (n.ws.take 5000)) (b3 o3 l3 c3 : Nat) (p3 : 20 < l3) (q3 : l3 ≤ c3) (r3 : c3 ≤ maxLen) (S3 : IsNums .i32 w0 (.slice (some ⟨b3, o3, none⟩) 20 c3) (n.bs.take 20)) :
    Calls Try.prog 14 #[.agg #[.int .i64 n.op, .slice A1 l1 c1, .int .i64 n.k, .int .i64 n.stride, .int .i64 n.pad, .int .i64 n.out, .int .i64 n.mul, .int .i64 n.shift, .int .i64 n.zero, .int .i64 n.th, .int .i64 n.tw, .int .i64 n.tc, .slice (some ⟨b2, o2, none⟩) l2 c2, .slice (some ⟨b3, o3, none⟩) l3 c3]] w fun e w' => e = .returned (.agg ⟨nodeCells (fewD n) (.slice A1 l1 c1) (.slice (some ⟨b2, o2, none⟩) 5000 c2) (.slice (some ⟨b3, o3, none⟩) 20 c3)⟩) ∧ IsNode w0 (.agg ⟨nodeCells (fewD n) (.slice A1 l1 c1) (.slice (some ⟨b2, o2, none⟩) 5000 c2) (.slice (some ⟨b3, o3, none⟩) 20 c3)⟩) (fewD n) ∧ Grown w w' := by
  go_enter Try.func14, Try.ntmps14
  go_wp2
  try simp only [Exit.inBlock, Exit.then]
  refine bodyPost_ret (v := .agg ⟨nodeCells (fewD n) (.slice A1 l1 c1) (.slice (some ⟨b2, o2, none⟩) 5000 c2) (.slice (some ⟨b3, o3, none⟩) 20 c3)⟩) ?_ rfl ⟨rfl, ?_⟩
  · rw [results_cell_one rfl]
    go_simp
    rfl
  · refine few_end S1 S2 S3 WF.out ?_
    repeat (first | exact Grown.refl _ | (with_reducible apply Grown.drew) | (with_reducible apply Grown.alloc) | (with_reducible refine Grown.setCell ?_ (by simp) _))

theorem few_100 (w0 w : World) (n : NodeD) (WF : Hid (NodeWf n)) (b1 o1 l1 c1 : Nat) (p1 : 20 < l1) (q1 : l1 ≤ c1) (r1 : c1 ≤ maxLen) (S1 : IsNums .i64 w0 (.slice (some ⟨b1, o1, none⟩) 20 c1) (n.ins.take 20)) (A2 : Option Addr) (l2 c2 : Nat) (p2 : l2 ≤ 5000) (q2 : l2 ≤ c2) (r2 : c2 ≤ maxLen) (S2 : IsNums .i8 w0 (.slice A2 l2 c2) (n.ws.take 5000)) (A3 : Option Addr) (l3 c3 : Nat) (p3 : l3 ≤ 20) (q3 : l3 ≤ c3) (r3 : c3 ≤ maxLen) (S3 : IsNums .i32 w0 (.slice A3 l3 c3) (n.bs.take 20)) :
    Calls Try.prog 14 #[.agg #[.int .i64 n.op, .slice (some ⟨b1, o1, none⟩) l1 c1, .int .i64 n.k, .int .i64 n.stride, .int .i64 n.pad, .int .i64 n.out, .int .i64 n.mul, .int .i64 n.shift, .int .i64 n.zero, .int .i64 n.th, .int .i64 n.tw, .int .i64 n.tc, .slice A2 l2 c2, .slice A3 l3 c3]] w fun e w' => e = .returned (.agg ⟨nodeCells (fewD n) (.slice (some ⟨b1, o1, none⟩) 20 c1) (.slice A2 l2 c2) (.slice A3 l3 c3)⟩) ∧ IsNode w0 (.agg ⟨nodeCells (fewD n) (.slice (some ⟨b1, o1, none⟩) 20 c1) (.slice A2 l2 c2) (.slice A3 l3 c3)⟩) (fewD n) ∧ Grown w w' := by
  go_enter Try.func14, Try.ntmps14
  go_wp2
  try simp only [Exit.inBlock, Exit.then]
  refine bodyPost_ret (v := .agg ⟨nodeCells (fewD n) (.slice (some ⟨b1, o1, none⟩) 20 c1) (.slice A2 l2 c2) (.slice A3 l3 c3)⟩) ?_ rfl ⟨rfl, ?_⟩
  · rw [results_cell_one rfl]
    go_simp
    rfl
  · refine few_end S1 S2 S3 WF.out ?_
    repeat (first | exact Grown.refl _ | (with_reducible apply Grown.drew) | (with_reducible apply Grown.alloc) | (with_reducible refine Grown.setCell ?_ (by simp) _))

theorem few_101 (w0 w : World) (n : NodeD) (WF : Hid (NodeWf n)) (b1 o1 l1 c1 : Nat) (p1 : 20 < l1) (q1 : l1 ≤ c1) (r1 : c1 ≤ maxLen) (S1 : IsNums .i64 w0 (.slice (some ⟨b1, o1, none⟩) 20 c1) (n.ins.take 20)) (A2 : Option Addr) (l2 c2 : Nat) (p2 : l2 ≤ 5000) (q2 : l2 ≤ c2) (r2 : c2 ≤ maxLen) (S2 : IsNums .i8 w0 (.slice A2 l2 c2) (n.ws.take 5000)) (b3 o3 l3 c3 : Nat) (p3 : 20 < l3) (q3 : l3 ≤ c3) (r3 : c3 ≤ maxLen) (S3 : IsNums .i32 w0 (.slice (some ⟨b3, o3, none⟩) 20 c3) (n.bs.take 20)) :
    Calls Try.prog 14 #[.agg #[.int .i64 n.op, .slice (some ⟨b1, o1, none⟩) l1 c1, .int .i64 n.k, .int .i64 n.stride, .int .i64 n.pad, .int .i64 n.out, .int .i64 n.mul, .int .i64 n.shift, .int .i64 n.zero, .int .i64 n.th, .int .i64 n.tw, .int .i64 n.tc, .slice A2 l2 c2, .slice (some ⟨b3, o3, none⟩) l3 c3]] w fun e w' => e = .returned (.agg ⟨nodeCells (fewD n) (.slice (some ⟨b1, o1, none⟩) 20 c1) (.slice A2 l2 c2) (.slice (some ⟨b3, o3, none⟩) 20 c3)⟩) ∧ IsNode w0 (.agg ⟨nodeCells (fewD n) (.slice (some ⟨b1, o1, none⟩) 20 c1) (.slice A2 l2 c2) (.slice (some ⟨b3, o3, none⟩) 20 c3)⟩) (fewD n) ∧ Grown w w' := by
  go_enter Try.func14, Try.ntmps14
  go_wp2
  try simp only [Exit.inBlock, Exit.then]
  refine bodyPost_ret (v := .agg ⟨nodeCells (fewD n) (.slice (some ⟨b1, o1, none⟩) 20 c1) (.slice A2 l2 c2) (.slice (some ⟨b3, o3, none⟩) 20 c3)⟩) ?_ rfl ⟨rfl, ?_⟩
  · rw [results_cell_one rfl]
    go_simp
    rfl
  · refine few_end S1 S2 S3 WF.out ?_
    repeat (first | exact Grown.refl _ | (with_reducible apply Grown.drew) | (with_reducible apply Grown.alloc) | (with_reducible refine Grown.setCell ?_ (by simp) _))

theorem few_110 (w0 w : World) (n : NodeD) (WF : Hid (NodeWf n)) (b1 o1 l1 c1 : Nat) (p1 : 20 < l1) (q1 : l1 ≤ c1) (r1 : c1 ≤ maxLen) (S1 : IsNums .i64 w0 (.slice (some ⟨b1, o1, none⟩) 20 c1) (n.ins.take 20)) (b2 o2 l2 c2 : Nat) (p2 : 5000 < l2) (q2 : l2 ≤ c2) (r2 : c2 ≤ maxLen) (S2 : IsNums .i8 w0 (.slice (some ⟨b2, o2, none⟩) 5000 c2) (n.ws.take 5000)) (A3 : Option Addr) (l3 c3 : Nat) (p3 : l3 ≤ 20) (q3 : l3 ≤ c3) (r3 : c3 ≤ maxLen) (S3 : IsNums .i32 w0 (.slice A3 l3 c3) (n.bs.take 20)) :
    Calls Try.prog 14 #[.agg #[.int .i64 n.op, .slice (some ⟨b1, o1, none⟩) l1 c1, .int .i64 n.k, .int .i64 n.stride, .int .i64 n.pad, .int .i64 n.out, .int .i64 n.mul, .int .i64 n.shift, .int .i64 n.zero, .int .i64 n.th, .int .i64 n.tw, .int .i64 n.tc, .slice (some ⟨b2, o2, none⟩) l2 c2, .slice A3 l3 c3]] w fun e w' => e = .returned (.agg ⟨nodeCells (fewD n) (.slice (some ⟨b1, o1, none⟩) 20 c1) (.slice (some ⟨b2, o2, none⟩) 5000 c2) (.slice A3 l3 c3)⟩) ∧ IsNode w0 (.agg ⟨nodeCells (fewD n) (.slice (some ⟨b1, o1, none⟩) 20 c1) (.slice (some ⟨b2, o2, none⟩) 5000 c2) (.slice A3 l3 c3)⟩) (fewD n) ∧ Grown w w' := by
  go_enter Try.func14, Try.ntmps14
  go_wp2
  try simp only [Exit.inBlock, Exit.then]
  refine bodyPost_ret (v := .agg ⟨nodeCells (fewD n) (.slice (some ⟨b1, o1, none⟩) 20 c1) (.slice (some ⟨b2, o2, none⟩) 5000 c2) (.slice A3 l3 c3)⟩) ?_ rfl ⟨rfl, ?_⟩
  · rw [results_cell_one rfl]
    go_simp
    rfl
  · refine few_end S1 S2 S3 WF.out ?_
    repeat (first | exact Grown.refl _ | (with_reducible apply Grown.drew) | (with_reducible apply Grown.alloc) | (with_reducible refine Grown.setCell ?_ (by simp) _))

theorem few_111 (w0 w : World) (n : NodeD) (WF : Hid (NodeWf n)) (b1 o1 l1 c1 : Nat) (p1 : 20 < l1) (q1 : l1 ≤ c1) (r1 : c1 ≤ maxLen) (S1 : IsNums .i64 w0 (.slice (some ⟨b1, o1, none⟩) 20 c1) (n.ins.take 20)) (b2 o2 l2 c2 : Nat) (p2 : 5000 < l2) (q2 : l2 ≤ c2) (r2 : c2 ≤ maxLen) (S2 : IsNums .i8 w0 (.slice (some ⟨b2, o2, none⟩) 5000 c2) (n.ws.take 5000)) (b3 o3 l3 c3 : Nat) (p3 : 20 < l3) (q3 : l3 ≤ c3) (r3 : c3 ≤ maxLen) (S3 : IsNums .i32 w0 (.slice (some ⟨b3, o3, none⟩) 20 c3) (n.bs.take 20)) :
    Calls Try.prog 14 #[.agg #[.int .i64 n.op, .slice (some ⟨b1, o1, none⟩) l1 c1, .int .i64 n.k, .int .i64 n.stride, .int .i64 n.pad, .int .i64 n.out, .int .i64 n.mul, .int .i64 n.shift, .int .i64 n.zero, .int .i64 n.th, .int .i64 n.tw, .int .i64 n.tc, .slice (some ⟨b2, o2, none⟩) l2 c2, .slice (some ⟨b3, o3, none⟩) l3 c3]] w fun e w' => e = .returned (.agg ⟨nodeCells (fewD n) (.slice (some ⟨b1, o1, none⟩) 20 c1) (.slice (some ⟨b2, o2, none⟩) 5000 c2) (.slice (some ⟨b3, o3, none⟩) 20 c3)⟩) ∧ IsNode w0 (.agg ⟨nodeCells (fewD n) (.slice (some ⟨b1, o1, none⟩) 20 c1) (.slice (some ⟨b2, o2, none⟩) 5000 c2) (.slice (some ⟨b3, o3, none⟩) 20 c3)⟩) (fewD n) ∧ Grown w w' := by
  go_enter Try.func14, Try.ntmps14
  go_wp2
  try simp only [Exit.inBlock, Exit.then]
  refine bodyPost_ret (v := .agg ⟨nodeCells (fewD n) (.slice (some ⟨b1, o1, none⟩) 20 c1) (.slice (some ⟨b2, o2, none⟩) 5000 c2) (.slice (some ⟨b3, o3, none⟩) 20 c3)⟩) ?_ rfl ⟨rfl, ?_⟩
  · rw [results_cell_one rfl]
    go_simp
    rfl
  · refine few_end S1 S2 S3 WF.out ?_
    repeat (first | exact Grown.refl _ | (with_reducible apply Grown.drew) | (with_reducible apply Grown.alloc) | (with_reducible refine Grown.setCell ?_ (by simp) _))

theorem few_det (w0 : World) (v : Value) (n : NodeD) (h : IsNode w0 v n) : ∃ v', IsNode w0 v' (fewD n) ∧ ∀ w, Calls Try.prog 14 #[v] w fun e w' => e = .returned v' ∧ Grown w w' := by
  obtain ⟨vi, vw, vb, rfl, ⟨hi, hw, hb⟩, wf⟩ := h
  have WF := Lib.hid wf
  clear wf
  rcases nums_cut 20 hi with ⟨A1, l1, c1, rfl, p1, q1, r1, S1⟩ | ⟨b1, o1, l1, c1, rfl, p1, q1, r1, S1⟩
  · rcases nums_cut 5000 hw with ⟨A2, l2, c2, rfl, p2, q2, r2, S2⟩ | ⟨b2, o2, l2, c2, rfl, p2, q2, r2, S2⟩
    · rcases nums_cut 20 hb with ⟨A3, l3, c3, rfl, p3, q3, r3, S3⟩ | ⟨b3, o3, l3, c3, rfl, p3, q3, r3, S3⟩
      · exact ⟨_, (few_end S1 S2 S3 WF.out (Grown.refl w0)).1, fun w => (few_000 w0 w n WF A1 l1 c1 p1 q1 r1 S1 A2 l2 c2 p2 q2 r2 S2 A3 l3 c3 p3 q3 r3 S3).mono (fun e w2 h => ⟨h.1, h.2.2⟩)⟩
      · exact ⟨_, (few_end S1 S2 S3 WF.out (Grown.refl w0)).1, fun w => (few_001 w0 w n WF A1 l1 c1 p1 q1 r1 S1 A2 l2 c2 p2 q2 r2 S2 b3 o3 l3 c3 p3 q3 r3 S3).mono (fun e w2 h => ⟨h.1, h.2.2⟩)⟩
    · rcases nums_cut 20 hb with ⟨A3, l3, c3, rfl, p3, q3, r3, S3⟩ | ⟨b3, o3, l3, c3, rfl, p3, q3, r3, S3⟩
      · exact ⟨_, (few_end S1 S2 S3 WF.out (Grown.refl w0)).1, fun w => (few_010 w0 w n WF A1 l1 c1 p1 q1 r1 S1 b2 o2 l2 c2 p2 q2 r2 S2 A3 l3 c3 p3 q3 r3 S3).mono (fun e w2 h => ⟨h.1, h.2.2⟩)⟩
      · exact ⟨_, (few_end S1 S2 S3 WF.out (Grown.refl w0)).1, fun w => (few_011 w0 w n WF A1 l1 c1 p1 q1 r1 S1 b2 o2 l2 c2 p2 q2 r2 S2 b3 o3 l3 c3 p3 q3 r3 S3).mono (fun e w2 h => ⟨h.1, h.2.2⟩)⟩
  · rcases nums_cut 5000 hw with ⟨A2, l2, c2, rfl, p2, q2, r2, S2⟩ | ⟨b2, o2, l2, c2, rfl, p2, q2, r2, S2⟩
    · rcases nums_cut 20 hb with ⟨A3, l3, c3, rfl, p3, q3, r3, S3⟩ | ⟨b3, o3, l3, c3, rfl, p3, q3, r3, S3⟩
      · exact ⟨_, (few_end S1 S2 S3 WF.out (Grown.refl w0)).1, fun w => (few_100 w0 w n WF b1 o1 l1 c1 p1 q1 r1 S1 A2 l2 c2 p2 q2 r2 S2 A3 l3 c3 p3 q3 r3 S3).mono (fun e w2 h => ⟨h.1, h.2.2⟩)⟩
      · exact ⟨_, (few_end S1 S2 S3 WF.out (Grown.refl w0)).1, fun w => (few_101 w0 w n WF b1 o1 l1 c1 p1 q1 r1 S1 A2 l2 c2 p2 q2 r2 S2 b3 o3 l3 c3 p3 q3 r3 S3).mono (fun e w2 h => ⟨h.1, h.2.2⟩)⟩
    · rcases nums_cut 20 hb with ⟨A3, l3, c3, rfl, p3, q3, r3, S3⟩ | ⟨b3, o3, l3, c3, rfl, p3, q3, r3, S3⟩
      · exact ⟨_, (few_end S1 S2 S3 WF.out (Grown.refl w0)).1, fun w => (few_110 w0 w n WF b1 o1 l1 c1 p1 q1 r1 S1 b2 o2 l2 c2 p2 q2 r2 S2 A3 l3 c3 p3 q3 r3 S3).mono (fun e w2 h => ⟨h.1, h.2.2⟩)⟩
      · exact ⟨_, (few_end S1 S2 S3 WF.out (Grown.refl w0)).1, fun w => (few_111 w0 w n WF b1 o1 l1 c1 p1 q1 r1 S1 b2 o2 l2 c2 p2 q2 r2 S2 b3 o3 l3 c3 p3 q3 r3 S3).mono (fun e w2 h => ⟨h.1, h.2.2⟩)⟩
end Go.Proofs.Ytbkigldffcgodaa
