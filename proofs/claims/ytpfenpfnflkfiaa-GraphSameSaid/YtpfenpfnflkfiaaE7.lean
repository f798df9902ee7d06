/- graph.sameNode, whole; the reference's Same. -/
import Derived.Test.YtpfenpfnflkfiaaE5A
import Derived.Test.YtpfenpfnflkfiaaE5B
import Derived.Test.YtpfenpfnflkfiaaE5C
import Derived.Test.YtpfenpfnflkfiaaE6
import Derived.Test.YtpfenpfnflkfiaaE3
namespace Go.Proofs.Ytpfenpfnflkfiaa
open Go.ChangeShapes Go.WideShapes Go.ChangeAt Go.RowKit
set_option maxRecDepth 20000
set_option linter.unusedVariables false

theorem beq_f {x y : Int} (h : ¬ x = y) : (x == y) = false := by simpa using h
theorem beq_t {x y : Int} (h : x = y) : (x == y) = true := by simpa using h

theorem same_node_ok : SameNodeOk := by
  intro a b va vb t w ha hb ht
  obtain ⟨vi, vw, vb', rfl, ⟨i1, i2, i3⟩, _⟩ := ha
  obtain ⟨ui, uw, ub, rfl, ⟨j1, j2, j3⟩, _⟩ := hb
  obtain ⟨Ai, ci, rfl⟩ := nums_slice i1
  obtain ⟨Aw, cw, rfl⟩ := nums_slice i2
  obtain ⟨Ab, cb, rfl⟩ := nums_slice i3
  obtain ⟨Bi, di, rfl⟩ := nums_slice j1
  obtain ⟨Bw, dw, rfl⟩ := nums_slice j2
  obtain ⟨Bb, db, rfl⟩ := nums_slice j3
  have Q : ∀ w, (Op.equalIn 10000 92 (.agg #[.int .i64 a.op, .int .i64 a.k, .int .i64 a.stride, .int .i64 a.pad, .int .i64 a.out, .int .i64 a.mul, .int .i64 a.shift, .int .i64 a.zero]) (.agg #[.int .i64 b.op, .int .i64 b.k, .int .i64 b.stride, .int .i64 b.pad, .int .i64 b.out, .int .i64 b.mul, .int .i64 b.shift, .int .i64 b.zero])).run Try.prog w = .ok (a.op == b.op && (a.k == b.k && (a.stride == b.stride && (a.pad == b.pad && (a.out == b.out && (a.mul == b.mul && (a.shift == b.shift && a.zero == b.zero))))))) w := fun w => eq8 _ _ _ _ _ _ _ _ _ _ _ _ _ _ _ _ w
  rw [node_eq] at ht
  have no : ∀ {p : Prop}, ¬ p → (t = true → p) → t = false := fun h k => Bool.eq_false_iff.mpr (fun e => h (k e))
  by_cases c8 : a.op = b.op ∧ a.k = b.k ∧ a.stride = b.stride ∧ a.pad = b.pad ∧ a.out = b.out ∧ a.mul = b.mul ∧ a.shift = b.shift ∧ a.zero = b.zero
  · have q8 : (a.op == b.op && (a.k == b.k && (a.stride == b.stride && (a.pad == b.pad && (a.out == b.out && (a.mul == b.mul && (a.shift == b.shift && a.zero == b.zero))))))) = true := by simpa using c8
    rw [q8] at Q
    by_cases c9 : a.th = b.th
    · by_cases c10 : a.tw = b.tw
      · by_cases c11 : a.tc = b.tc
        · by_cases d1 : a.ins = b.ins
          · by_cases d2 : a.ws = b.ws
            · by_cases d3 : a.bs = b.bs
              · obtain rfl : t = true := ht.mpr ⟨c8.1, d1, c8.2.1, c8.2.2.1, c8.2.2.2.1, c8.2.2.2.2.1, c8.2.2.2.2.2.1, c8.2.2.2.2.2.2.1, c8.2.2.2.2.2.2.2, c9, c10, c11, d2, d3⟩
                exact same_case14 a b w Ai Aw Ab Bi Bw Bb ci cw cb di dw db Q (beq_t c9) (beq_t c10) (beq_t c11) (Lib.hid ⟨fun _ => d1, fun _ => rfl⟩) i1 j1 (Lib.hid ⟨fun _ => d2, fun _ => rfl⟩) i2 j2 (Lib.hid ⟨fun _ => d3, fun _ => rfl⟩) i3 j3
              · obtain rfl : t = false := no d3 (fun e => (ht.mp e).2.2.2.2.2.2.2.2.2.2.2.2.2)
                exact same_case13 a b w Ai Aw Ab Bi Bw Bb ci cw cb di dw db Q (beq_t c9) (beq_t c10) (beq_t c11) (Lib.hid ⟨fun _ => d1, fun _ => rfl⟩) i1 j1 (Lib.hid ⟨fun _ => d2, fun _ => rfl⟩) i2 j2 (Lib.hid ⟨fun h => (by cases h), fun h => absurd h d3⟩) i3 j3
            · obtain rfl : t = false := no d2 (fun e => (ht.mp e).2.2.2.2.2.2.2.2.2.2.2.2.1)
              exact same_case12 a b w Ai Aw Ab Bi Bw Bb ci cw cb di dw db Q (beq_t c9) (beq_t c10) (beq_t c11) (Lib.hid ⟨fun _ => d1, fun _ => rfl⟩) i1 j1 (Lib.hid ⟨fun h => (by cases h), fun h => absurd h d2⟩) i2 j2
          · obtain rfl : t = false := no d1 (fun e => (ht.mp e).2.1)
            exact same_case11 a b w Ai Aw Ab Bi Bw Bb ci cw cb di dw db Q (beq_t c9) (beq_t c10) (beq_t c11) (Lib.hid ⟨fun h => (by cases h), fun h => absurd h d1⟩) i1 j1
        · obtain rfl : t = false := no c11 (fun e => (ht.mp e).2.2.2.2.2.2.2.2.2.2.2.1)
          exact same_case10 a b w Ai Aw Ab Bi Bw Bb ci cw cb di dw db Q (beq_t c9) (beq_t c10) (beq_f c11)
      · obtain rfl : t = false := no c10 (fun e => (ht.mp e).2.2.2.2.2.2.2.2.2.2.1)
        exact same_case9 a b w Ai Aw Ab Bi Bw Bb ci cw cb di dw db Q (beq_t c9) (beq_f c10)
    · obtain rfl : t = false := no c9 (fun e => (ht.mp e).2.2.2.2.2.2.2.2.2.1)
      exact same_case8 a b w Ai Aw Ab Bi Bw Bb ci cw cb di dw db Q (beq_f c9)
  · have q8 : (a.op == b.op && (a.k == b.k && (a.stride == b.stride && (a.pad == b.pad && (a.out == b.out && (a.mul == b.mul && (a.shift == b.shift && a.zero == b.zero))))))) = false := by
      rw [Bool.eq_false_iff]
      intro h
      exact c8 (by simpa using h)
    rw [q8] at Q
    obtain rfl : t = false := no c8 (fun e => by
      obtain ⟨h1, _, h2, h3, h4, h5, h6, h7, h8, _⟩ := ht.mp e
      exact ⟨h1, h2, h3, h4, h5, h6, h7, h8⟩)
    exact same_case0 a b w Ai Aw Ab Bi Bw Bb ci cw cb di dw db Q
end Go.Proofs.Ytpfenpfnflkfiaa
