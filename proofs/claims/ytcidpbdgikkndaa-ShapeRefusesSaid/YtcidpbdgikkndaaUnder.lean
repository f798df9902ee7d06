/- Worlds that grow; the closure of Reach. -/
import Derived.Test.YtcidpbdgikkndaaBase
namespace Go.Proofs.Ytcidpbdgikkndaa
open Go.ChangeShapes Go.WideShapes Go.ChangeAt Go.RowKit

theorem grown_trans {a b c : World} (h : Grown a b) (k : Grown b c) : Grown a c :=
  ⟨World.keptBut_trans h.1 (World.keptBut_mono (fun _ f => f.elim) k.1), fun x => (k.2.1 x).trans (h.2.1 x), Nat.le_trans h.2.2 k.2.2⟩

theorem wf_bd {x : Int} (h : (Lit.int .i64 x).wf = true) : -9223372036854775808 ≤ x ∧ x ≤ 9223372036854775807 := by
  simpa [Lit.wf, IntKind.min, IntKind.max, IntKind.bits, IntKind.signed] using h

theorem grown_cell {W w' : World} (h : Grown W w') {p : Addr} (hp : p.block < W.heap.size) : w'.cell? p = W.cell? p := by
  have k := h.1.2.2 p.block hp
  unfold World.cell?
  cases e1 : W.heap[p.block]? with
  | none => rw [e1] at k; simp at e1; omega
  | some o =>
    rw [e1] at k
    cases e2 : w'.heap[p.block]? with
    | none => rw [e2] at k; cases o <;> simp at k
    | some o' =>
      rw [e2] at k
      cases o <;> cases o' <;> simp_all

theorem ret_two {k : IntKind} {a b c d : Int} (h : a = b) (g : c = d) : Ending.returned (.tuple #[.int k a, .int k c]) = .returned (.tuple #[.int k b, .int k d]) := by rw [h, g]

theorem under_any (place stride pad k size l b : Int) (w : World) (p1 p2 p3 p4 : Addr) (h1 : -1000000 ≤ place * stride) (h2 : place * stride ≤ 1000000) (u1 : 0 ≤ pad) (u2 : pad ≤ 16) (v1 : 1 ≤ k) (v2 : k ≤ 16)
    (hl : Hid (l = max (place * stride - pad) 0)) (hb : Hid (b = min (place * stride - pad + k) size))
    (c1 : w.cell? p1 = some (.int .i64 stride)) (c2 : w.cell? p2 = some (.int .i64 pad)) (c3 : w.cell? p3 = some (.int .i64 k)) (c4 : w.cell? p4 = some (.int .i64 size)) :
    Calls Try.prog 26 #[.int .i64 place, .pointer (some p1), .pointer (some p2), .pointer (some p3), .pointer (some p4)] w fun e w' => e = .returned (.tuple #[.int .i64 l, .int .i64 b]) ∧ Grown w w' := by
  by_cases t1 : place * stride - pad < 0
  · by_cases t2 : place * stride - pad + k < size
    · go_enter Try.func26, Try.ntmps26
      go_wp2
      go_region
      all_goals go_wp2
      all_goals
        go_ret2
        exact ⟨ret_two (by rw [hl.out]; omega) (by rw [hb.out]; omega), by go_grown⟩
    · go_enter Try.func26, Try.ntmps26
      go_wp2
      go_region
      all_goals go_wp2
      all_goals
        go_ret2
        exact ⟨ret_two (by rw [hl.out]; omega) (by rw [hb.out]; omega), by go_grown⟩
  · by_cases t2 : place * stride - pad + k < size
    · go_enter Try.func26, Try.ntmps26
      go_wp2
      go_region
      all_goals go_wp2
      all_goals
        go_ret2
        exact ⟨ret_two (by rw [hl.out]; omega) (by rw [hb.out]; omega), by go_grown⟩
    · go_enter Try.func26, Try.ntmps26
      go_wp2
      go_region
      all_goals go_wp2
      all_goals
        go_ret2
        exact ⟨ret_two (by rw [hl.out]; omega) (by rw [hb.out]; omega), by go_grown⟩
end Go.Proofs.Ytcidpbdgikkndaa
