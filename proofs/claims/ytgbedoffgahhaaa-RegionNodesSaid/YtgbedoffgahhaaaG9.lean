/- graph: takes. -/
import Derived.Test.YtgbedoffgahhaaaG7
namespace Go.Proofs.Ytgbedoffgahhaaa
open Go.ChangeShapes Go.WideShapes Go.ChangeAt Go.RowKit
set_option maxRecDepth 20000
set_option linter.unusedVariables false

theorem zeros_ex (w : World) : Calls Try.prog 50 #[] w fun e w' => e = .returned (.agg #[.int .i64 (-128), .int .i64 127]) ∧ w' = w.alloc (.cells #[.int .i64 (-128), .int .i64 127] 97) := by
  go_enter Try.func50, Try.ntmps50
  go_wp2
  exact bodyPost_ret (v := .agg #[.int .i64 (-128), .int .i64 127]) (by simp [results, Try.results50, go_sem]) rfl ⟨rfl, rfl⟩

open Classical in
noncomputable def scaledB (n : NodeD) : Bool := decide (scaledP n)
theorem scaledB_t {n : NodeD} : scaledB n = true ↔ scaledP n := by unfold scaledB; simp

set_option maxHeartbeats 4000000 in
theorem takes_any (r : OpD) (mk ct : Value) (n : NodeD) (vi vw vb v : Value) (vs : List ValD) (W : World) (t : Bool) (hv : IsVals W v vs) (ht : Hid (t = true ↔ takesP r n vs)) :
    Calls Try.prog 53 #[.agg #[.int .i64 r.vals, .int .i64 r.k1, .int .i64 r.k2, .int .i64 r.s1, .int .i64 r.s2, .int .i64 r.p1, .int .i64 r.p2, .int .i64 r.o1, .int .i64 r.o2, .bool r.resh, .bool r.keeps, mk, ct], .agg #[.int .i64 n.op, vi, .int .i64 n.k, .int .i64 n.stride, .int .i64 n.pad, .int .i64 n.out, .int .i64 n.mul, .int .i64 n.shift, .int .i64 n.zero, .int .i64 n.th, .int .i64 n.tw, .int .i64 n.tc, vw, vb], v] W fun e w' => e = .returned (.bool t) ∧ Grown W w' := by
  have F : Hid (¬ takesP r n vs → t = false) := Lib.hid (fun h => by
    cases t with
    | false => rfl
    | true => exact absurd (ht.out.mp rfl) h)
  obtain ⟨A, c1, rfl, a1, a2, a3, a4, a5⟩ := hv
  have hl1 : vs.length ≤ 9223372036854775807 := by unfold maxLen at a2; omega
  have A5 := Lib.hid a5
  clear a2 a3 a4 a5
  cases e0 : ((vs.length : Int) == r.vals) with
  | false =>
    have e1 : ((vs.length : Int) != r.vals) = true := by simp [bne, e0]
    have t0 : t = false := F.out (fun h => by
      have := h.1
      rw [this] at e0
      simp at e0)
    subst t0
    go_enter Try.func53, Try.ntmps53
    go_wp2_with fail
    go_ret
    exact ⟨rfl, by go_grown⟩
  | true =>
    have e1 : ((vs.length : Int) != r.vals) = false := by simp [bne, e0]
    have E0 : Hid ((vs.length : Int) = r.vals) := Lib.hid (by simpa using e0)
    go_enter Try.func53, Try.ntmps53
    go_wp2_with fail
    refine opq (fun w' => (∀ o : Nat, w'.cell? ⟨W.heap.size, o, none⟩ = (#[.int .i64 r.vals, .int .i64 r.k1, .int .i64 r.k2, .int .i64 r.s1, .int .i64 r.s2, .int .i64 r.p1, .int .i64 r.p2, .int .i64 r.o1, .int .i64 r.o2, .bool r.resh, .bool r.keeps, mk, ct] : Array Value)[o]?) ∧ (∀ o : Nat, w'.cell? ⟨W.heap.size + 1, o, none⟩ = (#[.int .i64 n.op, vi, .int .i64 n.k, .int .i64 n.stride, .int .i64 n.pad, .int .i64 n.out, .int .i64 n.mul, .int .i64 n.shift, .int .i64 n.zero, .int .i64 n.th, .int .i64 n.tw, .int .i64 n.tc, vw, vb] : Array Value)[o]?) ∧ Grown W w' ∧ W.heap.size + 2 ≤ w'.heap.size) kLaid ?_
    rintro W1 ⟨b1, b2, g1, s1⟩
    go_loopw [17] (fun i wr => ∃ k : Nat, k ≤ vs.length ∧ i = .int .i64 k ∧ Hid (∀ j, j < k → ¬ (r.keeps = true ∧ (vs.getD j default).z ≠ n.zero)) ∧ (∀ o : Nat, wr.cell? ⟨W.heap.size, o, none⟩ = (#[.int .i64 r.vals, .int .i64 r.k1, .int .i64 r.k2, .int .i64 r.s1, .int .i64 r.s2, .int .i64 r.p1, .int .i64 r.p2, .int .i64 r.o1, .int .i64 r.o2, .bool r.resh, .bool r.keeps, mk, ct] : Array Value)[o]?) ∧ (∀ o : Nat, wr.cell? ⟨W.heap.size + 1, o, none⟩ = (#[.int .i64 n.op, vi, .int .i64 n.k, .int .i64 n.stride, .int .i64 n.pad, .int .i64 n.out, .int .i64 n.mul, .int .i64 n.shift, .int .i64 n.zero, .int .i64 n.th, .int .i64 n.tw, .int .i64 n.tc, vw, vb] : Array Value)[o]?) ∧ Grown W wr ∧ W.heap.size + 2 ≤ wr.heap.size) (fun i _ => vs.length - (intOf i).toNat)
    case atStart => exact ⟨0, by omega, rfl, Lib.hid (fun j h => by omega), b1, b2, g1, s1⟩
    case round =>
      clear b1 b2 g1 s1
      obtain ⟨k, hk, rfl, hs, b1, b2, g1, s1⟩ := hrel
      by_cases l : k < vs.length
      · obtain ⟨b, off, rfl, hb, hc⟩ := A5.out (by omega)
        obtain ⟨m0, m1, m2, m3⟩ := (hc k l).grow hb (Grown.past g1)
        clear hc
        obtain ⟨x, hx⟩ : ∃ x, vs.getD k default = x := ⟨_, rfl⟩
        rw [hx] at m0 m1 m2 m3
        have HX := Lib.hid hx
        clear hx
        have i1 : (0 : Int) ≤ (k : Int) := by omega
        have i2 : (k : Int) < (vs.length : Int) := by omega
        have n1 : W.heap.size ≠ wr.heap.size := by omega
        have n2 : W.heap.size + 1 ≠ wr.heap.size := by omega
        have n3 : W.heap.size < wr.heap.size := by omega
        have n4 : W.heap.size + 1 < wr.heap.size := by omega
        rcases Bool.eq_false_or_eq_true r.keeps with hk2 | hk2
        rotate_left
        · skip
          go_wp2_with fail
          go_roundw
          case rel => exact ⟨k + 1, by omega, by go_num, Lib.hid (fun j h => by intro c; rw [hk2] at c; cases c.1), by (exact kKeep)⟩
          case measure => simp [intOf]; omega
        · skip
          cases hz : (x.z == n.zero) with
          | true =>
            have hz2 : (x.z != n.zero) = false := by simp [bne, hz]
            go_wp2_with fail
            go_roundw
            case rel => exact ⟨k + 1, by omega, by go_num, Lib.hid (fun j h => by
              by_cases c : j = k
              · subst c; rw [HX.out]; intro h; exact h.2 (by simpa using hz)
              · exact hs.out j (by omega)), by (exact kKeep)⟩
            case measure => simp [intOf]; omega
          | false =>
            have hz2 : (x.z != n.zero) = true := by simp [bne, hz]
            have t0 : t = false := F.out (fun h => h.2.1 k l ⟨hk2, by rw [HX.out]; simpa using hz⟩)
            subst t0
            go_wp2_with fail
            go_ret
            exact ⟨rfl, by (exact kKeep)⟩
      · have k0 : Hid (∀ j, j < vs.length → ¬ (r.keeps = true ∧ (vs.getD j default).z ≠ n.zero)) := Lib.hid (fun j h => hs.out j (by omega))
        clear hs
        have n2 : W.heap.size + 1 ≠ wr.heap.size := by omega
        have n3 : W.heap.size + 1 < wr.heap.size := by omega
        go_wp2_with fail
        go_cut [9] (fun s wx => s = .bool (scaledB n) ∧ (∀ o : Nat, wx.cell? ⟨W.heap.size, o, none⟩ = (#[.int .i64 r.vals, .int .i64 r.k1, .int .i64 r.k2, .int .i64 r.s1, .int .i64 r.s2, .int .i64 r.p1, .int .i64 r.p2, .int .i64 r.o1, .int .i64 r.o2, .bool r.resh, .bool r.keeps, mk, ct] : Array Value)[o]?) ∧ (∀ o : Nat, wx.cell? ⟨W.heap.size + 1, o, none⟩ = (#[.int .i64 n.op, vi, .int .i64 n.k, .int .i64 n.stride, .int .i64 n.pad, .int .i64 n.out, .int .i64 n.mul, .int .i64 n.shift, .int .i64 n.zero, .int .i64 n.th, .int .i64 n.tw, .int .i64 n.tc, vw, vb] : Array Value)[o]?) ∧ Grown W wx ∧ W.heap.size + 2 ≤ wx.heap.size)
        case first =>
          have n5 : W.heap.size + 1 ≠ wr.heap.size + 1 := by omega
          have n6 : W.heap.size + 1 ≠ wr.heap.size + 1 + 1 := by omega
          cases q1 : holdB 1 32767 n.mul with
          | false =>
            have q0 : Hid (scaledB n = false) := Lib.hid (by
              cases q : scaledB n with
              | false => rfl
              | true => exact absurd (scaledB_t.mp q).1 (holdB_f.mp q1))
            first | (go_region_with (first | (go_at_call 51; with_reducible refine (hold_any _ _ _ _).mono ?_; rintro e w1 ⟨rfl, rfl⟩) | (go_at_call 50; with_reducible refine (zeros_ex _).mono ?_; rintro e w1 ⟨rfl, rfl⟩))) | fail
            all_goals
              go_wp2_with fail
              go_meet
              exact ⟨by rw [q0.out], by (exact kKeep)⟩
          | true =>
            cases q2 : holdB 0 31 n.shift with
            | false =>
              have q0 : Hid (scaledB n = false) := Lib.hid (by
                cases q : scaledB n with
                | false => rfl
                | true => exact absurd (scaledB_t.mp q).2.1 (holdB_f.mp q2))
              first | (go_region_with (first | (go_at_call 51; with_reducible refine (hold_any _ _ _ _).mono ?_; rintro e w1 ⟨rfl, rfl⟩) | (go_at_call 50; with_reducible refine (zeros_ex _).mono ?_; rintro e w1 ⟨rfl, rfl⟩))) | fail
              all_goals
                go_wp2_with fail
                go_meet
                exact ⟨by rw [q0.out], by (exact kKeep)⟩
            | true =>
              have q0 : Hid (scaledB n = holdB (-128) 127 n.zero) := Lib.hid (by
                rw [Bool.eq_iff_iff, scaledB_t, holdB_t]
                exact ⟨fun h => h.2.2, fun h => ⟨holdB_t.mp q1, holdB_t.mp q2, h⟩⟩)
              go_region_held3 (fun w' => (∀ o : Nat, w'.cell? ⟨W.heap.size, o, none⟩ = (#[.int .i64 r.vals, .int .i64 r.k1, .int .i64 r.k2, .int .i64 r.s1, .int .i64 r.s2, .int .i64 r.p1, .int .i64 r.p2, .int .i64 r.o1, .int .i64 r.o2, .bool r.resh, .bool r.keeps, mk, ct] : Array Value)[o]?) ∧ (∀ o : Nat, w'.cell? ⟨W.heap.size + 1, o, none⟩ = (#[.int .i64 n.op, vi, .int .i64 n.k, .int .i64 n.stride, .int .i64 n.pad, .int .i64 n.out, .int .i64 n.mul, .int .i64 n.shift, .int .i64 n.zero, .int .i64 n.th, .int .i64 n.tw, .int .i64 n.tc, vw, vb] : Array Value)[o]?) ∧ Grown W w' ∧ W.heap.size + 2 ≤ w'.heap.size) (exact kKeep) (first | (go_at_call 51; with_reducible refine (hold_any _ _ _ _).mono ?_; rintro e w1 ⟨rfl, rfl⟩) | (go_at_call 50; with_reducible refine (zeros_ex _).mono ?_; rintro e w1 ⟨rfl, rfl⟩))
              all_goals
                go_wp2_with fail
                go_meet
                exact ⟨by rw [q0.out], by (exact kKeep)⟩
        case rest =>
          obtain ⟨rfl, c1, c2, c3, c4⟩ := hcut
          clear b1 b2 g1 s1 n2 n3
          cases q : scaledB n with
          | false =>
            have t0 : t = false := F.out (fun h => by rw [scaledB_t.mpr h.2.2.1] at q; cases q)
            subst t0
            go_wp2_with fail
            go_ret
            exact ⟨rfl, c3⟩
          | true =>
            have ht2 : Hid (t = true ↔ setP r n) := Lib.hid (by
              rw [ht.out]
              exact ⟨fun h => h.2.2.2, fun h => ⟨E0.out, k0.out, scaledB_t.mp q, h⟩⟩)
            go_wp2_with (first | (go_at_call 80; with_reducible refine (set_any r mk ct n vi vw vb _ t ht2).mono ?_; rintro e w1 ⟨rfl, g⟩))
            go_ret
            exact ⟨rfl, grown_trans c3 g⟩
end Go.Proofs.Ytgbedoffgahhaaa
