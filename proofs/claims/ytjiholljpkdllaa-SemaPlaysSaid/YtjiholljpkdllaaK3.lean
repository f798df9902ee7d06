/- Semaphores: Signal and Wait. -/
import Derived.Test.YtjiholljpkdllaaK2
namespace Go.Proofs.Ytjiholljpkdllaa
open Go.ChangeShapes Go.WideShapes Go.ChangeAt Go.RowKit Go.Conc
set_option maxRecDepth 100000
set_option linter.unusedVariables false
/-- What Signal and Wait tell, and leave. -/
def sigE (l : List Nat) (i : Int) : Int := if okS i = true then (if l.getD i.toNat 0 < 15 then 0 else 22) else 1
def sigL (l : List Nat) (i : Int) : List Nat := if okS i = true then (if l.getD i.toNat 0 < 15 then l.set i.toNat (l.getD i.toNat 0 + 1) else l) else l
def waitE (l : List Nat) (i : Int) : Int := if okS i = true then (if 0 < l.getD i.toNat 0 then 0 else 20) else 1
def waitL (l : List Nat) (i : Int) : List Nat := if okS i = true then (if 0 < l.getD i.toNat 0 then l.set i.toNat (l.getD i.toNat 0 - 1) else l) else l
theorem sig_room (w : World) (b : Nat) (l : List Nat) (k : Nat) (h : SemAt w b l) (hk : k < 8) (hl : l.getD k 0 < 15) :
    Calls Try.prog 11 #[.pointer (some ⟨b, 0, none⟩), .int .i64 k] w fun e w' => e = .returned (.int .i64 0) ∧ SemAt w' b (l.set k (l.getD k 0 + 1)) ∧ But (b + 1) (b + 9) w w' := by
  have x1 := h.cell k hk
  obtain ⟨buf, s, r, x2, x3⟩ := h.chan k hk
  have hT := h.turn (n := l.getD k 0 + 1) (s := s + 1) (r := r) (buf := buf.push (.agg #[])) hk (by simp [x3]) (by omega)
  have i1 : (0 : Int) ≤ (k : Int) := by omega
  have i2 : (k : Int) < 8 := by omega
  have d1 : decide ((0 : Int) ≤ (k : Int)) = true := by simp
  have d2 : decide ((k : Int) < 8) = true := by simpa using i2
  refine calls_of_loneTo fun cs => ?_
  have e : Frame.enter Try.prog 11 #[.pointer (some ⟨b, 0, none⟩), .int .i64 k] .normal = (base 11).at ⟨#[.pointer (some ⟨b, 0, none⟩), .int .i64 k, undef, undef, undef, undef, undef, undef, undef, undef, undef, undef, undef, undef, undef, undef, undef, undef], []⟩ [.code (Try.f11.body.getD .skip)] := by
    simp [Frame.enter, Frame.at, Try.func11, base, Try.f11]
  rw [e]
  refine LoneTo.goes (n := 76) ?_
  simp only [Try.f11, Option.getD_some]
  s_c stepG_seq
  s_reg
  s_op
  s_c stepG_region_end
  s_c stepG_seq
  s_c stepG_seq
  s_reg
  s_op
  s_call Try.func20 (by kernel_rfl) Try.f20
  s_c stepG_seq
  s_reg
  s_op
  s_c stepG_region_end
  s_c stepG_seq
  s_reg
  s_op
  s_op
  s_op
  s_op
  s_op
  s_op
  s_op
  s_c stepG_region_end
  s_c stepG_ret'
  s_leave1 Try.func20
  s_op
  s_c stepG_region_end
  s_cond false
  s_c stepG_skip
  s_c stepG_seq
  s_c stepG_seq
  s_reg
  s_op
  s_op
  s_op
  s_op
  s_op
  s_op
  s_c stepG_region_end
  s_reg
  s_op
  s_c stepG_region_end
  s_c stepG_seq
  s_reg
  s_stop
  refine LoneTo.step (step_lone_select_send_room (c := b + 1 + k) (v := .agg #[]) (z' := .agg #[]) (stepG_comm (cases := #[scase (b + 1 + k) (.agg #[]) (.agg #[])]) (blocking := false) (shape := .select) (w' := w) rfl rfl (by decide) (by simp [go_sem, execOp, scase, Act.eval])) x2 (by omega)) ?_
  rw [Frame.finish_at]
  walk_nrm
  refine LoneTo.goes (n := 30) ?_
  s_op
  s_op
  s_c stepG_region_end
  s_c stepG_block
  s_cond true
  s_c stepG_seq
  s_reg
  s_op
  s_c stepG_region_end
  s_c stepG_ret'
  s_stop
  exact LoneTo.done ⟨.returned (.int .i64 0), _, rfl, ⟨rfl, hT⟩, rfl, rfl, rfl, rfl, _, Try.func11, by simp [results, Try.f11, Frame.at]⟩
theorem sig_full (w : World) (b : Nat) (l : List Nat) (k : Nat) (h : SemAt w b l) (hk : k < 8) (hl : ¬ l.getD k 0 < 15) :
    Calls Try.prog 11 #[.pointer (some ⟨b, 0, none⟩), .int .i64 k] w fun e w' => e = .returned (.int .i64 22) ∧ SemAt w' b l ∧ But (b + 1) (b + 9) w w' := by
  have x1 := h.cell k hk
  obtain ⟨buf, s, r, x2, x3⟩ := h.chan k hk
  have hT : SemAt w b l ∧ But (b + 1) (b + 9) w w := ⟨h, But.refl _ _ _⟩
  have i1 : (0 : Int) ≤ (k : Int) := by omega
  have i2 : (k : Int) < 8 := by omega
  have d1 : decide ((0 : Int) ≤ (k : Int)) = true := by simp
  have d2 : decide ((k : Int) < 8) = true := by simpa using i2
  refine calls_of_loneTo fun cs => ?_
  have e : Frame.enter Try.prog 11 #[.pointer (some ⟨b, 0, none⟩), .int .i64 k] .normal = (base 11).at ⟨#[.pointer (some ⟨b, 0, none⟩), .int .i64 k, undef, undef, undef, undef, undef, undef, undef, undef, undef, undef, undef, undef, undef, undef, undef, undef], []⟩ [.code (Try.f11.body.getD .skip)] := by
    simp [Frame.enter, Frame.at, Try.func11, base, Try.f11]
  rw [e]
  refine LoneTo.goes (n := 76) ?_
  simp only [Try.f11, Option.getD_some]
  s_c stepG_seq
  s_reg
  s_op
  s_c stepG_region_end
  s_c stepG_seq
  s_c stepG_seq
  s_reg
  s_op
  s_call Try.func20 (by kernel_rfl) Try.f20
  s_c stepG_seq
  s_reg
  s_op
  s_c stepG_region_end
  s_c stepG_seq
  s_reg
  s_op
  s_op
  s_op
  s_op
  s_op
  s_op
  s_op
  s_c stepG_region_end
  s_c stepG_ret'
  s_leave1 Try.func20
  s_op
  s_c stepG_region_end
  s_cond false
  s_c stepG_skip
  s_c stepG_seq
  s_c stepG_seq
  s_reg
  s_op
  s_op
  s_op
  s_op
  s_op
  s_op
  s_c stepG_region_end
  s_reg
  s_op
  s_c stepG_region_end
  s_c stepG_seq
  s_reg
  s_stop
  refine LoneTo.step (step_lone_select_send_full (c := b + 1 + k) (v := .agg #[]) (z' := .agg #[]) (stepG_comm (cases := #[scase (b + 1 + k) (.agg #[]) (.agg #[])]) (blocking := false) (shape := .select) (w' := w) rfl rfl (by decide) (by simp [go_sem, execOp, scase, Act.eval])) x2 (by omega)) ?_
  rw [Frame.finish_at]
  walk_nrm
  refine LoneTo.goes (n := 30) ?_
  s_op
  s_op
  s_c stepG_region_end
  s_c stepG_block
  s_cond false
  s_c stepG_seq
  s_reg
  s_op
  s_c stepG_region_end
  s_c stepG_ret'
  s_stop
  exact LoneTo.done ⟨.returned (.int .i64 22), _, rfl, ⟨rfl, hT⟩, rfl, rfl, rfl, rfl, _, Try.func11, by simp [results, Try.f11, Frame.at]⟩
theorem wait_some (w : World) (b : Nat) (l : List Nat) (k : Nat) (h : SemAt w b l) (hk : k < 8) (hl : 0 < l.getD k 0) :
    Calls Try.prog 12 #[.pointer (some ⟨b, 0, none⟩), .int .i64 k] w fun e w' => e = .returned (.int .i64 0) ∧ SemAt w' b (l.set k (l.getD k 0 - 1)) ∧ But (b + 1) (b + 9) w w' := by
  have x1 := h.cell k hk
  obtain ⟨buf, s, r, x2, x3⟩ := h.chan k hk
  have hm := h.most k hk
  have hT := h.turn (n := l.getD k 0 - 1) (s := s) (r := r + 1) (buf := buf.extract 1 (l[k]?.getD 0)) hk (by simp [x3]) (by omega)
  have i1 : (0 : Int) ≤ (k : Int) := by omega
  have i2 : (k : Int) < 8 := by omega
  have d1 : decide ((0 : Int) ≤ (k : Int)) = true := by simp
  have d2 : decide ((k : Int) < 8) = true := by simpa using i2
  refine calls_of_loneTo fun cs => ?_
  have e : Frame.enter Try.prog 12 #[.pointer (some ⟨b, 0, none⟩), .int .i64 k] .normal = (base 12).at ⟨#[.pointer (some ⟨b, 0, none⟩), .int .i64 k, undef, undef, undef, undef, undef, undef, undef, undef, undef, undef, undef, undef, undef, undef, undef], []⟩ [.code (Try.f12.body.getD .skip)] := by
    simp [Frame.enter, Frame.at, Try.func12, base, Try.f12]
  rw [e]
  refine LoneTo.goes (n := 76) ?_
  simp only [Try.f12, Option.getD_some]
  s_c stepG_seq
  s_reg
  s_op
  s_c stepG_region_end
  s_c stepG_seq
  s_c stepG_seq
  s_reg
  s_op
  s_call Try.func20 (by kernel_rfl) Try.f20
  s_c stepG_seq
  s_reg
  s_op
  s_c stepG_region_end
  s_c stepG_seq
  s_reg
  s_op
  s_op
  s_op
  s_op
  s_op
  s_op
  s_op
  s_c stepG_region_end
  s_c stepG_ret'
  s_leave1 Try.func20
  s_op
  s_c stepG_region_end
  s_cond false
  s_c stepG_skip
  s_c stepG_seq
  s_reg
  s_op
  s_op
  s_op
  s_op
  s_op
  s_op
  s_c stepG_region_end
  s_c stepG_seq
  s_reg
  s_stop
  refine LoneTo.step (step_lone_select_recv_buf (c := b + 1 + k) (z := .agg #[]) (stepG_comm (cases := #[rcase (b + 1 + k) (.agg #[])]) (blocking := false) (shape := .select) (w' := w) rfl rfl (by decide) (by simp [go_sem, execOp, rcase, Act.eval])) x2 (by omega)) ?_
  rw [Frame.finish_at]
  walk_nrm
  refine LoneTo.goes (n := 30) ?_
  s_op
  s_op
  s_c stepG_region_end
  s_c stepG_block
  s_cond true
  s_c stepG_seq
  s_reg
  s_op
  s_c stepG_region_end
  s_c stepG_ret'
  s_stop
  exact LoneTo.done ⟨.returned (.int .i64 0), _, rfl, ⟨rfl, hT⟩, rfl, rfl, rfl, rfl, _, Try.func12, by simp [results, Try.f12, Frame.at]⟩
theorem wait_none (w : World) (b : Nat) (l : List Nat) (k : Nat) (h : SemAt w b l) (hk : k < 8) (hl : ¬ 0 < l.getD k 0) :
    Calls Try.prog 12 #[.pointer (some ⟨b, 0, none⟩), .int .i64 k] w fun e w' => e = .returned (.int .i64 20) ∧ SemAt w' b l ∧ But (b + 1) (b + 9) w w' := by
  have x1 := h.cell k hk
  obtain ⟨buf, s, r, x2, x3⟩ := h.chan k hk
  have hT : SemAt w b l ∧ But (b + 1) (b + 9) w w := ⟨h, But.refl _ _ _⟩
  obtain rfl : buf = #[] := Array.eq_empty_of_size_eq_zero (by omega)
  have i1 : (0 : Int) ≤ (k : Int) := by omega
  have i2 : (k : Int) < 8 := by omega
  have d1 : decide ((0 : Int) ≤ (k : Int)) = true := by simp
  have d2 : decide ((k : Int) < 8) = true := by simpa using i2
  refine calls_of_loneTo fun cs => ?_
  have e : Frame.enter Try.prog 12 #[.pointer (some ⟨b, 0, none⟩), .int .i64 k] .normal = (base 12).at ⟨#[.pointer (some ⟨b, 0, none⟩), .int .i64 k, undef, undef, undef, undef, undef, undef, undef, undef, undef, undef, undef, undef, undef, undef, undef], []⟩ [.code (Try.f12.body.getD .skip)] := by
    simp [Frame.enter, Frame.at, Try.func12, base, Try.f12]
  rw [e]
  refine LoneTo.goes (n := 76) ?_
  simp only [Try.f12, Option.getD_some]
  s_c stepG_seq
  s_reg
  s_op
  s_c stepG_region_end
  s_c stepG_seq
  s_c stepG_seq
  s_reg
  s_op
  s_call Try.func20 (by kernel_rfl) Try.f20
  s_c stepG_seq
  s_reg
  s_op
  s_c stepG_region_end
  s_c stepG_seq
  s_reg
  s_op
  s_op
  s_op
  s_op
  s_op
  s_op
  s_op
  s_c stepG_region_end
  s_c stepG_ret'
  s_leave1 Try.func20
  s_op
  s_c stepG_region_end
  s_cond false
  s_c stepG_skip
  s_c stepG_seq
  s_reg
  s_op
  s_op
  s_op
  s_op
  s_op
  s_op
  s_c stepG_region_end
  s_c stepG_seq
  s_reg
  s_stop
  refine LoneTo.step (step_lone_select_default (c := b + 1 + k) (z := .agg #[]) (stepG_comm (cases := #[rcase (b + 1 + k) (.agg #[])]) (blocking := false) (shape := .select) (w' := w) rfl rfl (by decide) (by simp [go_sem, execOp, rcase, Act.eval])) x2) ?_
  rw [Frame.finish_at]
  walk_nrm
  refine LoneTo.goes (n := 30) ?_
  s_op
  s_op
  s_c stepG_region_end
  s_c stepG_block
  s_cond false
  s_c stepG_seq
  s_reg
  s_op
  s_c stepG_region_end
  s_c stepG_ret'
  s_stop
  exact LoneTo.done ⟨.returned (.int .i64 20), _, rfl, ⟨rfl, hT⟩, rfl, rfl, rfl, rfl, _, Try.func12, by simp [results, Try.f12, Frame.at]⟩
theorem sig_any (w : World) (b : Nat) (l : List Nat) (i : Int) (h : SemAt w b l) : Calls Try.prog 11 #[.pointer (some ⟨b, 0, none⟩), .int .i64 i] w fun e w' => e = .returned (.int .i64 (sigE l i)) ∧ SemAt w' b (sigL l i) ∧ But (b + 1) (b + 9) w w' := by
  by_cases c : okS i = true
  · obtain ⟨k, hk, rfl⟩ := okS_iff.1 c
    by_cases d : l.getD k 0 < 15
    · have e1 : sigE l k = 0 := by simp only [sigE, c, Int.toNat_natCast, d, if_true]
      have e2 : sigL l k = l.set k (l.getD k 0 + 1) := by simp only [sigL, c, Int.toNat_natCast, d, if_true]
      rw [e1, e2]
      exact sig_room w b l k h hk d
    · have e1 : sigE l k = 22 := by simp only [sigE, c, Int.toNat_natCast, d, if_true, if_false]
      have e2 : sigL l k = l := by simp only [sigL, c, Int.toNat_natCast, d, if_true, if_false]
      rw [e1, e2]
      exact sig_full w b l k h hk d
  · have c' : okS i = false := by simpa using c
    have e1 : sigE l i = 1 := by simp [sigE, c']
    have e2 : sigL l i = l := by simp [sigL, c']
    rw [e1, e2]
    go_enter Try.func11, Try.ntmps11
    go_wp2_with (go_at_call 20; refine (there_any _ _).mono ?_; rintro e w0 ⟨rfl, rfl⟩; simp only [c'])
    go_ret
    exact ⟨rfl, h, But.refl _ _ _⟩
theorem wait_any (w : World) (b : Nat) (l : List Nat) (i : Int) (h : SemAt w b l) : Calls Try.prog 12 #[.pointer (some ⟨b, 0, none⟩), .int .i64 i] w fun e w' => e = .returned (.int .i64 (waitE l i)) ∧ SemAt w' b (waitL l i) ∧ But (b + 1) (b + 9) w w' := by
  by_cases c : okS i = true
  · obtain ⟨k, hk, rfl⟩ := okS_iff.1 c
    by_cases d : 0 < l.getD k 0
    · have e1 : waitE l k = 0 := by simp only [waitE, c, Int.toNat_natCast, d, if_true]
      have e2 : waitL l k = l.set k (l.getD k 0 - 1) := by simp only [waitL, c, Int.toNat_natCast, d, if_true]
      rw [e1, e2]
      exact wait_some w b l k h hk d
    · have e1 : waitE l k = 20 := by simp only [waitE, c, Int.toNat_natCast, d, if_true, if_false]
      have e2 : waitL l k = l := by simp only [waitL, c, Int.toNat_natCast, d, if_true, if_false]
      rw [e1, e2]
      exact wait_none w b l k h hk d
  · have c' : okS i = false := by simpa using c
    have e1 : waitE l i = 1 := by simp [waitE, c']
    have e2 : waitL l i = l := by simp [waitL, c']
    rw [e1, e2]
    go_enter Try.func12, Try.ntmps12
    go_wp2_with (go_at_call 20; refine (there_any _ _).mono ?_; rintro e w0 ⟨rfl, rfl⟩; simp only [c'])
    go_ret
    exact ⟨rfl, h, But.refl _ _ _⟩
end Go.Proofs.Ytjiholljpkdllaa
