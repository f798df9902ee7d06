/- The reference of layer 10: Signal and Wait. -/
import Derived.Test.YtjiholljpkdllaaR0
namespace Go.Proofs.Ytjiholljpkdllaa
open Go.ChangeShapes Go.WideShapes Go.ChangeAt Go.RowKit
set_option maxRecDepth 20000
set_option linter.unusedVariables false
/-- A row of ints that a call owns. -/
def OwnL (w : World) (base : Nat) (v : Value) (xs : List Int) : Prop := w.ownsRow base 3 1 v xs.length (xs.map (Value.int .i64))
theorem OwnL.lt {w : World} {base : Nat} {v : Value} {l : List Int} (h : OwnL w base v l) {k : Nat} (hk : v.ownBlock = some k) : base ≤ k := (World.ownsRow.lt h k hk).1
theorem ownL_lit (w : World) : OwnL (w.alloc (.cells #[] 3)) w.heap.size (.slice (some ⟨w.heap.size, 0, none⟩) 0 0) [] := World.ownsRow_lit w #[] 0 (Nat.le_refl _) (by decide) rfl
theorem OwnL.alloc {w : World} {base : Nat} {v : Value} {l : List Int} (h : OwnL w base v l) (x : Obj) : OwnL (w.alloc x) base v l := World.ownsRow.alloc h x
theorem OwnL.form {w : World} {base : Nat} {v : Value} {xs : List Int} (h : OwnL w base v xs) (hp : 0 < xs.length) : ∃ g cap, v = .slice (some ⟨g, 0, none⟩) xs.length cap ∧ base ≤ g ∧ g < w.heap.size := by
  obtain ⟨hl, h⟩ := h
  rcases h with ⟨rfl, h0⟩ | ⟨b, cap, cur, rfl, hb, hg, hn, hm, hs, ht⟩
  · omega
  · exact ⟨b, cap, rfl, hb, (Array.getElem?_eq_some_iff.1 hg).1⟩
theorem nums_of_own {w : World} {base : Nat} {v : Value} {xs : List Int} (ho : OwnL w base v xs) (wf : ∀ x ∈ xs, (Lit.int .i64 x).wf = true) : IsNums .i64 w v xs := by
  obtain ⟨hl, h⟩ := ho
  rcases h with ⟨rfl, h0⟩ | ⟨b, cap, cur, rfl, hb, hg, hn, hm, hs, ht⟩
  · have : xs = [] := List.eq_nil_of_length_eq_zero h0
    subst this
    exact ⟨none, 0, rfl, Nat.le_refl _, Nat.zero_le _, fun _ => rfl, by simp, by simp⟩
  · refine ⟨some ⟨b, 0, none⟩, cap, rfl, hn, hm, (fun h => by cases h), wf, fun hp => ⟨b, 0, rfl, (Array.getElem?_eq_some_iff.1 hg).1, fun i hi => ?_⟩⟩
    have key : w.cell? ⟨b, 0 + i, none⟩ = (xs.map (Value.int .i64))[i]? := by
      rw [← ht, List.getElem?_take_of_lt (by omega)]
      simp [World.cell?, hg]
    rw [key]
    simp [List.getD, hi]
theorem nums_one (w : World) (x : Int) (hx : (Lit.int .i64 x).wf = true) : IsNums .i64 (w.alloc (.cells #[.int .i64 x] 3)) (.slice (some ⟨w.heap.size, 0, none⟩) 1 1) [x] :=
  ⟨some ⟨w.heap.size, 0, none⟩, 1, rfl, Nat.le_refl _, by decide, (fun h => by cases h), by simpa using hx, fun _ => ⟨_, _, rfl, by simp, fun i hi => by
    have : i = 0 := by simpa using hi
    subst this
    rw [box_new rfl]; rfl⟩⟩
/-- append of a row of ints to one that the call owns. -/
theorem wpList_append_i {ops : Array Oper} {Q : Exit → Act → World → Prop} {rest : List Oper} {o : Oper} {a : Act} {w : World} (hgd : o.guard = none) (s x : Operand) (ho : o.op = .call { callee := .builtin .append, args := #[s, x], argTypes := #[27, 27] })
    (base : Nat) (v : Value) (xs : List Int) (hs : a.eval s = v) (hown : OwnL w base v xs) (ys : List Int) (A : Option Addr) (n cap : Nat) (hx : a.eval x = .slice A n cap) (hy : IsNums .i64 w (.slice A n cap) ys) (hm : xs.length + ys.length ≤ 1000000) (hbase : base ≤ w.heap.size)
    (h : ∀ v' w', OwnL w' base v' (xs ++ ys) → w.grownBy w' v.ownBlock → wpList Try.prog ops Q rest (a.put o.dst v') w') : wpList Try.prog ops Q (o :: rest) a w := by
  obtain ⟨i, hi, hz, hsz, hb⟩ := infoI
  obtain ⟨A', cap', e, h2, h3, h4, h5, h6⟩ := hy
  simp only [Value.slice.injEq] at e
  obtain ⟨rfl, rfl, rfl⟩ := e
  by_cases hp : 0 < ys.length
  · obtain ⟨b, off, rfl, hbl, hc⟩ := h6 hp
    refine wpList_append_own _ hgd s x 27 ho base 3 i _ 1 8 Try.underlying27 hi hz hsz hb rfl (by decide) v xs.length (xs.map (Value.int .i64)) hs hown ⟨b, off, none⟩ ys.length cap (ys.map (Value.int .i64)) hx (by simp) (fun j u hu => ?_) (by intro u hu; simp only [List.mem_map] at hu; obtain ⟨z, _, rfl⟩ := hu; rfl) (by unfold maxLen; omega) (by omega) hbase ?_
    · rw [add_plain]
      have hj : j < ys.length := by
        by_cases q : j < ys.length
        · exact q
        · rw [List.getElem?_eq_none (by simpa using q)] at hu; cases hu
      rw [hc j hj]
      rw [← hu]
      simp [List.getD, hj]
    · intro v' w' ow g _
      exact h v' w' (by unfold OwnL; simpa using ow) g
  · have e0 : ys = [] := List.eq_nil_of_length_eq_zero (by omega)
    subst e0
    simp only [List.length_nil] at hx h4
    cases A with
    | none =>
      obtain rfl := h4 rfl
      have hr := run_append_owned_none (P := Try.prog) w base 27 o.type 3 i 1 Try.underlying27 hi v xs.length (xs.map (Value.int .i64)) hown
      refine wpList_plain hgd fun K hK => ?_
      unfold Oper.wp execOp
      simp only [ho, resolve, invoke, builtin, Sem.run_bind, Sem.run_pure, Result.andThen_ok, List.map_toArray, List.map_cons, List.map_nil, hs, hx, hr]
      exact hK _ _ (h v w (by simpa using hown) (World.grownBy.refl _ _))
    | some ad =>
      refine wpList_append_own _ hgd s x 27 ho base 3 i _ 1 8 Try.underlying27 hi hz hsz hb rfl (by decide) v xs.length (xs.map (Value.int .i64)) hs hown ad 0 cap [] hx rfl (fun j u hu => by simp at hu) (by simp) (by unfold maxLen; omega) (by omega) hbase ?_
      intro v' w' ow g _
      exact h v' w' (by unfold OwnL; simpa using ow) g
/-- What Signal and Wait of the reference tell, and leave. -/
def rsigE (xs : List Int) (i : Int) : Int := if okS i = true then (if rcnt xs i < 15 then 0 else 22) else 1
def rsigL (xs : List Int) (i : Int) : List Int := if okS i = true then (if rcnt xs i < 15 then xs ++ [i + 1] else xs) else xs
def rwaitE (xs : List Int) (i : Int) : Int := if okS i = true then (if rcnt xs i = 0 then 20 else 0) else 1
def rwaitL (xs : List Int) (i : Int) : List Int := if okS i = true then (if rcnt xs i = 0 then xs else xs ++ [-i - 1]) else xs
set_option maxHeartbeats 4000000 in
theorem rsig_put (w : World) (Y S : Nat) (xs : List Int) (k : Nat) (h : RefAt w Y S xs) (hk : k < 8) (hc : rcnt xs k < 15) (hl : xs.length < 1000) (hS : S + 9 ≤ w.heap.size) :
    Calls Try.prog 14 #[.pointer (some ⟨Y, 0, none⟩), .int .i64 k] w fun e w' => e = .returned (.int .i64 0) ∧ RefAt w' Y S (xs ++ [(k : Int) + 1]) ∧ But Y (Y + 1) w w' := by
  have ok := okS_iff.2 ⟨k, hk, rfl⟩
  obtain ⟨n, hn⟩ : ∃ n, rcnt xs k = n := ⟨_, rfl⟩
  rw [hn] at hc
  have d1 : decide (15 ≤ n) = false := by simp; omega
  have i1 : (0 : Int) ≤ (k : Int) := by omega
  have i2 : (k : Int) < 8 := by omega
  have hF := h.free
  have hb := h.box
  have ha := h.apart
  obtain ⟨A, cap, h2, h3, h4⟩ := h.row
  obtain ⟨x, hx⟩ : ∃ x : Int, x = (k : Int) + 1 := ⟨_, rfl⟩
  have wx : (Lit.int .i64 x).wf = true := by simp [Lit.wf, IntKind.min, IntKind.max, IntKind.bits, IntKind.signed]; omega
  have hx' := Lib.hid hx
  have wfx : ∀ y ∈ xs, (Lit.int .i64 y).wf = true := h3.choose_spec.choose_spec.2.2.2.2.1
  have H4 := Lib.hid h4
  have H3 := Lib.hid h3
  have WF := Lib.hid wfx
  clear h4 h3 hx wfx
  have h2a : (w.alloc (.cells #[] 3)).cell? ⟨Y, 0, none⟩ = some (.slice A xs.length cap) := cell_alloc h2 hb
  go_enter Try.func14, Try.ntmps14
  go_upto_region 3 with (go_at_call 21; refine (rthere_any _ _).mono ?_; rintro e w0 ⟨rfl, rfl⟩; simp only [ok])
  go_upto_region 5 with (go_at_call 16; refine (rcount_any _ _ _ _ _ h).mono ?_; rintro e w0 ⟨rfl, rfl⟩; rw [hn])
  go_wp2_with (at_builtin; first | (refine wpList_append_i rfl (.tmp 13) (.tmp 17) rfl w.heap.size (.slice (some ⟨w.heap.size, 0, none⟩) 0 0) [] rfl (ownL_lit w) xs A xs.length cap rfl (H3.out.grow ((Past.refl w).alloc _)) (by simp only [List.length_nil]; omega) (by simp) ?_; intro v1 w1 O1 G1; have P1 : Past w w1 := ((Past.refl w).alloc _).grownBy G1 (fun q hq => by simp only [Value.ownBlock, Option.some.injEq] at hq; omega); rw [List.nil_append] at O1; have O1' := Lib.hid O1; have s1 := P1.2.2.1; clear O1 G1 h2a) | (refine wpList_append_i rfl (.tmp 18) (.tmp 21) rfl w.heap.size v1 xs rfl (O1'.out.alloc _) [x] (some ⟨w1.heap.size, 0, none⟩) 1 1 rfl (by rw [hx'.out]; exact nums_one w1 _ (by rw [← hx'.out]; exact wx)) (by simp only [List.length_cons, List.length_nil]; omega) (by simp; omega) ?_; intro v2 w2 O2 G2; have P2 : Past w w2 := (P1.alloc _).grownBy G2 (fun q hq => by exact O1'.out.lt hq); have O2' := Lib.hid O2; have P2' := Lib.hid P2; clear O2 G2; obtain ⟨g, c2, rfl, hg1, hg2⟩ := O2'.out.form (by simp); have h2b := (P2.cell (p := ⟨Y, 0, none⟩) hb).trans h2; have h2f := free_past P2 hF hb))
  have O2 := O2'.out
  have N2 := nums_of_own O2 (fun y hy => by
    rcases List.mem_append.1 hy with h' | h'
    · exact WF.out y h'
    · rw [List.mem_singleton.1 h']; exact wx)
  have s2 := P2.2.2.1
  have B2 := (P2.but Y (Y + 1)).trans (But.setCell w2 (lo := Y) (hi := Y + 1) (a := ⟨Y, 0, none⟩) (Nat.le_refl _) (Nat.lt_succ_self _) (.slice (some ⟨g, 0, none⟩) (xs ++ [x]).length c2))
  have N3 := nums_keep N2 (But.setCell w2 (lo := Y) (hi := Y + 1) (a := ⟨Y, 0, none⟩) (Nat.le_refl _) (Nat.lt_succ_self _) (.slice (some ⟨g, 0, none⟩) (xs ++ [x]).length c2)) hg2 (Or.inr (by omega))
  have h2c := World.cell?_setCell_same w2 ⟨Y, 0, none⟩ (.slice (some ⟨g, 0, none⟩) (xs ++ [x]).length c2) h2b
  have R : RefAt (w2.setCell ⟨Y, 0, none⟩ (.slice (some ⟨g, 0, none⟩) (xs ++ [x]).length c2)) Y S (xs ++ [x]) :=
    ⟨by simp; omega, ha, size_set (by omega), free_set h2f, some ⟨g, 0, none⟩, c2, h2c, N3, fun a e => by
      injection e with e
      subst e
      exact ⟨Or.inr (by simp only; omega), size_set hg2⟩⟩
  have e1 : (xs ++ [x]).length = xs.length + 1 := by simp
  rw [e1] at R B2
  have R' := Lib.hid R
  have B2' := Lib.hid B2
  go_ret
  rw [← hx'.out]
  exact ⟨rfl, R'.out, B2'.out⟩
set_option maxHeartbeats 4000000 in
theorem rwait_put (w : World) (Y S : Nat) (xs : List Int) (k : Nat) (h : RefAt w Y S xs) (hk : k < 8) (hc : rcnt xs k ≠ 0) (hl : xs.length < 1000) (hS : S + 9 ≤ w.heap.size) :
    Calls Try.prog 13 #[.pointer (some ⟨Y, 0, none⟩), .int .i64 k] w fun e w' => e = .returned (.int .i64 0) ∧ RefAt w' Y S (xs ++ [-(k : Int) - 1]) ∧ But Y (Y + 1) w w' := by
  have ok := okS_iff.2 ⟨k, hk, rfl⟩
  obtain ⟨n, hn⟩ : ∃ n, rcnt xs k = n := ⟨_, rfl⟩
  rw [hn] at hc
  have d1 : (n == 0) = false := by simpa using hc
  have i1 : (0 : Int) ≤ (k : Int) := by omega
  have i2 : (k : Int) < 8 := by omega
  have hF := h.free
  have hb := h.box
  have ha := h.apart
  obtain ⟨A, cap, h2, h3, h4⟩ := h.row
  obtain ⟨x, hx⟩ : ∃ x : Int, x = -(k : Int) - 1 := ⟨_, rfl⟩
  have wx : (Lit.int .i64 x).wf = true := by simp [Lit.wf, IntKind.min, IntKind.max, IntKind.bits, IntKind.signed]; omega
  have hx' := Lib.hid hx
  have wfx : ∀ y ∈ xs, (Lit.int .i64 y).wf = true := h3.choose_spec.choose_spec.2.2.2.2.1
  have H4 := Lib.hid h4
  have H3 := Lib.hid h3
  have WF := Lib.hid wfx
  clear h4 h3 hx wfx
  have h2a : (w.alloc (.cells #[] 3)).cell? ⟨Y, 0, none⟩ = some (.slice A xs.length cap) := cell_alloc h2 hb
  go_enter Try.func13, Try.ntmps13
  go_upto_region 3 with (go_at_call 21; refine (rthere_any _ _).mono ?_; rintro e w0 ⟨rfl, rfl⟩; simp only [ok])
  go_upto_region 5 with (go_at_call 16; refine (rcount_any _ _ _ _ _ h).mono ?_; rintro e w0 ⟨rfl, rfl⟩; rw [hn])
  go_wp2_with (at_builtin; first | (refine wpList_append_i rfl (.tmp 13) (.tmp 17) rfl w.heap.size (.slice (some ⟨w.heap.size, 0, none⟩) 0 0) [] rfl (ownL_lit w) xs A xs.length cap rfl (H3.out.grow ((Past.refl w).alloc _)) (by simp only [List.length_nil]; omega) (by simp) ?_; intro v1 w1 O1 G1; have P1 : Past w w1 := ((Past.refl w).alloc _).grownBy G1 (fun q hq => by simp only [Value.ownBlock, Option.some.injEq] at hq; omega); rw [List.nil_append] at O1; have O1' := Lib.hid O1; have s1 := P1.2.2.1; clear O1 G1 h2a) | (refine wpList_append_i rfl (.tmp 18) (.tmp 22) rfl w.heap.size v1 xs rfl (O1'.out.alloc _) [x] (some ⟨w1.heap.size, 0, none⟩) 1 1 rfl (by rw [hx'.out]; exact nums_one w1 _ (by rw [← hx'.out]; exact wx)) (by simp only [List.length_cons, List.length_nil]; omega) (by simp; omega) ?_; intro v2 w2 O2 G2; have P2 : Past w w2 := (P1.alloc _).grownBy G2 (fun q hq => by exact O1'.out.lt hq); have O2' := Lib.hid O2; have P2' := Lib.hid P2; clear O2 G2; obtain ⟨g, c2, rfl, hg1, hg2⟩ := O2'.out.form (by simp); have h2b := (P2.cell (p := ⟨Y, 0, none⟩) hb).trans h2; have h2f := free_past P2 hF hb))
  have O2 := O2'.out
  have N2 := nums_of_own O2 (fun y hy => by
    rcases List.mem_append.1 hy with h' | h'
    · exact WF.out y h'
    · rw [List.mem_singleton.1 h']; exact wx)
  have s2 := P2.2.2.1
  have B2 := (P2.but Y (Y + 1)).trans (But.setCell w2 (lo := Y) (hi := Y + 1) (a := ⟨Y, 0, none⟩) (Nat.le_refl _) (Nat.lt_succ_self _) (.slice (some ⟨g, 0, none⟩) (xs ++ [x]).length c2))
  have N3 := nums_keep N2 (But.setCell w2 (lo := Y) (hi := Y + 1) (a := ⟨Y, 0, none⟩) (Nat.le_refl _) (Nat.lt_succ_self _) (.slice (some ⟨g, 0, none⟩) (xs ++ [x]).length c2)) hg2 (Or.inr (by omega))
  have h2c := World.cell?_setCell_same w2 ⟨Y, 0, none⟩ (.slice (some ⟨g, 0, none⟩) (xs ++ [x]).length c2) h2b
  have R : RefAt (w2.setCell ⟨Y, 0, none⟩ (.slice (some ⟨g, 0, none⟩) (xs ++ [x]).length c2)) Y S (xs ++ [x]) :=
    ⟨by simp; omega, ha, size_set (by omega), free_set h2f, some ⟨g, 0, none⟩, c2, h2c, N3, fun a e => by
      injection e with e
      subst e
      exact ⟨Or.inr (by simp only; omega), size_set hg2⟩⟩
  have e1 : (xs ++ [x]).length = xs.length + 1 := by simp
  rw [e1] at R B2
  have R' := Lib.hid R
  have B2' := Lib.hid B2
  go_ret
  rw [← hx'.out]
  exact ⟨rfl, R'.out, B2'.out⟩
set_option maxHeartbeats 1000000 in
theorem rsig_any (w : World) (Y S : Nat) (xs : List Int) (i : Int) (h : RefAt w Y S xs) (hl : xs.length < 1000) (hS : S + 9 ≤ w.heap.size) :
    Calls Try.prog 14 #[.pointer (some ⟨Y, 0, none⟩), .int .i64 i] w fun e w' => e = .returned (.int .i64 (rsigE xs i)) ∧ RefAt w' Y S (rsigL xs i) ∧ But Y (Y + 1) w w' := by
  by_cases c : okS i = true
  · obtain ⟨k, hk, rfl⟩ := okS_iff.1 c
    by_cases c2 : rcnt xs k < 15
    · have e1 : rsigE xs k = 0 := by rw [rsigE, if_pos c, if_pos c2]
      have e2 : rsigL xs k = xs ++ [(k : Int) + 1] := by rw [rsigL, if_pos c, if_pos c2]
      rw [e1, e2]
      exact rsig_put w Y S xs k h hk c2 hl hS
    · have e1 : rsigE xs k = 22 := by rw [rsigE, if_pos c, if_neg c2]
      have e2 : rsigL xs k = xs := by rw [rsigL, if_pos c, if_neg c2]
      rw [e1, e2]
      obtain ⟨n, hn⟩ : ∃ n, rcnt xs k = n := ⟨_, rfl⟩
      have hd : 15 ≤ n := by rw [← hn]; omega
      have d1 : decide (15 ≤ n) = true := by simpa using hd
      go_enter Try.func14, Try.ntmps14
      go_wp2_with (first | (go_at_call 21; refine (rthere_any _ _).mono ?_; rintro e w0 ⟨rfl, rfl⟩; simp only [c]) | (go_at_call 16; refine (rcount_any _ _ _ _ _ h).mono ?_; rintro e w0 ⟨rfl, rfl⟩; rw [hn]))
      go_ret
      exact ⟨rfl, h, But.refl _ _ _⟩
  · have c' : okS i = false := by simpa using c
    have e1 : rsigE xs i = 1 := by rw [rsigE, if_neg c]
    have e2 : rsigL xs i = xs := by rw [rsigL, if_neg c]
    rw [e1, e2]
    go_enter Try.func14, Try.ntmps14
    go_wp2_with (go_at_call 21; refine (rthere_any _ _).mono ?_; rintro e w0 ⟨rfl, rfl⟩; simp only [c'])
    go_ret
    exact ⟨rfl, h, But.refl _ _ _⟩
set_option maxHeartbeats 1000000 in
theorem rwait_any (w : World) (Y S : Nat) (xs : List Int) (i : Int) (h : RefAt w Y S xs) (hl : xs.length < 1000) (hS : S + 9 ≤ w.heap.size) :
    Calls Try.prog 13 #[.pointer (some ⟨Y, 0, none⟩), .int .i64 i] w fun e w' => e = .returned (.int .i64 (rwaitE xs i)) ∧ RefAt w' Y S (rwaitL xs i) ∧ But Y (Y + 1) w w' := by
  by_cases c : okS i = true
  · obtain ⟨k, hk, rfl⟩ := okS_iff.1 c
    by_cases c2 : rcnt xs k ≠ 0
    · have e1 : rwaitE xs k = 0 := by rw [rwaitE, if_pos c, if_neg c2]
      have e2 : rwaitL xs k = xs ++ [-(k : Int) - 1] := by rw [rwaitL, if_pos c, if_neg c2]
      rw [e1, e2]
      exact rwait_put w Y S xs k h hk c2 hl hS
    · have c2 : rcnt xs k = 0 := by simpa using c2
      have e1 : rwaitE xs k = 20 := by rw [rwaitE, if_pos c, if_pos c2]
      have e2 : rwaitL xs k = xs := by rw [rwaitL, if_pos c, if_pos c2]
      rw [e1, e2]
      obtain ⟨n, hn⟩ : ∃ n, rcnt xs k = n := ⟨_, rfl⟩
      have hd : n = 0 := by rw [← hn]; omega
      subst hd
      go_enter Try.func13, Try.ntmps13
      go_wp2_with (first | (go_at_call 21; refine (rthere_any _ _).mono ?_; rintro e w0 ⟨rfl, rfl⟩; simp only [c]) | (go_at_call 16; refine (rcount_any _ _ _ _ _ h).mono ?_; rintro e w0 ⟨rfl, rfl⟩; rw [hn]))
      go_ret
      exact ⟨rfl, h, But.refl _ _ _⟩
  · have c' : okS i = false := by simpa using c
    have e1 : rwaitE xs i = 1 := by rw [rwaitE, if_neg c]
    have e2 : rwaitL xs i = xs := by rw [rwaitL, if_neg c]
    rw [e1, e2]
    go_enter Try.func13, Try.ntmps13
    go_wp2_with (go_at_call 21; refine (rthere_any _ _).mono ?_; rintro e w0 ⟨rfl, rfl⟩; simp only [c'])
    go_ret
    exact ⟨rfl, h, But.refl _ _ _⟩
end Go.Proofs.Ytjiholljpkdllaa
