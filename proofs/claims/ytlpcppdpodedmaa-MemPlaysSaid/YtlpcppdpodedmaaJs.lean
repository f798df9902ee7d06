/- MemPlays: its walk. -/
import Derived.Test.YtlpcppdpodedmaaR2
import Derived.Test.YtlpcppdpodedmaaFixE
namespace Go.Proofs.Ytlpcppdpodedmaa
open Go.ChangeShapes Go.WideShapes Go.ChangeAt Go.RowKit
set_option maxRecDepth 20000
set_option linter.unusedVariables false
/-- The memory and the reference's hold the same. -/
structure St (W w : World) (B R Y N k : Nat) (l : List Int) (ps : List PutD) : Prop where
  mem : MemAt w B R l
  ref : RefAt w Y [R, B] N ps
  len : l.length = N
  same : ∀ i, i < N → l.getD i 0 = valP ps i
  few : ps.length ≤ k
  past : Past W w
  loR : W.heap.size ≤ R
  loB : W.heap.size ≤ B
  loY : W.heap.size ≤ Y
theorem St.grow {W w w' : World} {B R Y N k : Nat} {l : List Int} {ps : List PutD} (h : St W w B R Y N k l ps) (g : Past w w') : St W w' B R Y N k l ps :=
  ⟨h.mem.grow g, h.ref.grow g, h.len, h.same, h.few, h.past.trans g, h.loR, h.loB, h.loY⟩
/-- A block that is none of theirs is turned. -/
theorem St.aside {W w w' : World} {B R Y N k g : Nat} {l : List Int} {ps : List PutD} (h : St W w B R Y N k l ps) (hg : RefAt w Y [g, R, B] N ps) (b : But g (g + 1) w w') (n1 : g ≠ B) (n2 : g ≠ R) (hl : W.heap.size ≤ g) : St W w' B R Y N k l ps :=
  ⟨h.mem.keep b (by omega) (by omega), (hg.keep (List.mem_cons_self ..) b).sub (fun z hz => List.mem_cons_of_mem _ hz), h.len, h.same, h.few, b.past h.past hl, h.loR, h.loB, h.loY⟩
/-- The clone takes its place, and the old one is written. -/
theorem St.clone {W w w2 w3 : World} {B R B' R' Y N k : Nat} {l : List Int} {ps : List PutD} (h : St W w B R Y N k l ps) (q : w.heap.size ≤ R' ∧ R' < B') (hM : MemAt w2 B' R' l) (g : Past w w2) (b : But R (R + 1) w2 w3) : St W w3 B' R' Y N k l ps := by
  have hR := h.mem.row.lt
  have hs := h.past.2.2.1
  have r1 : RefAt w2 Y [R', B', R, B] N ps := ((h.ref.more (k := B') (by omega)).more (k := R') q.1).grow g
  exact ⟨hM.keep b (by omega) (by omega), (r1.keep (k := R) (by simp) b).sub (fun z hz => by simp only [List.mem_cons, List.not_mem_nil, or_false] at hz ⊢; rcases hz with e | e <;> simp [e]), h.len, h.same, h.few, b.past (h.past.trans g) h.loR, by omega, by omega, h.loY⟩
/-- Both are written. -/
theorem St.put {W w w2 w3 : World} {B R Y N k i g : Nat} {v : Value} {l xs : List Int} {ps : List PutD} (h : St W w B R Y N k l ps) (hi : i + xs.length ≤ N) (hM : MemAt w2 B R (putM l xs i)) (b : But R (R + 1) w w2) (hR : RefAt w3 Y [g, R, B] N (ps ++ [⟨i, v, xs⟩])) (c : But Y (Y + 1) w2 w3) : St W w3 B R Y N (k + 1) (putM l xs i) (ps ++ [⟨i, v, xs⟩]) := by
  have ne := h.ref.ne
  have n1 : Y ≠ R := fun e => ne (by simp [e])
  have n2 : Y ≠ B := fun e => ne (by simp [e])
  have hl := h.len
  refine ⟨hM.keep c (by omega) (by omega), hR.sub (fun z hz => List.mem_cons_of_mem _ hz), by rw [putM_len (by omega)]; exact hl, fun j hj => ?_, by have := h.few; simp; omega, c.past (b.past h.past h.loR) h.loY, h.loR, h.loB, h.loY⟩
  rw [putM_at (by omega), valP_push, h.same j hj]
  rfl
theorem St.more {W w : World} {B R Y N k k' : Nat} {l : List Int} {ps : List PutD} (h : St W w B R Y N k l ps) (hk : k ≤ k') : St W w B R Y N k' l ps := ⟨h.mem, h.ref, h.len, h.same, Nat.le_trans h.few hk, h.past, h.loR, h.loB, h.loY⟩
theorem St.read {W w : World} {B R Y N k i j : Nat} {l : List Int} {ps : List PutD} (h : St W w B R Y N k l ps) (hij : i + j ≤ N) : (l.drop i).take j = rdL ps i j := by
  have hl := h.len
  refine getD_ext' (by rw [rdL_len, List.length_take, List.length_drop]; omega) (fun t => ?_)
  by_cases c : t < j
  · have e1 : ((l.drop i).take j).getD t 0 = l.getD (i + t) 0 := by
      simp only [List.getD]
      rw [List.getElem?_take_of_lt c, List.getElem?_drop]
    have e2 : (rdL ps i j).getD t 0 = valP ps (i + t) := by simp [rdL, List.getD, c]
    rw [e1, e2]
    exact h.same _ (by omega)
  · have z1 : ((l.drop i).take j)[t]? = none := List.getElem?_eq_none (by rw [List.length_take]; omega)
    have z2 : (rdL ps i j)[t]? = none := List.getElem?_eq_none (by rw [rdL_len]; omega)
    simp only [List.getD, z1, z2]
theorem two_lt {R B n : Nat} (h1 : R < n) (h2 : B < n) : ∀ k ∈ [R, B], k < n := by
  intro k hk
  simp only [List.mem_cons, List.not_mem_nil, or_false] at hk
  rcases hk with e | e <;> omega
theorem write_some (w : World) (B R : Nat) (l : List Int) (h : MemAt w B R l) (a : Int) (v : Value) (xs : List Int) (hx : IsNums .i8 w v xs) :
    Calls Try.prog 13 #[.pointer (some ⟨B, 0, none⟩), .int .i64 a, v] w fun e w' => ∃ E : Int, e = .returned (.int .i64 E) ∧ But R (R + 1) w w' :=
  (write_any w B R l h a v xs hx).mono fun e w' ⟨h1, _, h3⟩ => ⟨_, h1, h3⟩
theorem St.kept {W w w' : World} {B R Y N k g : Nat} {l : List Int} {ps : List PutD} (h : St W w B R Y N k l ps) (hM : MemAt w' B R l) (hR : RefAt w' Y [g, R, B] N ps) (hP : Past W w') : St W w' B R Y N (k + 1) l ps :=
  ⟨hM, hR.sub (fun z hz => List.mem_cons_of_mem _ hz), h.len, h.same, Nat.le_succ_of_le h.few, hP, h.loR, h.loB, h.loY⟩
theorem own_block {w : World} {base n c : Nat} {A : Option Addr} {l : List Int} (h : Own8 w base (.slice A n c) l) (hn : l.length = n) (hb : base < w.heap.size) : ∃ g, base ≤ g ∧ g < w.heap.size ∧ (0 < n → A = some ⟨g, 0, none⟩) := by
  obtain ⟨A', c', e, hf⟩ := h.form
  simp only [Value.slice.injEq] at e
  obtain ⟨rfl, _, rfl⟩ := e
  by_cases hp : 0 < l.length
  · obtain ⟨g, rfl, g1, g2, _⟩ := hf hp
    exact ⟨g, g1, g2, fun _ => rfl⟩
  · exact ⟨base, Nat.le_refl _, hb, fun h => by omega⟩
theorem size_quiet {w : World} {B R : Nat} {l : List Int} {v : Int} (h : MemAt w B R l) (e : (l.length : Int) = v) (n : Nat) : Calls Try.prog 11 #[.pointer (some ⟨B, 0, none⟩)] (w.drewN n) fun e w' => e = .returned (.int .i64 v) ∧ w' = w.drewN n :=
  (size_any (w.drewN n) B R l (h.grow ((Past.refl w).drewN (k := n)))).mono fun _ _ ⟨h1, h2⟩ => ⟨by rw [h1, e], h2.symm⟩
set_option maxHeartbeats 8000000 in
theorem plays_walk (W : World) (sz : Int) (hsz : (Lit.int .i64 sz).wf = true) (v : Value) (ops : List OpD) (hv : IsOps W v ops) : Calls Try.prog 3 #[.int .i64 sz, v] W fun e w' => e = .returned (.bool true) ∧ Past W w' := by
  obtain ⟨B0, cb, rfl, b2, b3, b4⟩ := hv
  have hl1 : ops.length ≤ 9223372036854775807 := by unfold maxLen at b3; omega
  have B4 := Lib.hid b4
  clear b2 b3 b4 hsz
  go_enter Try.func3, Try.ntmps3
  go_upto_region 2 with (go_at_call 8; refine (shown_any _).mono ?_; rintro e w1 ⟨rfl, g1⟩)
  go_upto_region 3 with (go_at_call 9; refine (new_any _ _).mono ?_; rintro e w2 ⟨B, R, q2, rfl, h2, g2⟩)
  go_upto_region 4 with (go_at_call 10; refine (rnew_any _ _ [R, B] (two_lt h2.row.lt h2.lt)).mono ?_; rintro e w3 ⟨Y, q3, rfl, h3, g3⟩)
  obtain ⟨N, hN⟩ : ∃ N, memN sz = N := ⟨_, rfl⟩
  rw [hN] at h2 h3
  have NM : N ≤ 65536 := by rw [← hN]; exact memN_most _
  have S0 : St W w3 B R Y N 0 (List.replicate N 0) [] := ⟨h2.grow g3, h3, rep_len N, fun i _ => by rw [rep_at]; rfl, Nat.le_refl _, g1.trans (g2.trans g3), Nat.le_trans g1.2.2.1 q2.out.1, Nat.le_trans g1.2.2.1 (Nat.le_trans q2.out.1 (Nat.le_of_lt q2.out.2)), Nat.le_trans (g1.trans g2).2.2.1 q3.out⟩
  have c0 := h3.c0
  have SS := Lib.hid S0
  have LN := Lib.hid (show ((List.replicate N (0 : Int)).length : Int) = (N : Int) by rw [rep_len])
  clear S0 h2 h3 g1 g2 g3 q2 q3 hN
  go_quiet (first | (go_at_call 11; exact Calls.quiet_of_same (size_quiet SS.out.mem LN.out _)))
  have S4 := Lib.hid (SS.out.grow ((Past.refl w3).drewN (k := nq)))
  have AY := Lib.hid (show W.heap.size ≤ Y from SS.out.loY)
  clear SS LN c0
  generalize w3.drewN nq = w4 at S4 ⊢
  go_wp2_with fail
  go_loopw [6, 8, 9, 10, 11, 12, 13, 14, 15, 16, 17, 18] (fun x6 x8 x9 x10 x11 x12 x13 x14 x15 x16 x17 x18 wr => ∃ (k B R : Nat) (l : List Int) (ps : List PutD), k ≤ ops.length ∧ k ≤ 60 ∧ x8 = .int .i64 k ∧ x6 = .pointer (some ⟨B, 0, none⟩) ∧ Hid (St W wr B R Y N k l ps)) (fun _ x _ _ _ _ _ _ _ _ _ _ _ => ops.length - (intOf x).toNat)
  case atStart => exact ⟨0, B, R, _, _, by omega, by omega, rfl, rfl, S4⟩
  case round =>
    clear S4
    obtain ⟨k, B, R, l, ps, hk, hk2, rfl, rfl, SW⟩ := hrel
    obtain ⟨wo, hwo⟩ : ∃ wo, wo = wr := ⟨_, rfl⟩
    subst hwo
    have i1 : (0 : Int) ≤ (k : Int) := by omega
    by_cases c : k < ops.length
    · have d1 : decide ((k : Int) < (ops.length : Int)) = true := by simpa using c
      by_cases c2 : k < 60
      · have d2 : decide ((k : Int) < 60) = true := by simp; omega
        obtain ⟨b, off, rfl, hb, hx⟩ := B4.out (by omega)
        obtain ⟨o1, o2, o3, o4, o5, o6, o7, o8⟩ := hx k c
        clear hx
        obtain ⟨x, hxx⟩ : ∃ x, ops.getD k default = x := ⟨_, rfl⟩
        rw [hxx] at o1 o2 o3 o4 o5 o6 o7 o8
        clear hxx
        obtain ⟨xa, xf, xn, xv, xl⟩ := x
        simp only at o1 o2 o3 o4 o5 o6 o7 o8
        have X8 := Lib.hid o8
        have WF := Lib.hid (And.intro o5 (And.intro o6 o7))
        obtain ⟨C, cc, rfl, x2, x3, _⟩ := nums_form o8
        have HP := Lib.hid SW.out.past
        have y1 := cell_past HP.out o1 hb
        have y2 := cell_past HP.out o2 hb
        have y3 := cell_past HP.out o3 hb
        have y4 := cell_past HP.out o4 hb
        clear o1 o2 o3 o4 o5 o6 o7 o8
        have N3 := Lib.hid ((Past.refl wo).alloc (.cells #[.int .i64 xa, .int .i64 xf, .int .i64 xn, .slice C xl.length cc] 34))
        have z0 : ∀ o : Nat, (wo.alloc (.cells #[.int .i64 xa, .int .i64 xf, .int .i64 xn, .slice C xl.length cc] 34)).cell? ⟨wo.heap.size, o, none⟩ = #[.int .i64 xa, .int .i64 xf, .int .i64 xn, .slice C xl.length cc][o]? := box_new rfl
        have z4 : ∀ o : Nat, (wo.alloc (.cells #[.int .i64 xa, .int .i64 xf, .int .i64 xn, .slice C xl.length cc] 34)).frozen? ⟨wo.heap.size, o, none⟩ = false := free_alloc (free_new (Nat.le_refl _))
        have z5 := (World.size_alloc wo (.cells #[.int .i64 xa, .int .i64 xf, .int .i64 xn, .slice C xl.length cc] 34))
        go_upto_region 10 with fail
        generalize wo.alloc (.cells #[.int .i64 xa, .int .i64 xf, .int .i64 xn, .slice C xl.length cc] 34) = w5 at N3 z0 z4 z5 ⊢
        obtain ⟨Z, hZ⟩ : ∃ Z, wo.heap.size = Z := ⟨_, rfl⟩
        rw [hZ] at z0 z4 z5 ⊢
        have HZ := Lib.hid hZ
        clear hZ
        have z6 : Z < w5.heap.size := by omega
        have v3 := z0 3
        have v2 := z0 2
        have v1 := z0 1
        have v0 := z0 0
        simp only [List.getElem?_toArray, List.getElem?_cons_succ, List.getElem?_cons_zero] at v3 v2 v1 v0
        clear z0 z5 y1 y2 y3 y4
        go_upto_if 56 with fail
        go_cut [] (fun w' => ∃ (m : Nat) (ys : List Int), ys.length = m ∧ m ≤ 100 ∧ w'.cell? ⟨Z, 0, none⟩ = some (.int .i64 xa) ∧ w'.cell? ⟨Z, 1, none⟩ = some (.int .i64 xf) ∧ w'.cell? ⟨Z, 2, none⟩ = some (.int .i64 xn) ∧ w'.cell? ⟨Z, 3, none⟩ = some (.slice C m cc) ∧ Z < w'.heap.size ∧ (∀ o : Nat, w'.frozen? ⟨Z, o, none⟩ = false) ∧ Hid (IsNums .i8 W (.slice C m cc) ys) ∧ Hid (Past wo w'))
        case first =>
          by_cases c : 100 < xl.length
          · have d1 : decide ((100 : Int) < (xl.length : Int)) = true := by simp; omega
            have i1 : (100 : Int) ≤ (cc : Int) := by omega
            have E0 := Lib.hid ((World.cell?_setCell_other w5 ⟨Z, 3, none⟩ ⟨Z, 0, none⟩ (.slice C 100 cc) (by simp)).trans v0)
            have E1 := Lib.hid ((World.cell?_setCell_other w5 ⟨Z, 3, none⟩ ⟨Z, 1, none⟩ (.slice C 100 cc) (by simp)).trans v1)
            have E2 := Lib.hid ((World.cell?_setCell_other w5 ⟨Z, 3, none⟩ ⟨Z, 2, none⟩ (.slice C 100 cc) (by simp)).trans v2)
            have E3 := Lib.hid (World.cell?_setCell_same w5 ⟨Z, 3, none⟩ (.slice C 100 cc) v3)
            have F3 := Lib.hid (free_set (p := ⟨Z, 3, none⟩) (x := .slice C 100 cc) z4)
            go_wp2_with fail
            go_meet
            exact ⟨100, xl.take 100, by rw [List.length_take]; omega, Nat.le_refl _, E0.out, E1.out, E2.out, E3.out, size_set z6, F3.out, Lib.hid (nums_cut 100 (by omega) X8.out), Lib.hid (N3.out.setCell (Nat.le_of_eq HZ.out) _)⟩
          · have d1 : decide ((100 : Int) < (xl.length : Int)) = false := by simp; omega
            go_wp2_with fail
            go_meet
            exact ⟨xl.length, xl, rfl, by omega, v0, v1, v2, v3, z6, z4, X8, N3⟩
        case rest =>
        obtain ⟨m, ys, hm, lm, v0', v1', v2', v3', z6', z4', Y8, N5⟩ := hcut
        obtain ⟨w6, hw6⟩ : ∃ w6, w6 = wc := ⟨_, rfl⟩
        subst hw6
        clear v0 v1 v2 v3 z4 z6 X8 N3 x2 x3
        have rc := Lib.hid (SW.out.ref.grow N5.out)
        have yN := rc.out.c0
        go_upto_if 63 with fail
        go_cut [] (fun w' => ∃ (n2 : Int), (Lit.int .i64 n2).wf = true ∧ w'.cell? ⟨Z, 0, none⟩ = some (.int .i64 xa) ∧ w'.cell? ⟨Z, 1, none⟩ = some (.int .i64 xf) ∧ w'.cell? ⟨Z, 2, none⟩ = some (.int .i64 n2) ∧ w'.cell? ⟨Z, 3, none⟩ = some (.slice C m cc) ∧ Z < w'.heap.size ∧ Hid (Past wo w'))
        case first =>
          by_cases c : 100 < xn
          · have d1 : decide (100 < xn) = true := by simpa using c
            obtain ⟨m1, m2⟩ := mask_bd xn 3 (by omega) (by omega)
            obtain ⟨M, hM⟩ : ∃ M, bits .and .i64 xn 3 = M := ⟨_, rfl⟩
            rw [hM] at m1 m2
            obtain ⟨n2, hn2⟩ : ∃ n2 : Int, n2 = (N : Int) + 1 + M := ⟨_, rfl⟩
            have wn2 : (Lit.int .i64 n2).wf = true := by simp [Lit.wf, IntKind.min, IntKind.max, IntKind.bits, IntKind.signed]; omega
            have W1 := Lib.hid (show IntKind.i64.wrap ((N : Int) + 1) = (N : Int) + 1 by rw [IntKind.wrap_i64]; omega)
            have W2 := Lib.hid (show IntKind.i64.wrap ((N : Int) + 1 + M) = n2 by rw [IntKind.wrap_i64]; omega)
            have E0 := Lib.hid ((World.cell?_setCell_other w6 ⟨Z, 2, none⟩ ⟨Z, 0, none⟩ (.int .i64 n2) (by simp)).trans v0')
            have E1 := Lib.hid ((World.cell?_setCell_other w6 ⟨Z, 2, none⟩ ⟨Z, 1, none⟩ (.int .i64 n2) (by simp)).trans v1')
            have E2 := Lib.hid (World.cell?_setCell_same w6 ⟨Z, 2, none⟩ (.int .i64 n2) v2')
            have E3 := Lib.hid ((World.cell?_setCell_other w6 ⟨Z, 2, none⟩ ⟨Z, 3, none⟩ (.int .i64 n2) (by simp)).trans v3')
            have FZ : w6.drew.frozen? ⟨Z, 2, none⟩ = false := z4' 2
            have CZ : w6.drew.cell? ⟨Z, 2, none⟩ = some (.int .i64 xn) := v2'
            clear hn2 m1 m2
            go_upto_region 13 with fail
            simp only [d1]
            have ww1 := W1.out
            have ww2 := W2.out
            refine wp_region_lastn 10 _ rfl (by kernel_rfl) (by kernel_rfl) ?zb
            case zb =>
              simp only [List.take_succ_cons, List.take_zero]
              refine any_mixd [] (fun w' => w'.cell? ⟨Y, 0, none⟩ = some (.int .i64 (N : Int)) ∧ w'.cell? ⟨Z, 2, none⟩ = some (.int .i64 xn)) [(64, ?vb64), (65, ?vb65), (66, ?vb66), (67, ?vb67), (68, ?vb68), (69, ?vb69), (70, ?vb70), (71, ?vb71), (72, ?vb72), (73, ?vb73)] [64, 65, 66, 67, 68, 69, 70, 71, 72, 73] (by kernel_rfl) rfl (by kernel_rfl) ⟨yN, v2'⟩ (fun w h => h) ?allb ?finb
              case allb =>
                simp only [fillA, Act.put, List.setIfInBounds_toArray, List.set_cons_zero, List.set_cons_succ]
                iterate 10 (first | refine forced rfl ?_ | (refine reads (fun w hw K hK => ?_) ?_; focus ((have hS := Lib.hid hw); go_split_ands; go_simp; (try simp only [Act.put, List.setIfInBounds_toArray, List.set_cons_zero, List.set_cons_succ]); exact hK)))
                exact True.intro
              case finb =>
                simp only [fillA, Act.put, List.setIfInBounds_toArray, List.set_cons_zero, List.set_cons_succ]
                refine mix_nil ?_
                show Oper.wp _ _ _ _ _ _
                go_simp
                go_wp2_with fail
                go_meet
                exact ⟨n2, wn2, E0.out, E1.out, E2.out, E3.out, size_set z6', Lib.hid ((N5.out.setCell (Nat.le_of_eq HZ.out) _).drew)⟩
          · have d1 : decide (100 < xn) = false := by simpa using c
            go_wp2_with fail
            go_meet
            exact ⟨xn, WF.out.2.2, v0', v1', v2', v3', z6', N5⟩
        case rest =>
        obtain ⟨n2, wn2, u0, u1, u2, u3, u6, N6⟩ := hcut
        obtain ⟨w7, hw7⟩ : ∃ w7, w7 = wc := ⟨_, rfl⟩
        subst hw7
        clear v0' v1' v2' v3' z6' z4' N5 rc yN
        have SZ := Lib.hid (show R < Z ∧ B < Z ∧ Y < Z ∧ W.heap.size ≤ Z from ⟨by rw [← HZ.out]; exact SW.out.mem.row.lt, by rw [← HZ.out]; exact SW.out.mem.lt, by rw [← HZ.out]; exact SW.out.ref.lt, by rw [← HZ.out]; exact SW.out.past.2.2.1⟩)
        have SX := Lib.hid (SW.out.grow N6.out)
        clear SW N6 HP
        go_upto_if 76 with fail
        go_cut [6] (fun x6 w' => ∃ (B2 R2 : Nat), x6 = .pointer (some ⟨B2, 0, none⟩) ∧ w'.cell? ⟨Z, 0, none⟩ = some (.int .i64 xa) ∧ w'.cell? ⟨Z, 1, none⟩ = some (.int .i64 xf) ∧ w'.cell? ⟨Z, 2, none⟩ = some (.int .i64 n2) ∧ w'.cell? ⟨Z, 3, none⟩ = some (.slice C m cc) ∧ Z < w'.heap.size ∧ Hid (St W w' B2 R2 Y N k l ps) ∧ Hid (R2 ≠ Z ∧ B2 ≠ Z))
        case first =>
          by_cases cm : k % 9 = 8
          · have dm : ((k : Int) % 9 == 8) = true := by simp; omega
            go_upto_region 17 with (go_at_call 12; refine (clone_any _ _ _ _ SX.out.mem).mono ?_; rintro e w8 ⟨B2, R2, q8, rfl, h8, g8⟩; have H8 := Lib.hid h8; have G8 := Lib.hid g8; clear h8 g8)
            have MO := Lib.hid (SX.out.mem.grow (G8.out.alloc (.cells #[.int .i8 9] 38)))
            have wf9 : (Lit.int .i8 9).wf = true := by decide
            go_wp2_with (go_at_call 13; with_reducible refine (write_some _ _ _ _ MO.out _ _ _ (nums_1 w8 9 wf9)).mono ?_; rintro e w9 ⟨E9, rfl, g9⟩; have G9 := Lib.hid g9; clear g9)
            go_meet
            have q := q8.out
            have sz := SZ.out
            have pz := G8.out.alloc (.cells #[.int .i8 9] 38)
            have cz : ∀ o u, w7.cell? ⟨Z, o, none⟩ = some u → w9.cell? ⟨Z, o, none⟩ = some u := fun o u hu => (G9.out.cell (p := ⟨Z, o, none⟩) (Nat.lt_of_lt_of_le u6 pz.2.2.1) (show Z < R ∨ R + 1 ≤ Z by omega)).trans (cell_past pz hu u6)
            exact ⟨B2, R2, rfl, cz _ _ u0, cz _ _ u1, cz _ _ u2, cz _ _ u3, Nat.lt_of_lt_of_le (Nat.lt_of_lt_of_le u6 pz.2.2.1) G9.out.2.2.1, Lib.hid (SX.out.clone q (H8.out.grow ((Past.refl w8).alloc _)) pz G9.out), Lib.hid ⟨by omega, by omega⟩⟩
          · have dm : ((k : Int) % 9 == 8) = false := by simp; omega
            go_wp2_with fail
            go_meet
            have sz := SZ.out
            exact ⟨B, R, rfl, u0, u1, u2, u3, u6, SX, Lib.hid ⟨by omega, by omega⟩⟩
        case rest =>
        obtain ⟨B2, R2, rfl, t0, t1, t2, t3, t6, SV, AP⟩ := hcut
        obtain ⟨w8, hw8⟩ : ∃ w8, w8 = wc := ⟨_, rfl⟩
        subst hw8
        clear u0 u1 u2 u3 u6 SX
        have V8 := Lib.hid (Y8.out.grow SV.out.past)
        have HL := Lib.hid (show ys.length = m ∧ m ≤ 100 from ⟨hm, lm⟩)
        have hm1 : m ≤ 1000 := by omega
        go_upto_region 21 with (at_builtin; refine wpList_append_8 rfl (.tmp 85) (.tmp 87) rfl w8.heap.size (.slice (some ⟨w8.heap.size, 0, none⟩) 0 0) [] rfl (own8_lit w8) ys C m cc rfl (V8.out.grow ((Past.refl w8).alloc _)) (by have := HL.out; rw [List.length_nil]; omega) (by simp) ?_; intro v1 w9 O1 G1; rw [List.nil_append] at O1; have P9 := Lib.hid (show Past w8 w9 from ((Past.refl w8).alloc _).grownBy G1 (fun q hq => by simp only [Value.ownBlock, Option.some.injEq] at hq; omega)); have Z9 := Lib.hid (show w8.heap.size < w9.heap.size from Nat.lt_of_lt_of_le (by simp) G1.size); have O9 := Lib.hid O1; clear O1 G1)
        obtain ⟨A1, c1, hv1, hv2⟩ := O9.out.form
        rw [HL.out.1] at hv1
        subst hv1
        clear hv2
        obtain ⟨g, hg1, hg2, hg3⟩ := own_block O9.out HL.out.1 Z9.out
        have HG := Lib.hid (show w8.heap.size ≤ g ∧ g < w9.heap.size ∧ (0 < m → A1 = some ⟨g, 0, none⟩) ∧ Z < g from ⟨hg1, hg2, hg3, by omega⟩)
        clear hg1 hg2 hg3
        have p0 := cell_past P9.out t0 t6
        have p1 := cell_past P9.out t1 t6
        have p2 := cell_past P9.out t2 t6
        have p3 := cell_past P9.out t3 t6
        have p6 := Nat.lt_of_lt_of_le t6 P9.out.2.2.1
        have SU := Lib.hid (SV.out.grow P9.out)
        have RU := Lib.hid ((SV.out.ref.more HG.out.1).grow P9.out)
        have GB := Lib.hid (show g ≠ R2 ∧ g ≠ B2 ∧ g ≠ Y from ⟨by have := SV.out.mem.row.lt; have := HG.out.1; omega, by have := SV.out.mem.lt; have := HG.out.1; omega, by have := SV.out.ref.lt; have := HG.out.1; omega⟩)
        have NO := Lib.hid (O9.out.nums (nums_wf Y8.out))
        have GL := Lib.hid (show ∀ q ∈ [g, R2, B2], q < w9.heap.size from fun q hq => by
          simp only [List.mem_cons, List.not_mem_nil, or_false] at hq
          have h1 := SU.out.mem.row.lt
          have h2 := SU.out.mem.lt
          have h3 := HG.out.2.1
          rcases hq with e | e | e <;> omega)
        have V9 := Lib.hid (V8.out.grow P9.out)
        have ZP := Lib.hid (show Z ≠ R2 ∧ Z ≠ Y ∧ Z ≠ g from ⟨fun e => AP.out.1 e.symm, by have := SZ.out; omega, by have := HG.out; omega⟩)
        have S8 := Lib.hid (show R2 < w8.heap.size ∧ Y < w8.heap.size from ⟨SV.out.mem.row.lt, SV.out.ref.lt⟩)
        have S8W := Lib.hid (show W.heap.size ≤ w8.heap.size from SV.out.past.2.2.1)
        clear t0 t1 t2 t3 t6 SV P9 Z9 V8 AP
        have KC := Lib.hid (And.intro c c2)
        clear d1 d2 c c2
        go_cut [100] (fun c100 w' => ∃ (l2 : List Int) (ps2 : List PutD), c100 = .bool false ∧ w'.cell? ⟨Z, 1, none⟩ = some (.int .i64 xf) ∧ w'.cell? ⟨Z, 2, none⟩ = some (.int .i64 n2) ∧ Hid (St W w' B2 R2 Y N (k + 1) l2 ps2) ∧ Hid (RefAt w' Y [g, R2, B2] N ps2) ∧ Hid (Own8 w' w8.heap.size (.slice A1 m c1) ys) ∧ Z < w'.heap.size)
        case first =>
          by_cases ok : okM N xa ys.length = true
          · obtain ⟨p, j, rfl, ej, hij⟩ := okM_iff.1 ok
            have hj : j = ys.length := by omega
            subst hj
            have f1 := Lib.hid (show p + ys.length ≤ l.length by rw [SU.out.len]; exact hij)
            have f2 := Lib.hid hij
            have f3 := Lib.hid (show ps.length < 1000 by have := SU.out.few; have := KC.out; omega)
            clear ej ok hij
            refine wp_region_mixd [4, 10, 11] (fun w' => w'.cell? ⟨Z, 0, none⟩ = some (.int .i64 p) ∧ w'.cell? ⟨Z, 3, none⟩ = some (.slice C m cc)) [(89, ?vc89), (90, ?vc90), (91, ?vc91), (92, ?vc92), (94, ?vc94), (95, ?vc95), (96, ?vc96), (97, ?vc97), (98, ?vc98)] [89, 90, 91, 92, 94, 95, 96, 97, 98] (by kernel_rfl) (by kernel_rfl) rfl (by kernel_rfl) ⟨p0, p3⟩ (fun w h => h) ?allc ?finc
            case allc =>
              simp only [fillA, Act.put, List.setIfInBounds_toArray, List.set_cons_zero, List.set_cons_succ]
              iterate 12 (first | refine forced rfl ?_ | (refine reads (fun w hw K hK => ?_) ?_; focus ((have hS := Lib.hid hw); go_split_ands; go_simp; (try simp only [Act.put, List.setIfInBounds_toArray, List.set_cons_zero, List.set_cons_succ]); exact hK)))
              exact True.intro
            case finc =>
              simp only [fillA, Act.put, List.setIfInBounds_toArray, List.set_cons_zero, List.set_cons_succ]
              refine mix_at 93 rfl rfl (fun K hK => ?_)
              simp only [Act.put, List.setIfInBounds_toArray, List.set_cons_zero, List.set_cons_succ] at hK
              go_simp
              refine (write_at _ _ _ _ (SU.out.mem.grow ((Past.refl _).drew)) _ _ _ (NO.out.grow ((Past.refl _).drew)) p rfl f1.out).mono ?_
              rintro e wa ⟨rfl, ha, ga⟩
              have ga' : But R2 (R2 + 1) w9 wa := ga
              have pa := ga'.past SU.out.past SU.out.loR
              have HA := Lib.hid ha
              have GA := Lib.hid ga'
              have PA := Lib.hid pa
              have sa0 := (GA.out.cell (p := ⟨Z, 0, none⟩) p6 (show Z < R2 ∨ R2 + 1 ≤ Z by have := ZP.out; omega)).trans p0
              have sa3 := (GA.out.cell (p := ⟨Z, 3, none⟩) p6 (show Z < R2 ∨ R2 + 1 ≤ Z by have := ZP.out; omega)).trans p3
              have RA := Lib.hid (RU.out.keep (k := R2) (by simp) GA.out)
              have LA := Lib.hid (show ∀ q ∈ [g, R2, B2], q < wa.heap.size from fun q hq => Nat.lt_of_lt_of_le (GL.out q hq) GA.out.2.2.1)
              refine hK _ _ ⟨sa0, sa3⟩ ?_
              clear hK ha ga ga' pa
              (try simp only [Act.put, List.setIfInBounds_toArray, List.set_cons_zero, List.set_cons_succ])
              refine mix_at 99 rfl rfl (fun K hK => ?_)
              simp only [Act.put, List.setIfInBounds_toArray, List.set_cons_zero, List.set_cons_succ] at hK
              go_simp
              refine (rwrite_ok _ _ _ _ _ RA.out LA.out _ _ (Y8.out.grow PA.out) p f2.out f3.out).mono ?_
              rintro e wb ⟨vb, rfl, hb9, gb⟩
              have HB := Lib.hid hb9
              have GBB := Lib.hid gb
              have sb0 := (gb.cell (p := ⟨Z, 0, none⟩) (Nat.lt_of_lt_of_le p6 GA.out.2.2.1) (show Z < Y ∨ Y + 1 ≤ Z by have := ZP.out; omega)).trans sa0
              have sb3 := (gb.cell (p := ⟨Z, 3, none⟩) (Nat.lt_of_lt_of_le p6 GA.out.2.2.1) (show Z < Y ∨ Y + 1 ≤ Z by have := ZP.out; omega)).trans sa3
              refine hK _ _ ⟨sb0, sb3⟩ ?_
              clear hK hb9 gb
              (try simp only [Act.put, List.setIfInBounds_toArray, List.set_cons_zero, List.set_cons_succ])
              refine mix_at 100 rfl rfl (fun K hK => ?_)
              simp only [Act.put, List.setIfInBounds_toArray, List.set_cons_zero, List.set_cons_succ] at hK
              go_simp
              refine hK _ _ ⟨sb0, sb3⟩ ?_
              clear hK
              (try simp only [Act.put, List.setIfInBounds_toArray, List.set_cons_zero, List.set_cons_succ])
              refine mix_nil ?_
              go_wp2_with fail
              go_meet
              have zp := ZP.out
              have pa6 := Nat.lt_of_lt_of_le p6 GA.out.2.2.1
              have x1 := (GBB.out.cell (p := ⟨Z, 1, none⟩) pa6 (show Z < Y ∨ Y + 1 ≤ Z by omega)).trans ((GA.out.cell (p := ⟨Z, 1, none⟩) p6 (show Z < R2 ∨ R2 + 1 ≤ Z by omega)).trans p1)
              have x2 := (GBB.out.cell (p := ⟨Z, 2, none⟩) pa6 (show Z < Y ∨ Y + 1 ≤ Z by omega)).trans ((GA.out.cell (p := ⟨Z, 2, none⟩) p6 (show Z < R2 ∨ R2 + 1 ≤ Z by omega)).trans p2)
              have s8 := S8.out
              exact ⟨_, _, rfl, x1, x2, Lib.hid (SU.out.put f2.out HA.out GA.out HB.out GBB.out), HB, Lib.hid ((O9.out.keep GA.out (by omega)).keep GBB.out (by omega)), Nat.lt_of_lt_of_le pa6 GBB.out.2.2.1⟩
          · have okf : okM N xa (ys.length : Int) = false := by simpa using ok
            have f1 := Lib.hid (show okM l.length xa (ys.length : Int) = false by rw [SU.out.len]; exact okf)
            have f2 := Lib.hid okf
            clear ok okf
            refine wp_region_mixd [4, 10, 11] (fun w' => w'.cell? ⟨Z, 0, none⟩ = some (.int .i64 xa) ∧ w'.cell? ⟨Z, 3, none⟩ = some (.slice C m cc)) [(89, ?vd89), (90, ?vd90), (91, ?vd91), (92, ?vd92), (94, ?vd94), (95, ?vd95), (96, ?vd96), (97, ?vd97), (98, ?vd98)] [89, 90, 91, 92, 94, 95, 96, 97, 98] (by kernel_rfl) (by kernel_rfl) rfl (by kernel_rfl) ⟨p0, p3⟩ (fun w h => h) ?alld ?find
            case alld =>
              simp only [fillA, Act.put, List.setIfInBounds_toArray, List.set_cons_zero, List.set_cons_succ]
              iterate 12 (first | refine forced rfl ?_ | (refine reads (fun w hw K hK => ?_) ?_; focus ((have hS := Lib.hid hw); go_split_ands; go_simp; (try simp only [Act.put, List.setIfInBounds_toArray, List.set_cons_zero, List.set_cons_succ]); exact hK)))
              exact True.intro
            case find =>
              simp only [fillA, Act.put, List.setIfInBounds_toArray, List.set_cons_zero, List.set_cons_succ]
              refine mix_at 93 rfl rfl (fun K hK => ?_)
              simp only [Act.put, List.setIfInBounds_toArray, List.set_cons_zero, List.set_cons_succ] at hK
              go_simp
              refine (write_no _ _ _ _ (SU.out.mem.grow ((Past.refl _).drew)) _ _ _ (NO.out.grow ((Past.refl _).drew)) f1.out).mono ?_
              rintro e wa ⟨rfl, ha, ga⟩
              have ga' : But R2 (R2 + 1) w9 wa := ga
              have pa := ga'.past SU.out.past SU.out.loR
              have HA := Lib.hid ha
              have GA := Lib.hid ga'
              have PA := Lib.hid pa
              have sa0 := (GA.out.cell (p := ⟨Z, 0, none⟩) p6 (show Z < R2 ∨ R2 + 1 ≤ Z by have := ZP.out; omega)).trans p0
              have sa3 := (GA.out.cell (p := ⟨Z, 3, none⟩) p6 (show Z < R2 ∨ R2 + 1 ≤ Z by have := ZP.out; omega)).trans p3
              have RA := Lib.hid (RU.out.keep (k := R2) (by simp) GA.out)
              refine hK _ _ ⟨sa0, sa3⟩ ?_
              clear hK ha ga ga' pa
              (try simp only [Act.put, List.setIfInBounds_toArray, List.set_cons_zero, List.set_cons_succ])
              refine mix_at 99 rfl rfl (fun K hK => ?_)
              simp only [Act.put, List.setIfInBounds_toArray, List.set_cons_zero, List.set_cons_succ] at hK
              go_simp
              refine (rwrite_no _ _ _ _ _ RA.out _ _ (Y8.out.grow PA.out) _ f2.out).mono ?_
              rintro e wb ⟨rfl, rfl⟩
              refine hK _ _ ⟨sa0, sa3⟩ ?_
              clear hK
              (try simp only [Act.put, List.setIfInBounds_toArray, List.set_cons_zero, List.set_cons_succ])
              refine mix_at 100 rfl rfl (fun K hK => ?_)
              simp only [Act.put, List.setIfInBounds_toArray, List.set_cons_zero, List.set_cons_succ] at hK
              go_simp
              refine hK _ _ ⟨sa0, sa3⟩ ?_
              clear hK
              (try simp only [Act.put, List.setIfInBounds_toArray, List.set_cons_zero, List.set_cons_succ])
              refine mix_nil ?_
              go_wp2_with fail
              go_meet
              have zp := ZP.out
              have x1 := (GA.out.cell (p := ⟨Z, 1, none⟩) p6 (show Z < R2 ∨ R2 + 1 ≤ Z by omega)).trans p1
              have x2 := (GA.out.cell (p := ⟨Z, 2, none⟩) p6 (show Z < R2 ∨ R2 + 1 ≤ Z by omega)).trans p2
              have s8 := S8.out
              exact ⟨_, _, rfl, x1, x2, Lib.hid (SU.out.kept HA.out RA.out PA.out), RA, Lib.hid (O9.out.keep GA.out (by omega)), Nat.lt_of_lt_of_le p6 GA.out.2.2.1⟩
        case rest =>
        obtain ⟨l2, ps2, rfl, u1, u2, SQ, RQ, OQ, u6⟩ := hcut
        obtain ⟨wA, hwA⟩ : ∃ wA, wA = wc := ⟨_, rfl⟩
        subst hwA
        clear p0 p1 p2 p3 p6 SU RU NO GL V9
        go_wp2_with fail
        go_loopw [12] (fun x wr => ∃ j : Nat, j ≤ m ∧ x = .int .i64 j ∧ wr.cell? ⟨Z, 1, none⟩ = some (.int .i64 xf) ∧ wr.cell? ⟨Z, 2, none⟩ = some (.int .i64 n2) ∧ Hid (St W wr B2 R2 Y N (k + 1) l2 ps2) ∧ Hid (RefAt wr Y [g, R2, B2] N ps2) ∧ Hid (∃ L : List Int, L.length = m ∧ Own8 wr w8.heap.size (.slice A1 m c1) L)) (fun x _ => m - (intOf x).toNat)
        case atStart => exact ⟨0, by omega, rfl, u1, u2, SQ, RQ, Lib.hid ⟨ys, HL.out.1, OQ.out⟩⟩
        case round =>
          clear u1 u2 SQ RQ OQ
          obtain ⟨j, hj, rfl, u1, u2, SQ, RQ, OQ⟩ := hrel
          have j1 : (0 : Int) ≤ (j : Int) := by omega
          by_cases cj : j < m
          · have dj : decide ((j : Int) < (m : Int)) = true := by simpa using cj
            have j2 : (j : Int) < (m : Int) := by omega
            obtain rfl := HG.out.2.2.1 (by omega)
            obtain ⟨L, hL, hO⟩ := OQ.out
            obtain ⟨A', c', e, hf⟩ := hO.form
            simp only [Value.slice.injEq] at e
            obtain ⟨rfl, eL, rfl⟩ := e
            obtain ⟨g', e', _, _, f1, f2⟩ := hf (by omega)
            simp only [Option.some.injEq, Addr.mk.injEq, and_true] at e'
            obtain rfl := e'
            have CX := f2 j (by omega)
            have FX := f1 j
            have BG := Lib.hid (But.setCell wr (lo := g) (hi := g + 1) (a := ⟨g, j, none⟩) (Nat.le_refl _) (Nat.lt_succ_self _) (.int .i8 77))
            have gb := GB.out
            have zp := ZP.out
            have S2 := Lib.hid (SQ.out.aside RQ.out BG.out gb.2.1 gb.1 (by have := HG.out.1; have := S8W.out; omega))
            have R2' := Lib.hid (RQ.out.keep (k := g) (by simp) BG.out)
            have O2 := Lib.hid (show ∃ L : List Int, L.length = m ∧ Own8 (wr.setCell ⟨g, j, none⟩ (.int .i8 77)) w8.heap.size (.slice (some ⟨g, 0, none⟩) m c1) L from ⟨L.set j 77, by rw [List.length_set]; exact hL, hO.stored hL j 77⟩)
            have U1 := Lib.hid (cell_set (x := .int .i8 77) (p := ⟨g, j, none⟩) u1 (show g ≠ Z from fun e => zp.2.2 e.symm))
            have U2 := Lib.hid (cell_set (x := .int .i8 77) (p := ⟨g, j, none⟩) u2 (show g ≠ Z from fun e => zp.2.2 e.symm))
            clear hf f1 f2 hO SQ RQ OQ BG hL eL
            go_wp2_with fail
            go_roundw
            case rel => exact ⟨j + 1, by omega, by go_num, U1.out, U2.out, S2, R2', O2⟩
            case measure => simp [intOf]; omega
          · have dj : decide ((j : Int) < (m : Int)) = false := by simpa using cj
            clear OQ RQ
            have few := Lib.hid KC.out
            by_cases okr : okM N xf n2 = true
            · obtain ⟨ri, rj, rfl, rfl, hij⟩ := okM_iff.1 okr
              have f1 := Lib.hid (show ri + rj ≤ l2.length by rw [SQ.out.len]; exact hij)
              have f2 := Lib.hid hij
              have EQ := Lib.hid (SQ.out.read hij)
              have WR := Lib.hid (show Wf8 (rdL ps2 ri rj) from rdL_wf SQ.out.ref.wf _ _)
              have LS := Lib.hid (show W.heap.size ≤ wr.heap.size from SQ.out.past.2.2.1)
              have rj1 : rj ≤ 100000 := by have := SQ.out.ref.most; omega
              clear okr hij
              go_upto_region 29 with (first
                | (go_at_call 15; with_reducible refine (read_at _ _ _ _ SQ.out.mem _ _ ri rj rfl rfl f1.out _ EQ.out).mono ?_; rintro e wB ⟨P, qP, rfl, rwP, gP⟩; have RP := Lib.hid rwP; have GP := Lib.hid gP; have SB := Lib.hid (SQ.out.grow gP); have RB := Lib.hid ((SQ.out.ref.more qP.out).grow gP); have PX := Lib.hid (show P ≠ R2 ∧ P ≠ B2 ∧ W.heap.size ≤ P ∧ P ≠ Z from ⟨by have := SQ.out.mem.row.lt; have := qP.out; omega, by have := SQ.out.mem.lt; have := qP.out; omega, Nat.le_trans LS.out qP.out, by have := qP.out; have := cell_lt u1; omega⟩); have v1 := cell_past gP u1 (cell_lt u1); have v2 := cell_past gP u2 (cell_lt u2); clear rwP gP qP SQ)
                | (go_at_call 16; with_reducible refine (rread_ok _ _ _ _ _ SB.out.ref ri rj f2.out).mono ?_; rintro e wC ⟨AR, cR, rfl, nR, gC⟩; have NR := Lib.hid nR; have GC := Lib.hid gC; have SC := Lib.hid (SB.out.grow gC); have RC := Lib.hid (RB.out.grow gC); have RPC := Lib.hid (RP.out.past gC); have NP := Lib.hid (row_nums RPC.out (rdL_len ps2 ri rj) WR.out (by unfold maxLen; omega)); clear nR gC RP SB RB))
              go_wp2_with (go_at_call 17; with_reducible refine (same_any _ _ _ (rdL ps2 ri rj) (rdL ps2 ri rj) true NP.out NR.out (Lib.hid ⟨fun _ => rfl, fun _ => rfl⟩)).mono ?_; rintro e wD ⟨rfl, gD⟩; have SD := Lib.hid (SC.out.grow (Grown.past gD)); have RD := Lib.hid (RC.out.grow (Grown.past gD)); have RPD := Lib.hid (RPC.out.past (Grown.past gD)); clear gD NP NR SC RC RPC)
              go_loopw [18] (fun x wr => ∃ t : Nat, t ≤ rj ∧ x = .int .i64 t ∧ Hid (St W wr B2 R2 Y N (k + 1) l2 ps2) ∧ Hid (RefAt wr Y [P, R2, B2] N ps2) ∧ Hid (∃ L : List Int, L.length = rj ∧ Row8 wr P L)) (fun x _ => rj - (intOf x).toNat)
              case atStart => exact ⟨0, by omega, rfl, SD, RD, Lib.hid ⟨_, rdL_len ps2 ri rj, RPD.out⟩⟩
              case round =>
                clear SD RD RPD u1 u2 v1 v2
                obtain ⟨t, ht, rfl, SD, RD, OD⟩ := hrel
                have t1 : (0 : Int) ≤ (t : Int) := by omega
                by_cases ct : t < rj
                · have dt : decide ((t : Int) < (rj : Int)) = true := by simpa using ct
                  have t2 : (t : Int) < (rj : Int) := by omega
                  obtain ⟨L, hL, hO⟩ := OD.out
                  have CX := hO.cell (i := t) (by omega)
                  have FX := hO.free t
                  have BG := Lib.hid (But.setCell wr (lo := P) (hi := P + 1) (a := ⟨P, t, none⟩) (Nat.le_refl _) (Nat.lt_succ_self _) (.int .i8 88))
                  have px := PX.out
                  have S2 := Lib.hid (SD.out.aside RD.out BG.out px.2.1 px.1 px.2.2.1)
                  have R2' := Lib.hid (RD.out.keep (k := P) (by simp) BG.out)
                  have O2 := Lib.hid (show ∃ L : List Int, L.length = rj ∧ Row8 (wr.setCell ⟨P, t, none⟩ (.int .i8 88)) P L from ⟨L.set t 88, by rw [List.length_set]; exact hL, hO.set t 88⟩)
                  clear hO SD RD OD BG px hL
                  go_wp2_with fail
                  go_roundw
                  case rel => exact ⟨t + 1, by omega, by go_num, S2, R2', O2⟩
                  case measure => simp [intOf]; omega
                · have dt : decide ((t : Int) < (rj : Int)) = false := by simpa using ct
                  obtain ⟨c91, c92⟩ := KC.out
                  go_wp2_with fail
                  go_roundw
                  case rel => exact ⟨k + 1, B2, R2, l2, ps2, by omega, by omega, by go_num, rfl, SD⟩
                  case measure => simp [intOf]; omega
            · have okf : okM N xf n2 = false := by simpa using okr
              have f1 := Lib.hid (show okM l2.length xf n2 = false by rw [SQ.out.len]; exact okf)
              have f2 := Lib.hid okf
              clear okr okf
              go_wp2_with (first
                | (go_at_call 15; with_reducible refine (read_no _ _ _ _ SQ.out.mem _ _ wn2 f1.out).mono ?_; rintro e wB ⟨rfl, rfl⟩)
                | (go_at_call 16; with_reducible refine (rread_no _ _ _ _ _ SQ.out.ref _ _ f2.out).mono ?_; rintro e wC ⟨rfl, rfl⟩)
                | (go_at_call 17; with_reducible refine (same_any _ _ _ [] [] true (nums_none _) (nums_none _) (Lib.hid ⟨fun _ => rfl, fun _ => rfl⟩)).mono ?_; rintro e wD ⟨rfl, gD⟩; have SD := Lib.hid (SQ.out.grow (Grown.past gD)); clear gD))
              go_loopw [18] (fun x wr => x = .int .i64 0 ∧ Hid (St W wr B2 R2 Y N (k + 1) l2 ps2)) (fun _ _ => 0)
              case atStart => exact ⟨rfl, SD⟩
              case round =>
                clear SD
                obtain ⟨rfl, SD⟩ := hrel
                obtain ⟨c91, c92⟩ := KC.out
                go_wp2_with fail
                go_roundw
                case rel => exact ⟨k + 1, B2, R2, l2, ps2, by omega, by omega, by go_num, rfl, SD⟩
                case measure => simp [intOf]; omega
      · have d2 : decide ((k : Int) < 60) = false := by simp; omega
        go_wp2_with fail
        go_ret
        exact ⟨rfl, SW.out.past⟩
    · have d1 : decide ((k : Int) < (ops.length : Int)) = false := by simpa using c
      go_wp2_with fail
      go_ret
      exact ⟨rfl, SW.out.past⟩
end Go.Proofs.Ytlpcppdpodedmaa
