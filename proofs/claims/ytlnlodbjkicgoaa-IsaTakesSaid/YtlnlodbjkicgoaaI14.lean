/- The reference's Same: two rows of commands. -/
import Derived.Test.YtlnlodbjkicgoaaI10c
import Derived.Test.YtlnlodbjkicgoaaI4b
namespace Go.Proofs.Ytlnlodbjkicgoaa
open Go.ChangeShapes Go.WideShapes Go.ChangeAt Go.RowKit
set_option maxRecDepth 20000
set_option linter.unusedVariables false
set_option linter.unusedSimpArgs false

theorem owes_row {ops : Array Oper} {S : World → Prop} {aF : Act} {o : Oper} {l : List Oper} (hg : o.guard = none) (x : Operand) (ho : o.op = .load 32 x) (b off : Nat) (hx : aF.eval x = .pointer (some ⟨b, off, none⟩)) (c : List Int) (hl : c.length = 14) (hb : ∀ w, S w → w.rangeAt b off (cellC c))
    (hp : aF.put o.dst (.agg ⟨cellC c⟩) = aF) (k : OwesAll Try.prog ops S aF l) : OwesAll Try.prog ops S aF (o :: l) := by
  refine ⟨fun w hw => ?_, k⟩
  have hwant : Region.wanted o (yielded ops aF.tmps) = true := by unfold Region.wanted; rw [hg]
  rw [if_pos hwant]
  exact wp_load_mid 32 x ho b off hx (cellC c) _ (hb w hw) Try.underlying32 rfl (by rw [C14, cellC_len, hl]) ⟨hp, hw⟩
theorem owes_neqC {ops : Array Oper} {S : World → Prop} {aF : Act} {o : Oper} {l : List Oper} (hg : o.guard = none) (x y : Operand) (ty2 : TypeId) (ho : o.op = .binOp .neq 32 x y ty2) (c d : List Int) (hc : c.length = 14) (hd : d.length = 14) (hx : aF.eval x = .agg ⟨cellC c⟩) (hy : aF.eval y = .agg ⟨cellC d⟩)
    (hp : aF.put o.dst (.bool (!decide (c = d))) = aF) (k : OwesAll Try.prog ops S aF l) : OwesAll Try.prog ops S aF (o :: l) := by
  refine ⟨fun w hw => ?_, k⟩
  have hwant : Region.wanted o (yielded ops aF.tmps) = true := by unfold Region.wanted; rw [hg]
  rw [if_pos hwant]
  exact wp_neqC x y ty2 ho c d hc hd hx hy ⟨hp, hw⟩
theorem take_eq_next {l m : List (List Int)} {n : Nat} (h : l.take n = m.take n) (hl : n < l.length) (hm : n < m.length) (e : l.getD n [] = m.getD n []) : l.take (n + 1) = m.take (n + 1) := by
  rw [List.take_succ_eq_append_getElem hl, List.take_succ_eq_append_getElem hm, h]
  simp [List.getD, hl, hm] at e
  rw [e]

set_option maxHeartbeats 1000000 in
theorem same_any (u v : Value) (l m : List (List Int)) (W : World) (hu : IsCmds W u l) (hv : IsCmds W v m) : Calls Try.prog 19 #[u, v] W fun e w' => e = .returned (.bool (decide (l = m))) ∧ Past W w' := by
  have HU := Lib.hid hu
  have HV := Lib.hid hv
  obtain ⟨A, ca, rfl, a2, a3, _⟩ := hu.form
  obtain ⟨B, cb, rfl, b2, b3, _⟩ := hv.form
  have WL := Lib.hid hu.wf
  have WM := Lib.hid hv.wf
  have hm1 : l.length ≤ 9223372036854775807 := by unfold maxLen at a3; omega
  have hm2 : m.length ≤ 9223372036854775807 := by unfold maxLen at b3; omega
  clear hu hv
  by_cases hlen : l.length = m.length
  · obtain ⟨L, hL⟩ : ∃ L, l.length = L := ⟨_, rfl⟩
    have hM : m.length = L := by omega
    rw [hL] at hlen HU a2 hm1
    rw [hM] at HV b2
    obtain ⟨d, hd⟩ : ∃ d, decide (l = m) = d := ⟨_, rfl⟩
    rw [hL, hM, hd]
    have HD := Lib.hid hd
    have HL := Lib.hid hL
    have HM := Lib.hid hM
    clear hlen hL hM hd hm2
    go_enter Try.func19, Try.ntmps19
    go_wp2_with fail
    go_loopw [4, 5] (fun s i wr => ∃ n : Nat, n ≤ L ∧ i = .int .i64 n ∧ s = .bool false ∧ Hid (l.take n = m.take n) ∧ Hid (Past W wr)) (fun _ i _ => L - (intOf i).toNat)
    case atStart => exact ⟨0, by omega, rfl, rfl, Lib.hid rfl, Lib.hid (Past.refl W)⟩
    case round =>
      obtain ⟨n, hnl, rfl, rfl, heq, hp⟩ := hrel
      by_cases h : n < L
      · obtain ⟨ba, oa, rfl, hba, ra⟩ := (HU.out.grow hp.out).at n (by rw [HL.out]; omega)
        obtain ⟨bb, ob, rfl, hbb, rb⟩ := (HV.out.grow hp.out).at n (by rw [HM.out]; omega)
        have wl := wfC_at WL.out (i := n) (by rw [HL.out]; omega)
        have wm := wfC_at WM.out (i := n) (by rw [HM.out]; omega)
        have nx : l.getD n [] = m.getD n [] → l.take (n + 1) = m.take (n + 1) := fun e => take_eq_next heq.out (by rw [HL.out]; omega) (by rw [HM.out]; omega) e
        have no : l.getD n [] ≠ m.getD n [] → d = false := fun e => by rw [← HD.out]; exact decide_eq_false (fun q => e (by rw [q]))
        obtain ⟨c, hc⟩ : ∃ c, l.getD n [] = c := ⟨_, rfl⟩
        obtain ⟨e, he⟩ : ∃ e, m.getD n [] = e := ⟨_, rfl⟩
        rw [hc] at ra wl nx no
        rw [he] at rb wm nx no
        have RA := Lib.hid ra
        have RB := Lib.hid rb
        have LC := Lib.hid wl.1
        have LE := Lib.hid wm.1
        have NX := Lib.hid nx
        have NO := Lib.hid no
        clear ra rb wl wm nx no hc he hba hbb
        go_upto_region 6 with fail
        refine wp_region_fill (fun w' => Hid (w'.rangeAt ba (oa + n * 14) (cellC c)) ∧ Hid (w'.rangeAt bb (ob + n * 14) (cellC e)) ∧ Hid (Past W w')) [(17, ?v17), (18, ?v18), (19, ?v19), (20, ?v20), (21, ?v21), (22, ?v22), (23, ?v23), (24, ?v24), (25, ?v25)] [17, 18, 19, 20, 21, 22, 23, 24, 25] (by kernel_rfl) (by kernel_rfl) rfl (by kernel_rfl) ⟨RA, RB, hp⟩ (fun w h => h) ?all ?fin
        case all =>
          simp only [fillA, Act.put, List.setIfInBounds_toArray, List.set_cons_zero, List.set_cons_succ]
          iterate 3 (refine owes_cons (fun w hw K hK => ?_) ?_; focus ((have hS := Lib.hid hw); go_simp; (try simp only [Act.put, List.setIfInBounds_toArray, List.set_cons_zero, List.set_cons_succ]); exact hK _ hS.out))
          refine owes_row rfl (.tmp 19) rfl ba (oa + n * 14) rfl c LC.out (fun w h => h.1.out) (by simp only [Act.put, List.setIfInBounds_toArray, List.set_cons_zero, List.set_cons_succ] <;> rfl) ?_
          iterate 3 (refine owes_cons (fun w hw K hK => ?_) ?_; focus ((have hS := Lib.hid hw); go_simp; (try simp only [Act.put, List.setIfInBounds_toArray, List.set_cons_zero, List.set_cons_succ]); exact hK _ hS.out))
          refine owes_row rfl (.tmp 23) rfl bb (ob + n * 14) rfl e LE.out (fun w h => h.2.1.out) (by simp only [Act.put, List.setIfInBounds_toArray, List.set_cons_zero, List.set_cons_succ] <;> rfl) ?_
          refine owes_neqC rfl (.tmp 20) (.tmp 24) 32 rfl c e LC.out LE.out rfl rfl (by simp only [Act.put, List.setIfInBounds_toArray, List.set_cons_zero, List.set_cons_succ] <;> rfl) ?_
          exact True.intro
        case fin =>
          rintro w8 ⟨_, _, p8⟩
          simp only [fillA, Act.put, List.setIfInBounds_toArray, List.set_cons_zero, List.set_cons_succ]
          by_cases q : c = e
          · have d1 : (!decide (c = e)) = false := by simp [q]
            have NX2 := Lib.hid (NX.out q)
            rw [d1]
            clear d1 q NX NO
            go_wp2_with fail
            go_roundw
            case rel => exact ⟨n + 1, by omega, by go_num, rfl, NX2, p8⟩
            case measure => simp [intOf]; omega
          · have d1 : (!decide (c = e)) = true := by simp [q]
            have ED := Lib.hid (NO.out q)
            rw [d1]
            clear d1 q NX NO
            go_wp2_with fail
            go_ret
            exact ⟨by rw [ED.out]; rfl, p8.out⟩
      · have e1 : l = m := by
          have q := heq.out
          rw [List.take_of_length_le (by rw [HL.out]; omega), List.take_of_length_le (by rw [HM.out]; omega)] at q
          exact q
        have ED : Hid (d = true) := Lib.hid (by rw [← HD.out]; exact decide_eq_true e1)
        clear e1 heq
        go_wp2_with fail
        go_ret
        exact ⟨by rw [ED.out]; rfl, hp.out⟩
  · have d1 : decide (l = m) = false := decide_eq_false (fun e => hlen (by rw [e]))
    have d2 : ((l.length : Int) != (m.length : Int)) = true := by simp; omega
    rw [d1]
    clear d1 hlen
    go_enter Try.func19, Try.ntmps19
    go_wp2_with fail
    go_ret
    exact ⟨rfl, Past.refl _⟩
end Go.Proofs.Ytlnlodbjkicgoaa
