/- The reference's Open. -/
import Derived.Test.YtdfkpclilcnofaaS5
import Derived.Test.YtdfkpclilcnofaaFixS
namespace Go.Proofs.Ytdfkpclilcnofaa
open Go.ChangeShapes Go.WideShapes Go.ChangeAt Go.RowKit
set_option maxRecDepth 20000
set_option linter.unusedVariables false
set_option linter.unusedSimpArgs false

set_option maxHeartbeats 4000000 in
theorem ropen_any (bs : List Nat) (v : Value) (W : World) (h : IsNums .u8 W v (ints bs)) (hb : Bytes bs) (hl : bs.length ≤ 1000000) : Calls Try.prog 10 #[v] W (OpenPost bs W) := by
  obtain ⟨A, cap, rfl, h2, h3, h4⟩ := nums_form h
  have H := Lib.hid h
  obtain ⟨i0, hi0, hz0, hz1, hz2⟩ := info_parts info8
  have I1 := Lib.hid hi0
  have I2 := Lib.hid hz0
  have I3 := Lib.hid hz1
  have I4 := Lib.hid hz2
  clear h hi0 hz0 hz1 hz2
  by_cases c : bs.length < 4
  · have t1 : decide (((bs.length : Nat) : Int) - 4 < 0) = true := by simp; omega
    go_enter Try.func10, Try.ntmps10
    go_upto_region 2 with fail
    refine wp_region_fill (fun w' => Past W w') [(8, ?va8), (9, ?va9), (10, ?va10), (19, ?va19)] [8, 9, 10, 19] (by kernel_rfl) (by kernel_rfl) rfl (by kernel_rfl) (Past.refl W) (fun w h => h) ?alla ?fina
    case alla =>
      simp only [fillA, Act.put, List.setIfInBounds_toArray, List.set_cons_zero, List.set_cons_succ]
      iterate 12 (refine owes_cons (fun w hw K hK => ?_) ?_; focus ((have hS := Lib.hid hw); go_split_ands; go_simp; (try simp only [Act.put, List.setIfInBounds_toArray, List.set_cons_zero, List.set_cons_succ]); first | exact hK _ hS.out))
      exact True.intro
    case fina =>
      intro wr g1
      simp only [fillA, Act.put, List.setIfInBounds_toArray, List.set_cons_zero, List.set_cons_succ]
      go_wp2_with fail
      go_ret2
      exact Or.inr ⟨fun h => by omega, rfl, g1⟩
  · obtain ⟨m, em⟩ : ∃ m, bs.length - 4 = m := ⟨_, rfl⟩
    have el : bs.length = m + 4 := by omega
    have hc := nums_cut m (by omega) H.out
    have lt : (bs.take m).length = m := by simp; omega
    have SE := Lib.hid (fun w (g : Past W w) => rseal_any (bs.take m) _ w (hc.grow g) (hb.take m) (by omega))
    have SB := seal_lt (hb.take m)
    have KEY := Lib.hid (sealed_iff (s := bs) hb (by omega))
    have SL : (sealD (bs.take m)).length = m + 4 := by rw [seal_len, lt]
    have SRC := Lib.hid (fun w (g : Past W w) => src_of (hc.grow g))
    have NC : (cellB (bs.take m)).length = m := by rw [cellB_len, lt]
    have HB := Lib.hid hb
    have S1 := Lib.hid SB
    have S2 := Lib.hid SL
    have S3 := Lib.hid lt
    have S4 := Lib.hid NC
    have t1 : decide (((m : Nat) : Int) < 0) = false := by simp
    have e4 : ((m + 4 : Nat) : Int) - 4 = (m : Int) := by omega
    have mb : m ≤ 1000000 := by omega
    have HM := Lib.hid em
    rw [em] at KEY
    have EL := Lib.hid el
    clear hc SB SL lt NC em hb
    rw [el] at h2 H ⊢
    clear el
    obtain ⟨⟨B, off, spot⟩, rfl⟩ : ∃ ad, A = some ad := by
      cases hA : A with
      | none => have := h4 hA; omega
      | some ad => exact ⟨ad, rfl⟩
    clear h4
    have mc : m ≤ cap := by omega
    by_cases q : sealD (bs.take m) = bs
    · have sq := strB_yes q
      have Q := Lib.hid q
      clear q
      obtain ⟨T1, hT1⟩ : ∃ T, strB (sealD (bs.take m)) = T := ⟨_, rfl⟩
      obtain ⟨T2, hT2⟩ : ∃ T, strB bs = T := ⟨_, rfl⟩
      rw [hT1, hT2] at sq
      have HT1 := Lib.hid hT1
      have HT2 := Lib.hid hT2
      clear hT1 hT2
      go_enter Try.func10, Try.ntmps10
      go_upto_region 2 with fail
      refine wp_region_past W [(8, ?vb8), (9, ?vb9), (10, ?vb10), (11, ?vb11), (12, ?vb12), (13, ?vb13), (15, ?vb15), (16, ?vb16), (17, ?vb17), (18, ?vb18), (19, ?vb19)] [(6, 14)] (fun i x w => (i = 6 → IsNums .u8 w x (ints (sealD (bs.take m))))) [(7, [6])] [] (fun i x w w' p h e => (h e).grow p) (by kernel_rfl) (by kernel_rfl) (by kernel_rfl) ?db (Past.refl W) ?eb ?lb ?nb
      case db =>
        intro q hq
        simp only [List.mem_cons, List.not_mem_nil, or_false] at hq
        rcases hq with rfl <;> simp
      case eb =>
        simp only [latesV, List.map_cons, List.map_nil, List.cons_append, List.nil_append, List.append_nil, fillA, Act.put, List.setIfInBounds_toArray, List.set_cons_zero, List.set_cons_succ]
        refine early_cons (fun v w hw hd K hK => ?_) ?_
        focus
          go_simp
          (try simp only [Act.put, List.setIfInBounds_toArray, List.set_cons_zero, List.set_cons_succ])
          exact hK
        refine early_cons (fun v w hw hd K hK => ?_) ?_
        focus
          go_simp
          (try simp only [Act.put, List.setIfInBounds_toArray, List.set_cons_zero, List.set_cons_succ])
          exact hK
        refine early_cons (fun v w hw hd K hK => ?_) ?_
        focus
          go_simp
          (try simp only [Act.put, List.setIfInBounds_toArray, List.set_cons_zero, List.set_cons_succ])
          exact hK
        refine early_cons (fun v w hw hd K hK => ?_) ?_
        focus
          go_simp
          (try simp only [Act.put, List.setIfInBounds_toArray, List.set_cons_zero, List.set_cons_succ])
          exact hK
        refine early_cons (fun v w hw hd K hK => ?_) ?_
        focus
          go_simp
          (try simp only [Act.put, List.setIfInBounds_toArray, List.set_cons_zero, List.set_cons_succ])
          exact hK
        refine early_cons (fun v w hw hd K hK => ?_) ?_
        focus
          go_simp
          (try simp only [Act.put, List.setIfInBounds_toArray, List.set_cons_zero, List.set_cons_succ])
          exact hK
        refine early_skip rfl ?_
        refine early_cons (fun v w hw hd K hK => ?_) ?_
        focus
          have s1 := str_b (hd 6 rfl rfl)
          rw [HT1.out] at s1
          go_simp
          (try simp only [Act.put, List.setIfInBounds_toArray, List.set_cons_zero, List.set_cons_succ])
          exact hK
        refine early_cons (fun v w hw hd K hK => ?_) ?_
        focus
          go_simp
          (try simp only [Act.put, List.setIfInBounds_toArray, List.set_cons_zero, List.set_cons_succ])
          exact hK
        refine early_cons (fun v w hw hd K hK => ?_) ?_
        focus
          have s1 := str_b (H.out.grow hw)
          rw [HT2.out] at s1
          go_simp
          (try simp only [Act.put, List.setIfInBounds_toArray, List.set_cons_zero, List.set_cons_succ])
          exact hK
        refine early_cons (fun v w hw hd K hK => ?_) ?_
        focus
          go_simp
          (try simp only [Act.put, List.setIfInBounds_toArray, List.set_cons_zero, List.set_cons_succ])
          exact hK
        refine early_cons (fun v w hw hd K hK => ?_) ?_
        focus
          go_simp
          (try simp only [Act.put, List.setIfInBounds_toArray, List.set_cons_zero, List.set_cons_succ])
          exact hK
        exact True.intro
      case lb =>
        simp only [latesV, List.map_cons, List.map_nil, List.cons_append, List.nil_append, List.append_nil, fillA, Act.put, List.setIfInBounds_toArray, List.set_cons_zero, List.set_cons_succ]
        refine lateP_skip rfl ?_
        refine lateP_skip rfl ?_
        refine lateP_skip rfl ?_
        refine lateP_skip rfl ?_
        refine lateP_skip rfl ?_
        refine lateP_skip rfl ?_
        refine lateP_cons (fun v w hw hd => ⟨rfl, fun K hK => ?_⟩) ?_
        focus
          (try simp only [Act.put, List.setIfInBounds_toArray, List.set_cons_zero, List.set_cons_succ])
          go_simp
          go_at_call 14
          refine (SE.out _ hw).mono ?_
          rintro e w1 ⟨u, rfl, hu, gu⟩
          exact hK _ _ gu (fun _ => hu.nums S1.out)
        refine lateP_skip rfl ?_
        refine lateP_skip rfl ?_
        refine lateP_skip rfl ?_
        refine lateP_skip rfl ?_
        refine lateP_skip rfl ?_
        exact True.intro
      case nb =>
        intro v w8 hw hd
        simp only [latesV, List.map_cons, List.map_nil, List.cons_append, List.nil_append, List.append_nil, fillA, Act.put, List.setIfInBounds_toArray, List.set_cons_zero, List.set_cons_succ]
        have HW := Lib.hid hw
        clear hw hd
        go_wp2_with (at_builtin; refine wpList_append_src rfl (.tmp 20) (.tmp 23) 22 rfl W.heap.size 5 i0 _ 1 1 Try.underlying22 I1.out I2.out I3.out I4.out rfl (by decide) _ 0 [] rfl (World.ownsRow_lit w8 #[] 0 HW.out.2.2.1 (by decide) rfl) (some ⟨B, off, spot⟩) m cap (cellB (bs.take m)) rfl (by rw [S4.out, Nat.mul_one]) (SRC.out _ (HW.out.alloc _)) (cellB_one _) (by unfold maxLen; omega) (by omega) (by have := HW.out.2.2.1; simp; omega) ?_)
        intro v2 w2 own2 grow2
        have g2 : Past W w2 := (HW.out.alloc _).grownBy grow2 (fun k hk => by simp [Value.ownBlock] at hk; have := HW.out.2.2.1; omega)
        have O2 : Hid (IsNums .u8 w2 v2 (ints (bs.take m))) := Lib.hid (by
          have : OwnS w2 W.heap.size v2 (bs.take m) := by unfold OwnS; rw [S3.out]; simpa using own2
          exact this.nums (HB.out.take m))
        clear own2 grow2
        go_wp2_with fail
        go_ret2
        have KE := EL.out
        exact Or.inl ⟨by omega, KEY.out.1 Q.out, _, rfl, by rw [HM.out]; exact O2.out, g2⟩
    · have sq := strB_no (seal_lt (HB.out.take m)) HB.out q
      have Q := Lib.hid q
      clear q
      obtain ⟨T1, hT1⟩ : ∃ T, strB (sealD (bs.take m)) = T := ⟨_, rfl⟩
      obtain ⟨T2, hT2⟩ : ∃ T, strB bs = T := ⟨_, rfl⟩
      rw [hT1, hT2] at sq
      have HT1 := Lib.hid hT1
      have HT2 := Lib.hid hT2
      clear hT1 hT2
      go_enter Try.func10, Try.ntmps10
      go_upto_region 2 with fail
      refine wp_region_past W [(8, ?vc8), (9, ?vc9), (10, ?vc10), (11, ?vc11), (12, ?vc12), (13, ?vc13), (15, ?vc15), (16, ?vc16), (17, ?vc17), (18, ?vc18), (19, ?vc19)] [(6, 14)] (fun i x w => (i = 6 → IsNums .u8 w x (ints (sealD (bs.take m))))) [(7, [6])] [] (fun i x w w' p h e => (h e).grow p) (by kernel_rfl) (by kernel_rfl) (by kernel_rfl) ?dc (Past.refl W) ?ec ?lc ?nc
      case dc =>
        intro q hq
        simp only [List.mem_cons, List.not_mem_nil, or_false] at hq
        rcases hq with rfl <;> simp
      case ec =>
        simp only [latesV, List.map_cons, List.map_nil, List.cons_append, List.nil_append, List.append_nil, fillA, Act.put, List.setIfInBounds_toArray, List.set_cons_zero, List.set_cons_succ]
        refine early_cons (fun v w hw hd K hK => ?_) ?_
        focus
          go_simp
          (try simp only [Act.put, List.setIfInBounds_toArray, List.set_cons_zero, List.set_cons_succ])
          exact hK
        refine early_cons (fun v w hw hd K hK => ?_) ?_
        focus
          go_simp
          (try simp only [Act.put, List.setIfInBounds_toArray, List.set_cons_zero, List.set_cons_succ])
          exact hK
        refine early_cons (fun v w hw hd K hK => ?_) ?_
        focus
          go_simp
          (try simp only [Act.put, List.setIfInBounds_toArray, List.set_cons_zero, List.set_cons_succ])
          exact hK
        refine early_cons (fun v w hw hd K hK => ?_) ?_
        focus
          go_simp
          (try simp only [Act.put, List.setIfInBounds_toArray, List.set_cons_zero, List.set_cons_succ])
          exact hK
        refine early_cons (fun v w hw hd K hK => ?_) ?_
        focus
          go_simp
          (try simp only [Act.put, List.setIfInBounds_toArray, List.set_cons_zero, List.set_cons_succ])
          exact hK
        refine early_cons (fun v w hw hd K hK => ?_) ?_
        focus
          go_simp
          (try simp only [Act.put, List.setIfInBounds_toArray, List.set_cons_zero, List.set_cons_succ])
          exact hK
        refine early_skip rfl ?_
        refine early_cons (fun v w hw hd K hK => ?_) ?_
        focus
          have s1 := str_b (hd 6 rfl rfl)
          rw [HT1.out] at s1
          go_simp
          (try simp only [Act.put, List.setIfInBounds_toArray, List.set_cons_zero, List.set_cons_succ])
          exact hK
        refine early_cons (fun v w hw hd K hK => ?_) ?_
        focus
          go_simp
          (try simp only [Act.put, List.setIfInBounds_toArray, List.set_cons_zero, List.set_cons_succ])
          exact hK
        refine early_cons (fun v w hw hd K hK => ?_) ?_
        focus
          have s1 := str_b (H.out.grow hw)
          rw [HT2.out] at s1
          go_simp
          (try simp only [Act.put, List.setIfInBounds_toArray, List.set_cons_zero, List.set_cons_succ])
          exact hK
        refine early_cons (fun v w hw hd K hK => ?_) ?_
        focus
          go_simp
          (try simp only [Act.put, List.setIfInBounds_toArray, List.set_cons_zero, List.set_cons_succ])
          exact hK
        refine early_cons (fun v w hw hd K hK => ?_) ?_
        focus
          go_simp
          (try simp only [Act.put, List.setIfInBounds_toArray, List.set_cons_zero, List.set_cons_succ])
          exact hK
        exact True.intro
      case lc =>
        simp only [latesV, List.map_cons, List.map_nil, List.cons_append, List.nil_append, List.append_nil, fillA, Act.put, List.setIfInBounds_toArray, List.set_cons_zero, List.set_cons_succ]
        refine lateP_skip rfl ?_
        refine lateP_skip rfl ?_
        refine lateP_skip rfl ?_
        refine lateP_skip rfl ?_
        refine lateP_skip rfl ?_
        refine lateP_skip rfl ?_
        refine lateP_cons (fun v w hw hd => ⟨rfl, fun K hK => ?_⟩) ?_
        focus
          (try simp only [Act.put, List.setIfInBounds_toArray, List.set_cons_zero, List.set_cons_succ])
          go_simp
          go_at_call 14
          refine (SE.out _ hw).mono ?_
          rintro e w1 ⟨u, rfl, hu, gu⟩
          exact hK _ _ gu (fun _ => hu.nums S1.out)
        refine lateP_skip rfl ?_
        refine lateP_skip rfl ?_
        refine lateP_skip rfl ?_
        refine lateP_skip rfl ?_
        refine lateP_skip rfl ?_
        exact True.intro
      case nc =>
        intro v w8 hw hd
        simp only [latesV, List.map_cons, List.map_nil, List.cons_append, List.nil_append, List.append_nil, fillA, Act.put, List.setIfInBounds_toArray, List.set_cons_zero, List.set_cons_succ]
        go_wp2_with fail
        go_ret2
        exact Or.inr ⟨fun h => Q.out (KEY.out.2 h.2), rfl, hw⟩
end Go.Proofs.Ytdfkpclilcnofaa
