/- SumAll: the walk. -/
import Derived.Test.YtdfkpclilcnofaaS7
import Derived.Test.YtdfkpclilcnofaaS8
namespace Go.Proofs.Ytdfkpclilcnofaa
open Go.ChangeShapes Go.WideShapes Go.ChangeAt Go.RowKit
set_option maxRecDepth 20000
set_option linter.unusedVariables false
set_option linter.unusedSimpArgs false

/-- What is opened of some bytes, and the error. -/
def openL (bs : List Nat) : List Nat := if 4 ≤ bs.length ∧ crc 4294967295 bs = hvs 32 4294967295 then bs.take (bs.length - 4) else []
def openC (bs : List Nat) : Int := if 4 ≤ bs.length ∧ crc 4294967295 bs = hvs 32 4294967295 then 0 else 2
theorem open_form {bs : List Nat} {W w' : World} {e : Ending} (h : OpenPost bs W e w') : ∃ v, e = .returned (.tuple #[v, .int .i64 (openC bs)]) ∧ IsNums .u8 w' v (ints (openL bs)) ∧ Past W w' := by
  rcases h with ⟨h1, h2, v, rfl, h3, h4⟩ | ⟨h, rfl, p⟩
  · refine ⟨v, ?_, ?_, h4⟩
    · unfold openC; rw [if_pos ⟨h1, h2⟩]
    · unfold openL; rw [if_pos ⟨h1, h2⟩]; exact h3
  · refine ⟨.slice none 0 0, ?_, ?_, p⟩
    · unfold openC; rw [if_neg h]
    · unfold openL; rw [if_neg h]; exact nums_nil _
theorem openL_B {bs : List Nat} (h : Bytes bs) : Bytes (openL bs) := by
  unfold openL
  split
  · exact h.take _
  · simp [Bytes]

set_option maxHeartbeats 8000000 in
theorem all_walk (W : World) (bv : Value) (zs : List Int) (hz : IsNums .u8 W bv zs) : Calls Try.prog 3 #[bv] W fun e w' => e = .returned (.bool true) ∧ Past W w' := by
  obtain ⟨bs, rfl, hb⟩ := nats_of hz
  have H := Lib.hid hz
  have HB := Lib.hid hb
  clear hz hb
  obtain ⟨i0, hi0, hz0, hz1, hz2⟩ := info_parts info8
  have I1 := Lib.hid hi0
  have I2 := Lib.hid hz0
  have I3 := Lib.hid hz1
  have I4 := Lib.hid hz2
  clear hi0 hz0 hz1 hz2
  go_enter Try.func3, Try.ntmps3
  go_wp2_with fail
  refine (shown_any W).mono ?_
  rintro e w1 ⟨rfl, p1⟩
  have SH := Lib.hid (short_any bs bv w1 (H.out.grow p1))
  go_wp2_with fail
  refine SH.out.mono ?_
  rintro e w2 ⟨b, rfl, hn, rfl⟩
  clear SH
  have hl : (bs.take 2000).length ≤ 2000 := by simp; omega
  have hB := HB.out.take 2000
  obtain ⟨xs, hx⟩ : ∃ xs, bs.take 2000 = xs := ⟨_, rfl⟩
  rw [hx] at hn hl hB
  clear hx
  obtain ⟨A, cap, rfl, h2, h3, h4⟩ := nums_form hn
  have HN := Lib.hid hn
  have XB := Lib.hid hB
  have P1 := Lib.hid p1
  have OL := Lib.hid (openL_B hB)
  have SB := Lib.hid (seal_lt hB)
  clear hn hB h4 p1
  go_wp2_with (at_builtin; refine wpList_append_src rfl (.tmp 12) (.tmp 13) 22 rfl w2.heap.size 5 i0 _ 1 1 Try.underlying22 I1.out I2.out I3.out I4.out rfl (by decide) _ 0 [] rfl (World.ownsRow_lit w2 #[] 0 (Nat.le_refl _) (by decide) rfl) A xs.length cap (cellB xs) rfl (by rw [cellB_len, Nat.mul_one]) (src_of (HN.out.grow ((Past.refl w2).alloc _))) (cellB_one _) (by unfold maxLen; omega) (by omega) (by simp) ?_)
  intro v3 w3 own3 grow3
  have p3 : Past w2 w3 := ((Past.refl w2).alloc _).grownBy grow3 (fun k hk => by simp [Value.ownBlock] at hk; omega)
  have O3 : Hid (IsNums .u8 w3 v3 (ints xs)) := Lib.hid (by
    have : OwnS w3 w2.heap.size v3 xs := by unfold OwnS; simpa using own3
    exact this.nums XB.out)
  have P3 := Lib.hid p3
  clear own3 grow3 p3
  go_wp2_with fail
  refine (open_any xs v3 w3 O3.out XB.out (by omega)).mono ?_
  rintro e w4 HO
  obtain ⟨x, rfl, hx, p4⟩ := open_form HO
  have P4 := Lib.hid p4
  have HX := Lib.hid hx
  clear HO p4 hx O3
  go_wp2_with fail
  refine (ropen_any xs _ w4 (HN.out.grow (P3.out.trans P4.out)) XB.out (by omega)).mono ?_
  rintro e w5 HO
  obtain ⟨y, rfl, hy, p5⟩ := open_form HO
  have P5 := Lib.hid p5
  have HY := Lib.hid hy
  have PN := Lib.hid (HN.out.grow (P3.out.trans (P4.out.trans P5.out)))
  have PX := Lib.hid (HX.out.grow P5.out)
  clear HO p5 hy
  obtain ⟨T1, hT1⟩ : ∃ T, strB (sealD xs) = T := ⟨_, rfl⟩
  obtain ⟨T2, hT2⟩ : ∃ T, strB (openL xs) = T := ⟨_, rfl⟩
  obtain ⟨S, hS⟩ : ∃ S : Int, ((sumD xs : Nat) : Int) = S := ⟨_, rfl⟩
  obtain ⟨C, hC⟩ : ∃ C, openC xs = C := ⟨_, rfl⟩
  rw [hC]
  have HT1 := Lib.hid hT1
  have HT2 := Lib.hid hT2
  have HS := Lib.hid hS
  clear hT1 hT2 hS hC
  have q1 : (T1.toList == T1.toList) = true := by simp
  have q2 : (T2.toList == T2.toList) = true := by simp
  go_upto_region 5 with fail
  refine wp_region_past w5 [(23, ?va23), (24, ?va24), (25, ?va25), (26, ?va26), (27, ?va27), (28, ?va28), (29, ?va29), (30, ?va30), (31, ?va31), (32, ?va32), (34, ?va34), (35, ?va35), (37, ?va37), (38, ?va38), (39, ?va39), (40, ?va40), (41, ?va41), (42, ?va42), (43, ?va43), (44, ?va44), (45, ?va45), (46, ?va46), (47, ?va47), (48, ?va48), (49, ?va49), (50, ?va50), (51, ?va51), (2, ?va2)] [(10, 33), (13, 36)] (fun i x w => (i = 10 → IsNums .u8 w x (ints (sealD xs))) ∧ (i = 13 → IsNums .u8 w x (ints (sealD xs)))) [(11, [10]), (14, [13])] [] (fun i x w w' p h => ⟨fun e => (h.1 e).grow p, fun e => (h.2 e).grow p⟩) (by kernel_rfl) (by kernel_rfl) (by kernel_rfl) ?da (Past.refl w5) ?ea ?la ?na
  case da =>
    intro q hq
    simp only [List.mem_cons, List.not_mem_nil, or_false] at hq
    rcases hq with rfl | rfl <;> simp
  case ea =>
    simp only [latesV, List.map_cons, List.map_nil, List.cons_append, List.nil_append, List.append_nil, fillA, Act.put, List.setIfInBounds_toArray, List.set_cons_zero, List.set_cons_succ]
    refine early_cons (fun v w hw hd K hK => ?_) ?_
    focus
      go_simp
      (try simp only [Act.put, List.setIfInBounds_toArray, List.set_cons_zero, List.set_cons_succ])
      exact hK
    refine early_cons (fun v w hw hd K hK => ?_) ?_
    focus
      go_simp
      (try simp only [Act.put, List.setIfInBounds_toArray, List.set_cons_zero, List.set_cons_succ])
      exact hK
    refine early_cons (fun v w hw hd K hK => ?_) ?_
    focus
      go_simp
      (try simp only [Act.put, List.setIfInBounds_toArray, List.set_cons_zero, List.set_cons_succ])
      exact hK
    refine early_cons (fun v w hw hd K hK => ?_) ?_
    focus
      go_simp
      go_at_call 11
      refine (sum_same xs _ w (PN.out.grow hw) XB.out (by omega)).mono ?_
      rintro e w1 ⟨rfl, rfl⟩
      rw [HS.out]
      (try simp only [Act.put, List.setIfInBounds_toArray, List.set_cons_zero, List.set_cons_succ])
      exact hK
    refine early_cons (fun v w hw hd K hK => ?_) ?_
    focus
      go_simp
      (try simp only [Act.put, List.setIfInBounds_toArray, List.set_cons_zero, List.set_cons_succ])
      exact hK
    refine early_cons (fun v w hw hd K hK => ?_) ?_
    focus
      go_simp
      go_at_call 12
      refine (rsum_same xs _ w (PN.out.grow hw) XB.out (by omega)).mono ?_
      rintro e w1 ⟨rfl, rfl⟩
      rw [HS.out]
      (try simp only [Act.put, List.setIfInBounds_toArray, List.set_cons_zero, List.set_cons_succ])
      exact hK
    refine early_cons (fun v w hw hd K hK => ?_) ?_
    focus
      go_simp
      (try simp only [Act.put, List.setIfInBounds_toArray, List.set_cons_zero, List.set_cons_succ])
      exact hK
    refine early_cons (fun v w hw hd K hK => ?_) ?_
    focus
      go_simp
      (try simp only [Act.put, List.setIfInBounds_toArray, List.set_cons_zero, List.set_cons_succ])
      exact hK
    refine early_cons (fun v w hw hd K hK => ?_) ?_
    focus
      go_simp
      (try simp only [Act.put, List.setIfInBounds_toArray, List.set_cons_zero, List.set_cons_succ])
      exact hK
    refine early_cons (fun v w hw hd K hK => ?_) ?_
    focus
      go_simp
      (try simp only [Act.put, List.setIfInBounds_toArray, List.set_cons_zero, List.set_cons_succ])
      exact hK
    refine early_skip rfl ?_
    refine early_cons (fun v w hw hd K hK => ?_) ?_
    focus
      have s1 := str_b ((hd 10 rfl).1 rfl)
      rw [HT1.out] at s1
      go_simp
      (try simp only [Act.put, List.setIfInBounds_toArray, List.set_cons_zero, List.set_cons_succ])
      exact hK
    refine early_cons (fun v w hw hd K hK => ?_) ?_
    focus
      go_simp
      (try simp only [Act.put, List.setIfInBounds_toArray, List.set_cons_zero, List.set_cons_succ])
      exact hK
    refine early_skip rfl ?_
    refine early_cons (fun v w hw hd K hK => ?_) ?_
    focus
      have s1 := str_b ((hd 13 rfl).2 rfl)
      rw [HT1.out] at s1
      go_simp
      (try simp only [Act.put, List.setIfInBounds_toArray, List.set_cons_zero, List.set_cons_succ])
      exact hK
    refine early_cons (fun v w hw hd K hK => ?_) ?_
    focus
      go_simp
      (try simp only [Act.put, List.setIfInBounds_toArray, List.set_cons_zero, List.set_cons_succ])
      exact hK
    refine early_cons (fun v w hw hd K hK => ?_) ?_
    focus
      go_simp
      (try simp only [Act.put, List.setIfInBounds_toArray, List.set_cons_zero, List.set_cons_succ])
      exact hK
    refine early_cons (fun v w hw hd K hK => ?_) ?_
    focus
      go_simp
      (try simp only [Act.put, List.setIfInBounds_toArray, List.set_cons_zero, List.set_cons_succ])
      exact hK
    refine early_cons (fun v w hw hd K hK => ?_) ?_
    focus
      go_simp
      (try simp only [Act.put, List.setIfInBounds_toArray, List.set_cons_zero, List.set_cons_succ])
      exact hK
    refine early_cons (fun v w hw hd K hK => ?_) ?_
    focus
      have s1 := str_b (PX.out.grow hw)
      rw [HT2.out] at s1
      go_simp
      (try simp only [Act.put, List.setIfInBounds_toArray, List.set_cons_zero, List.set_cons_succ])
      exact hK
    refine early_cons (fun v w hw hd K hK => ?_) ?_
    focus
      go_simp
      (try simp only [Act.put, List.setIfInBounds_toArray, List.set_cons_zero, List.set_cons_succ])
      exact hK
    refine early_cons (fun v w hw hd K hK => ?_) ?_
    focus
      have s1 := str_b (HY.out.grow hw)
      rw [HT2.out] at s1
      go_simp
      (try simp only [Act.put, List.setIfInBounds_toArray, List.set_cons_zero, List.set_cons_succ])
      exact hK
    refine early_cons (fun v w hw hd K hK => ?_) ?_
    focus
      go_simp
      (try simp only [Act.put, List.setIfInBounds_toArray, List.set_cons_zero, List.set_cons_succ])
      exact hK
    refine early_cons (fun v w hw hd K hK => ?_) ?_
    focus
      go_simp
      (try simp only [Act.put, List.setIfInBounds_toArray, List.set_cons_zero, List.set_cons_succ])
      exact hK
    refine early_cons (fun v w hw hd K hK => ?_) ?_
    focus
      go_simp
      (try simp only [Act.put, List.setIfInBounds_toArray, List.set_cons_zero, List.set_cons_succ])
      exact hK
    refine early_cons (fun v w hw hd K hK => ?_) ?_
    focus
      go_simp
      (try simp only [Act.put, List.setIfInBounds_toArray, List.set_cons_zero, List.set_cons_succ])
      exact hK
    refine early_cons (fun v w hw hd K hK => ?_) ?_
    focus
      go_simp
      (try simp only [Act.put, List.setIfInBounds_toArray, List.set_cons_zero, List.set_cons_succ])
      exact hK
    refine early_cons (fun v w hw hd K hK => ?_) ?_
    focus
      go_simp
      (try simp only [Act.put, List.setIfInBounds_toArray, List.set_cons_zero, List.set_cons_succ])
      exact hK
    refine early_cons (fun v w hw hd K hK => ?_) ?_
    focus
      go_simp
      (try simp only [Act.put, List.setIfInBounds_toArray, List.set_cons_zero, List.set_cons_succ])
      exact hK
    refine early_cons (fun v w hw hd K hK => ?_) ?_
    focus
      go_simp
      (try simp only [Act.put, List.setIfInBounds_toArray, List.set_cons_zero, List.set_cons_succ])
      exact hK
    exact True.intro
  case la =>
    simp only [latesV, List.map_cons, List.map_nil, List.cons_append, List.nil_append, List.append_nil, fillA, Act.put, List.setIfInBounds_toArray, List.set_cons_zero, List.set_cons_succ]
    refine lateP_skip rfl ?_
    refine lateP_skip rfl ?_
    refine lateP_skip rfl ?_
    refine lateP_skip rfl ?_
    refine lateP_skip rfl ?_
    refine lateP_skip rfl ?_
    refine lateP_skip rfl ?_
    refine lateP_skip rfl ?_
    refine lateP_skip rfl ?_
    refine lateP_skip rfl ?_
    refine lateP_cons (fun v w hw hd => ⟨rfl, fun K hK => ?_⟩) ?_
    focus
      (try simp only [Act.put, List.setIfInBounds_toArray, List.set_cons_zero, List.set_cons_succ])
      go_simp
      go_at_call 13
      refine (seal_any xs _ w (PN.out.grow hw) XB.out (by omega)).mono ?_
      rintro e w1 ⟨rfl, hu, gu⟩
      exact hK _ _ gu ⟨fun _ => by have := hu.nums SB.out (by rw [seal_len]; unfold maxLen; omega); rwa [seal_len] at this, fun e => absurd e (by decide)⟩
    refine lateP_skip rfl ?_
    refine lateP_skip rfl ?_
    refine lateP_cons (fun v w hw hd => ⟨rfl, fun K hK => ?_⟩) ?_
    focus
      (try simp only [Act.put, List.setIfInBounds_toArray, List.set_cons_zero, List.set_cons_succ])
      go_simp
      go_at_call 14
      refine (rseal_any xs _ w (PN.out.grow hw) XB.out (by omega)).mono ?_
      rintro e w1 ⟨u, rfl, hu, gu⟩
      exact hK _ _ gu ⟨fun e => absurd e (by decide), fun _ => hu.nums SB.out⟩
    refine lateP_skip rfl ?_
    refine lateP_skip rfl ?_
    refine lateP_skip rfl ?_
    refine lateP_skip rfl ?_
    refine lateP_skip rfl ?_
    refine lateP_skip rfl ?_
    refine lateP_skip rfl ?_
    refine lateP_skip rfl ?_
    refine lateP_skip rfl ?_
    refine lateP_skip rfl ?_
    refine lateP_skip rfl ?_
    refine lateP_skip rfl ?_
    refine lateP_skip rfl ?_
    refine lateP_skip rfl ?_
    refine lateP_skip rfl ?_
    refine lateP_skip rfl ?_
    exact True.intro
  case na =>
    intro v w8 hw hd
    simp only [latesV, List.map_cons, List.map_nil, List.cons_append, List.nil_append, List.append_nil, fillA, Act.put, List.setIfInBounds_toArray, List.set_cons_zero, List.set_cons_succ]
    go_wp2_with fail
    go_ret
    exact ⟨rfl, P1.out.trans (P3.out.trans (P4.out.trans (P5.out.trans hw)))⟩
end Go.Proofs.Ytdfkpclilcnofaa
