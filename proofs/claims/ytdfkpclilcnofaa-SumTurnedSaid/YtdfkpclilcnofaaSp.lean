/- SumParts: the walk. -/
import Derived.Test.YtdfkpclilcnofaaSa
namespace Go.Proofs.Ytdfkpclilcnofaa
open Go.ChangeShapes Go.WideShapes Go.ChangeAt Go.RowKit
set_option maxRecDepth 20000
set_option linter.unusedVariables false
set_option linter.unusedSimpArgs false

theorem sealed_of (l : List Nat) (h : Bytes l) : 4 ≤ (sealD l).length ∧ crc 4294967295 (sealD l) = hvs 32 4294967295 :=
  ⟨by rw [seal_len]; omega, (sealed_iff (seal_lt h) (by rw [seal_len]; omega)).1 (seal_open l)⟩
theorem openC_seal (l : List Nat) (h : Bytes l) : openC (sealD l) = 0 := if_pos (sealed_of l h)
theorem openL_seal (l : List Nat) (h : Bytes l) : openL (sealD l) = l := (if_pos (sealed_of l h)).trans (seal_take l)
/-- Another last byte makes another sum. -/
theorem sum_other (l : List Nat) (h : Bytes l) (c : Nat) (hc : c < 256) : sumD (l ++ [c]) ≠ sumD (l ++ [c ^^^ 1]) := by
  intro e
  unfold sumD at e
  rw [crc_snoc, crc_snoc] at e
  have e1 : byteD (crc 4294967295 l) c = byteD (crc 4294967295 l) (c ^^^ 1) := by
    have := congrArg (· ^^^ 4294967295) e
    simpa [Nat.xor_assoc] using this
  have hr := crc_lt (r := 4294967295) (by decide) h
  have hx : c ^^^ 1 < 256 := Nat.xor_lt_two_pow (n := 8) hc (by decide)
  have e2 := hvs_inj 8 (Nat.xor_lt_two_pow hr (by omega)) (Nat.xor_lt_two_pow hr (by omega)) e1
  have e3 := congrArg (fun x => crc 4294967295 l ^^^ x) e2
  simp only [← Nat.xor_assoc, Nat.xor_self, Nat.zero_xor] at e3
  have e4 := congrArg (fun x => c ^^^ x) e3
  simp [← Nat.xor_assoc] at e4
theorem Bytes.app {l m : List Nat} (h : Bytes l) (k : Bytes m) : Bytes (l ++ m) := fun c hc => by
  rcases List.mem_append.1 hc with q | q
  · exact h c q
  · exact k c q
theorem OwnS.form {w : World} {base : Nat} {v : Value} {l : List Nat} (h : OwnS w base v l) : ∃ A c, v = .slice A l.length c := by
  rcases h.2 with ⟨rfl, h0⟩ | ⟨b, cap, cur, rfl, _⟩
  · exact ⟨none, 0, by rw [h0]⟩
  · exact ⟨_, _, rfl⟩

theorem nums_cutx {w : World} {A : Option Addr} {cap : Nat} {l : List Nat} (h : IsNums .u8 w (.slice A l.length cap) (ints l)) : IsNums .u8 w (.slice A (l.take 1000).length cap) (ints (l.take 1000)) := by
  have := nums_cut (l.take 1000).length (by simp; omega) h
  have e : l.take (l.take 1000).length = l.take 1000 := by rw [List.length_take, List.take_eq_take_iff]; omega
  rwa [e] at this

set_option maxHeartbeats 8000000 in
theorem parts_walk (W : World) (av : Value) (az : List Int) (ha : IsNums .u8 W av az) (bv : Value) (bz : List Int) (hb : IsNums .u8 W bv bz) (z : Int) (hz : (Lit.int .u8 z).wf = true) : Calls Try.prog 6 #[av, bv, .int .u8 z] W fun e w' => e = .returned (.bool true) ∧ Past W w' := by
  obtain ⟨xs, rfl, hxs⟩ := nats_of ha
  obtain ⟨ys, rfl, hys⟩ := nats_of hb
  obtain ⟨c, rfl, hc⟩ : ∃ c : Nat, z = (c : Int) ∧ c < 256 := by
    have := wf_u8 hz
    exact ⟨z.toNat, by omega, by omega⟩
  clear hz
  obtain ⟨i0, hi0, hz0, hz1, hz2⟩ := info_parts info8
  have I1 := Lib.hid hi0
  have I2 := Lib.hid hz0
  have I3 := Lib.hid hz1
  have I4 := Lib.hid hz2
  clear hi0 hz0 hz1 hz2
  obtain ⟨A, ca, rfl, a2, a3, a4⟩ := nums_form ha
  obtain ⟨B, cb, rfl, b2, b3, b4⟩ := nums_form hb
  have HA := Lib.hid ha
  have HB := Lib.hid hb
  have XB := Lib.hid (hxs.take 1000)
  have YB := Lib.hid (hys.take 1000)
  clear ha hb hxs hys a4 b4
  go_enter Try.func6, Try.ntmps6
  go_wp2_with fail
  refine (shown_any W).mono ?_
  rintro e w1 ⟨rfl, p1⟩
  have P1 := Lib.hid p1
  clear p1
  go_upto_if 20 with fail
  go_cut [0] (fun u w' => u = .slice A (xs.take 1000).length ca ∧ w' = w1)
  case first =>
    by_cases h : 1000 < xs.length
    · have e : (xs.take 1000).length = 1000 := by simp; omega
      go_wp2_with fail
      go_meet
      exact ⟨by rw [e], rfl⟩
    · have e : xs.take 1000 = xs := List.take_of_length_le (by omega)
      go_wp2_with fail
      go_meet
      exact ⟨by rw [e], rfl⟩
  case rest =>
    obtain ⟨rfl, rfl⟩ := hcut
    have HA1 := Lib.hid (nums_cutx HA.out)
    clear HA
    go_upto_if 25 with fail
    go_cut [1] (fun u w' => u = .slice B (ys.take 1000).length cb ∧ w' = wc)
    case first =>
      by_cases h : 1000 < ys.length
      · have e : (ys.take 1000).length = 1000 := by simp; omega
        go_wp2_with fail
        go_meet
        exact ⟨by rw [e], rfl⟩
      · have e : ys.take 1000 = ys := List.take_of_length_le (by omega)
        go_wp2_with fail
        go_meet
        exact ⟨by rw [e], rfl⟩
    case rest =>
      obtain ⟨w0, hw0⟩ : ∃ w0, w0 = wc := ⟨_, rfl⟩
      obtain ⟨rfl, rfl⟩ := hcut
      have HB1 := Lib.hid (nums_cutx HB.out)
      clear HB
      have lx : (xs.take 1000).length ≤ 1000 := by simp; omega
      have ly : (ys.take 1000).length ≤ 1000 := by simp; omega
      obtain ⟨X, hX⟩ : ∃ X, xs.take 1000 = X := ⟨_, rfl⟩
      obtain ⟨Y, hY⟩ : ∃ Y, ys.take 1000 = Y := ⟨_, rfl⟩
      rw [hX] at HA1 XB lx
      rw [hY] at HB1 YB ly
      simp only [hX, hY]
      clear hX hY hw0 a2 b2 a3 b3
      go_wp2_with (at_builtin; refine wpList_append_src rfl (.tmp 28) (.tmp 29) 22 rfl wc.heap.size 5 i0 _ 1 1 Try.underlying22 I1.out I2.out I3.out I4.out rfl (by decide) _ 0 ([]) rfl (World.ownsRow_lit wc #[] 0 (Nat.le_refl _) (by decide) rfl) (A) X.length (ca) (cellB X) rfl (by rw [cellB_len, Nat.mul_one]) (src_of ((HA1.out.grow P1.out).grow (Past.alloc (Past.refl wc) _))) (cellB_one _) (by unfold maxLen; omega) (by omega) (by simp) ?_)
      intro v2 w2 own grw
      have O2 : Hid (OwnS w2 wc.heap.size v2 X) := Lib.hid (by unfold OwnS; simpa using own)
      have T2 : Hid (Past wc w2) := Lib.hid (((Past.refl wc).alloc _).grownBy grw (fun k hk => by simp [Value.ownBlock] at hk; omega))
      obtain ⟨A2, c2, rfl⟩ := O2.out.form
      clear own grw
      go_wp2_with (at_builtin; refine wpList_append_src rfl (.tmp 30) (.tmp 31) 22 rfl wc.heap.size 5 i0 _ 1 1 Try.underlying22 I1.out I2.out I3.out I4.out rfl (by decide) _ X.length (cellB X) rfl (O2.out) (B) Y.length (cb) (cellB Y) rfl (by rw [cellB_len, Nat.mul_one]) (src_of (HB1.out.grow (P1.out.trans T2.out))) (cellB_one _) (by unfold maxLen; omega) (by omega) (by exact T2.out.2.2.1) ?_)
      intro v3 w3 own grw
      have O3 : Hid (OwnS w3 wc.heap.size v3 (X ++ Y)) := Lib.hid (by unfold OwnS; simpa [cellB] using own)
      have T3 : Hid (Past wc w3) := Lib.hid (T2.out.grownBy grw (fun k hk => (World.ownsRow.lt O2.out k hk).1))
      clear own grw
      have LB : (X ++ Y).length ≤ 2000 := by simp; omega
      obtain ⟨L, hL⟩ : ∃ L, X ++ Y = L := ⟨_, rfl⟩
      rw [hL] at O3 LB
      have BL : Hid (Bytes L) := Lib.hid (hL ▸ (XB.out.app YB.out))
      clear hL HA1 HB1 XB YB lx ly O2
      obtain ⟨A3, c3, rfl⟩ := O3.out.form
      have N3 := Lib.hid (O3.out.nums BL.out)
      have P3 : Hid (Past W w3) := Lib.hid (P1.out.trans T3.out)
      have SB := Lib.hid (seal_lt BL.out)
      have SL := seal_len L
      have SC := Lib.hid (seal_any L _ w3 N3.out BL.out (by omega))
      clear T2 T3 P1 O3
      go_wp2_with fail
      refine SC.out.mono ?_
      rintro e w4 ⟨rfl, r4, p4⟩
      have N4 := Lib.hid (r4.nums SB.out (by rw [SL]; unfold maxLen; omega))
      rw [SL] at N4
      have SC2 := Lib.hid (seal_any (sealD L) _ w4 (by have := N4.out; exact this) SB.out (by omega))
      have P4 := Lib.hid p4
      clear SC r4 p4
      go_wp2_with fail
      refine SC2.out.mono ?_
      rintro e w5 ⟨rfl, r5, p5⟩
      have SBB := Lib.hid (seal_lt SB.out)
      have SLL := seal_len (sealD L)
      have N5 := Lib.hid (r5.nums SBB.out (by rw [SLL, SL]; unfold maxLen; omega))
      rw [SLL, SL] at N5
      have OC := Lib.hid (open_any (sealD (sealD L)) _ w5 N5.out SBB.out (by omega))
      have P5 := Lib.hid p5
      rw [SL]
      clear SC2 r5 p5
      go_wp2_with fail
      refine OC.out.mono ?_
      rintro e w6 HO
      obtain ⟨x, rfl, hx, p6⟩ := open_form HO
      rw [openC_seal _ SB.out]
      rw [openL_seal _ SB.out] at hx
      have P6 := Lib.hid p6
      have N6 := Lib.hid hx
      clear OC HO p6 hx
      go_wp2_with fail
      refine (open_any (sealD L) x w6 N6.out SB.out (by omega)).mono ?_
      rintro e w7 HO
      obtain ⟨y, rfl, hy, p7⟩ := open_form HO
      rw [openC_seal _ BL.out]
      rw [openL_seal _ BL.out] at hy
      have N7 := Lib.hid hy
      have Q7 : Hid (Past w3 w7) := Lib.hid (P4.out.trans (P5.out.trans (P6.out.trans p7)))
      clear HO p7 hy N4 N5 N6 P4 P5 P6 SBB SLL SL
      go_wp2_with (at_builtin; refine wpList_append_src rfl (.tmp 47) (.tmp 48) 22 rfl w7.heap.size 5 i0 _ 1 1 Try.underlying22 I1.out I2.out I3.out I4.out rfl (by decide) _ 0 ([]) rfl (World.ownsRow_lit w7 #[] 0 (Nat.le_refl _) (by decide) rfl) (A3) L.length (c3) (cellB L) rfl (by rw [cellB_len, Nat.mul_one]) (src_of ((N3.out.grow Q7.out).grow (Past.alloc (Past.refl w7) _))) (cellB_one _) (by unfold maxLen; omega) (by omega) (by simp) ?_)
      intro v8 w8 own grw
      have O8 : Hid (OwnS w8 w7.heap.size v8 L) := Lib.hid (by unfold OwnS; simpa using own)
      have T8 : Hid (Past w7 w8) := Lib.hid (((Past.refl w7).alloc _).grownBy grw (fun k hk => by simp [Value.ownBlock] at hk; omega))
      obtain ⟨A8, c8, rfl⟩ := O8.out.form
      clear own grw
      go_wp2_with fail
      refine (sum_same L _ w8 (O8.out.nums BL.out) BL.out (by omega)).mono ?_
      rintro e w88 ⟨rfl, rfl⟩
      obtain ⟨S, hS⟩ : ∃ S : Int, ((sumD L : Nat) : Int) = S := ⟨_, rfl⟩
      rw [hS]
      have HS := Lib.hid hS
      have N8 : Hid (IsNums .u8 w88 (.slice A8 L.length c8) (ints L)) := Lib.hid (O8.out.nums BL.out)
      have M8 : Hid (IsNums .u8 w88 y (ints L)) := Lib.hid (N7.out.grow T8.out)
      have K8 : Hid (IsNums .u8 w88 (.slice A3 L.length c3) (ints L)) := Lib.hid (N3.out.grow (Q7.out.trans T8.out))
      have P8 : Hid (Past W w88) := Lib.hid (P3.out.trans (Q7.out.trans T8.out))
      clear hS N7 N3 Q7 T8 O8 P3
      go_wp2_with (at_builtin; refine wpList_append_src rfl (.tmp 52) (.tmp 53) 22 rfl w88.heap.size 5 i0 _ 1 1 Try.underlying22 I1.out I2.out I3.out I4.out rfl (by decide) _ 0 ([]) rfl (World.ownsRow_lit w88 #[] 0 (Nat.le_refl _) (by decide) rfl) (A3) L.length (c3) (cellB L) rfl (by rw [cellB_len, Nat.mul_one]) (src_of (K8.out.grow (Past.alloc (Past.refl w88) _))) (cellB_one _) (by unfold maxLen; omega) (by omega) (by simp) ?_)
      intro v9 w9 own grw
      have O9 : Hid (OwnS w9 w88.heap.size v9 L) := Lib.hid (by unfold OwnS; simpa using own)
      have T9 : Hid (Past w88 w9) := Lib.hid (((Past.refl w88).alloc _).grownBy grw (fun k hk => by simp [Value.ownBlock] at hk; omega))
      obtain ⟨A9, c9, rfl⟩ := O9.out.form
      clear own grw
      go_wp2_with (at_builtin; refine wpList_append_src rfl (.tmp 54) (.tmp 56) 22 rfl w88.heap.size 5 i0 _ 1 1 Try.underlying22 I1.out I2.out I3.out I4.out rfl (by decide) _ L.length (cellB L) rfl (World.ownsRow.alloc O9.out _) (some ⟨w9.heap.size, 0, none⟩) 1 (1) ([.int .u8 ((c : Nat) : Int)]) rfl (rfl) (src_new _ _ _ _) (cellB_one [c]) (by unfold maxLen; omega) (by omega) (by have := T9.out.2.2.1; simp; omega) ?_)
      intro v10 w10 own grw
      have O10 : Hid (OwnS w10 w88.heap.size v10 (L ++ [c])) := Lib.hid (by unfold OwnS; simpa [cellB] using own)
      have T10 : Hid (Past w88 w10) := Lib.hid ((T9.out.alloc _).grownBy grw (fun k hk => (World.ownsRow.lt O9.out k hk).1))
      clear own grw
      have e1 : bits .xor .u8 (c : Int) 1 = ((c ^^^ 1 : Nat) : Int) := by simpa using xor8 (a := c) (b := 1) hc (by decide)
      have hdl : c ^^^ 1 < 256 := Nat.xor_lt_two_pow (n := 8) hc (by decide)
      have SO := Lib.hid (sum_other L BL.out c hc)
      obtain ⟨d, hd⟩ : ∃ d, c ^^^ 1 = d := ⟨_, rfl⟩
      rw [hd] at e1 hdl SO
      clear hd O9 T9
      go_wp2_with (at_builtin; refine wpList_append_src rfl (.tmp 58) (.tmp 59) 22 rfl w10.heap.size 5 i0 _ 1 1 Try.underlying22 I1.out I2.out I3.out I4.out rfl (by decide) _ 0 ([]) rfl (World.ownsRow_lit w10 #[] 0 (Nat.le_refl _) (by decide) rfl) (A3) L.length (c3) (cellB L) rfl (by rw [cellB_len, Nat.mul_one]) (src_of ((K8.out.grow T10.out).grow (Past.alloc (Past.refl w10) _))) (cellB_one _) (by unfold maxLen; omega) (by omega) (by simp) ?_)
      intro v11 w11 own grw
      have O11 : Hid (OwnS w11 w10.heap.size v11 L) := Lib.hid (by unfold OwnS; simpa using own)
      have T11 : Hid (Past w10 w11) := Lib.hid (((Past.refl w10).alloc _).grownBy grw (fun k hk => by simp [Value.ownBlock] at hk; omega))
      obtain ⟨A11, c11, rfl⟩ := O11.out.form
      clear own grw
      go_wp2_with (at_builtin; refine wpList_append_src rfl (.tmp 60) (.tmp 63) 22 rfl w10.heap.size 5 i0 _ 1 1 Try.underlying22 I1.out I2.out I3.out I4.out rfl (by decide) _ L.length (cellB L) rfl (World.ownsRow.alloc O11.out _) (some ⟨w11.heap.size, 0, none⟩) 1 (1) ([.int .u8 ((d : Nat) : Int)]) rfl (rfl) (src_new _ _ _ _) (cellB_one [d]) (by unfold maxLen; omega) (by omega) (by have := T11.out.2.2.1; simp; omega) ?_)
      intro v12 w12 own grw
      have O12 : Hid (OwnS w12 w10.heap.size v12 (L ++ [d])) := Lib.hid (by unfold OwnS; simpa [cellB] using own)
      have T12 : Hid (Past w10 w12) := Lib.hid ((T11.out.alloc _).grownBy grw (fun k hk => (World.ownsRow.lt O11.out k hk).1))
      clear own grw
      have B1 : Hid (Bytes (L ++ [c])) := Lib.hid (BL.out.app (fun q hq => by simp at hq; omega))
      have B2 : Hid (Bytes (L ++ [d])) := Lib.hid (BL.out.app (fun q hq => by simp at hq; omega))
      have L1 : (L ++ [c]).length ≤ 2001 := by simp; omega
      have L2 : (L ++ [d]).length ≤ 2001 := by simp; omega
      have Z1 : Hid (IsNums .u8 w12 v10 (ints (L ++ [c]))) := Lib.hid ((O10.out.nums B1.out).grow T12.out)
      have Z2 : Hid (IsNums .u8 w12 v12 (ints (L ++ [d]))) := Lib.hid (O12.out.nums B2.out)
      have TT : Hid (Past w88 w12) := Lib.hid (T10.out.trans T12.out)
      have Z3 := Lib.hid (N8.out.grow TT.out)
      have Z4 := Lib.hid (M8.out.grow TT.out)
      have Z5 := Lib.hid (K8.out.grow TT.out)
      obtain ⟨S1, hS1⟩ : ∃ S : Int, ((sumD (L ++ [c]) : Nat) : Int) = S := ⟨_, rfl⟩
      obtain ⟨S2, hS2⟩ : ∃ S : Int, ((sumD (L ++ [d]) : Nat) : Int) = S := ⟨_, rfl⟩
      have ne : (S1 != S2) = true := by
        have := SO.out
        simp only [bne_iff_ne, ne_eq, ← hS1, ← hS2]
        omega
      have H1 := Lib.hid hS1
      have H2 := Lib.hid hS2
      obtain ⟨T1, hT1⟩ : ∃ T, strB L = T := ⟨_, rfl⟩
      have HT1 := Lib.hid hT1
      have q1 : (T1.toList == T1.toList) = true := by simp
      clear hS1 hS2 hT1 N8 M8 K8 T10 T12 O10 O11 O12 T11 SO
      have s1 := str_b Z3.out
      have s2 := str_b Z4.out
      have s3 := str_b Z5.out
      rw [HT1.out] at s1 s2 s3
      go_wp2_with fail
      refine (sum_same L _ w12 Z5.out BL.out (by omega)).mono ?_
      rintro e w1 ⟨rfl, rfl⟩
      rw [HS.out]
      go_wp2_with fail
      refine (sum_same (L ++ [c]) _ w1 Z1.out B1.out (by omega)).mono ?_
      rintro e w2 ⟨rfl, rfl⟩
      rw [H1.out]
      go_wp2_with fail
      refine (sum_same (L ++ [d]) _ w2 Z2.out B2.out (by omega)).mono ?_
      rintro e w3 ⟨rfl, rfl⟩
      rw [H2.out]
      go_wp2_with fail
      go_ret
      exact ⟨rfl, P8.out.trans TT.out⟩
end Go.Proofs.Ytdfkpclilcnofaa
