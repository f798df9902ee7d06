/- isa: May. -/
import Derived.Deep.MidRow
import Derived.Test.YtejllmjkeefloaaJG6C
import Derived.Test.YtejllmjkeefloaaJI3
import Derived.Test.YtejllmjkeefloaaJV3
namespace Go.Proofs.Ytejllmjkeefloaa.Q8
open Go.ChangeShapes Go.WideShapes Go.ChangeAt Go.RowKit
set_option maxRecDepth 20000
set_option linter.unusedVariables false
set_option linter.unusedSimpArgs false

theorem C14 : (Try.prog.info? 51).map (·.size) = some 14 := by kernel_rfl
theorem cmdSize {c : List Int} (hl : c.length = 14) : (Try.prog.info? 51).map (·.size) = some (⟨cellC c⟩ : Array Value).size := by rw [C14]; simp [cellC_len, hl]
theorem size_cellC {c : List Int} (hl : c.length = 14) : (⟨cellC c⟩ : Array Value).size = 14 := by simp [cellC_len, hl]
/-- A field of a row. -/
theorem fldsC_at (P : Nat) (fs : List Fld) (k : Nat) (h : k < fs.length) (j : Nat) (v : Value) (hv : (fldC P (fs[k]'h))[j]? = some v) : (fldsC P fs)[4 * k + j]? = some v := by
  induction fs generalizing k with
  | nil => simp at h
  | cons f fs ih =>
    cases k with
    | zero =>
      have hj : j < (fldC P f).length := by
        by_cases q : j < (fldC P f).length
        · exact q
        · rw [List.getElem?_eq_none (by simpa using q)] at hv; cases hv
      show ((fldC P f) ++ fldsC P fs)[4 * 0 + j]? = _
      rw [List.getElem?_append_left (by simpa using hj)]
      simpa using hv
    | succ k =>
      show ((fldC P f) ++ fldsC P fs)[4 * (k + 1) + j]? = _
      rw [List.getElem?_append_right (by simp [fldC]; omega)]
      have := ih k (by simpa using h) (by simpa using hv)
      rw [← this]
      congr 1
      simp [fldC]
      omega
set_option maxHeartbeats 4000000 in
theorem may_no (c : List Int) (hl : c.length = 14) (hk : ¬ kindP (c.getD 0 0)) (W : World) : Calls Try.prog 82 #[.agg ⟨cellC c⟩] W fun e w' => e = .returned (.int .i64 1) ∧ Past W w' := by
  obtain ⟨k, hk'⟩ : ∃ k, c.getD 0 0 = k := ⟨_, rfl⟩
  have sz := size_cellC hl
  have FA := Lib.hid (fields_any k)
  have DK : decide (kindP k) = false := by rw [← hk']; simpa using hk
  unfold FieldsPost at FA
  rw [DK] at FA
  have HK := Lib.hid hk'
  clear DK hk hk'
  go_enter Try.func82, Try.ntmps82
  go_upto_region 1 with fail
  obtain ⟨Q, hQ⟩ : ∃ Q, W.heap.size = Q := ⟨_, rfl⟩
  refine opq (fun w' => (∀ o : Nat, w'.cell? ⟨Q, o, none⟩ = (⟨cellC c⟩ : Array Value)[o]?) ∧ Past W w') (by subst hQ; (exact kKeep)) ?_
  rintro w0 ⟨b0, p0⟩
  try simp only [hQ]
  have h0 := boxC_cell b0 (j := 0) (by omega)
  rw [HK.out] at h0
  have H0 := Lib.hid h0
  have P0 := Lib.hid p0
  clear h0 b0 p0
  go_wp2_with fail
  refine (FA.out Q w0 H0.out).mono ?_
  rintro e w1 ⟨v, rfl, hF, p1⟩
  have P1 := Lib.hid (P0.out.trans p1)
  clear hF p1
  go_wp2_with fail
  go_ret
  exact ⟨rfl, P1.out⟩
set_option maxHeartbeats 4000000 in
theorem may_yes (c : List Int) (hl : c.length = 14) (hk : kindP (c.getD 0 0)) (W : World) : Calls Try.prog 82 #[.agg ⟨cellC c⟩] W fun e w' => e = .returned (.int .i64 (goE (fldsD (c.getD 0 0)) c)) ∧ Past W w' := by
  obtain ⟨k, hk'⟩ : ∃ k, c.getD 0 0 = k := ⟨_, rfl⟩
  have sz := size_cellC hl
  have FA := Lib.hid (fields_any k)
  have DK : decide (kindP k) = true := by rw [← hk']; simpa using hk
  unfold FieldsPost at FA
  rw [DK] at FA
  have HP := Lib.hid (fldsD_pos k).1
  have hn := fldsD_len k
  rw [hk']
  obtain ⟨fs, hfs⟩ : ∃ fs, fldsD k = fs := ⟨_, rfl⟩
  rw [hfs] at FA HP hn
  rw [hfs]
  obtain ⟨m, hm⟩ : ∃ m, goE fs c = m := ⟨_, rfl⟩
  rw [hm]
  have HM := Lib.hid hm
  have HK := Lib.hid hk'
  have HL := Lib.hid hl
  clear DK hk hk' hm hfs hl
  go_enter Try.func82, Try.ntmps82
  go_upto_region 1 with fail
  obtain ⟨Q, hQ⟩ : ∃ Q, W.heap.size = Q := ⟨_, rfl⟩
  refine opq (fun w' => (∀ o : Nat, w'.cell? ⟨Q, o, none⟩ = (⟨cellC c⟩ : Array Value)[o]?) ∧ (∀ o : Nat, w'.frozen? ⟨Q, o, none⟩ = false) ∧ Past W w' ∧ Q + 1 ≤ w'.heap.size) (by subst hQ; (exact kKeep)) ?_
  rintro w0 ⟨b0, f0, p0, z0⟩
  try simp only [hQ]
  have QW : W.heap.size ≤ Q := by omega
  have h0 := boxC_cell b0 (j := 0) (by rw [HL.out]; omega)
  rw [HK.out] at h0
  have H0 := Lib.hid h0
  have B0 := Lib.hid b0
  have F0 := Lib.hid f0
  have P0 := Lib.hid p0
  clear h0 b0 p0 f0 hQ
  go_wp2_with fail
  refine (FA.out Q w0 H0.out).mono ?_
  rintro e w1 ⟨v, rfl, hF, p1⟩
  obtain ⟨A, hv⟩ : ∃ A, v = .slice A fs.length fs.length := by
    rcases hF with ⟨rfl, rfl⟩ | ⟨b, rfl, _⟩
    · exact ⟨none, rfl⟩
    · exact ⟨_, rfl⟩
  subst hv
  have REL : Hid (∃ c', c'.length = 14 ∧ c'.getD 0 0 = k ∧ goE (fs.drop 0) c' = m ∧ (∀ o : Nat, w1.cell? ⟨Q, o, none⟩ = (⟨cellC c'⟩ : Array Value)[o]?) ∧ (∀ o : Nat, w1.frozen? ⟨Q, o, none⟩ = false) ∧ Past W w1 ∧ IsFlds w1 Q (.slice A fs.length fs.length) fs ∧ Q < w1.heap.size) :=
    Lib.hid ⟨c, HL.out, HK.out, HM.out, box_past p1 B0.out (by omega), free_past p1 F0.out (by omega), P0.out.trans p1, hF, Nat.le_trans z0 p1.2.2.1⟩
  clear hF p1 B0 F0 P0 z0
  go_wp2_with fail
  go_loopw [2, 15] (fun s i wr => ∃ n : Nat, n ≤ fs.length ∧ i = .int .i64 n ∧ s = .int .i64 0 ∧ Hid (∃ c', c'.length = 14 ∧ c'.getD 0 0 = k ∧ goE (fs.drop n) c' = m ∧ (∀ o : Nat, wr.cell? ⟨Q, o, none⟩ = (⟨cellC c'⟩ : Array Value)[o]?) ∧ (∀ o : Nat, wr.frozen? ⟨Q, o, none⟩ = false) ∧ Past W wr ∧ IsFlds wr Q (.slice A fs.length fs.length) fs ∧ Q < wr.heap.size)) (fun _ i _ => fs.length - (intOf i).toNat)
  case atStart => exact ⟨0, by omega, rfl, rfl, REL⟩
  case round =>
    obtain ⟨n, hnl, rfl, rfl, R⟩ := hrel
    by_cases h : n < fs.length
    · obtain ⟨c', l', k', g', b', f', p', F', q'⟩ := R.out
      obtain ⟨b, hb, hbl, hbc⟩ : ∃ b, A = some ⟨b, 0, none⟩ ∧ b < wr.heap.size ∧ (∀ o : Nat, wr.cell? ⟨b, o, none⟩ = (⟨fldsC Q fs⟩ : Array Value)[o]?) := by
        rcases F' with ⟨e, _⟩ | ⟨b, e, h1, h2⟩
        · rw [e] at h; simp at h
        · simp only [Value.slice.injEq, and_true] at e
          exact ⟨b, e, h1, h2⟩
      subst hb
      have hd : fs.drop n = fs[n] :: fs.drop (n + 1) := List.drop_eq_getElem_cons h
      have hr : ∀ j v, (fldC Q fs[n])[j]? = some v → wr.cell? ⟨b, n * 4 + j, none⟩ = some v := fun j v hv => by rw [hbc, Nat.mul_comm]; have := fldsC_at Q fs n h j v hv; simpa using this
      have hfp := HP.out fs[n] (List.getElem_mem h)
      obtain ⟨f, hf⟩ : ∃ f, fs[n] = f := ⟨_, rfl⟩
      rw [hf] at hd hr hfp
      have r0 := hr 0 _ rfl
      rw [Nat.add_zero] at r0
      have r1 := hr 1 _ rfl
      have r2 := hr 2 _ rfl
      have r3 := hr 3 _ rfl
      have hQb : b ≠ Q := by
        intro e
        subst e
        have h1 := hbc 0
        rw [b' 0] at h1
        have h2 := cellC_at c' 0 (by omega)
        have h3 := fldsC_at b fs 0 (by omega) 0 _ rfl
        simp only [List.getElem?_toArray] at h1
        rw [h2] at h1
        rw [Nat.mul_zero, Nat.add_zero] at h3
        rw [h3] at h1
        simp at h1
      have hx := boxC_cell b' (j := f.pos) (by omega)
      rw [hd] at g'
      obtain ⟨x, ex⟩ : ∃ x, c'.getD f.pos 0 = x := ⟨_, rfl⟩
      rw [ex] at hx
      have K1 := Lib.hid l'
      have K2 := Lib.hid k'
      have K3 := Lib.hid g'
      have K4 := Lib.hid ex
      have K5 := Lib.hid hfp
      have KP := Lib.hid p'
      have KF := Lib.hid hbc
      have KQ := Lib.hid q'
      have KB := Lib.hid b'
      have Kf := Lib.hid f'
      have Kx := Lib.hid hx
      have Kb := Lib.hid hbl
      clear l' k' g' ex hfp p' hbc q' b' f' hx hbl hr hd hf F' R
      obtain ⟨po, lo, hi, wd⟩ := f
      simp only at r0 r1 r2 r3 Kx K4 K5
      go_upto_region 7 with fail
      refine opq (fun w' => Hid (Past W w' ∧ (∀ o : Nat, w'.cell? ⟨Q, o, none⟩ = (⟨cellC c'⟩ : Array Value)[o]?) ∧ (∀ o : Nat, w'.frozen? ⟨Q, o, none⟩ = false) ∧ (∀ o : Nat, w'.cell? ⟨b, o, none⟩ = (⟨fldsC Q fs⟩ : Array Value)[o]?) ∧ b < w'.heap.size ∧ Q < w'.heap.size) ∧ (∀ o : Nat, w'.cell? ⟨wr.heap.size, o, none⟩ = (#[.pointer (some ⟨Q, po, none⟩), .int .i64 lo, .int .i64 hi, .int .i64 (wd : Int)] : Array Value)[o]?) ∧ wr.heap.size < w'.heap.size) (by
        have h1 := KP.out
        have h2 := KB.out
        have h3 := Kf.out
        have h4 := KF.out
        have h5 := Kb.out
        have h6 := KQ.out
        exact ⟨Lib.hid ⟨h1.alloc _, box_old h2 h6, free_alloc h3, box_old h4 h5, by simp; omega, by simp; omega⟩, box_new rfl, by simp⟩) ?_
      rintro w2 ⟨K6, bF, z2⟩
      have qlt := KQ.out
      have blt := Kb.out
      have CX := boxC_cell K6.out.2.1 (j := po) (by have := K1.out; have := K5.out.1; omega)
      rw [K4.out] at CX
      have CXH := Lib.hid CX
      obtain ⟨B, hB⟩ : ∃ B, wr.heap.size = B := ⟨_, rfl⟩
      rw [hB] at bF z2 qlt blt
      try simp only [hB]
      clear CX KP KB Kf KF KQ Kx Kb hB r0 r1 r2 r3
      by_cases hin : lo ≤ x ∧ x ≤ hi
      · have dB : (!decide (lo ≤ x ∧ x ≤ hi)) = false := by simp [hin]
        have BY := Lib.hid (beyond_any Q ⟨po, lo, hi, wd⟩ x w2 CXH.out)
        simp only [dB] at BY
        have hinF : inF ⟨po, lo, hi, wd⟩ c' := by unfold inF; rw [K4.out]; exact hin
        have K3' := K3.out
        rw [goE_yes hinF] at K3'
        have G := Lib.hid K3'
        clear K3 K3' hin dB hinF K4
        go_wp2_with fail
        refine BY.out.mono ?_
        rintro e w3 ⟨rfl, p3⟩
        have b3 := box_past p3 bF z2
        obtain ⟨q1, q2, q3, q4, q5, q6⟩ := K6.out
        have f3 := free_past p3 q3 q6
        have cx3 := cell_past p3 CXH.out q6
        have K7 : Hid (Past W w3 ∧ (∀ o : Nat, w3.cell? ⟨Q, o, none⟩ = (⟨cellC c'⟩ : Array Value)[o]?) ∧ (∀ o : Nat, w3.frozen? ⟨Q, o, none⟩ = false) ∧ (∀ o : Nat, w3.cell? ⟨b, o, none⟩ = (⟨fldsC Q fs⟩ : Array Value)[o]?) ∧ b < w3.heap.size ∧ Q < w3.heap.size) := Lib.hid ⟨q1.trans p3, box_past p3 q2 q6, f3, box_past p3 q4 q5, Nat.lt_of_lt_of_le q5 p3.2.2.1, Nat.lt_of_lt_of_le q6 p3.2.2.1⟩
        clear BY K6 q1 q2 q3 q4 q5 q6 p3 bF CXH
        go_wp2_with fail
        go_roundw
        case rel =>
          obtain ⟨q1, q2, q3, q4, q5, q6⟩ := K7.out
          have l14 := K1.out
          have pp := K5.out
          refine ⟨n + 1, by omega, by go_num, rfl, Lib.hid ⟨c'.set po 0, by rw [List.length_set]; exact l14, ?_, G.out, boxC_set q2 (by omega), free_set q3, Past.setCell q1 (by exact QW) _, .inr ⟨b, rfl, by rw [World.size_setCell]; exact q5, box_set q4 (by dsimp only; omega)⟩, by rw [World.size_setCell]; exact q6⟩⟩
          rw [← K2.out]
          have : po ≠ 0 := pp.2
          simp [List.getD, List.getElem?_set, this]
        case measure => simp [intOf]; omega
      · have dB : (!decide (lo ≤ x ∧ x ≤ hi)) = true := by simp only [hin]; simp
        have BY := Lib.hid (beyond_any Q ⟨po, lo, hi, wd⟩ x w2 CXH.out)
        simp only [dB] at BY
        have hinF : ¬ inF ⟨po, lo, hi, wd⟩ c' := by unfold inF; rw [K4.out]; exact hin
        have K3' := K3.out
        rw [goE_no hinF] at K3'
        subst K3'
        clear K3 hin dB hinF K4
        go_wp2_with fail
        refine BY.out.mono ?_
        rintro e w3 ⟨rfl, p3⟩
        have P3 := Lib.hid (K6.out.1.trans p3)
        clear BY K6 p3 bF CXH
        go_wp2_with fail
        go_ret
        exact ⟨rfl, P3.out⟩
    · obtain ⟨c', l', k', g', b', f', p', F', q'⟩ := R.out
      have e0 : fs.drop n = [] := List.drop_of_length_le (by omega)
      rw [e0, goE_nil] at g'
      have h0 := boxC_cell b' (j := 0) (by omega)
      rw [k'] at h0
      have sz' := cmdSize l'
      have SZ := Lib.hid sz'
      have L' := Lib.hid l'
      have K' := Lib.hid k'
      have P' := Lib.hid p'
      have B' := Lib.hid b'
      have HM' := Lib.hid g'
      have h14 : (k :: List.replicate 13 (0 : Int)).length = 14 := by simp
      have H14 := Lib.hid h14
      clear e0 sz' l' k' p' f' F' q' b' R g' h14
      have key : Hid (m = if c' = k :: List.replicate 13 0 then 0 else 1) := Lib.hid (by
        rw [← HM'.out]
        by_cases ht : c' = k :: List.replicate 13 0
        · rw [if_pos ht, if_pos (by rw [ht]; rfl)]
        · rw [if_neg ht, if_neg]
          intro e
          apply ht
          have l := L'.out
          have h := K'.out
          match c', l, e, h with
          | a :: r, l, e, h => simp at h; simp only [List.tail_cons] at e; rw [e, h])
      clear HM'
      go_upto_region 11 with fail
      go_wp2_with (first | refine wpList_load_box rfl 51 (.tmp 1) rfl Q ⟨cellC c'⟩ rfl B'.out Try.underlying51 rfl SZ.out ?_ | refine wpList_neqC rfl (.tmp 25) (.tmp 28) 51 rfl c' (k :: List.replicate 13 0) L'.out H14.out rfl rfl ?_)
      all_goals
        go_ret
        refine ⟨?_, P'.out⟩
        rename_i ht
        have k2 := key.out
        simp only [List.replicate, ht] at k2
        first | (rw [if_pos (by simpa using ht)] at k2; rw [k2]; rfl) | (rw [if_neg (by simpa using ht)] at k2; rw [k2]; rfl)
theorem may_any (c : List Int) (hl : c.length = 14) (W : World) : Calls Try.prog 82 #[.agg ⟨cellC c⟩] W fun e w' => e = .returned (.int .i64 (mayE c)) ∧ Past W w' := by
  by_cases hk : kindP (c.getD 0 0)
  · rw [mayE_kind hk]; exact may_yes c hl hk W
  · rw [mayE_none hk]; exact may_no c hl hk W
end Go.Proofs.Ytejllmjkeefloaa.Q8
