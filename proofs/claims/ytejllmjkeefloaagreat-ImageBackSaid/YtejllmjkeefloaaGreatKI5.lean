/- isa: May. Rows of bytes that a call owns, and what an append to them leaves alone; lay. -/
import Derived.Deep.MidRow
import Derived.Test.YtejllmjkeefloaaGreatKV1
import Derived.Test.YtejllmjkeefloaaGreatKI3
import Derived.Test.YtejllmjkeefloaaGreatKP1
import Derived.OwnWalk
namespace Go.Proofs.YtejllmjkeefloaaGreat.Q8
open Go.ChangeShapes Go.WideShapes Go.ChangeAt Go.RowKit
set_option maxRecDepth 20000
set_option linter.unusedVariables false
set_option linter.unusedSimpArgs false

theorem C14 : (Tryz.prog.info? 67).map (·.size) = some 14 := by kernel_rfl
theorem cmdSize {c : List Int} (hl : c.length = 14) : (Tryz.prog.info? 67).map (·.size) = some (⟨cellC c⟩ : Array Value).size := by rw [C14]; simp [cellC_len, hl]
theorem size_cellC {c : List Int} (hl : c.length = 14) : (⟨cellC c⟩ : Array Value).size = 14 := by simp [cellC_len, hl]
/-- A field of a row. -/
theorem fldsC_at (P : Nat) (fs : List Fld) (k : Nat) (h : k < fs.length) (j : Nat) (v : Value) (hv : (fldC P (fs[k]'h))[j]? = some v) : (fldsC P fs)[4 * k + j]? = some v := by
  induction fs generalizing k with
  | nil => simp at h
  | cons f fs ih =>
    cases k with
    | zero =>
      have hj : j < (fldC P f).length := by
        by_cases q : j < (fldC P f).length
        · exact q
        · rw [List.getElem?_eq_none (by simpa using q)] at hv; cases hv
      show ((fldC P f) ++ fldsC P fs)[4 * 0 + j]? = _
      rw [List.getElem?_append_left (by simpa using hj)]
      simpa using hv
    | succ k =>
      show ((fldC P f) ++ fldsC P fs)[4 * (k + 1) + j]? = _
      rw [List.getElem?_append_right (by simp [fldC]; omega)]
      have := ih k (by simpa using h) (by simpa using hv)
      rw [← this]
      congr 1
      simp [fldC]
      omega
set_option maxHeartbeats 4000000 in
theorem may_no (c : List Int) (hl : c.length = 14) (hk : ¬ kindP (c.getD 0 0)) (W : World) : Calls Tryz.prog 69 #[.agg ⟨cellC c⟩] W fun e w' => e = .returned (.int .i64 1) ∧ Past W w' := by
  obtain ⟨k, hk'⟩ : ∃ k, c.getD 0 0 = k := ⟨_, rfl⟩
  have sz := size_cellC hl
  have FA := Lib.hid (fields_any k)
  have DK : decide (kindP k) = false := by rw [← hk']; simpa using hk
  unfold FieldsPost at FA
  rw [DK] at FA
  have HK := Lib.hid hk'
  clear DK hk hk'
  go_enter Tryz.func69, Tryz.ntmps69
  go_upto_region 1 with fail
  obtain ⟨Q, hQ⟩ : ∃ Q, W.heap.size = Q := ⟨_, rfl⟩
  refine opq (fun w' => (∀ o : Nat, w'.cell? ⟨Q, o, none⟩ = (⟨cellC c⟩ : Array Value)[o]?) ∧ Past W w') (by subst hQ; (exact kKeep)) ?_
  rintro w0 ⟨b0, p0⟩
  try simp only [hQ]
  have h0 := boxC_cell b0 (j := 0) (by omega)
  rw [HK.out] at h0
  have H0 := Lib.hid h0
  have P0 := Lib.hid p0
  clear h0 b0 p0
  go_wp2_with fail
  refine (FA.out Q w0 H0.out).mono ?_
  rintro e w1 ⟨v, rfl, hF, p1⟩
  have P1 := Lib.hid (P0.out.trans p1)
  clear hF p1
  go_wp2_with fail
  go_ret
  exact ⟨rfl, P1.out⟩
set_option maxHeartbeats 4000000 in
theorem may_yes (c : List Int) (hl : c.length = 14) (hk : kindP (c.getD 0 0)) (W : World) : Calls Tryz.prog 69 #[.agg ⟨cellC c⟩] W fun e w' => e = .returned (.int .i64 (goE (fldsD (c.getD 0 0)) c)) ∧ Past W w' := by
  obtain ⟨k, hk'⟩ : ∃ k, c.getD 0 0 = k := ⟨_, rfl⟩
  have sz := size_cellC hl
  have FA := Lib.hid (fields_any k)
  have DK : decide (kindP k) = true := by rw [← hk']; simpa using hk
  unfold FieldsPost at FA
  rw [DK] at FA
  have HP := Lib.hid (fldsD_pos k).1
  have hn := fldsD_len k
  rw [hk']
  obtain ⟨fs, hfs⟩ : ∃ fs, fldsD k = fs := ⟨_, rfl⟩
  rw [hfs] at FA HP hn
  rw [hfs]
  obtain ⟨m, hm⟩ : ∃ m, goE fs c = m := ⟨_, rfl⟩
  rw [hm]
  have HM := Lib.hid hm
  have HK := Lib.hid hk'
  have HL := Lib.hid hl
  clear DK hk hk' hm hfs hl
  go_enter Tryz.func69, Tryz.ntmps69
  go_upto_region 1 with fail
  obtain ⟨Q, hQ⟩ : ∃ Q, W.heap.size = Q := ⟨_, rfl⟩
  refine opq (fun w' => (∀ o : Nat, w'.cell? ⟨Q, o, none⟩ = (⟨cellC c⟩ : Array Value)[o]?) ∧ (∀ o : Nat, w'.frozen? ⟨Q, o, none⟩ = false) ∧ Past W w' ∧ Q + 1 ≤ w'.heap.size) (by subst hQ; (exact kKeep)) ?_
  rintro w0 ⟨b0, f0, p0, z0⟩
  try simp only [hQ]
  have QW : W.heap.size ≤ Q := by omega
  have h0 := boxC_cell b0 (j := 0) (by rw [HL.out]; omega)
  rw [HK.out] at h0
  have H0 := Lib.hid h0
  have B0 := Lib.hid b0
  have F0 := Lib.hid f0
  have P0 := Lib.hid p0
  clear h0 b0 p0 f0 hQ
  go_wp2_with fail
  refine (FA.out Q w0 H0.out).mono ?_
  rintro e w1 ⟨v, rfl, hF, p1⟩
  obtain ⟨A, hv⟩ : ∃ A, v = .slice A fs.length fs.length := by
    rcases hF with ⟨rfl, rfl⟩ | ⟨b, rfl, _⟩
    · exact ⟨none, rfl⟩
    · exact ⟨_, rfl⟩
  subst hv
  have REL : Hid (∃ c', c'.length = 14 ∧ c'.getD 0 0 = k ∧ goE (fs.drop 0) c' = m ∧ (∀ o : Nat, w1.cell? ⟨Q, o, none⟩ = (⟨cellC c'⟩ : Array Value)[o]?) ∧ (∀ o : Nat, w1.frozen? ⟨Q, o, none⟩ = false) ∧ Past W w1 ∧ IsFlds w1 Q (.slice A fs.length fs.length) fs ∧ Q < w1.heap.size) :=
    Lib.hid ⟨c, HL.out, HK.out, HM.out, box_past p1 B0.out (by omega), free_past p1 F0.out (by omega), P0.out.trans p1, hF, Nat.le_trans z0 p1.2.2.1⟩
  clear hF p1 B0 F0 P0 z0
  go_wp2_with fail
  go_loopw [2, 15] (fun s i wr => ∃ n : Nat, n ≤ fs.length ∧ i = .int .i64 n ∧ s = .int .i64 0 ∧ Hid (∃ c', c'.length = 14 ∧ c'.getD 0 0 = k ∧ goE (fs.drop n) c' = m ∧ (∀ o : Nat, wr.cell? ⟨Q, o, none⟩ = (⟨cellC c'⟩ : Array Value)[o]?) ∧ (∀ o : Nat, wr.frozen? ⟨Q, o, none⟩ = false) ∧ Past W wr ∧ IsFlds wr Q (.slice A fs.length fs.length) fs ∧ Q < wr.heap.size)) (fun _ i _ => fs.length - (intOf i).toNat)
  case atStart => exact ⟨0, by omega, rfl, rfl, REL⟩
  case round =>
    obtain ⟨n, hnl, rfl, rfl, R⟩ := hrel
    by_cases h : n < fs.length
    · obtain ⟨c', l', k', g', b', f', p', F', q'⟩ := R.out
      obtain ⟨b, hb, hbl, hbc⟩ : ∃ b, A = some ⟨b, 0, none⟩ ∧ b < wr.heap.size ∧ (∀ o : Nat, wr.cell? ⟨b, o, none⟩ = (⟨fldsC Q fs⟩ : Array Value)[o]?) := by
        rcases F' with ⟨e, _⟩ | ⟨b, e, h1, h2⟩
        · rw [e] at h; simp at h
        · simp only [Value.slice.injEq, and_true] at e
          exact ⟨b, e, h1, h2⟩
      subst hb
      have hd : fs.drop n = fs[n] :: fs.drop (n + 1) := List.drop_eq_getElem_cons h
      have hr : ∀ j v, (fldC Q fs[n])[j]? = some v → wr.cell? ⟨b, n * 4 + j, none⟩ = some v := fun j v hv => by rw [hbc, Nat.mul_comm]; have := fldsC_at Q fs n h j v hv; simpa using this
      have hfp := HP.out fs[n] (List.getElem_mem h)
      obtain ⟨f, hf⟩ : ∃ f, fs[n] = f := ⟨_, rfl⟩
      rw [hf] at hd hr hfp
      have r0 := hr 0 _ rfl
      rw [Nat.add_zero] at r0
      have r1 := hr 1 _ rfl
      have r2 := hr 2 _ rfl
      have r3 := hr 3 _ rfl
      have hQb : b ≠ Q := by
        intro e
        subst e
        have h1 := hbc 0
        rw [b' 0] at h1
        have h2 := cellC_at c' 0 (by omega)
        have h3 := fldsC_at b fs 0 (by omega) 0 _ rfl
        simp only [List.getElem?_toArray] at h1
        rw [h2] at h1
        rw [Nat.mul_zero, Nat.add_zero] at h3
        rw [h3] at h1
        simp at h1
      have hx := boxC_cell b' (j := f.pos) (by omega)
      rw [hd] at g'
      obtain ⟨x, ex⟩ : ∃ x, c'.getD f.pos 0 = x := ⟨_, rfl⟩
      rw [ex] at hx
      have K1 := Lib.hid l'
      have K2 := Lib.hid k'
      have K3 := Lib.hid g'
      have K4 := Lib.hid ex
      have K5 := Lib.hid hfp
      have KP := Lib.hid p'
      have KF := Lib.hid hbc
      have KQ := Lib.hid q'
      have KB := Lib.hid b'
      have Kf := Lib.hid f'
      have Kx := Lib.hid hx
      have Kb := Lib.hid hbl
      clear l' k' g' ex hfp p' hbc q' b' f' hx hbl hr hd hf F' R
      obtain ⟨po, lo, hi, wd⟩ := f
      simp only at r0 r1 r2 r3 Kx K4 K5
      go_upto_region 7 with fail
      refine opq (fun w' => Hid (Past W w' ∧ (∀ o : Nat, w'.cell? ⟨Q, o, none⟩ = (⟨cellC c'⟩ : Array Value)[o]?) ∧ (∀ o : Nat, w'.frozen? ⟨Q, o, none⟩ = false) ∧ (∀ o : Nat, w'.cell? ⟨b, o, none⟩ = (⟨fldsC Q fs⟩ : Array Value)[o]?) ∧ b < w'.heap.size ∧ Q < w'.heap.size) ∧ (∀ o : Nat, w'.cell? ⟨wr.heap.size, o, none⟩ = (#[.pointer (some ⟨Q, po, none⟩), .int .i64 lo, .int .i64 hi, .int .i64 (wd : Int)] : Array Value)[o]?) ∧ wr.heap.size < w'.heap.size) (by
        have h1 := KP.out
        have h2 := KB.out
        have h3 := Kf.out
        have h4 := KF.out
        have h5 := Kb.out
        have h6 := KQ.out
        exact ⟨Lib.hid ⟨h1.alloc _, box_old h2 h6, free_alloc h3, box_old h4 h5, by simp; omega, by simp; omega⟩, box_new rfl, by simp⟩) ?_
      rintro w2 ⟨K6, bF, z2⟩
      have qlt := KQ.out
      have blt := Kb.out
      have CX := boxC_cell K6.out.2.1 (j := po) (by have := K1.out; have := K5.out.1; omega)
      rw [K4.out] at CX
      have CXH := Lib.hid CX
      obtain ⟨B, hB⟩ : ∃ B, wr.heap.size = B := ⟨_, rfl⟩
      rw [hB] at bF z2 qlt blt
      try simp only [hB]
      clear CX KP KB Kf KF KQ Kx Kb hB r0 r1 r2 r3
      by_cases hin : lo ≤ x ∧ x ≤ hi
      · have dB : (!decide (lo ≤ x ∧ x ≤ hi)) = false := by simp [hin]
        have BY := Lib.hid (beyond_any Q ⟨po, lo, hi, wd⟩ x w2 CXH.out)
        simp only [dB] at BY
        have hinF : inF ⟨po, lo, hi, wd⟩ c' := by unfold inF; rw [K4.out]; exact hin
        have K3' := K3.out
        rw [goE_yes hinF] at K3'
        have G := Lib.hid K3'
        clear K3 K3' hin dB hinF K4
        go_wp2_with fail
        refine BY.out.mono ?_
        rintro e w3 ⟨rfl, p3⟩
        have b3 := box_past p3 bF z2
        obtain ⟨q1, q2, q3, q4, q5, q6⟩ := K6.out
        have f3 := free_past p3 q3 q6
        have cx3 := cell_past p3 CXH.out q6
        have K7 : Hid (Past W w3 ∧ (∀ o : Nat, w3.cell? ⟨Q, o, none⟩ = (⟨cellC c'⟩ : Array Value)[o]?) ∧ (∀ o : Nat, w3.frozen? ⟨Q, o, none⟩ = false) ∧ (∀ o : Nat, w3.cell? ⟨b, o, none⟩ = (⟨fldsC Q fs⟩ : Array Value)[o]?) ∧ b < w3.heap.size ∧ Q < w3.heap.size) := Lib.hid ⟨q1.trans p3, box_past p3 q2 q6, f3, box_past p3 q4 q5, Nat.lt_of_lt_of_le q5 p3.2.2.1, Nat.lt_of_lt_of_le q6 p3.2.2.1⟩
        clear BY K6 q1 q2 q3 q4 q5 q6 p3 bF CXH
        go_wp2_with fail
        go_roundw
        case rel =>
          obtain ⟨q1, q2, q3, q4, q5, q6⟩ := K7.out
          have l14 := K1.out
          have pp := K5.out
          refine ⟨n + 1, by omega, by go_num, rfl, Lib.hid ⟨c'.set po 0, by rw [List.length_set]; exact l14, ?_, G.out, boxC_set q2 (by omega), free_set q3, Past.setCell q1 (by exact QW) _, .inr ⟨b, rfl, by rw [World.size_setCell]; exact q5, box_set q4 (by dsimp only; omega)⟩, by rw [World.size_setCell]; exact q6⟩⟩
          rw [← K2.out]
          have : po ≠ 0 := pp.2
          simp [List.getD, List.getElem?_set, this]
        case measure => simp [intOf]; omega
      · have dB : (!decide (lo ≤ x ∧ x ≤ hi)) = true := by simp only [hin]; simp
        have BY := Lib.hid (beyond_any Q ⟨po, lo, hi, wd⟩ x w2 CXH.out)
        simp only [dB] at BY
        have hinF : ¬ inF ⟨po, lo, hi, wd⟩ c' := by unfold inF; rw [K4.out]; exact hin
        have K3' := K3.out
        rw [goE_no hinF] at K3'
        subst K3'
        clear K3 hin dB hinF K4
        go_wp2_with fail
        refine BY.out.mono ?_
        rintro e w3 ⟨rfl, p3⟩
        have P3 := Lib.hid (K6.out.1.trans p3)
        clear BY K6 p3 bF CXH
        go_wp2_with fail
        go_ret
        exact ⟨rfl, P3.out⟩
    · obtain ⟨c', l', k', g', b', f', p', F', q'⟩ := R.out
      have e0 : fs.drop n = [] := List.drop_of_length_le (by omega)
      rw [e0, goE_nil] at g'
      have h0 := boxC_cell b' (j := 0) (by omega)
      rw [k'] at h0
      have sz' := cmdSize l'
      have SZ := Lib.hid sz'
      have L' := Lib.hid l'
      have K' := Lib.hid k'
      have P' := Lib.hid p'
      have B' := Lib.hid b'
      have HM' := Lib.hid g'
      have h14 : (k :: List.replicate 13 (0 : Int)).length = 14 := by simp
      have H14 := Lib.hid h14
      clear e0 sz' l' k' p' f' F' q' b' R g' h14
      have key : Hid (m = if c' = k :: List.replicate 13 0 then 0 else 1) := Lib.hid (by
        rw [← HM'.out]
        by_cases ht : c' = k :: List.replicate 13 0
        · rw [if_pos ht, if_pos (by rw [ht]; rfl)]
        · rw [if_neg ht, if_neg]
          intro e
          apply ht
          have l := L'.out
          have h := K'.out
          match c', l, e, h with
          | a :: r, l, e, h => simp at h; simp only [List.tail_cons] at e; rw [e, h])
      clear HM'
      go_upto_region 11 with fail
      go_wp2_with (first | refine wpList_load_box rfl 67 (.tmp 1) rfl Q ⟨cellC c'⟩ rfl B'.out Tryz.underlying67 rfl SZ.out ?_ | refine wpList_neqC rfl (.tmp 25) (.tmp 28) 67 rfl c' (k :: List.replicate 13 0) L'.out H14.out rfl rfl ?_)
      all_goals
        go_ret
        refine ⟨?_, P'.out⟩
        rename_i ht
        have k2 := key.out
        simp only [List.replicate, ht] at k2
        first | (rw [if_pos (by simpa using ht)] at k2; rw [k2]; rfl) | (rw [if_neg (by simpa using ht)] at k2; rw [k2]; rfl)
theorem may_any (c : List Int) (hl : c.length = 14) (W : World) : Calls Tryz.prog 69 #[.agg ⟨cellC c⟩] W fun e w' => e = .returned (.int .i64 (mayE c)) ∧ Past W w' := by
  by_cases hk : kindP (c.getD 0 0)
  · rw [mayE_kind hk]; exact may_yes c hl hk W
  · rw [mayE_none hk]; exact may_no c hl hk W
end Go.Proofs.YtejllmjkeefloaaGreat.Q8
namespace Go.Proofs.YtejllmjkeefloaaGreat.Q8
open Go.ChangeShapes Go.WideShapes Go.ChangeAt Go.RowKit
set_option maxRecDepth 20000
set_option linter.unusedVariables false
set_option linter.unusedSimpArgs false

theorem cells_new' (w : World) (l : List Value) (t : TypeId) (j : Nat) (u : Value) (h : l[j]? = some u) : (w.alloc (.cells ⟨l⟩ t)).cell? ((⟨w.heap.size, 0, none⟩ : Addr).add j) = some u := by
  rw [add_plain]
  have := heap_alloc_new w (.cells ⟨l⟩ t)
  unfold World.cell?
  simp only [this]
  simpa using h
theorem info8 : (Tryz.prog.info? 5).map (fun i => (i.zero, i.size, i.bytes)) = some (some (.int .u8 0), 1, 1) := by kernel_rfl
/-- A row of bytes that a call owns; an empty one is none. -/
def OwnB (w : World) (base : Nat) (v : Value) (xs : List Int) : Prop := w.ownsRow base 5 1 v xs.length (xs.map (Value.int .u8)) ∧ (xs = [] → v = .slice none 0 0)
theorem OwnB.nil (w : World) (base : Nat) : OwnB w base (.slice none 0 0) [] := ⟨World.ownsRow_nil _ _ _ _, fun _ => rfl⟩
/-- A block that is no such row: an old one, or one that begins with something that is no byte. -/
def NoRow (w : World) (base P : Nat) : Prop := P < w.heap.size ∧ (P < base ∨ ∃ u, w.cell? ⟨P, 0, none⟩ = some u ∧ ∀ n, u ≠ .int .u8 n)
theorem OwnB.ne {w : World} {base P : Nat} {v : Value} {xs : List Int} (h : OwnB w base v xs) (hP : NoRow w base P) : some P ≠ v.ownBlock := by
  intro e
  obtain ⟨hlt, hP⟩ := hP
  rcases hP with hP | ⟨u, hu, hn⟩
  · have := (World.ownsRow.lt h.1 P e.symm).1
    omega
  · cases xs with
    | nil => rw [h.2 rfl] at e; simp [Value.ownBlock] at e
    | cons x xs =>
      have c := World.ownsRow.cells h.1 e.symm 0 (.int .u8 x) (by simp)
      rw [add_plain] at c
      rw [show (⟨P, 0 + 0, none⟩ : Addr) = ⟨P, 0, none⟩ from rfl, hu] at c
      exact hn x (by simpa using c)
/-- All that is no row of bytes of base is as it was. -/
def Lays (base : Nat) (w w' : World) : Prop := w'.os = w.os ∧ w'.output = w.output ∧ w.heap.size ≤ w'.heap.size ∧ ∀ P, NoRow w base P → w'.heap[P]? = w.heap[P]?
theorem Lays.refl (base : Nat) (w : World) : Lays base w w := ⟨rfl, rfl, Nat.le_refl _, fun _ _ => rfl⟩
theorem Lays.noRow {base P : Nat} {w w' : World} (h : Lays base w w') (hP : NoRow w base P) : NoRow w' base P := by
  refine ⟨Nat.lt_of_lt_of_le hP.1 h.2.2.1, ?_⟩
  rcases hP.2 with k | ⟨u, hu, hn⟩
  · exact .inl k
  · exact .inr ⟨u, (World.cell?_of_block (a := ⟨P, 0, none⟩) (h.2.2.2 P hP)).trans hu, hn⟩
theorem Lays.trans {base : Nat} {a b c : World} (h : Lays base a b) (k : Lays base b c) : Lays base a c :=
  ⟨k.1.trans h.1, k.2.1.trans h.2.1, Nat.le_trans h.2.2.1 k.2.2.1, fun P hP => (k.2.2.2 P (h.noRow hP)).trans (h.2.2.2 P hP)⟩
theorem Lays.alloc {base : Nat} {w w' : World} (h : Lays base w w') (x : Obj) : Lays base w (w'.alloc x) :=
  ⟨h.1, h.2.1, by rw [World.size_alloc]; have := h.2.2.1; omega, fun k hk => (Below.heap_alloc w' x k (Nat.lt_of_lt_of_le hk.1 h.2.2.1)).trans (h.2.2.2 k hk)⟩
theorem Lays.of_past {base : Nat} {w w' : World} (h : Past w w') : Lays base w w' := ⟨h.1, h.2.1, h.2.2.1, fun k hk => h.2.2.2 k hk.1⟩
theorem Lays.past {W w w' : World} (p : Past W w) (h : Lays W.heap.size w w') : Past W w' :=
  ⟨h.1.trans p.1, h.2.1.trans p.2.1, Nat.le_trans p.2.2.1 h.2.2.1, fun k hk => (h.2.2.2 k ⟨Nat.lt_of_lt_of_le hk p.2.2.1, .inl hk⟩).trans (p.2.2.2 k hk)⟩
theorem Lays.grownBy {base : Nat} {w w' w'' : World} {v : Value} {xs : List Int} (h : Lays base w w') (ho : OwnB w' base v xs) (g : w'.grownBy w'' v.ownBlock) : Lays base w w'' :=
  ⟨g.os.trans h.1, g.output.trans h.2.1, Nat.le_trans h.2.2.1 g.size, fun P hP => (g.block P (h.noRow hP).1 (ho.ne (h.noRow hP))).trans (h.2.2.2 P hP)⟩
theorem Lays.cell {base P o : Nat} {w w' : World} (h : Lays base w w') (hP : NoRow w base P) : w'.cell? ⟨P, o, none⟩ = w.cell? ⟨P, o, none⟩ := World.cell?_of_block (a := ⟨P, o, none⟩) (h.2.2.2 P hP)
theorem own_bytes {w : World} {base : Nat} {v : Value} {xs : List Int} {u : Int} {n : Nat} (hn : n = xs.length) (h : w.ownsRow base 5 1 v (n + 1) (xs.map (Value.int .u8) ++ [.int .u8 u])) : OwnB w base v (xs ++ [u]) := by
  subst hn
  exact ⟨by simpa using h, fun e => by simp at e⟩
theorem numB_1 (x : Int) : numB 1 x = (x % 256) :: numB 0 x := by simp [numB]
theorem numB_2 (x : Int) : numB 2 x = (x / 256 % 256) :: numB 1 x := by simp [numB]
theorem numB_3 (x : Int) : numB 3 x = (x / 65536 % 256) :: numB 2 x := by simp [numB]
theorem numB_4 (x : Int) : numB 4 x = (x / 16777216 % 256) :: numB 3 x := by simp [numB]
def LayPost (base wide : Nat) (bs : List Int) (x : Int) (w : World) (e : Ending) (w' : World) : Prop := ∃ v', e = .returned v' ∧ OwnB w' base v' (bs ++ numB wide x) ∧ Lays base w w'
set_option maxHeartbeats 4000000 in
theorem lay_any (base wide : Nat) (bv : Value) (bs : List Int) (x : Int) (W : World) (hw : wide = 1 ∨ wide = 2 ∨ wide = 3) (hx : (Lit.int .i64 x).wf = true) (ho : OwnB W base bv bs) (hb : base ≤ W.heap.size) (hm : bs.length ≤ 1000000000) :
    Calls Tryz.prog 83 #[bv, .int .i64 (wide : Int), .int .i64 x] W (LayPost base wide bs x W) := by
  have e1 : IntKind.i64.wrap ((wide : Int) - 1) = (wide : Int) - 1 := by rcases hw with rfl | rfl | rfl <;> decide
  have w3 : wide ≤ 3 := by omega
  obtain ⟨i0, hi0, hz0, hz1, hz2⟩ := info_parts info8
  have I1 := Lib.hid hi0
  have I2 := Lib.hid hz0
  have I3 := Lib.hid hz1
  have I4 := Lib.hid hz2
  have hx' := Lib.hid hx
  clear hi0 hz0 hz1 hz2 hw hx
  go_enter Tryz.func83, Tryz.ntmps83
  go_wp2_with fail
  go_loopw [0, 7] (fun v i wr => ∃ (m : Nat) (cs : List Int), m ≤ wide ∧ i = .int .i64 ((m : Int) - 1) ∧ Hid (cs ++ numB m x = bs ++ numB wide x) ∧ Hid (OwnB wr base v cs) ∧ Hid (Lays base W wr) ∧ base ≤ wr.heap.size) (fun _ i _ => (intOf i + 1).toNat)
  case atStart => exact ⟨wide, _, by omega, rfl, Lib.hid rfl, Lib.hid ho, Lib.hid (Lays.refl _ _), hb⟩
  case round =>
    clear ho hb
    obtain ⟨m, cs, hm4, rfl, heq, hown, hp, hbs⟩ := hrel
    have hcs : Hid (cs.length + m ≤ 1000000003) := Lib.hid (by
      have := congrArg List.length heq.out
      simp only [List.length_append, numB_len] at this
      omega)
    rcases (show m = 0 ∨ m = 1 ∨ m = 2 ∨ m = 3 by omega) with rfl | rfl | rfl | rfl
    · have he := heq.out
      simp only [numB, List.append_nil] at he
      have HE := Lib.hid he
      clear he
      go_wp2_with fail
      go_ret
      exact ⟨_, rfl, by rw [← HE.out]; exact hown.out, hp.out⟩
    · have d0 : decide (0 ≤ ((1 : Nat) : Int) - 1) = true := by decide
      have hnb := Lib.hid (numB_1 x)
      go_wp2_with (at_builtin; refine wpList_append_own _ rfl (.tmp 14) (.tmp 20) 22 rfl base 5 i0 _ 1 1 Tryz.underlying22 I1.out I2.out I3.out I4.out rfl (by decide) _ _ _ rfl (World.ownsRow.alloc hown.out.1 _) ⟨wr.heap.size, 0, none⟩ 1 1 [.int .u8 (x % 256)] rfl rfl (fun j u hu => cells_new' wr _ 5 j u hu) (by intro u hu; simp at hu; subst hu; rfl) ?c4 ?c5 ?c6 ?_)
      case c4 => have := hcs.out; unfold maxLen; omega
      case c5 => have := hcs.out; omega
      case c6 => simp; omega
      intro v4 w4 hown4 hgrow _
      have ho4 := Lib.hid (own_bytes rfl hown4)
      have hl4 := Lib.hid (Lays.grownBy (hp.out.alloc _) ⟨World.ownsRow.alloc hown.out.1 _, hown.out.2⟩ hgrow)
      have hs4 : base ≤ w4.heap.size := by have := hgrow.size; simp only [World.size_alloc] at this; omega
      have he4 := heq.out
      rw [hnb.out] at he4
      have HE4 := Lib.hid he4
      clear hown4 hgrow he4 hnb
      go_wp2_with fail
      go_roundw
      case rel => exact ⟨0, cs ++ [x % 256], by omega, by first | rfl | go_num, Lib.hid (by rw [← HE4.out]; simp), ho4, hl4, hs4⟩
      case measure => simp [intOf]
    · have d0 : decide (0 ≤ ((2 : Nat) : Int) - 1) = true := by decide
      have hnb := Lib.hid (numB_2 x)
      go_wp2_with (at_builtin; refine wpList_append_own _ rfl (.tmp 14) (.tmp 20) 22 rfl base 5 i0 _ 1 1 Tryz.underlying22 I1.out I2.out I3.out I4.out rfl (by decide) _ _ _ rfl (World.ownsRow.alloc hown.out.1 _) ⟨wr.heap.size, 0, none⟩ 1 1 [.int .u8 (x / 256 % 256)] rfl rfl (fun j u hu => cells_new' wr _ 5 j u hu) (by intro u hu; simp at hu; subst hu; rfl) ?c4 ?c5 ?c6 ?_)
      case c4 => have := hcs.out; unfold maxLen; omega
      case c5 => have := hcs.out; omega
      case c6 => simp; omega
      intro v4 w4 hown4 hgrow _
      have ho4 := Lib.hid (own_bytes rfl hown4)
      have hl4 := Lib.hid (Lays.grownBy (hp.out.alloc _) ⟨World.ownsRow.alloc hown.out.1 _, hown.out.2⟩ hgrow)
      have hs4 : base ≤ w4.heap.size := by have := hgrow.size; simp only [World.size_alloc] at this; omega
      have he4 := heq.out
      rw [hnb.out] at he4
      have HE4 := Lib.hid he4
      clear hown4 hgrow he4 hnb
      go_wp2_with fail
      go_roundw
      case rel => exact ⟨1, cs ++ [x / 256 % 256], by omega, by first | rfl | go_num, Lib.hid (by rw [← HE4.out]; simp), ho4, hl4, hs4⟩
      case measure => simp [intOf]
    · have d0 : decide (0 ≤ ((3 : Nat) : Int) - 1) = true := by decide
      have hnb := Lib.hid (numB_3 x)
      go_wp2_with (at_builtin; refine wpList_append_own _ rfl (.tmp 14) (.tmp 20) 22 rfl base 5 i0 _ 1 1 Tryz.underlying22 I1.out I2.out I3.out I4.out rfl (by decide) _ _ _ rfl (World.ownsRow.alloc hown.out.1 _) ⟨wr.heap.size, 0, none⟩ 1 1 [.int .u8 (x / 65536 % 256)] rfl rfl (fun j u hu => cells_new' wr _ 5 j u hu) (by intro u hu; simp at hu; subst hu; rfl) ?c4 ?c5 ?c6 ?_)
      case c4 => have := hcs.out; unfold maxLen; omega
      case c5 => have := hcs.out; omega
      case c6 => simp; omega
      intro v4 w4 hown4 hgrow _
      have ho4 := Lib.hid (own_bytes rfl hown4)
      have hl4 := Lib.hid (Lays.grownBy (hp.out.alloc _) ⟨World.ownsRow.alloc hown.out.1 _, hown.out.2⟩ hgrow)
      have hs4 : base ≤ w4.heap.size := by have := hgrow.size; simp only [World.size_alloc] at this; omega
      have he4 := heq.out
      rw [hnb.out] at he4
      have HE4 := Lib.hid he4
      clear hown4 hgrow he4 hnb
      go_wp2_with fail
      go_roundw
      case rel => exact ⟨2, cs ++ [x / 65536 % 256], by omega, by first | rfl | go_num, Lib.hid (by rw [← HE4.out]; simp), ho4, hl4, hs4⟩
      case measure => simp [intOf]
end Go.Proofs.YtejllmjkeefloaaGreat.Q8
