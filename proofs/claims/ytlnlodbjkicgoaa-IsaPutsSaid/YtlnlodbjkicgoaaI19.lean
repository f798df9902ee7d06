/- The reference's Put, Steps. -/
import Derived.Test.YtlnlodbjkicgoaaI18
namespace Go.Proofs.Ytlnlodbjkicgoaa
open Go.ChangeShapes Go.WideShapes Go.ChangeAt Go.RowKit
set_option maxRecDepth 20000
set_option linter.unusedVariables false
set_option linter.unusedSimpArgs false

def RPutPost2 (l : List (List Int)) (W : World) (e : Ending) (w' : World) : Prop := ∃ v, e = .returned (.tuple #[v, .int .i64 (putE l)]) ∧ IsNums .u8 w' v (putL l) ∧ Past W w'
theorem nums_nil (w : World) : IsNums .u8 w (.slice none 0 0) [] := ⟨none, 0, rfl, Nat.le_refl _, Nat.zero_le _, fun _ => rfl, by simp, by simp⟩
theorem ownZ_low {w : World} {base base' : Nat} {v : Value} {l : List Int} (h : OwnZ w base v l) : OwnR w base v l := h.1

set_option maxHeartbeats 1000000 in
theorem rPut_any (lv : Value) (l : List (List Int)) (W : World) (h : IsCmds W lv l) : Calls Try.prog 12 #[lv] W (RPutPost2 l W) := by
  have HC := Lib.hid h
  obtain ⟨A, cap, rfl, h2, h3, h4⟩ := h.form
  have hm : l.length ≤ 9223372036854775807 := by unfold maxLen at h3; omega
  clear h
  by_cases hb : 4096 < l.length
  · obtain ⟨e1, e2⟩ := put_big hb
    unfold RPutPost2
    rw [e1, e2]
    clear e1 e2
    go_enter Try.func12, Try.ntmps12
    go_wp2_with fail
    go_ret2
    exact ⟨_, rfl, nums_nil _, Past.refl _⟩
  · have WF := Lib.hid HC.out.wf
    have d1 : decide ((l.length : Int) > 4096) = false := by simp; omega
    have RN := Lib.hid (rnum_any W.heap.size 2 (.slice (some ⟨W.heap.size, 0, none⟩) 0 0) [] l.length (W.alloc (.cells #[] 5)) (.inr (.inl rfl)) (len_wf _ (by omega)) (ownZ_lit W) (by simp) (by simp))
    go_enter Try.func12, Try.ntmps12
    go_wp2_with fail
    refine RN.out.mono ?_
    rintro e w1 ⟨v1, rfl, o1, g1⟩
    have R1 : Hid (OwnZ w1 W.heap.size v1 (numB 2 l.length ++ (l.take 0).flatMap cmdB) ∧ Past W w1 ∧ ∀ c ∈ l.take 0, mayD c) := Lib.hid ⟨by simpa using o1, Lays.past ((Past.refl W).alloc _) g1, by simp⟩
    clear RN o1 g1
    go_wp2_with fail
    go_loopw [2, 3, 4, 5] (fun s2 s3 v i wr => ∃ n : Nat, n ≤ l.length ∧ i = .int .i64 n ∧ s2 = .slice none 0 0 ∧ s3 = .int .i64 0 ∧ Hid (OwnZ wr W.heap.size v (numB 2 l.length ++ (l.take n).flatMap cmdB) ∧ Past W wr ∧ ∀ c ∈ l.take n, mayD c)) (fun _ _ _ i _ => l.length - (intOf i).toNat)
    case atStart => exact ⟨0, by omega, rfl, rfl, rfl, R1⟩
    case round =>
      obtain ⟨n, hnl, rfl, rfl, rfl, R⟩ := hrel
      by_cases h : n < l.length
      · obtain ⟨b, off, rfl, hbl, hr⟩ := (HC.out.grow R.out.2.1).at n h
        have wc := wfC_at WF.out h
        have hnx := flatB_take h
        have hmem : l.getD n [] ∈ l := by
          have : l.getD n [] = l[n] := by simp [List.getD, h]
          rw [this]
          exact List.getElem_mem h
        have htk : ∀ c ∈ l.take (n + 1), c ∈ l.take n ∨ c = l.getD n [] := by
          intro c hc
          rw [List.take_succ_eq_append_getElem h] at hc
          rcases List.mem_append.1 hc with q | q
          · exact .inl q
          · right
            simp only [List.mem_singleton] at q
            rw [q]
            simp [List.getD, h]
        obtain ⟨c, ec⟩ : ∃ c, l.getD n [] = c := ⟨_, rfl⟩
        rw [ec] at hr wc hnx hmem htk
        have hlen : (numB 2 l.length ++ (l.take n).flatMap cmdB).length ≤ 1000000 := by
          have := flatB_len (l.take n)
          simp only [List.length_append, numB_len, List.length_take] at *
          omega
        have HR := Lib.hid hr
        have WC := Lib.hid wc
        have NX := Lib.hid hnx
        have HM := Lib.hid hmem
        have HT := Lib.hid htk
        have HL := Lib.hid hlen
        clear hr wc hnx hmem htk ec hlen hbl
        have MA := Lib.hid (fun w => rmay_any c WC.out.1 w)
        by_cases hmd : mayD c
        · rw [mayE_ok.2 hmd] at MA
          have HD := Lib.hid hmd
          clear hmd
          go_wp2_with (first | refine wpList_load_row rfl (.tmp 21) rfl b (off + n * 14) rfl c WC.out.1 HR.out ?_)
          refine (MA.out wr).mono ?_
          rintro e w3 ⟨rfl, p3⟩
          have R3 : Hid (OwnZ w3 W.heap.size u4 (numB 2 l.length ++ (l.take n).flatMap cmdB) ∧ Past W w3 ∧ ∀ c ∈ l.take n, mayD c) := Lib.hid ⟨R.out.1.past p3, R.out.2.1.trans p3, R.out.2.2⟩
          have HR3 : Hid (w3.rangeAt b (off + n * 14) (cellC c)) := Lib.hid (fun j v hv => (p3.cell (cell_lt (HR.out 0 _ (by rw [cellC_at c 0 (by rw [WC.out.1]; omega)])))).trans (HR.out j v hv))
          have LC := Lib.hid (rput_any W.heap.size u4 _ c w3 WC.out HD.out R3.out.1 R3.out.2.1.2.2.1 HL.out)
          clear R p3 HR MA
          go_wp2_with (first | refine wpList_load_row rfl (.tmp 28) rfl b (off + n * 14) rfl c WC.out.1 HR3.out ?_)
          refine LC.out.mono ?_
          rintro e w4 ⟨v4, rfl, o4, g4⟩
          have R4 : Hid (OwnZ w4 W.heap.size v4 (numB 2 l.length ++ (l.take (n + 1)).flatMap cmdB) ∧ Past W w4 ∧ ∀ c ∈ l.take (n + 1), mayD c) := Lib.hid ⟨by rw [NX.out, ← List.append_assoc]; exact o4, Lays.past R3.out.2.1 g4, fun d hd => by
            rcases HT.out d hd with q | q
            · exact R3.out.2.2 d q
            · rw [q]; exact HD.out⟩
          clear LC o4 g4 R3 HR3
          go_wp2_with fail
          go_roundw
          case rel => exact ⟨n + 1, by omega, by go_num, rfl, rfl, R4⟩
          case measure => simp [intOf]; omega
        · have e1 : mayE c = 1 := by unfold mayE; rw [if_neg hmd]
          rw [e1] at MA
          have E := Lib.hid (put_bad (by omega) HM.out hmd)
          clear hmd e1
          go_wp2_with (first | refine wpList_load_row rfl (.tmp 21) rfl b (off + n * 14) rfl c WC.out.1 HR.out ?_)
          refine (MA.out wr).mono ?_
          rintro e w3 ⟨rfl, p3⟩
          have P3 := Lib.hid (R.out.2.1.trans p3)
          clear R p3 HR MA
          go_wp2_with fail
          go_ret2
          exact ⟨_, by rw [E.out.2]; rfl, by rw [E.out.1]; exact nums_nil _, P3.out⟩
      · have e0 : l.take n = l := List.take_of_length_le (by omega)
        rw [e0] at R
        have E := Lib.hid (put_ok (l := l) (by omega) R.out.2.2)
        go_wp2_with fail
        go_ret2
        exact ⟨_, by rw [E.out.2]; rfl, by rw [E.out.1]; exact (ownZ_low (base' := 0) R.out.1).nums (putB_bytes l), R.out.2.1⟩

set_option maxHeartbeats 1000000 in
theorem rsteps_any (c : List Int) (hl : c.length = 14) (W : World) : Calls Try.prog 16 #[.agg ⟨cellC c⟩] W fun e w' => e = .returned (.int .i64 (stepsD c)) ∧ Past W w' := by
  obtain ⟨k, hk⟩ : ∃ k, c.getD 0 0 = k := ⟨_, rfl⟩
  obtain ⟨r, hr⟩ : ∃ r, c.getD 4 0 = r := ⟨_, rfl⟩
  have HL := Lib.hid hl
  have HK := Lib.hid hk
  have HR := Lib.hid hr
  have e : stepsD c = if 1 ≤ k ∧ k ≤ 4 then r else 1 := by unfold stepsD; rw [hk, hr]
  rw [e]
  clear hl hk hr e
  by_cases h1 : 1 ≤ k
  · by_cases h2 : k ≤ 4
    · rw [if_pos ⟨h1, h2⟩]
      have d1 : decide (1 ≤ k) = true := decide_eq_true h1
      have d2 : decide (k ≤ 4) = true := decide_eq_true h2
      clear h1 h2
      go_enter Try.func16, Try.ntmps16
      go_upto_region 1 with fail
      refine opq (fun w' => w'.cell? ⟨W.heap.size, 0, none⟩ = some (.int .i64 k) ∧ w'.cell? ⟨W.heap.size, 4, none⟩ = some (.int .i64 r) ∧ Past W w') (by
        have b := box_new (w := W) (cs := ⟨cellC c⟩) (t := 32) rfl
        exact ⟨by rw [boxC_cell b (by rw [HL.out]; omega), HK.out], by rw [boxC_cell b (by rw [HL.out]; omega), HR.out], (Past.refl W).alloc _⟩) ?_
      rintro w1 ⟨c0, c4, p1⟩
      go_wp2_with fail
      go_ret
      exact ⟨rfl, p1⟩
    · rw [if_neg (fun h => h2 h.2)]
      have d1 : decide (1 ≤ k) = true := decide_eq_true h1
      have d2 : decide (k ≤ 4) = false := decide_eq_false h2
      clear h1 h2
      go_enter Try.func16, Try.ntmps16
      go_upto_region 1 with fail
      refine opq (fun w' => w'.cell? ⟨W.heap.size, 0, none⟩ = some (.int .i64 k) ∧ Past W w') (by
        have b := box_new (w := W) (cs := ⟨cellC c⟩) (t := 32) rfl
        exact ⟨by rw [boxC_cell b (by rw [HL.out]; omega), HK.out], (Past.refl W).alloc _⟩) ?_
      rintro w1 ⟨c0, p1⟩
      go_wp2_with fail
      go_ret
      exact ⟨rfl, p1⟩
  · rw [if_neg (fun h => h1 h.1)]
    have d1 : decide (1 ≤ k) = false := decide_eq_false h1
    clear h1
    go_enter Try.func16, Try.ntmps16
    go_upto_region 1 with fail
    refine opq (fun w' => w'.cell? ⟨W.heap.size, 0, none⟩ = some (.int .i64 k) ∧ Past W w') (by
      have b := box_new (w := W) (cs := ⟨cellC c⟩) (t := 32) rfl
      exact ⟨by rw [boxC_cell b (by rw [HL.out]; omega), HK.out], (Past.refl W).alloc _⟩) ?_
    rintro w1 ⟨c0, p1⟩
    go_wp2_with fail
    go_ret
    exact ⟨rfl, p1⟩
end Go.Proofs.Ytlnlodbjkicgoaa
