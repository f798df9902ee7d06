/- isa: Put, Steps. -/
import Derived.Test.YtlnlodbjkicgoaaI10b
namespace Go.Proofs.Ytlnlodbjkicgoaa
open Go.ChangeShapes Go.WideShapes Go.ChangeAt Go.RowKit
set_option maxRecDepth 20000
set_option linter.unusedVariables false
set_option linter.unusedSimpArgs false

/-- What Put tells: the bytes, and the error. -/
def putL (l : List (List Int)) : List Int := if l.length ≤ 4096 ∧ ∀ c ∈ l, mayD c then putB l else []
def putE (l : List (List Int)) : Int := if 4096 < l.length then 3 else if ∀ c ∈ l, mayD c then 0 else 1
def PutPost (l : List (List Int)) (W : World) (e : Ending) (w' : World) : Prop := ∃ v, e = .returned (.tuple #[v, .int .i64 (putE l)]) ∧ OwnB w' W.heap.size v (putL l) ∧ Past W w'
theorem put_big {l : List (List Int)} (h : 4096 < l.length) : putL l = [] ∧ putE l = 3 := ⟨if_neg (fun k => by omega), if_pos h⟩
theorem put_bad {l : List (List Int)} (h : l.length ≤ 4096) {c : List Int} (hc : c ∈ l) (hm : ¬ mayD c) : putL l = [] ∧ putE l = 1 := by
  have q : ¬ ∀ c ∈ l, mayD c := fun k => hm (k c hc)
  exact ⟨if_neg (fun k => q k.2), by unfold putE; rw [if_neg (by omega), if_neg q]⟩
theorem put_ok {l : List (List Int)} (h : l.length ≤ 4096) (hm : ∀ c ∈ l, mayD c) : putL l = putB l ∧ putE l = 0 :=
  ⟨if_pos ⟨h, hm⟩, by unfold putE; rw [if_neg (by omega), if_pos hm]⟩
theorem restW_le (k : Int) : restW k ≤ 13 := by
  unfold restW fldsD
  split
  · decide
  split
  · decide
  split
  · decide
  split
  · decide
  · decide
theorem flatB_len (l : List (List Int)) : (l.flatMap cmdB).length ≤ 14 * l.length := by
  induction l with
  | nil => simp
  | cons c l ih =>
    have := restW_le (c.getD 0 0)
    simp only [List.flatMap_cons, List.length_append, List.length_cons, cmdB_len]
    omega
theorem putB_len (l : List (List Int)) : (putB l).length ≤ 2 + 14 * l.length := by
  have := flatB_len l
  unfold putB
  rw [List.length_append, numB_len]
  omega
theorem flatB_take {l : List (List Int)} {n : Nat} (h : n < l.length) : (l.take (n + 1)).flatMap cmdB = (l.take n).flatMap cmdB ++ cmdB (l.getD n []) := by
  rw [List.take_succ_eq_append_getElem h, List.flatMap_append]
  simp [List.getD, h]
theorem OwnB.lays_past {W w w' : World} {base : Nat} {v : Value} {l : List Int} (h : OwnB w base v l) (g : Past w w') : OwnB w' base v l := h.past g

set_option maxHeartbeats 400000 in
theorem put_any (lv : Value) (l : List (List Int)) (W : World) (h : IsCmds W lv l) : Calls Try.prog 11 #[lv] W (PutPost l W) := by
  have HC := Lib.hid h
  obtain ⟨A, cap, rfl, h2, h3, h4⟩ := h.form
  have hm : l.length ≤ 9223372036854775807 := by unfold maxLen at h3; omega
  clear h
  by_cases hb : 4096 < l.length
  · obtain ⟨e1, e2⟩ := put_big hb
    unfold PutPost
    rw [e1, e2]
    clear e1 e2
    go_enter Try.func11, Try.ntmps11
    go_wp2_with fail
    go_ret2
    exact ⟨_, rfl, OwnB.nil _ _, Past.refl _⟩
  · have WF := Lib.hid HC.out.wf
    have LA := Lib.hid (lay_any W.heap.size 2 (.slice none 0 0) [] l.length W (.inr (.inl rfl)) (len_wf _ (by omega)) (OwnB.nil _ _) (Nat.le_refl _) (by simp))
    have d1 : decide ((l.length : Int) > 4096) = false := by simp; omega
    go_enter Try.func11, Try.ntmps11
    go_wp2_with fail
    refine LA.out.mono ?_
    rintro e w1 ⟨v1, rfl, o1, g1⟩
    have R1 : Hid (OwnB w1 W.heap.size v1 (numB 2 l.length ++ (l.take 0).flatMap cmdB) ∧ Past W w1 ∧ ∀ c ∈ l.take 0, mayD c) := Lib.hid ⟨by simpa using o1, (Past.refl W).trans (Lays.past (Past.refl W) g1), by simp⟩
    clear LA o1 g1
    go_wp2_with fail
    go_loopw [2, 3, 4, 16] (fun s2 s3 v i wr => ∃ n : Nat, n ≤ l.length ∧ i = .int .i64 n ∧ s2 = .slice none 0 0 ∧ s3 = .int .i64 0 ∧ Hid (OwnB wr W.heap.size v (numB 2 l.length ++ (l.take n).flatMap cmdB) ∧ Past W wr ∧ ∀ c ∈ l.take n, mayD c)) (fun _ _ _ i _ => l.length - (intOf i).toNat)
    case atStart => exact ⟨0, by omega, rfl, rfl, rfl, R1⟩
    case round =>
      obtain ⟨n, hnl, rfl, rfl, rfl, R⟩ := hrel
      by_cases h : n < l.length
      · obtain ⟨b, off, rfl, hbl, hr⟩ := (HC.out.grow R.out.2.1).at n h
        have wc := wfC_at WF.out h
        have hnx := flatB_take h
        have hmem : l.getD n [] ∈ l := by
          have : l.getD n [] = l[n] := by simp [List.getD, h]
          rw [this]
          exact List.getElem_mem h
        have htk : ∀ c ∈ l.take (n + 1), c ∈ l.take n ∨ c = l.getD n [] := by
          intro c hc
          rw [List.take_succ_eq_append_getElem h] at hc
          rcases List.mem_append.1 hc with q | q
          · exact .inl q
          · right
            simp only [List.mem_singleton] at q
            rw [q]
            simp [List.getD, h]
        obtain ⟨c, ec⟩ : ∃ c, l.getD n [] = c := ⟨_, rfl⟩
        rw [ec] at hr wc hnx hmem htk
        have hlen : (numB 2 l.length ++ (l.take n).flatMap cmdB).length ≤ 1000000 := by
          have := flatB_len (l.take n)
          simp only [List.length_append, numB_len, List.length_take] at *
          omega
        have HR := Lib.hid hr
        have WC := Lib.hid wc
        have NX := Lib.hid hnx
        have HM := Lib.hid hmem
        have HT := Lib.hid htk
        have HL := Lib.hid hlen
        clear hr wc hnx hmem htk ec hlen hbl
        obtain ⟨mc, hmc⟩ : ∃ m, mayE c = m := ⟨_, rfl⟩
        have HMC := Lib.hid hmc
        have MA := Lib.hid (fun w => may_any c WC.out.1 w)
        rw [hmc] at MA
        clear hmc
        go_upto_region 6 with fail
        go_wp2_with (first | refine wpList_load_row rfl (.tmp 18) rfl b (off + n * 14) rfl c WC.out.1 HR.out ?_ | ((refine wpList_new_cmd 6 rfl rfl rfl rfl (.tmp 19) rfl rfl c WC.out.1 rfl rfl ?_); rintro w2 p2 b2 f2 z2; have B2 := Lib.hid b2; clear b2 f2) | refine wpList_load_cmd rfl (.tmp 6) rfl _ rfl c WC.out.1 B2.out ?_)
        refine (MA.out w2).mono ?_
        rintro e w3 ⟨rfl, p3⟩
        have B3 := Lib.hid (box_past p3 B2.out z2)
        have R3 : Hid (OwnB w3 W.heap.size u4 (numB 2 l.length ++ (l.take n).flatMap cmdB) ∧ Past W w3 ∧ ∀ c ∈ l.take n, mayD c) := Lib.hid ⟨(R.out.1.past p2).past p3, (R.out.2.1.trans p2).trans p3, R.out.2.2⟩
        have Z3 : wr.heap.size < w3.heap.size := Nat.lt_of_lt_of_le z2 p3.2.2.1
        obtain ⟨X, hX⟩ : ∃ X, wr.heap.size = X := ⟨_, rfl⟩
        rw [hX] at B3 Z3
        try simp only [hX]
        clear B2 R p2 z2 p3 hX
        by_cases hmd : mayD c
        · have : mc = 0 := by rw [← HMC.out]; exact mayE_ok.2 hmd
          subst this
          have LC := Lib.hid (layCmd_any W.heap.size u4 _ c w3 WC.out.1 WC.out.2 R3.out.1 R3.out.2.1.2.2.1 HL.out)
          have HD := Lib.hid hmd
          clear hmd HMC
          go_wp2_with (first | refine wpList_load_cmd rfl (.tmp 6) rfl _ rfl c WC.out.1 B3.out ?_)
          refine LC.out.mono ?_
          rintro e w4 ⟨v4, rfl, o4, g4⟩
          have R4 : Hid (OwnB w4 W.heap.size v4 (numB 2 l.length ++ (l.take (n + 1)).flatMap cmdB) ∧ Past W w4 ∧ ∀ c ∈ l.take (n + 1), mayD c) := Lib.hid ⟨by rw [NX.out, ← List.append_assoc]; exact o4, Lays.past R3.out.2.1 g4, fun d hd => by
            rcases HT.out d hd with q | q
            · exact R3.out.2.2 d q
            · rw [q]; exact HD.out⟩
          clear LC o4 g4 R3 B3
          go_wp2_with fail
          go_roundw
          case rel => exact ⟨n + 1, by omega, by go_num, rfl, rfl, R4⟩
          case measure => simp [intOf]; omega
        · have : mc = 1 := by rw [← HMC.out]; unfold mayE; rw [if_neg hmd]
          subst this
          have E := Lib.hid (put_bad (by omega) HM.out hmd)
          clear hmd HMC
          go_wp2_with fail
          go_ret2
          exact ⟨_, by rw [E.out.2]; rfl, by rw [E.out.1]; exact OwnB.nil _ _, R3.out.2.1⟩
      · have e0 : l.take n = l := List.take_of_length_le (by omega)
        rw [e0] at R
        have E := Lib.hid (put_ok (l := l) (by omega) R.out.2.2)
        go_wp2_with fail
        go_ret2
        exact ⟨_, by rw [E.out.2]; rfl, by rw [E.out.1]; exact R.out.1, R.out.2.1⟩
end Go.Proofs.Ytlnlodbjkicgoaa
