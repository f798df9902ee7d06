/- May and Put of an image. The reference's Put, Steps. -/
import Derived.Deep.DeepCutAuto
import Derived.Test.YtejllmjkeefloaaLA3
import Derived.Test.YtejllmjkeefloaaLV2
import Derived.Test.YtejllmjkeefloaaLI18
namespace Go.Proofs.Ytejllmjkeefloaa
open Go.ChangeShapes Go.WideShapes Go.ChangeAt Go.RowKit
set_option maxRecDepth 20000
set_option linter.unusedVariables false
set_option linter.unusedSimpArgs false

def PutI (i : ImgD) (W : World) (e : Ending) (w' : World) : Prop :=
  (mayI i = 0 ∧ ∃ B, W.heap.size ≤ B ∧ e = .returned (.tuple #[.slice (some ⟨B, 0, none⟩) ((imgB i).length + 4) ((imgB i).length + 4), .int .i64 0]) ∧ Q7.Row w' B (Q7.sealD (nats (imgB i))) ∧ Past W w') ∨
  (mayI i ≠ 0 ∧ e = .returned (.tuple #[.slice none 0 0, .int .i64 (mayI i)]) ∧ Past W w')
theorem putI_ok {i : ImgD} {W w' : World} {B : Nat} {E : Int} (h : mayI i = E) (e0 : E = 0) (hB : W.heap.size ≤ B) (r : Q7.Row w' B (Q7.sealD (nats (imgB i)))) (p : Past W w') : PutI i W (.returned (.tuple #[.slice (some ⟨B, 0, none⟩) ((imgB i).length + 4) ((imgB i).length + 4), .int .i64 0])) w' := .inl ⟨h.trans e0, B, hB, rfl, r, p⟩
theorem putI_no {i : ImgD} {W w' : World} {E : Int} (h : mayI i = E) (e0 : E ≠ 0) (p : Past W w') : PutI i W (.returned (.tuple #[.slice none 0 0, .int .i64 E])) w' := .inr ⟨by rw [h]; exact e0, by rw [h], p⟩
theorem imgB_len {i : ImgD} (h : mayI i = 0) (hz : (graphB i.g).length ≤ 500000) : (imgB i).length ≤ 999000 := by
  obtain ⟨h1, h2, e0, e1, e2⟩ := may_parts h
  have a := (makes_facts h1).1
  have b := (begins_ok (values_ok h1).1).1
  have c := h2.1
  have s := streamsB_len i 3 (fun j hj => by
    rcases (show j = 0 ∨ j = 1 ∨ j = 2 by omega) with rfl | rfl | rfl
    · exact (putE_ok e0).2.1
    · exact (putE_ok e1).2.1
    · exact (putE_ok e2).2.1)
  rw [← imgB_eq, List.length_append, headB_len]
  omega
set_option maxHeartbeats 4000000 in
theorem imay_any (i : ImgD) (v : Value) (W : World) (h : IsImg W v i) (hc : Cut i.g) (hz : (graphB i.g).length ≤ 500000) : Calls Try.prog 18 #[v] W fun e w' => e = .returned (.int .i64 (mayI i)) ∧ Past W w' := by
  have LA := Lib.hid (fun w (p : Past W w) => lay_any i v w (h.grow p) hc hz)
  unfold LayI at LA
  obtain ⟨A1, c1, A2, c2, A3, c3, A4, c4, A5, c5, A6, c6, A7, c7, rfl, hg, hp, h0, h1, h2⟩ := h.form
  obtain ⟨E, hE⟩ : ∃ E, mayI i = E := ⟨_, rfl⟩
  rw [hE] at LA ⊢
  clear h hg hp h0 h1 h2 hc hz hE
  go_enter Try.func18, Try.ntmps18
  go_upto_region 1 with fail
  obtain ⟨Q, hQ⟩ : ∃ Q, W.heap.size = Q := ⟨_, rfl⟩
  refine opq (fun w' => (∀ o : Nat, w'.cell? ⟨Q, o, none⟩ = (#[.slice A1 i.g.ins.length c1, .slice A2 i.g.nodes.length c2, .slice A3 i.g.outs.length c3, .slice A4 i.pl.length c4, .slice A5 i.s0.length c5, .slice A6 i.s1.length c6, .slice A7 i.s2.length c7] : Array Value)[o]?) ∧ Past W w' ∧ Q + 1 ≤ w'.heap.size) (by
    subst hQ
    exact ⟨by (exact kKeep), by (exact kKeep), by (exact kKeep)⟩) ?_
  rintro w0 ⟨q0, p0, s0⟩
  try rw [hQ]
  go_wp2_with (first | refine wpList_load_box rfl 40 (.tmp 1) rfl Q _ rfl q0 Try.underlying40 rfl (by kernel_rfl) ?_)
  refine (LA.out _ p0).mono ?_
  rintro e w1 (⟨e0, bv, rfl, _, pp1⟩ | ⟨e0, rfl, pp1⟩)
  · have p1 := p0.trans pp1
    subst e0
    go_wp2_with fail
    go_ret
    exact ⟨rfl, p1⟩
  · have p1 := p0.trans pp1
    go_wp2_with fail
    go_ret
    exact ⟨rfl, p1⟩
set_option maxHeartbeats 4000000 in
theorem iput_any (i : ImgD) (v : Value) (W : World) (h : IsImg W v i) (hc : Cut i.g) (hz : (graphB i.g).length ≤ 500000) : Calls Try.prog 15 #[v] W (PutI i W) := by
  have LA := Lib.hid (fun w (p : Past W w) => lay_any i v w (h.grow p) hc hz)
  unfold LayI at LA
  obtain ⟨A1, c1, A2, c2, A3, c3, A4, c4, A5, c5, A6, c6, A7, c7, rfl, hg, hp, h0, h1, h2⟩ := h.form
  obtain ⟨E, hE⟩ : ∃ E, mayI i = E := ⟨_, rfl⟩
  have HZ := Lib.hid (fun h => imgB_len (i := i) h hz)
  have HE := Lib.hid hE
  rw [hE] at LA HZ
  clear h hg hp h0 h1 h2 hc hz hE
  go_enter Try.func15, Try.ntmps15
  go_upto_region 1 with fail
  obtain ⟨Q, hQ⟩ : ∃ Q, W.heap.size = Q := ⟨_, rfl⟩
  refine opq (fun w' => (∀ o : Nat, w'.cell? ⟨Q, o, none⟩ = (#[.slice A1 i.g.ins.length c1, .slice A2 i.g.nodes.length c2, .slice A3 i.g.outs.length c3, .slice A4 i.pl.length c4, .slice A5 i.s0.length c5, .slice A6 i.s1.length c6, .slice A7 i.s2.length c7] : Array Value)[o]?) ∧ Past W w' ∧ Q + 1 ≤ w'.heap.size) (by
    subst hQ
    exact ⟨by (exact kKeep), by (exact kKeep), by (exact kKeep)⟩) ?_
  rintro w0 ⟨q0, p0, s0⟩
  try rw [hQ]
  go_wp2_with (first | refine wpList_load_box rfl 40 (.tmp 1) rfl Q _ rfl q0 Try.underlying40 rfl (by kernel_rfl) ?_)
  refine (LA.out _ p0).mono ?_
  rintro e w1 (⟨e0, bv, rfl, nb, pp1⟩ | ⟨e0, rfl, pp1⟩)
  · have p1 := p0.trans pp1
    subst e0
    have hl := HZ.out rfl
    have NB : Hid (IsNums .u8 w1 bv (Q7.ints (nats (imgB i)))) := Lib.hid (by rw [ints_nats (imgB_bytes i)]; exact nb)
    have SE := Lib.hid (Q7.seal_any (nats (imgB i)) bv w1 NB.out (nats_bytes (imgB_bytes i)) (by rw [nats_len]; omega))
    unfold Q7.SealPost at SE
    rw [nats_len] at SE
    obtain ⟨A, cap, rfl, _, _, _, _, _⟩ := nb
    obtain ⟨S, hS⟩ : ∃ S, w1.heap.size = S := ⟨_, rfl⟩
    rw [hS] at SE
    have hWS : W.heap.size ≤ S := by have := p1.2.2.1; omega
    clear HZ LA NB hS q0
    go_wp2_with fail
    refine SE.out.mono ?_
    rintro e w2 ⟨rfl, row, pp2⟩
    have p2 := p1.trans pp2
    have RW := Lib.hid row
    clear row SE pp1 pp2
    go_wp2_with fail
    go_ret2
    exact putI_ok HE.out rfl hWS RW.out p2
  · have p1 := p0.trans pp1
    have ne : (E != 0) = true := by simpa using e0
    go_wp2_with fail
    go_ret2
    exact putI_no HE.out e0 p1
end Go.Proofs.Ytejllmjkeefloaa
namespace Go.Proofs.Ytejllmjkeefloaa.Q8
open Go.ChangeShapes Go.WideShapes Go.ChangeAt Go.RowKit
set_option maxRecDepth 20000
set_option linter.unusedVariables false
set_option linter.unusedSimpArgs false

def RPutPost2 (l : List (List Int)) (W : World) (e : Ending) (w' : World) : Prop := ∃ v, e = .returned (.tuple #[v, .int .i64 (putE l)]) ∧ IsNums .u8 w' v (putL l) ∧ Past W w'
theorem nums_nil (w : World) : IsNums .u8 w (.slice none 0 0) [] := ⟨none, 0, rfl, Nat.le_refl _, Nat.zero_le _, fun _ => rfl, by simp, by simp⟩
theorem ownZ_low {w : World} {base base' : Nat} {v : Value} {l : List Int} (h : OwnZ w base v l) : OwnR w base v l := h.1
set_option maxHeartbeats 1000000 in
theorem rPut_any (lv : Value) (l : List (List Int)) (W : World) (h : IsCmds W lv l) : Calls Try.prog 19 #[lv] W (RPutPost2 l W) := by
  have HC := Lib.hid h
  obtain ⟨A, cap, rfl, h2, h3, h4⟩ := h.form
  have hm : l.length ≤ 9223372036854775807 := by unfold maxLen at h3; omega
  clear h
  by_cases hb : 4096 < l.length
  · obtain ⟨e1, e2⟩ := put_big hb
    unfold RPutPost2
    rw [e1, e2]
    clear e1 e2
    go_enter Try.func19, Try.ntmps19
    go_wp2_with fail
    go_ret2
    exact ⟨_, rfl, nums_nil _, Past.refl _⟩
  · have WF := Lib.hid HC.out.wf
    have d1 : decide ((l.length : Int) > 4096) = false := by simp; omega
    have RN := Lib.hid (rnum_any W.heap.size 2 (.slice (some ⟨W.heap.size, 0, none⟩) 0 0) [] l.length (W.alloc (.cells #[] 5)) (.inr (.inl rfl)) (len_wf _ (by omega)) (ownZ_lit W) (by simp) (by simp))
    go_enter Try.func19, Try.ntmps19
    go_wp2_with fail
    refine RN.out.mono ?_
    rintro e w1 ⟨v1, rfl, o1, g1⟩
    have R1 : Hid (OwnZ w1 W.heap.size v1 (numB 2 l.length ++ (l.take 0).flatMap cmdB) ∧ Past W w1 ∧ ∀ c ∈ l.take 0, mayD c) := Lib.hid ⟨by simpa using o1, Lays.past ((Past.refl W).alloc _) g1, by simp⟩
    clear RN o1 g1
    go_wp2_with fail
    go_loopw [2, 3, 4, 5] (fun s2 s3 v i wr => ∃ n : Nat, n ≤ l.length ∧ i = .int .i64 n ∧ s2 = .slice none 0 0 ∧ s3 = .int .i64 0 ∧ Hid (OwnZ wr W.heap.size v (numB 2 l.length ++ (l.take n).flatMap cmdB) ∧ Past W wr ∧ ∀ c ∈ l.take n, mayD c)) (fun _ _ _ i _ => l.length - (intOf i).toNat)
    case atStart => exact ⟨0, by omega, rfl, rfl, rfl, R1⟩
    case round =>
      obtain ⟨n, hnl, rfl, rfl, rfl, R⟩ := hrel
      by_cases h : n < l.length
      · obtain ⟨b, off, rfl, hbl, hr⟩ := (HC.out.grow R.out.2.1).at n h
        have wc := wfC_at WF.out h
        have hnx := flatB_take h
        have hmem : l.getD n [] ∈ l := by
          have : l.getD n [] = l[n] := by simp [List.getD, h]
          rw [this]
          exact List.getElem_mem h
        have htk : ∀ c ∈ l.take (n + 1), c ∈ l.take n ∨ c = l.getD n [] := by
          intro c hc
          rw [List.take_succ_eq_append_getElem h] at hc
          rcases List.mem_append.1 hc with q | q
          · exact .inl q
          · right
            simp only [List.mem_singleton] at q
            rw [q]
            simp [List.getD, h]
        obtain ⟨c, ec⟩ : ∃ c, l.getD n [] = c := ⟨_, rfl⟩
        rw [ec] at hr wc hnx hmem htk
        have hlen : (numB 2 l.length ++ (l.take n).flatMap cmdB).length ≤ 1000000 := by
          have := flatB_len (l.take n)
          simp only [List.length_append, numB_len, List.length_take] at *
          omega
        have HR := Lib.hid hr
        have WC := Lib.hid wc
        have NX := Lib.hid hnx
        have HM := Lib.hid hmem
        have HT := Lib.hid htk
        have HL := Lib.hid hlen
        clear hr wc hnx hmem htk ec hlen hbl
        have MA := Lib.hid (fun w => rmay_any c WC.out.1 w)
        by_cases hmd : mayD c
        · rw [mayE_ok.2 hmd] at MA
          have HD := Lib.hid hmd
          clear hmd
          go_wp2_with (first | refine wpList_load_row rfl (.tmp 21) rfl b (off + n * 14) rfl c WC.out.1 HR.out ?_)
          refine (MA.out wr).mono ?_
          rintro e w3 ⟨rfl, p3⟩
          have R3 : Hid (OwnZ w3 W.heap.size u4 (numB 2 l.length ++ (l.take n).flatMap cmdB) ∧ Past W w3 ∧ ∀ c ∈ l.take n, mayD c) := Lib.hid ⟨R.out.1.past p3, R.out.2.1.trans p3, R.out.2.2⟩
          have HR3 : Hid (w3.rangeAt b (off + n * 14) (cellC c)) := Lib.hid (fun j v hv => (p3.cell (cell_lt (HR.out 0 _ (by rw [cellC_at c 0 (by rw [WC.out.1]; omega)])))).trans (HR.out j v hv))
          have LC := Lib.hid (rput_any W.heap.size u4 _ c w3 WC.out HD.out R3.out.1 R3.out.2.1.2.2.1 HL.out)
          clear R p3 HR MA
          go_wp2_with (first | refine wpList_load_row rfl (.tmp 28) rfl b (off + n * 14) rfl c WC.out.1 HR3.out ?_)
          refine LC.out.mono ?_
          rintro e w4 ⟨v4, rfl, o4, g4⟩
          have R4 : Hid (OwnZ w4 W.heap.size v4 (numB 2 l.length ++ (l.take (n + 1)).flatMap cmdB) ∧ Past W w4 ∧ ∀ c ∈ l.take (n + 1), mayD c) := Lib.hid ⟨by rw [NX.out, ← List.append_assoc]; exact o4, Lays.past R3.out.2.1 g4, fun d hd => by
            rcases HT.out d hd with q | q
            · exact R3.out.2.2 d q
            · rw [q]; exact HD.out⟩
          clear LC o4 g4 R3 HR3
          go_wp2_with fail
          go_roundw
          case rel => exact ⟨n + 1, by omega, by go_num, rfl, rfl, R4⟩
          case measure => simp [intOf]; omega
        · have e1 : mayE c = 1 := by unfold mayE; rw [if_neg hmd]
          rw [e1] at MA
          have E := Lib.hid (put_bad (by omega) HM.out hmd)
          clear hmd e1
          go_wp2_with (first | refine wpList_load_row rfl (.tmp 21) rfl b (off + n * 14) rfl c WC.out.1 HR.out ?_)
          refine (MA.out wr).mono ?_
          rintro e w3 ⟨rfl, p3⟩
          have P3 := Lib.hid (R.out.2.1.trans p3)
          clear R p3 HR MA
          go_wp2_with fail
          go_ret2
          exact ⟨_, by rw [E.out.2]; rfl, by rw [E.out.1]; exact nums_nil _, P3.out⟩
      · have e0 : l.take n = l := List.take_of_length_le (by omega)
        rw [e0] at R
        have E := Lib.hid (put_ok (l := l) (by omega) R.out.2.2)
        go_wp2_with fail
        go_ret2
        exact ⟨_, by rw [E.out.2]; rfl, by rw [E.out.1]; exact (ownZ_low (base' := 0) R.out.1).nums (putB_bytes l), R.out.2.1⟩
end Go.Proofs.Ytejllmjkeefloaa.Q8
