/- The walk's steps over commands: one loaded out of a row, a box of its own for one, one loaded out of its box; a row of commands that a call owns. isa: Put, Steps. -/
import Derived.Test.YtejllmjkeefloaaLI10
namespace Go.Proofs.Ytejllmjkeefloaa.Q8
open Go.ChangeShapes Go.WideShapes Go.ChangeAt Go.RowKit
set_option maxRecDepth 20000
set_option linter.unusedVariables false
set_option linter.unusedSimpArgs false

theorem len_wf (n : Nat) (h : n ≤ 1000000000) : (Lit.int .i64 (n : Int)).wf = true := by simp [Lit.wf, IntKind.min, IntKind.max, IntKind.bits, IntKind.signed]; omega
theorem zeroV : (Try.prog.info? 51).map (·.zero) = some (some (.agg ⟨cellC zeros⟩)) := by kernel_rfl
section
variable {ops : Array Oper} {Q : Exit → Act → World → Prop}
theorem wpList_load_row {rest : List Oper} {op : Oper} {a : Act} {w : World} (hgd : op.guard = none) (x : Operand) (ho : op.op = .load 51 x) (b o : Nat) (hx : a.eval x = .pointer (some ⟨b, o, none⟩)) (c : List Int) (hl : c.length = 14) (hc : w.rangeAt b o (cellC c))
    (h : wpList Try.prog ops Q rest (a.put op.dst (.agg ⟨cellC c⟩)) w) : wpList Try.prog ops Q (op :: rest) a w :=
  wpList_load_mid hgd 51 x ho b o hx (cellC c) _ hc Try.underlying51 rfl (by rw [C14, cellC_len, hl]) h
theorem wpList_load_cmd {rest : List Oper} {op : Oper} {a : Act} {w : World} (hgd : op.guard = none) (x : Operand) (ho : op.op = .load 51 x) (b : Nat) (hx : a.eval x = .pointer (some ⟨b, 0, none⟩)) (c : List Int) (hl : c.length = 14) (hb : (∀ o : Nat, w.cell? ⟨b, o, none⟩ = (⟨cellC c⟩ : Array Value)[o]?))
    (h : wpList Try.prog ops Q rest (a.put op.dst (.agg ⟨cellC c⟩)) w) : wpList Try.prog ops Q (op :: rest) a w :=
  wpList_load_box hgd 51 x ho b ⟨cellC c⟩ hx hb Try.underlying51 rfl (cmdSize hl) h
theorem wpList_new_cmd {rest : List Oper} {o1 o2 : Oper} {a : Act} {w : World} (t : Tmp) (h1 : o1.guard = none) (h2 : o2.guard = none) (e1 : o1.op = .alloc 51) (d1 : o1.dst = some t) (y : Operand) (e2 : o2.op = .store 51 (.tmp t) y) (d2 : o2.dst = none)
    (c : List Int) (hl : c.length = 14) (hx : (a.put (some t) (.pointer (some ⟨w.heap.size, 0, none⟩))).eval (.tmp t) = .pointer (some ⟨w.heap.size, 0, none⟩)) (hy : (a.put (some t) (.pointer (some ⟨w.heap.size, 0, none⟩))).eval y = .agg ⟨cellC c⟩)
    (h : ∀ w', Past w w' → (∀ o : Nat, w'.cell? ⟨w.heap.size, o, none⟩ = (⟨cellC c⟩ : Array Value)[o]?) → (∀ o : Nat, w'.frozen? ⟨w.heap.size, o, none⟩ = false) → w.heap.size < w'.heap.size → wpList Try.prog ops Q rest (a.put (some t) (.pointer (some ⟨w.heap.size, 0, none⟩))) w') : wpList Try.prog ops Q (o1 :: o2 :: rest) a w := by
  refine wpList_alloc_box h1 51 e1 (.agg ⟨cellC zeros⟩) zeroV (fun w' => Past w w' ∧ (∀ o : Nat, w'.cell? ⟨w.heap.size, o, none⟩ = (⟨cellC zeros⟩ : Array Value)[o]?) ∧ (∀ o : Nat, w'.frozen? ⟨w.heap.size, o, none⟩ = false) ∧ w.heap.size < w'.heap.size) ⟨(Past.refl w).alloc _, box_new rfl, free_alloc (free_new (Nat.le_refl _)), by simp⟩ ?_
  rintro w' ⟨p, b, f, z⟩
  rw [d1]
  have hs : (⟨cellC zeros⟩ : Array Value).size = (⟨cellC c⟩ : Array Value).size := by rw [size_cellC hl]; rfl
  refine wpList_store_box h2 51 (.tmp t) y e2 w.heap.size ⟨cellC c⟩ _ hx hy b f hs (cmdSize hl) (one_cellC c) (fun w' => Past w w' ∧ (∀ o : Nat, w'.cell? ⟨w.heap.size, o, none⟩ = (⟨cellC c⟩ : Array Value)[o]?) ∧ (∀ o : Nat, w'.frozen? ⟨w.heap.size, o, none⟩ = false) ∧ w.heap.size < w'.heap.size) ⟨past_setAll (Nat.le_refl _) _ _ _ p, box_setAll b hs, free_setAll _ f, size_setAll _ _ _ z⟩ ?_
  rintro w2 ⟨p2, b2, f2, z2⟩
  rw [d2]
  exact h w2 p2 b2 f2 z2
end

/-- A row of commands that a call owns. -/
def OwnC (w : World) (base : Nat) (v : Value) (l : List (List Int)) : Prop := w.ownsRow base 51 14 v l.length (l.flatMap cellC) ∧ ∀ c ∈ l, wfC c
theorem flatC_at {l : List (List Int)} (h : ∀ c ∈ l, wfC c) {i : Nat} (hi : i < l.length) (j : Nat) (v : Value) (hv : (cellC (l.getD i []))[j]? = some v) : (l.flatMap cellC)[i * 14 + j]? = some v := by
  induction l generalizing i with
  | nil => simp at hi
  | cons c l ih =>
    have hc := (h c (List.mem_cons_self ..)).1
    cases i with
    | zero =>
      have hj : j < (cellC c).length := by
        by_cases q : j < (cellC c).length
        · exact q
        · rw [List.getD_cons_zero, List.getElem?_eq_none (by simpa using q)] at hv; cases hv
      rw [List.flatMap_cons, Nat.zero_mul, Nat.zero_add, List.getElem?_append_left hj]
      simpa using hv
    | succ i =>
      rw [List.flatMap_cons, List.getElem?_append_right (by rw [cellC_len, hc]; omega), cellC_len, hc]
      have := ih (fun d hd => h d (List.mem_cons_of_mem _ hd)) (by simpa using hi) (by simpa using hv)
      rw [← this]
      congr 1
      omega
theorem OwnC.cmds {w : World} {base : Nat} {v : Value} {l : List (List Int)} (h : OwnC w base v l) : IsCmds w v l := by
  obtain ⟨⟨hl, h⟩, hw⟩ := h
  rcases h with ⟨rfl, h0⟩ | ⟨b, cap, cur, rfl, hbb, hg, hn, hm, hs, ht⟩
  · have : l = [] := List.eq_nil_of_length_eq_zero h0
    subst this
    exact ⟨none, 0, rfl, Nat.le_refl _, Nat.zero_le _, fun _ => rfl, by simp, by simp⟩
  · refine ⟨some ⟨b, 0, none⟩, cap, rfl, hn, hm, (fun h => by cases h), hw, fun hp => ⟨b, 0, rfl, (Array.getElem?_eq_some_iff.1 hg).1, fun i hi j v hv => ?_⟩⟩
    have := flatC_at hw hi j v hv
    rw [← ht] at this
    rw [Nat.zero_add]
    have hlt : i * 14 + j < l.length * 14 := by
      have hj : j < 14 := by
        have hc := (wfC_at hw hi).1
        by_cases q : j < 14
        · exact q
        · rw [List.getElem?_eq_none (by rw [cellC_len, hc]; omega)] at hv; cases hv
      omega
    rw [List.getElem?_take_of_lt (by omega)] at this
    simpa [World.cell?, hg] using this
theorem OwnC.past {w w' : World} {base : Nat} {v : Value} {l : List (List Int)} (h : OwnC w base v l) (g : Past w w') : OwnC w' base v l := by
  obtain ⟨⟨hl, h⟩, hw⟩ := h
  refine ⟨⟨hl, ?_⟩, hw⟩
  rcases h with ⟨rfl, h0⟩ | ⟨b, cap, cur, rfl, hb, hg, hn, hm, hs, ht⟩
  · exact .inl ⟨rfl, h0⟩
  · exact .inr ⟨b, cap, cur, rfl, hb, (g.2.2.2 b (Array.getElem?_eq_some_iff.1 hg).1).trans hg, hn, hm, hs, ht⟩
theorem OwnC.nil (w : World) (base : Nat) : OwnC w base (.slice none 0 0) [] := ⟨World.ownsRow_nil _ _ _ _, by simp⟩
theorem infoC : (Try.prog.info? 51).map (fun i => (i.zero, i.size, i.bytes)) = some (some (.agg ⟨cellC zeros⟩), 14, 112) := by kernel_rfl
theorem oneC (c : List Int) : ∀ u ∈ cellC c, u.oneCell' = true := by
  intro u hu
  simp only [cellC, List.mem_map] at hu
  obtain ⟨x, _, rfl⟩ := hu
  rfl
end Go.Proofs.Ytejllmjkeefloaa.Q8
namespace Go.Proofs.Ytejllmjkeefloaa.Q8
open Go.ChangeShapes Go.WideShapes Go.ChangeAt Go.RowKit
set_option maxRecDepth 20000
set_option linter.unusedVariables false
set_option linter.unusedSimpArgs false

/-- What Put tells: the bytes, and the error. -/
def putL (l : List (List Int)) : List Int := if l.length ≤ 4096 ∧ ∀ c ∈ l, mayD c then putB l else []
def putE (l : List (List Int)) : Int := if 4096 < l.length then 3 else if ∀ c ∈ l, mayD c then 0 else 1
def PutPost (l : List (List Int)) (W : World) (e : Ending) (w' : World) : Prop := ∃ v, e = .returned (.tuple #[v, .int .i64 (putE l)]) ∧ OwnB w' W.heap.size v (putL l) ∧ Past W w'
theorem put_big {l : List (List Int)} (h : 4096 < l.length) : putL l = [] ∧ putE l = 3 := ⟨if_neg (fun k => by omega), if_pos h⟩
theorem put_bad {l : List (List Int)} (h : l.length ≤ 4096) {c : List Int} (hc : c ∈ l) (hm : ¬ mayD c) : putL l = [] ∧ putE l = 1 := by
  have q : ¬ ∀ c ∈ l, mayD c := fun k => hm (k c hc)
  exact ⟨if_neg (fun k => q k.2), by unfold putE; rw [if_neg (by omega), if_neg q]⟩
theorem put_ok {l : List (List Int)} (h : l.length ≤ 4096) (hm : ∀ c ∈ l, mayD c) : putL l = putB l ∧ putE l = 0 :=
  ⟨if_pos ⟨h, hm⟩, by unfold putE; rw [if_neg (by omega), if_pos hm]⟩
theorem restW_le (k : Int) : restW k ≤ 13 := by
  unfold restW fldsD
  split
  · decide
  split
  · decide
  split
  · decide
  split
  · decide
  · decide
theorem flatB_len (l : List (List Int)) : (l.flatMap cmdB).length ≤ 14 * l.length := by
  induction l with
  | nil => simp
  | cons c l ih =>
    have := restW_le (c.getD 0 0)
    simp only [List.flatMap_cons, List.length_append, List.length_cons, cmdB_len]
    omega
theorem putB_len (l : List (List Int)) : (putB l).length ≤ 2 + 14 * l.length := by
  have := flatB_len l
  unfold putB
  rw [List.length_append, numB_len]
  omega
theorem flatB_take {l : List (List Int)} {n : Nat} (h : n < l.length) : (l.take (n + 1)).flatMap cmdB = (l.take n).flatMap cmdB ++ cmdB (l.getD n []) := by
  rw [List.take_succ_eq_append_getElem h, List.flatMap_append]
  simp [List.getD, h]
set_option maxHeartbeats 400000 in
theorem put_any (lv : Value) (l : List (List Int)) (W : World) (h : IsCmds W lv l) : Calls Try.prog 57 #[lv] W (PutPost l W) := by
  have HC := Lib.hid h
  obtain ⟨A, cap, rfl, h2, h3, h4⟩ := h.form
  have hm : l.length ≤ 9223372036854775807 := by unfold maxLen at h3; omega
  clear h
  by_cases hb : 4096 < l.length
  · obtain ⟨e1, e2⟩ := put_big hb
    unfold PutPost
    rw [e1, e2]
    clear e1 e2
    go_enter Try.func57, Try.ntmps57
    go_wp2_with fail
    go_ret2
    exact ⟨_, rfl, OwnB.nil _ _, Past.refl _⟩
  · have WF := Lib.hid HC.out.wf
    have LA := Lib.hid (lay_any W.heap.size 2 (.slice none 0 0) [] l.length W (.inr (.inl rfl)) (len_wf _ (by omega)) (OwnB.nil _ _) (Nat.le_refl _) (by simp))
    have d1 : decide ((l.length : Int) > 4096) = false := by simp; omega
    go_enter Try.func57, Try.ntmps57
    go_wp2_with fail
    refine LA.out.mono ?_
    rintro e w1 ⟨v1, rfl, o1, g1⟩
    have R1 : Hid (OwnB w1 W.heap.size v1 (numB 2 l.length ++ (l.take 0).flatMap cmdB) ∧ Past W w1 ∧ ∀ c ∈ l.take 0, mayD c) := Lib.hid ⟨by simpa using o1, (Past.refl W).trans (Lays.past (Past.refl W) g1), by simp⟩
    clear LA o1 g1
    go_wp2_with fail
    go_loopw [2, 3, 4, 16] (fun s2 s3 v i wr => ∃ n : Nat, n ≤ l.length ∧ i = .int .i64 n ∧ s2 = .slice none 0 0 ∧ s3 = .int .i64 0 ∧ Hid (OwnB wr W.heap.size v (numB 2 l.length ++ (l.take n).flatMap cmdB) ∧ Past W wr ∧ ∀ c ∈ l.take n, mayD c)) (fun _ _ _ i _ => l.length - (intOf i).toNat)
    case atStart => exact ⟨0, by omega, rfl, rfl, rfl, R1⟩
    case round =>
      obtain ⟨n, hnl, rfl, rfl, rfl, R⟩ := hrel
      by_cases h : n < l.length
      · obtain ⟨b, off, rfl, hbl, hr⟩ := (HC.out.grow R.out.2.1).at n h
        have wc := wfC_at WF.out h
        have hnx := flatB_take h
        have hmem : l.getD n [] ∈ l := by
          have : l.getD n [] = l[n] := by simp [List.getD, h]
          rw [this]
          exact List.getElem_mem h
        have htk : ∀ c ∈ l.take (n + 1), c ∈ l.take n ∨ c = l.getD n [] := by
          intro c hc
          rw [List.take_succ_eq_append_getElem h] at hc
          rcases List.mem_append.1 hc with q | q
          · exact .inl q
          · right
            simp only [List.mem_singleton] at q
            rw [q]
            simp [List.getD, h]
        obtain ⟨c, ec⟩ : ∃ c, l.getD n [] = c := ⟨_, rfl⟩
        rw [ec] at hr wc hnx hmem htk
        have hlen : (numB 2 l.length ++ (l.take n).flatMap cmdB).length ≤ 1000000 := by
          have := flatB_len (l.take n)
          simp only [List.length_append, numB_len, List.length_take] at *
          omega
        have HR := Lib.hid hr
        have WC := Lib.hid wc
        have NX := Lib.hid hnx
        have HM := Lib.hid hmem
        have HT := Lib.hid htk
        have HL := Lib.hid hlen
        clear hr wc hnx hmem htk ec hlen hbl
        obtain ⟨mc, hmc⟩ : ∃ m, mayE c = m := ⟨_, rfl⟩
        have HMC := Lib.hid hmc
        have MA := Lib.hid (fun w => may_any c WC.out.1 w)
        rw [hmc] at MA
        clear hmc
        go_upto_region 6 with fail
        go_wp2_with (first | refine wpList_load_row rfl (.tmp 18) rfl b (off + n * 14) rfl c WC.out.1 HR.out ?_ | ((refine wpList_new_cmd 6 rfl rfl rfl rfl (.tmp 19) rfl rfl c WC.out.1 rfl rfl ?_); rintro w2 p2 b2 f2 z2; have B2 := Lib.hid b2; clear b2 f2) | refine wpList_load_cmd rfl (.tmp 6) rfl _ rfl c WC.out.1 B2.out ?_)
        refine (MA.out w2).mono ?_
        rintro e w3 ⟨rfl, p3⟩
        have B3 := Lib.hid (box_past p3 B2.out z2)
        have R3 : Hid (OwnB w3 W.heap.size u4 (numB 2 l.length ++ (l.take n).flatMap cmdB) ∧ Past W w3 ∧ ∀ c ∈ l.take n, mayD c) := Lib.hid ⟨(R.out.1.past p2).past p3, (R.out.2.1.trans p2).trans p3, R.out.2.2⟩
        have Z3 : wr.heap.size < w3.heap.size := Nat.lt_of_lt_of_le z2 p3.2.2.1
        obtain ⟨X, hX⟩ : ∃ X, wr.heap.size = X := ⟨_, rfl⟩
        rw [hX] at B3 Z3
        try simp only [hX]
        clear B2 R p2 z2 p3 hX
        by_cases hmd : mayD c
        · have : mc = 0 := by rw [← HMC.out]; exact mayE_ok.2 hmd
          subst this
          have LC := Lib.hid (layCmd_any W.heap.size u4 _ c w3 WC.out.1 WC.out.2 R3.out.1 R3.out.2.1.2.2.1 HL.out)
          have HD := Lib.hid hmd
          clear hmd HMC
          go_wp2_with (first | refine wpList_load_cmd rfl (.tmp 6) rfl _ rfl c WC.out.1 B3.out ?_)
          refine LC.out.mono ?_
          rintro e w4 ⟨v4, rfl, o4, g4⟩
          have R4 : Hid (OwnB w4 W.heap.size v4 (numB 2 l.length ++ (l.take (n + 1)).flatMap cmdB) ∧ Past W w4 ∧ ∀ c ∈ l.take (n + 1), mayD c) := Lib.hid ⟨by rw [NX.out, ← List.append_assoc]; exact o4, Lays.past R3.out.2.1 g4, fun d hd => by
            rcases HT.out d hd with q | q
            · exact R3.out.2.2 d q
            · rw [q]; exact HD.out⟩
          clear LC o4 g4 R3 B3
          go_wp2_with fail
          go_roundw
          case rel => exact ⟨n + 1, by omega, by go_num, rfl, rfl, R4⟩
          case measure => simp [intOf]; omega
        · have : mc = 1 := by rw [← HMC.out]; unfold mayE; rw [if_neg hmd]
          subst this
          have E := Lib.hid (put_bad (by omega) HM.out hmd)
          clear hmd HMC
          go_wp2_with fail
          go_ret2
          exact ⟨_, by rw [E.out.2]; rfl, by rw [E.out.1]; exact OwnB.nil _ _, R3.out.2.1⟩
      · have e0 : l.take n = l := List.take_of_length_le (by omega)
        rw [e0] at R
        have E := Lib.hid (put_ok (l := l) (by omega) R.out.2.2)
        go_wp2_with fail
        go_ret2
        exact ⟨_, by rw [E.out.2]; rfl, by rw [E.out.1]; exact R.out.1, R.out.2.1⟩
end Go.Proofs.Ytejllmjkeefloaa.Q8
