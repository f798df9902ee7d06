/- isa: Put, Steps. Bytes as strings; Steps; the laws' head. A slice of one command; an owned row one command longer. isa: Take. Rows of bytes: appends of bytes, slices of them; wide, as a table. -/
import Derived.Test.YtejllmjkeefloaaJI9
import Derived.Laws.BytesArg
import Derived.Great.BuildSlice
import Derived.OwnWalk
import Derived.BigFrame
import Derived.Test.YtejllmjkeefloaaJV3
namespace Go.Proofs.Ytejllmjkeefloaa.Q8
open Go.ChangeShapes Go.WideShapes Go.ChangeAt Go.RowKit
set_option maxRecDepth 20000
set_option linter.unusedVariables false
set_option linter.unusedSimpArgs false

/-- What Put tells: the bytes, and the error. -/
def putL (l : List (List Int)) : List Int := if l.length ≤ 4096 ∧ ∀ c ∈ l, mayD c then putB l else []
def putE (l : List (List Int)) : Int := if 4096 < l.length then 3 else if ∀ c ∈ l, mayD c then 0 else 1
def PutPost (l : List (List Int)) (W : World) (e : Ending) (w' : World) : Prop := ∃ v, e = .returned (.tuple #[v, .int .i64 (putE l)]) ∧ OwnB w' W.heap.size v (putL l) ∧ Past W w'
theorem put_big {l : List (List Int)} (h : 4096 < l.length) : putL l = [] ∧ putE l = 3 := ⟨if_neg (fun k => by omega), if_pos h⟩
theorem put_bad {l : List (List Int)} (h : l.length ≤ 4096) {c : List Int} (hc : c ∈ l) (hm : ¬ mayD c) : putL l = [] ∧ putE l = 1 := by
  have q : ¬ ∀ c ∈ l, mayD c := fun k => hm (k c hc)
  exact ⟨if_neg (fun k => q k.2), by unfold putE; rw [if_neg (by omega), if_neg q]⟩
theorem put_ok {l : List (List Int)} (h : l.length ≤ 4096) (hm : ∀ c ∈ l, mayD c) : putL l = putB l ∧ putE l = 0 :=
  ⟨if_pos ⟨h, hm⟩, by unfold putE; rw [if_neg (by omega), if_pos hm]⟩
theorem restW_le (k : Int) : restW k ≤ 13 := by
  unfold restW fldsD
  split
  · decide
  split
  · decide
  split
  · decide
  split
  · decide
  · decide
theorem flatB_len (l : List (List Int)) : (l.flatMap cmdB).length ≤ 14 * l.length := by
  induction l with
  | nil => simp
  | cons c l ih =>
    have := restW_le (c.getD 0 0)
    simp only [List.flatMap_cons, List.length_append, List.length_cons, cmdB_len]
    omega
theorem flatB_take {l : List (List Int)} {n : Nat} (h : n < l.length) : (l.take (n + 1)).flatMap cmdB = (l.take n).flatMap cmdB ++ cmdB (l.getD n []) := by
  rw [List.take_succ_eq_append_getElem h, List.flatMap_append]
  simp [List.getD, h]
set_option maxHeartbeats 400000 in
theorem put_any (lv : Value) (l : List (List Int)) (W : World) (h : IsCmds W lv l) : Calls Try.prog 57 #[lv] W (PutPost l W) := by
  have HC := Lib.hid h
  obtain ⟨A, cap, rfl, h2, h3, h4⟩ := h.form
  have hm : l.length ≤ 9223372036854775807 := by unfold maxLen at h3; omega
  clear h
  by_cases hb : 4096 < l.length
  · obtain ⟨e1, e2⟩ := put_big hb
    unfold PutPost
    rw [e1, e2]
    clear e1 e2
    go_enter Try.func57, Try.ntmps57
    go_wp2_with fail
    go_ret2
    exact ⟨_, rfl, OwnB.nil _ _, Past.refl _⟩
  · have WF := Lib.hid HC.out.wf
    have LA := Lib.hid (lay_any W.heap.size 2 (.slice none 0 0) [] l.length W (.inr (.inl rfl)) (len_wf _ (by omega)) (OwnB.nil _ _) (Nat.le_refl _) (by simp))
    have d1 : decide ((l.length : Int) > 4096) = false := by simp; omega
    go_enter Try.func57, Try.ntmps57
    go_wp2_with fail
    refine LA.out.mono ?_
    rintro e w1 ⟨v1, rfl, o1, g1⟩
    have R1 : Hid (OwnB w1 W.heap.size v1 (numB 2 l.length ++ (l.take 0).flatMap cmdB) ∧ Past W w1 ∧ ∀ c ∈ l.take 0, mayD c) := Lib.hid ⟨by simpa using o1, (Past.refl W).trans (Lays.past (Past.refl W) g1), by simp⟩
    clear LA o1 g1
    go_wp2_with fail
    go_loopw [2, 3, 4, 16] (fun s2 s3 v i wr => ∃ n : Nat, n ≤ l.length ∧ i = .int .i64 n ∧ s2 = .slice none 0 0 ∧ s3 = .int .i64 0 ∧ Hid (OwnB wr W.heap.size v (numB 2 l.length ++ (l.take n).flatMap cmdB) ∧ Past W wr ∧ ∀ c ∈ l.take n, mayD c)) (fun _ _ _ i _ => l.length - (intOf i).toNat)
    case atStart => exact ⟨0, by omega, rfl, rfl, rfl, R1⟩
    case round =>
      obtain ⟨n, hnl, rfl, rfl, rfl, R⟩ := hrel
      by_cases h : n < l.length
      · obtain ⟨b, off, rfl, hbl, hr⟩ := (HC.out.grow R.out.2.1).at n h
        have wc := wfC_at WF.out h
        have hnx := flatB_take h
        have hmem : l.getD n [] ∈ l := by
          have : l.getD n [] = l[n] := by simp [List.getD, h]
          rw [this]
          exact List.getElem_mem h
        have htk : ∀ c ∈ l.take (n + 1), c ∈ l.take n ∨ c = l.getD n [] := by
          intro c hc
          rw [List.take_succ_eq_append_getElem h] at hc
          rcases List.mem_append.1 hc with q | q
          · exact .inl q
          · right
            simp only [List.mem_singleton] at q
            rw [q]
            simp [List.getD, h]
        obtain ⟨c, ec⟩ : ∃ c, l.getD n [] = c := ⟨_, rfl⟩
        rw [ec] at hr wc hnx hmem htk
        have hlen : (numB 2 l.length ++ (l.take n).flatMap cmdB).length ≤ 1000000 := by
          have := flatB_len (l.take n)
          simp only [List.length_append, numB_len, List.length_take] at *
          omega
        have HR := Lib.hid hr
        have WC := Lib.hid wc
        have NX := Lib.hid hnx
        have HM := Lib.hid hmem
        have HT := Lib.hid htk
        have HL := Lib.hid hlen
        clear hr wc hnx hmem htk ec hlen hbl
        obtain ⟨mc, hmc⟩ : ∃ m, mayE c = m := ⟨_, rfl⟩
        have HMC := Lib.hid hmc
        have MA := Lib.hid (fun w => may_any c WC.out.1 w)
        rw [hmc] at MA
        clear hmc
        go_upto_region 6 with fail
        go_wp2_with (first | refine wpList_load_row rfl (.tmp 18) rfl b (off + n * 14) rfl c WC.out.1 HR.out ?_ | ((refine wpList_new_cmd 6 rfl rfl rfl rfl (.tmp 19) rfl rfl c WC.out.1 rfl rfl ?_); rintro w2 p2 b2 f2 z2; have B2 := Lib.hid b2; clear b2 f2) | refine wpList_load_cmd rfl (.tmp 6) rfl _ rfl c WC.out.1 B2.out ?_)
        refine (MA.out w2).mono ?_
        rintro e w3 ⟨rfl, p3⟩
        have B3 := Lib.hid (box_past p3 B2.out z2)
        have R3 : Hid (OwnB w3 W.heap.size u4 (numB 2 l.length ++ (l.take n).flatMap cmdB) ∧ Past W w3 ∧ ∀ c ∈ l.take n, mayD c) := Lib.hid ⟨(R.out.1.past p2).past p3, (R.out.2.1.trans p2).trans p3, R.out.2.2⟩
        have Z3 : wr.heap.size < w3.heap.size := Nat.lt_of_lt_of_le z2 p3.2.2.1
        obtain ⟨X, hX⟩ : ∃ X, wr.heap.size = X := ⟨_, rfl⟩
        rw [hX] at B3 Z3
        try simp only [hX]
        clear B2 R p2 z2 p3 hX
        by_cases hmd : mayD c
        · have : mc = 0 := by rw [← HMC.out]; exact mayE_ok.2 hmd
          subst this
          have LC := Lib.hid (layCmd_any W.heap.size u4 _ c w3 WC.out.1 WC.out.2 R3.out.1 R3.out.2.1.2.2.1 HL.out)
          have HD := Lib.hid hmd
          clear hmd HMC
          go_wp2_with (first | refine wpList_load_cmd rfl (.tmp 6) rfl _ rfl c WC.out.1 B3.out ?_)
          refine LC.out.mono ?_
          rintro e w4 ⟨v4, rfl, o4, g4⟩
          have R4 : Hid (OwnB w4 W.heap.size v4 (numB 2 l.length ++ (l.take (n + 1)).flatMap cmdB) ∧ Past W w4 ∧ ∀ c ∈ l.take (n + 1), mayD c) := Lib.hid ⟨by rw [NX.out, ← List.append_assoc]; exact o4, Lays.past R3.out.2.1 g4, fun d hd => by
            rcases HT.out d hd with q | q
            · exact R3.out.2.2 d q
            · rw [q]; exact HD.out⟩
          clear LC o4 g4 R3 B3
          go_wp2_with fail
          go_roundw
          case rel => exact ⟨n + 1, by omega, by go_num, rfl, rfl, R4⟩
          case measure => simp [intOf]; omega
        · have : mc = 1 := by rw [← HMC.out]; unfold mayE; rw [if_neg hmd]
          subst this
          have E := Lib.hid (put_bad (by omega) HM.out hmd)
          clear hmd HMC
          go_wp2_with fail
          go_ret2
          exact ⟨_, by rw [E.out.2]; rfl, by rw [E.out.1]; exact OwnB.nil _ _, R3.out.2.1⟩
      · have e0 : l.take n = l := List.take_of_length_le (by omega)
        rw [e0] at R
        have E := Lib.hid (put_ok (l := l) (by omega) R.out.2.2)
        go_wp2_with fail
        go_ret2
        exact ⟨_, by rw [E.out.2]; rfl, by rw [E.out.1]; exact R.out.1, R.out.2.1⟩
end Go.Proofs.Ytejllmjkeefloaa.Q8
namespace Go.Proofs.Ytejllmjkeefloaa.Q8
open Go.ChangeShapes Go.WideShapes Go.ChangeAt Go.RowKit
set_option maxRecDepth 20000
set_option linter.unusedVariables false
set_option linter.unusedSimpArgs false

theorem nums_of_ownI {k : IntKind} {t : TypeId} {w : World} {base : Nat} {v : Value} {xs : List Int} (ho : w.ownsRow base t 1 v xs.length (xs.map (Value.int k))) (wf : ∀ x ∈ xs, (Lit.int k x).wf = true) : IsNums k w v xs := by
  obtain ⟨hl, h⟩ := ho
  rcases h with ⟨rfl, h0⟩ | ⟨b, cap, cur, rfl, hb, hg, hn, hm, hs, ht⟩
  · have : xs = [] := List.eq_nil_of_length_eq_zero h0
    subst this
    exact ⟨none, 0, rfl, Nat.le_refl _, Nat.zero_le _, fun _ => rfl, by simp, by simp⟩
  · refine ⟨some ⟨b, 0, none⟩, cap, rfl, hn, hm, (fun h => by cases h), wf, fun hp => ⟨b, 0, rfl, (Array.getElem?_eq_some_iff.1 hg).1, fun i hi => ?_⟩⟩
    have key : w.cell? ⟨b, 0 + i, none⟩ = (xs.map (Value.int k))[i]? := by
      rw [← ht, List.getElem?_take_of_lt (by omega)]
      simp [World.cell?, hg]
    rw [key]
    simp [List.getD, hi]
theorem nums_new (k : IntKind) (w : World) (t : TypeId) (xs : List Int) (h0 : 0 < xs.length) (hm : xs.length ≤ maxLen) (wf : ∀ x ∈ xs, (Lit.int k x).wf = true) : IsNums k (w.alloc (.cells ⟨xs.map (Value.int k)⟩ t)) (.slice (some ⟨w.heap.size, 0, none⟩) xs.length xs.length) xs :=
  ⟨some ⟨w.heap.size, 0, none⟩, xs.length, rfl, Nat.le_refl _, hm, (fun h => by cases h), wf, fun _ => ⟨w.heap.size, 0, rfl, by simp, fun i hi => by
    have := cells_new' w (xs.map (Value.int k)) t i (.int k (xs.getD i 0)) (by simp [List.getD, hi])
    rw [add_plain] at this
    exact this⟩⟩
theorem str_of_nums {w : World} {v : Value} {xs : List Int} (h : IsNums .u8 w v xs) : (convert 22 9 v).run Try.prog w = .ok (.string (strOfNums xs)) w := by
  obtain ⟨A, cap, rfl, h2, h3, h4, h5, h6⟩ := h
  by_cases hp : 0 < xs.length
  · obtain ⟨b, off, rfl, hb, hc⟩ := h6 hp
    exact run_convert_bytes_arg w 22 5 Try.underlying22 Try.underlying5 b off xs.length cap xs rfl hc 9 Try.underlying9
  · obtain rfl : xs = [] := List.eq_nil_of_length_eq_zero (by omega)
    cases A with
    | none => exact run_convert_bytes_nil w 22 5 Try.underlying22 Try.underlying5 _ _ 9 Try.underlying9
    | some a =>
      rw [run_convert_bytes_string w 22 9 5 _ _ _ Try.underlying22 Try.underlying5 Try.underlying9]
      simp [Conv.bytesToString, loadCells]
      rfl
theorem ownB_nums {w : World} {base : Nat} {v : Value} {xs : List Int} (h : OwnB w base v xs) (hb : bytesP xs) : IsNums .u8 w v xs := nums_of_ownI (t := 5) h.1 (fun x hx => by
  have := hb x hx
  simp [Lit.wf, IntKind.min, IntKind.max, IntKind.bits, IntKind.signed]
  omega)
end Go.Proofs.Ytejllmjkeefloaa.Q8
namespace Go.Proofs.Ytejllmjkeefloaa.Q8
open Go.ChangeShapes Go.WideShapes Go.ChangeAt Go.RowKit
set_option maxRecDepth 20000
set_option linter.unusedVariables false
set_option linter.unusedSimpArgs false

theorem OwnC.low {w : World} {base base' : Nat} {v : Value} {l : List (List Int)} (h : OwnC w base v l) (hb : base' ≤ base) : OwnC w base' v l := by
  obtain ⟨⟨hl, h⟩, hw⟩ := h
  refine ⟨⟨hl, ?_⟩, hw⟩
  rcases h with h | ⟨b, cap, cur, e, hbb, h⟩
  · exact .inl h
  · exact .inr ⟨b, cap, cur, e, Nat.le_trans hb hbb, h⟩
theorem OwnC.keep {w w' : World} {base P : Nat} {v : Value} {l : List (List Int)} (h : OwnC w base v l) (g : Keep P w w') (hP : P < base) : OwnC w' base v l := ⟨own_keep h.1 g hP, h.2⟩
theorem OwnC.alloc {w : World} {base : Nat} {v : Value} {l : List (List Int)} (h : OwnC w base v l) (x : Obj) : OwnC (w.alloc x) base v l := ⟨World.ownsRow.alloc h.1 x, h.2⟩
theorem OwnC.lt {w : World} {base : Nat} {v : Value} {l : List (List Int)} (h : OwnC w base v l) {k : Nat} (hk : v.ownBlock = some k) : base ≤ k := (World.ownsRow.lt h.1 k hk).1
end Go.Proofs.Ytejllmjkeefloaa.Q8
namespace Go.Proofs.Ytejllmjkeefloaa.Q8
open Go.ChangeShapes Go.WideShapes Go.ChangeAt Go.RowKit
set_option maxRecDepth 20000
set_option linter.unusedVariables false
set_option linter.unusedSimpArgs false

/-- What Take tells: the commands, how many bytes, the error. -/
def takeL (b : List Int) : List (List Int) := match takeD b with | none => [] | some (l, _) => l
def takeN (b : List Int) : Nat := match takeD b with | none => 0 | some (_, r) => b.length - r.length
def takeE (b : List Int) : Int := match takeD b with | none => 2 | some _ => 0
def TakePost (b : List Int) (W : World) (e : Ending) (w' : World) : Prop := ∃ v, e = .returned (.tuple #[v, .int .i64 (takeN b : Int), .int .i64 (takeE b)]) ∧ OwnC w' W.heap.size v (takeL b) ∧ Past W w'
theorem RdAt.bytes {w : World} {B P : Nat} {s : Rd} (h : RdAt w B P s) : bytesP s.rest := by
  obtain ⟨A, cap, _, _, by', _⟩ := h
  exact by'.bytesP
theorem RdAt.grownBy {w w' : World} {B P : Nat} {s : Rd} {row : Option Nat} (h : RdAt w B P s) (g : w.grownBy w' row) (hr : ∀ k, row = some k → P < k) : RdAt w' B P s := by
  obtain ⟨A, cap, bx, fr, by', hB, hP⟩ := h
  have key : ∀ k, k ≤ P → w'.heap[k]? = w.heap[k]? := fun k hk => g.block k (by omega) (fun e => by have := hr k e.symm; omega)
  have cell : ∀ k o, k ≤ P → w'.cell? ⟨k, o, none⟩ = w.cell? ⟨k, o, none⟩ := fun k o hk => World.cell?_of_block (a := ⟨k, o, none⟩) (key k hk)
  refine ⟨A, cap, fun o => (cell P o (Nat.le_refl _)).trans (bx o), fun o => (World.frozen?_of_block (a := ⟨P, o, none⟩) (key P (Nat.le_refl _))).trans (fr o), ?_, hB, Nat.lt_of_lt_of_le hP g.size⟩
  obtain ⟨h1, h2, h3, h4⟩ := by'
  refine ⟨h1, h2, h3, fun hp => ?_⟩
  obtain ⟨b, off, e, hb, hc⟩ := h4 hp
  exact ⟨b, off, e, hb, fun i hi => (cell b (off + i) (by omega)).trans (hc i hi)⟩
end Go.Proofs.Ytejllmjkeefloaa.Q8
namespace Go.Proofs.Ytejllmjkeefloaa.Q8
open Go.ChangeShapes Go.WideShapes Go.ChangeAt Go.RowKit
set_option maxRecDepth 20000
set_option linter.unusedVariables false
set_option linter.unusedSimpArgs false

/-- A row of bytes that a call owns. -/
def OwnR (w : World) (base : Nat) (v : Value) (xs : List Int) : Prop := w.ownsRow base 5 1 v xs.length (xs.map (Value.int .u8))
theorem OwnR.past {w w' : World} {base : Nat} {v : Value} {l : List Int} (h : OwnR w base v l) (g : Past w w') : OwnR w' base v l := by
  obtain ⟨hl, h⟩ := h
  refine ⟨hl, ?_⟩
  rcases h with ⟨rfl, h0⟩ | ⟨b, cap, cur, rfl, hb, hg, hn, hm, hs, ht⟩
  · exact .inl ⟨rfl, h0⟩
  · exact .inr ⟨b, cap, cur, rfl, hb, (g.2.2.2 b (Array.getElem?_eq_some_iff.1 hg).1).trans hg, hn, hm, hs, ht⟩
theorem wf_u8_of {l : List Int} (h : bytesP l) : ∀ x ∈ l, (Lit.int .u8 x).wf = true := fun x hx => by
  have := h x hx
  simp [Lit.wf, IntKind.min, IntKind.max, IntKind.bits, IntKind.signed]
  omega
theorem OwnR.nums {w : World} {base : Nat} {v : Value} {l : List Int} (h : OwnR w base v l) (hb : bytesP l) : IsNums .u8 w v l := nums_of_ownI (t := 5) h (wf_u8_of hb)
theorem OwnR.lt {w : World} {base : Nat} {v : Value} {l : List Int} (h : OwnR w base v l) {k : Nat} (hk : v.ownBlock = some k) : base ≤ k := (World.ownsRow.lt h k hk).1
theorem ownR_lit (w : World) : OwnR (w.alloc (.cells #[] 5)) w.heap.size (.slice (some ⟨w.heap.size, 0, none⟩) 0 0) [] := World.ownsRow_lit w #[] 0 (Nat.le_refl _) (by decide) rfl
theorem OwnR.alloc {w : World} {base : Nat} {v : Value} {l : List Int} (h : OwnR w base v l) (x : Obj) : OwnR (w.alloc x) base v l := World.ownsRow.alloc h x
theorem nums_cut {w : World} {A : Option Addr} {len cap : Nat} {l : List Int} (m : Nat) (hm : m ≤ l.length) (h : IsNums .u8 w (.slice A len cap) l) : IsNums .u8 w (.slice A m cap) (l.take m) := by
  obtain ⟨A', cap', e, h2, h3, h4, h5, h6⟩ := h
  simp only [Value.slice.injEq] at e
  obtain ⟨rfl, rfl, rfl⟩ := e
  have e1 : (l.take m).length = m := by simp; omega
  refine ⟨A, cap, by rw [e1], by omega, h3, h4, fun x hx => h5 x (List.mem_of_mem_take hx), fun hp => ?_⟩
  rw [e1] at hp
  obtain ⟨b, off, rfl, hb, hc⟩ := h6 (by omega)
  refine ⟨b, off, rfl, hb, fun i hi => ?_⟩
  rw [e1] at hi
  rw [hc i (by omega)]
  simp [List.getD, hi]
/-- append of a row of bytes to one that the call owns. -/
theorem wpList_append_b {ops : Array Oper} {Q : Exit → Act → World → Prop} {rest : List Oper} {o : Oper} {a : Act} {w : World} (hgd : o.guard = none) (s x : Operand) (ho : o.op = .call { callee := .builtin .append, args := #[s, x], argTypes := #[22, 22] })
    (base : Nat) (v : Value) (xs : List Int) (hs : a.eval s = v) (hown : OwnR w base v xs) (ys : List Int) (A : Option Addr) (n cap : Nat) (hx : a.eval x = .slice A n cap) (hy : IsNums .u8 w (.slice A n cap) ys) (hm : xs.length + ys.length ≤ 1000000) (hbase : base ≤ w.heap.size)
    (h : ∀ v' w', OwnR w' base v' (xs ++ ys) → w.grownBy w' v.ownBlock → wpList Try.prog ops Q rest (a.put o.dst v') w') : wpList Try.prog ops Q (o :: rest) a w := by
  obtain ⟨i, hi, hz, hsz, hb⟩ := info_parts info8
  obtain ⟨A', cap', e, h2, h3, h4, h5, h6⟩ := hy
  simp only [Value.slice.injEq] at e
  obtain ⟨rfl, rfl, rfl⟩ := e
  by_cases hp : 0 < ys.length
  · obtain ⟨b, off, rfl, hbl, hc⟩ := h6 hp
    refine wpList_append_own _ hgd s x 22 ho base 5 i _ 1 1 Try.underlying22 hi hz hsz hb rfl (by decide) v xs.length (xs.map (Value.int .u8)) hs hown ⟨b, off, none⟩ ys.length cap (ys.map (Value.int .u8)) hx (by simp) (fun j u hu => ?_) (by intro u hu; simp only [List.mem_map] at hu; obtain ⟨z, _, rfl⟩ := hu; rfl) (by unfold maxLen; omega) (by omega) hbase ?_
    · rw [add_plain]
      have hj : j < ys.length := by
        by_cases q : j < ys.length
        · exact q
        · rw [List.getElem?_eq_none (by simpa using q)] at hu; cases hu
      rw [hc j hj]
      rw [← hu]
      simp [List.getD, hj]
    · intro v' w' ow g _
      exact h v' w' (by unfold OwnR; simpa using ow) g
  · have e0 : ys = [] := List.eq_nil_of_length_eq_zero (by omega)
    subst e0
    simp only [List.length_nil] at hx h4
    cases A with
    | none =>
      obtain rfl := h4 rfl
      have hr := run_append_owned_none (P := Try.prog) w base 22 o.type 5 i 1 Try.underlying22 hi v xs.length (xs.map (Value.int .u8)) hown
      refine wpList_plain hgd fun K hK => ?_
      unfold Oper.wp execOp
      simp only [ho, resolve, invoke, builtin, Sem.run_bind, Sem.run_pure, Result.andThen_ok, List.map_toArray, List.map_cons, List.map_nil, hs, hx, hr]
      exact hK _ _ (h v w (by simpa using hown) (World.grownBy.refl _ _))
    | some ad =>
      refine wpList_append_own _ hgd s x 22 ho base 5 i _ 1 1 Try.underlying22 hi hz hsz hb rfl (by decide) v xs.length (xs.map (Value.int .u8)) hs hown ad 0 cap [] hx rfl (fun j u hu => by simp at hu) (by simp) (by unfold maxLen; omega) (by omega) hbase ?_
      intro v' w' ow g _
      exact h v' w' (by unfold OwnR; simpa using ow) g
end Go.Proofs.Ytejllmjkeefloaa.Q8
