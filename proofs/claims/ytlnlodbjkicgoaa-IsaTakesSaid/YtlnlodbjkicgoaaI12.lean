/- Bytes as strings; Steps; the laws' head. -/
import Derived.Test.YtlnlodbjkicgoaaI11
import Derived.Laws.BytesArg
namespace Go.Proofs.Ytlnlodbjkicgoaa
open Go.ChangeShapes Go.WideShapes Go.ChangeAt Go.RowKit
set_option maxRecDepth 20000
set_option linter.unusedVariables false
set_option linter.unusedSimpArgs false

theorem nums_of_ownI {k : IntKind} {t : TypeId} {w : World} {base : Nat} {v : Value} {xs : List Int} (ho : w.ownsRow base t 1 v xs.length (xs.map (Value.int k))) (wf : ∀ x ∈ xs, (Lit.int k x).wf = true) : IsNums k w v xs := by
  obtain ⟨hl, h⟩ := ho
  rcases h with ⟨rfl, h0⟩ | ⟨b, cap, cur, rfl, hb, hg, hn, hm, hs, ht⟩
  · have : xs = [] := List.eq_nil_of_length_eq_zero h0
    subst this
    exact ⟨none, 0, rfl, Nat.le_refl _, Nat.zero_le _, fun _ => rfl, by simp, by simp⟩
  · refine ⟨some ⟨b, 0, none⟩, cap, rfl, hn, hm, (fun h => by cases h), wf, fun hp => ⟨b, 0, rfl, (Array.getElem?_eq_some_iff.1 hg).1, fun i hi => ?_⟩⟩
    have key : w.cell? ⟨b, 0 + i, none⟩ = (xs.map (Value.int k))[i]? := by
      rw [← ht, List.getElem?_take_of_lt (by omega)]
      simp [World.cell?, hg]
    rw [key]
    simp [List.getD, hi]
theorem nums_new (k : IntKind) (w : World) (t : TypeId) (xs : List Int) (h0 : 0 < xs.length) (hm : xs.length ≤ maxLen) (wf : ∀ x ∈ xs, (Lit.int k x).wf = true) : IsNums k (w.alloc (.cells ⟨xs.map (Value.int k)⟩ t)) (.slice (some ⟨w.heap.size, 0, none⟩) xs.length xs.length) xs :=
  ⟨some ⟨w.heap.size, 0, none⟩, xs.length, rfl, Nat.le_refl _, hm, (fun h => by cases h), wf, fun _ => ⟨w.heap.size, 0, rfl, by simp, fun i hi => by
    have := cells_new' w (xs.map (Value.int k)) t i (.int k (xs.getD i 0)) (by simp [List.getD, hi])
    rw [add_plain] at this
    exact this⟩⟩

theorem str_of_nums {w : World} {v : Value} {xs : List Int} (h : IsNums .u8 w v xs) : (convert 25 9 v).run Try.prog w = .ok (.string (strOfNums xs)) w := by
  obtain ⟨A, cap, rfl, h2, h3, h4, h5, h6⟩ := h
  by_cases hp : 0 < xs.length
  · obtain ⟨b, off, rfl, hb, hc⟩ := h6 hp
    exact run_convert_bytes_arg w 25 5 Try.underlying25 Try.underlying5 b off xs.length cap xs rfl hc 9 Try.underlying9
  · obtain rfl : xs = [] := List.eq_nil_of_length_eq_zero (by omega)
    cases A with
    | none => exact run_convert_bytes_nil w 25 5 Try.underlying25 Try.underlying5 _ _ 9 Try.underlying9
    | some a =>
      rw [run_convert_bytes_string w 25 9 5 _ _ _ Try.underlying25 Try.underlying5 Try.underlying9]
      simp [Conv.bytesToString, loadCells]
      rfl

theorem str_inj {xs ys : List Int} (hx : bytesP xs) (hy : bytesP ys) (h : strOfNums xs = strOfNums ys) : xs = ys := by
  have e := congrArg (fun s : ByteArray => s.data.toList) h
  simp only [strOfNums_data] at e
  clear h
  induction xs generalizing ys with
  | nil => cases ys with
    | nil => rfl
    | cons y ys => simp at e
  | cons x xs ih => cases ys with
    | nil => simp at e
    | cons y ys =>
      simp only [List.map_cons, List.cons.injEq] at e
      obtain ⟨x0, x1⟩ := hx x (List.mem_cons_self ..)
      obtain ⟨y0, y1⟩ := hy y (List.mem_cons_self ..)
      have e1 := congrArg UInt8.toNat e.1
      simp only [UInt8.toNat_ofNat'] at e1
      have : x = y := by omega
      rw [this, ih (fun c hc => hx c (List.mem_cons_of_mem _ hc)) (fun c hc => hy c (List.mem_cons_of_mem _ hc)) e.2]

theorem ownB_nums {w : World} {base : Nat} {v : Value} {xs : List Int} (h : OwnB w base v xs) (hb : bytesP xs) : IsNums .u8 w v xs := nums_of_ownI (t := 5) h.1 (fun x hx => by
  have := hb x hx
  simp [Lit.wf, IntKind.min, IntKind.max, IntKind.bits, IntKind.signed]
  omega)


def ex1 : List Int := [5, 3, 0, 0, 0, 0, 0, 0, 0, 0, 0, 0, 0, 0]
def ex2 : List Int := [7, 0, 0, 0, 0, 0, 0, 0, 0, 0, 0, 0, 0, 0]
theorem ex_may : ∀ c ∈ [ex1, ex2], mayD c := by decide
theorem ex_bytes : putB [ex1, ex2] = [0, 2, 5, 3, 7] := by decide
theorem wfC_of {c : List Int} (hl : c.length = 14) (h : ∀ x ∈ c, 0 ≤ x ∧ x < 1000000) : wfC c := ⟨hl, fun x hx => by have := h x hx; simp [Lit.wf, IntKind.min, IntKind.max, IntKind.bits, IntKind.signed]; omega⟩
theorem ex_cmds (w : World) : IsCmds (w.alloc (.cells ⟨cellC ex1 ++ cellC ex2⟩ 32)) (.slice (some ⟨w.heap.size, 0, none⟩) 2 2) [ex1, ex2] := by
  refine ⟨some ⟨w.heap.size, 0, none⟩, 2, rfl, Nat.le_refl _, by simp [maxLen], (fun h => by cases h), ?_, fun _ => ⟨_, 0, rfl, by simp, ?_⟩⟩
  · intro c hc
    simp only [List.mem_cons, List.not_mem_nil, or_false] at hc
    rcases hc with rfl | rfl
    · exact wfC_of rfl (by decide)
    · exact wfC_of rfl (by decide)
  · intro i hi j v hv
    rw [box_new rfl]
    have := flatC_at (l := [ex1, ex2]) (i := i) (by
      intro c hc
      simp only [List.mem_cons, List.not_mem_nil, or_false] at hc
      rcases hc with rfl | rfl
      · exact wfC_of rfl (by decide)
      · exact wfC_of rfl (by decide)) hi j v hv
    rw [Nat.zero_add]
    simpa using this

set_option maxHeartbeats 400000 in
theorem shown_any (W : World) : Calls Try.prog 9 #[] W fun e w' => e = .returned (.bool true) ∧ Past W w' := by
  have PU := Lib.hid (put_any _ _ _ (ex_cmds W))
  unfold PutPost at PU
  have E := put_ok (l := [ex1, ex2]) (by simp) ex_may
  rw [E.1, E.2, ex_bytes] at PU
  clear E
  go_enter Try.func9, Try.ntmps9
  go_wp2_with fail
  refine PU.out.mono ?_
  rintro e w1 ⟨v, rfl, ho, p1⟩
  have p2 : Past W w1 := ((Past.refl W).alloc _).trans p1
  have s1 := str_of_nums (ownB_nums ho (by intro c hc; simp only [List.mem_cons, List.not_mem_nil, or_false] at hc; omega))
  have s2 := str_of_nums (nums_new .u8 w1 5 [0, 2, 5, 3, 7] (by simp) (by simp [maxLen]) (by simp only [List.mem_cons, List.not_mem_nil, or_false]; rintro x (rfl | rfl | rfl | rfl | rfl) <;> decide))
  simp only [List.map_cons, List.map_nil, List.length_cons, List.length_nil] at s2
  go_wp2_with fail
  go_ret
  exact ⟨rfl, p2.alloc _⟩

set_option maxHeartbeats 1000000 in
theorem steps_any (c : List Int) (hl : c.length = 14) (W : World) : Calls Try.prog 15 #[.agg ⟨cellC c⟩] W fun e w' => e = .returned (.int .i64 (stepsD c)) ∧ Past W w' := by
  obtain ⟨k, hk⟩ : ∃ k, c.getD 0 0 = k := ⟨_, rfl⟩
  obtain ⟨r, hr⟩ : ∃ r, c.getD 4 0 = r := ⟨_, rfl⟩
  have HL := Lib.hid hl
  have HK := Lib.hid hk
  have HR := Lib.hid hr
  have e : stepsD c = if 1 ≤ k ∧ k ≤ 4 then r else 1 := by unfold stepsD; rw [hk, hr]
  rw [e]
  clear hl hk hr e
  have d1 : (k = 1 ∨ k = 2 ∨ k = 3 ∨ k = 4) ∨ ¬ (1 ≤ k ∧ k ≤ 4) := by omega
  rcases d1 with (rfl | rfl | rfl | rfl) | d
  · rw [if_pos (by omega)]
    go_enter Try.func15, Try.ntmps15
    go_upto_region 1 with fail
    refine opq (fun w' => w'.cell? ⟨W.heap.size, 0, none⟩ = some (.int .i64 1) ∧ w'.cell? ⟨W.heap.size, 4, none⟩ = some (.int .i64 r) ∧ Past W w') (by
      have b := box_new (w := W) (cs := ⟨cellC c⟩) (t := 32) rfl
      exact ⟨by rw [boxC_cell b (by rw [HL.out]; omega), HK.out], by rw [boxC_cell b (by rw [HL.out]; omega), HR.out], (Past.refl W).alloc _⟩) ?_
    rintro w1 ⟨c0, c4, p1⟩
    go_wp2_with fail
    go_ret
    exact ⟨rfl, p1⟩
  · rw [if_pos (by omega)]
    go_enter Try.func15, Try.ntmps15
    go_upto_region 1 with fail
    refine opq (fun w' => w'.cell? ⟨W.heap.size, 0, none⟩ = some (.int .i64 2) ∧ w'.cell? ⟨W.heap.size, 4, none⟩ = some (.int .i64 r) ∧ Past W w') (by
      have b := box_new (w := W) (cs := ⟨cellC c⟩) (t := 32) rfl
      exact ⟨by rw [boxC_cell b (by rw [HL.out]; omega), HK.out], by rw [boxC_cell b (by rw [HL.out]; omega), HR.out], (Past.refl W).alloc _⟩) ?_
    rintro w1 ⟨c0, c4, p1⟩
    go_wp2_with fail
    go_ret
    exact ⟨rfl, p1⟩
  · rw [if_pos (by omega)]
    go_enter Try.func15, Try.ntmps15
    go_upto_region 1 with fail
    refine opq (fun w' => w'.cell? ⟨W.heap.size, 0, none⟩ = some (.int .i64 3) ∧ w'.cell? ⟨W.heap.size, 4, none⟩ = some (.int .i64 r) ∧ Past W w') (by
      have b := box_new (w := W) (cs := ⟨cellC c⟩) (t := 32) rfl
      exact ⟨by rw [boxC_cell b (by rw [HL.out]; omega), HK.out], by rw [boxC_cell b (by rw [HL.out]; omega), HR.out], (Past.refl W).alloc _⟩) ?_
    rintro w1 ⟨c0, c4, p1⟩
    go_wp2_with fail
    go_ret
    exact ⟨rfl, p1⟩
  · rw [if_pos (by omega)]
    go_enter Try.func15, Try.ntmps15
    go_upto_region 1 with fail
    refine opq (fun w' => w'.cell? ⟨W.heap.size, 0, none⟩ = some (.int .i64 4) ∧ w'.cell? ⟨W.heap.size, 4, none⟩ = some (.int .i64 r) ∧ Past W w') (by
      have b := box_new (w := W) (cs := ⟨cellC c⟩) (t := 32) rfl
      exact ⟨by rw [boxC_cell b (by rw [HL.out]; omega), HK.out], by rw [boxC_cell b (by rw [HL.out]; omega), HR.out], (Past.refl W).alloc _⟩) ?_
    rintro w1 ⟨c0, c4, p1⟩
    go_wp2_with fail
    go_ret
    exact ⟨rfl, p1⟩
  · rw [if_neg d]
    have n1 : (k == 1) = false := by simp; omega
    have n2 : (k == 2) = false := by simp; omega
    have n3 : (k == 3) = false := by simp; omega
    have n4 : (k == 4) = false := by simp; omega
    clear d
    go_enter Try.func15, Try.ntmps15
    go_upto_region 1 with fail
    refine opq (fun w' => w'.cell? ⟨W.heap.size, 0, none⟩ = some (.int .i64 k) ∧ Past W w') (by
      have b := box_new (w := W) (cs := ⟨cellC c⟩) (t := 32) rfl
      exact ⟨by rw [boxC_cell b (by rw [HL.out]; omega), HK.out], (Past.refl W).alloc _⟩) ?_
    rintro w1 ⟨c0, p1⟩
    go_wp2_with fail
    go_ret
    exact ⟨rfl, p1⟩
end Go.Proofs.Ytlnlodbjkicgoaa
