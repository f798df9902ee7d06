/- Memories: Read, Clone. -/
import Derived.Test.YtlpcppdpodedmaaK2
import Derived.Test.YtlpcppdpodedmaaFixE
namespace Go.Proofs.Ytlpcppdpodedmaa
open Go.ChangeShapes Go.WideShapes Go.ChangeAt Go.RowKit
set_option maxRecDepth 20000
set_option linter.unusedVariables false
theorem nums_from {w : World} {R i : Nat} {l : List Int} (hl : l.length ≤ maxLen) (hw : Wf8 l) (h : Row8 w R l) (hi : i ≤ l.length) : IsNums .i8 w (.slice (some ⟨R, i, none⟩) (l.length - i) (l.length - i)) (l.drop i) := by
  have := nums_drop (h.nums hw hl) hi
  rwa [Nat.zero_add] at this
theorem nums_if {w : World} {R i : Nat} {l : List Int} (hl : l.length ≤ maxLen) (hw : Wf8 l) (h : Row8 w R l) (hi : i ≤ l.length) : IsNums .i8 w (.slice (if l.length = i then some ⟨R, 0, none⟩ else some ⟨R, i, none⟩) (l.length - i) (l.length - i)) (l.drop i) := by
  by_cases c : l.length = i
  · have e : l.drop i = [] := List.drop_eq_nil_of_le (by omega)
    rw [if_pos c, e, c, Nat.sub_self]
    exact ⟨_, 0, rfl, Nat.le_refl _, Nat.zero_le _, (fun h => by cases h), by simp, by simp⟩
  · rw [if_neg c]
    exact nums_from hl hw h hi
theorem wf8_part {l : List Int} (h : Wf8 l) (i j : Nat) : Wf8 ((l.drop i).take j) := fun x hx => h x (List.mem_of_mem_drop (List.mem_of_mem_take hx))
set_option maxHeartbeats 2000000 in
theorem read_ok (w : World) (B R : Nat) (l : List Int) (h : MemAt w B R l) (i j : Nat) (hij : i + j ≤ l.length) :
    Calls Try.prog 15 #[.pointer (some ⟨B, 0, none⟩), .int .i64 i, .int .i64 j] w fun e w' => ∃ P : Nat, Hid (w.heap.size ≤ P) ∧ e = .returned (.tuple #[.slice (some ⟨P, 0, none⟩) j j, .int .i64 0]) ∧ Row8 w' P ((l.drop i).take j) ∧ Past w w' := by
  have hm := h.most
  have C : okM l.length i j = true := okM_iff.2 ⟨i, j, rfl, rfl, hij⟩
  have wk : (Lit.int .i64 (j : Int)).wf = true := by simp [Lit.wf, IntKind.min, IntKind.max, IntKind.bits, IntKind.signed]; omega
  obtain ⟨w2, hrun, hR, hP, hs⟩ := make8 w j (by omega)
  obtain ⟨P, hPP⟩ : ∃ P, w.heap.size = P := ⟨_, rfl⟩
  rw [hPP] at hrun hR hs ⊢
  have h2 := h.grow hP
  have x1 := h2.box
  have i1 : (0 : Int) ≤ (i : Int) := by omega
  have i2 : (i : Int) ≤ (l.length : Int) := by omega
  have HI := Lib.hid hij
  have H := Lib.hid h
  have H2 := Lib.hid h2
  have HR := Lib.hid hR
  have HPP := Lib.hid hPP
  clear h h2 hR hPP
  go_enter Try.func15, Try.ntmps15
  go_upto_region 3 with (go_at_call 18; refine (has_any _ _ _ _ H.out _ _ wk).mono ?_; rintro e w0 ⟨rfl, rfl⟩; simp only [C])
  go_wp2_with (refine wpList_copy_8 rfl (.tmp 16) (.tmp 22) rfl (some ⟨P, 0, none⟩) (if l.length = i then some ⟨R, 0, none⟩ else some ⟨R, i, none⟩) j j (l.length - i) (l.length - i) rfl rfl P 0 (List.replicate j 0) ((l.drop i).take j) (l.drop i) HR.out (fun _ => rfl) (nums_if (by unfold maxLen; omega) H2.out.wf H2.out.row (by omega)) (by have := HI.out; rw [Nat.min_eq_right (by omega)]) (by have := HI.out; simp; omega) ?_; intro w4 c4 hR4 hB4)
  all_goals
    have e4 : putM (List.replicate j 0) ((l.drop i).take j) 0 = (l.drop i).take j := putM_full (by have := HI.out; simp; omega)
    rw [e4] at hR4
    have END := Lib.hid (And.intro hR4 (hB4.past hP (Nat.le_of_eq HPP.out)))
    clear hR4 hB4 e4 hP hs HPP
    go_wp2_with fail
    go_ret2
    exact ⟨P, Lib.hid (Nat.le_refl _), rfl, END.out.1, END.out.2⟩
theorem read_no (w : World) (B R : Nat) (l : List Int) (h : MemAt w B R l) (a k : Int) (hk : (Lit.int .i64 k).wf = true) (c : okM l.length a k = false) :
    Calls Try.prog 15 #[.pointer (some ⟨B, 0, none⟩), .int .i64 a, .int .i64 k] w fun e w' => e = .returned (.tuple #[.slice none 0 0, .int .i64 23]) ∧ w = w' := by
  go_enter Try.func15, Try.ntmps15
  go_wp2_with (go_at_call 18; refine (has_any _ _ _ _ h _ _ hk).mono ?_; rintro e w0 ⟨rfl, rfl⟩; simp only [c])
  go_ret2
  exact ⟨rfl, rfl⟩

set_option maxHeartbeats 2000000 in
theorem clone_any (w : World) (B R : Nat) (l : List Int) (h : MemAt w B R l) : Calls Try.prog 12 #[.pointer (some ⟨B, 0, none⟩)] w fun e w' => ∃ B' R' : Nat, Hid (w.heap.size ≤ R' ∧ R' < B') ∧ e = .returned (.pointer (some ⟨B', 0, none⟩)) ∧ MemAt w' B' R' l ∧ Past w w' := by
  have hm := h.most
  have e0 : memN (l.length : Int) = l.length := by unfold memN; omega
  have H := Lib.hid h
  go_enter Try.func12, Try.ntmps12
  go_upto_region 2 with (first | (go_at_call 11; refine (size_any _ _ _ _ h).mono ?_; rintro e w0 ⟨rfl, rfl⟩) | (go_at_call 9; refine (new_any _ _).mono ?_; rintro e w1 ⟨B', R', q1, rfl, h1, g1⟩; rw [e0] at h1))
  have h2 := h.grow g1
  have c1 := h1.box
  rw [List.length_replicate] at c1
  have c2 := h2.box
  have hr1 := h1.row
  have hx := h2.row.nums h2.wf (by unfold maxLen; omega)
  refine wp_region_mixd [8] (fun w' => w'.cell? ⟨B', 0, none⟩ = some (.slice (some ⟨R', 0, none⟩) l.length l.length) ∧ w'.cell? ⟨B, 0, none⟩ = some (.slice (some ⟨R, 0, none⟩) l.length l.length)) [(7, ?va7), (8, ?va8), (9, ?va9), (10, ?va10), (11, ?va11), (12, ?va12), (13, ?va13), (14, ?va14)] [7, 8, 9, 10, 11, 12, 13, 14] (by kernel_rfl) (by kernel_rfl) rfl (by kernel_rfl) ⟨c1, c2⟩ (fun w h => h) ?alla ?fina
  case alla =>
    simp only [fillA, Act.put, List.setIfInBounds_toArray, List.set_cons_zero, List.set_cons_succ]
    iterate 9 (first | refine forced rfl ?_ | (refine reads (fun w hw K hK => ?_) ?_; focus ((have hS := Lib.hid hw); go_split_ands; go_simp; (try simp only [Act.put, List.setIfInBounds_toArray, List.set_cons_zero, List.set_cons_succ]); exact hK)))
    exact True.intro
  case fina =>
    simp only [fillA, Act.put, List.setIfInBounds_toArray, List.set_cons_zero, List.set_cons_succ]
    refine mix_at 15 rfl rfl (fun K hK => ?_)
    simp only [Act.put, List.setIfInBounds_toArray, List.set_cons_zero, List.set_cons_succ] at hK
    refine oper_copy_8 (.tmp 10) (.tmp 14) rfl (some ⟨R', 0, none⟩) (some ⟨R, 0, none⟩) l.length l.length l.length l.length rfl rfl R' 0 (List.replicate l.length 0) l l (hr1.past ((Past.refl w1).drew)) (fun _ => rfl) (hx.grow ((Past.refl w1).drew)) (by rw [Nat.min_self, List.take_length]) (by simp) ?_
    intro w4 c4 hR4 hB4
    rw [putM_full (by simp)] at hR4
    have q := q1.out
    have q2 := h2.lt
    have q3 := h.row.lt
    have q4 := h.ne
    have q5 := h.lt
    have hB5 : But R' (R' + 1) w1 w4 := hB4
    have M4 : MemAt w4 B' R' l := ⟨hm, h2.wf, by omega, hR4, Nat.lt_of_lt_of_le h1.lt hB5.2.2.1, (hB5.cell (p := ⟨B', 0, none⟩) h1.lt (show B' < R' ∨ R' + 1 ≤ B' by omega)).trans c1⟩
    have cB := (hB5.cell (p := ⟨B, 0, none⟩) q2 (show B < R' ∨ R' + 1 ≤ B by omega)).trans c2
    have END := Lib.hid (And.intro M4 (hB5.past g1 q.1))
    refine hK _ _ ⟨M4.box, cB⟩ ?_
    clear hR4 hB4 hB5 M4 q q2 q3 q4 q5 cB
    (try simp only [Act.put, List.setIfInBounds_toArray, List.set_cons_zero, List.set_cons_succ])
    refine mix_nil ?_
    go_wp2_with fail
    go_ret
    exact ⟨B', R', q1, rfl, END.out.1, END.out.2⟩
end Go.Proofs.Ytlpcppdpodedmaa
