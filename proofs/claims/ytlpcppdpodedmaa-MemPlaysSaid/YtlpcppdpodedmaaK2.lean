/- Memories: New, Write, Read, Clone. -/
import Derived.Test.YtlpcppdpodedmaaK1
namespace Go.Proofs.Ytlpcppdpodedmaa
open Go.ChangeShapes Go.WideShapes Go.ChangeAt Go.RowKit
set_option maxRecDepth 20000
set_option linter.unusedVariables false
/-- make of so many noughts. -/
theorem make8 (w : World) (n : Nat) (hn : n ≤ 1000000) : ∃ w2, (Instr.makeSlice 32 (.int .i64 (n : Int)) (.int .i64 (n : Int))).run Try.prog w = .ok (.slice (some ⟨w.heap.size, 0, none⟩) n n) w2 ∧ Row8 w2 w.heap.size (List.replicate n 0) ∧ Past w w2 ∧ w.heap.size < w2.heap.size := by
  obtain ⟨i0, hi0, hz0, hz1, hz2⟩ := info_parts info8
  obtain ⟨w2, hrun, own2, grow2⟩ := run_makeSlice_full (P := Try.prog) w w.heap.size 32 38 i0 (.int .i8 0) 1 Try.underlying32 hi0 hz0 hz1 .i64 .i64 n (by omega) (by rw [hz2]; omega) (by unfold maxLen; omega) (Nat.le_refl _)
  have R2 : Row8 w2 w.heap.size (List.replicate n 0) := row_of_own8 own2 (by
    show (madeCells #[.int .i8 0] (n * 1)).toList = _
    rw [toList_madeCells_one, Nat.mul_one]
    simp [cell8])
  exact ⟨w2, hrun, R2, (Past.refl w).grownBy grow2 (fun k hk => by cases hk), R2.lt⟩
/-- How many numbers New makes. -/
def memN (s : Int) : Nat := (min (max s 0) 65536).toNat
theorem memN_most (s : Int) : memN s ≤ 65536 := by unfold memN; omega
set_option maxHeartbeats 1000000 in
theorem new_n (w : World) (s : Int) (n : Nat) (u : Int) (hu : u = (n : Int)) (hn : n ≤ 65536) (hs : (s < 0 ∧ u = 0) ∨ (0 ≤ s ∧ s ≤ 65536 ∧ u = s) ∨ (65536 < s ∧ u = 65536)) : Calls Try.prog 9 #[.int .i64 s] w fun e w' => ∃ B R : Nat, Hid (w.heap.size ≤ R ∧ R < B) ∧ e = .returned (.pointer (some ⟨B, 0, none⟩)) ∧ MemAt w' B R (List.replicate n 0) ∧ Past w w' := by
  obtain ⟨w2, hrun, hR, hP, hz⟩ := make8 w n (by omega)
  rw [← hu] at hrun
  have HR := Lib.hid hR
  have END := Lib.hid (show ∃ B R : Nat, Hid (w.heap.size ≤ R ∧ R < B) ∧ Ending.returned (.pointer (some ⟨w2.heap.size, 0, none⟩)) = .returned (.pointer (some ⟨B, 0, none⟩)) ∧ MemAt (w2.alloc (.cells #[.slice (some ⟨w.heap.size, 0, none⟩) n n] 49)) B R (List.replicate n 0) ∧ Past w (w2.alloc (.cells #[.slice (some ⟨w.heap.size, 0, none⟩) n n] 49)) from
    ⟨_, _, Lib.hid ⟨Nat.le_refl _, hz⟩, rfl, ⟨by simpa using hn, wf8_rep n, by omega, (HR.out.past ((Past.refl w2).alloc _)), by simp, by rw [box_new rfl]; simp⟩, hP.alloc _⟩)
  clear hR hP hz hu hn
  rcases hs with ⟨h1, rfl⟩ | ⟨h1, h2, rfl⟩ | ⟨h1, rfl⟩
  · go_enter Try.func9, Try.ntmps9
    go_wp2_with fail
    go_ret
    exact END.out
  · go_enter Try.func9, Try.ntmps9
    go_wp2_with fail
    go_ret
    exact END.out
  · go_enter Try.func9, Try.ntmps9
    go_wp2_with fail
    go_ret
    exact END.out
theorem new_any (w : World) (s : Int) : Calls Try.prog 9 #[.int .i64 s] w fun e w' => ∃ B R : Nat, Hid (w.heap.size ≤ R ∧ R < B) ∧ e = .returned (.pointer (some ⟨B, 0, none⟩)) ∧ MemAt w' B R (List.replicate (memN s) 0) ∧ Past w w' := by
  refine new_n w s (memN s) _ rfl (memN_most s) ?_
  unfold memN
  omega
/-- What a write leaves. -/
def putM (l xs : List Int) (i : Nat) : List Int := l.take i ++ xs ++ l.drop (i + xs.length)
theorem putM_len {l xs : List Int} {i : Nat} (h : i + xs.length ≤ l.length) : (putM l xs i).length = l.length := by simp [putM]; omega
theorem putM_splice {l xs : List Int} {i : Nat} : splice (cell8 l) i (cell8 xs) = cell8 (putM l xs i) := by simp [splice, cell8, putM, List.append_assoc]
theorem putM_wf {l xs : List Int} {i : Nat} (h1 : Wf8 l) (h2 : Wf8 xs) : Wf8 (putM l xs i) := by
  intro x hx
  simp only [putM, List.mem_append] at hx
  rcases hx with (h | h) | h
  · exact h1 x (List.mem_of_mem_take h)
  · exact h2 x h
  · exact h1 x (List.mem_of_mem_drop h)
theorem but_of_below {B : Nat} {w w' : World} (hb : ∀ k, k < w.heap.size → k ≠ B → w'.heap[k]? = w.heap[k]?) (h1 : w'.os = w.os) (h2 : w'.output = w.output) (h3 : w.heap.size ≤ w'.heap.size) : But B (B + 1) w w' := ⟨h1, h2, h3, fun k hk r => hb k hk (by omega)⟩
/-- copy over a row of int8. -/
theorem oper_copy_8 {w : World} {o : Oper} {a : Act} {K : Act → World → Prop} {Q : Exit → Act → World → Prop} (d s : Operand)
    (ho : o.op = .call { callee := .builtin .copy, args := #[d, s], argTypes := #[32, 32] })
    (dp sp : Option Addr) (dLen dCap sLen sCap : Nat) (hd : a.eval d = .slice dp dLen dCap) (hs : a.eval s = .slice sp sLen sCap)
    (R i : Nat) (l xs ys : List Int) (hR : Row8 w R l) (hdp : 0 < dLen → dp = some ⟨R, i, none⟩) (hx : IsNums .i8 w (.slice sp sLen sCap) ys) (hxs : xs = ys.take (min sLen dLen)) (hfit : i + min sLen dLen ≤ l.length)
    (h : ∀ w' c, Row8 w' R (putM l xs i) → But R (R + 1) w w' → K (a.put o.dst c) w') :
    Oper.wp Try.prog o a w K Q := by
  have hys : ys.length = sLen := by
    obtain ⟨A', cap', e, h2, h3, h4, h5, h6⟩ := hx
    simp only [Value.slice.injEq] at e
    exact e.2.1.symm
  have hlen : xs.length = min sLen dLen := by rw [hxs, List.length_take]; omega
  by_cases h0 : min sLen dLen = 0
  · have e0 : xs = [] := List.eq_nil_of_length_eq_zero (by omega)
    have hrun := run_copy_none (P := Try.prog) w 32 32 o.type 38 dp sp dLen dCap sLen sCap Try.underlying32 size8 h0
    unfold Oper.wp
    simp [execOp, ho, resolve, invoke, builtin, hd, hs, hrun, Result.andThen]
    exact h w _ (by rw [e0]; simpa [putM] using hR) (But.refl _ _ _)
  · obtain rfl := hdp (by omega)
    obtain ⟨ad, rfl, hc⟩ := nums_cells8 hx (by rw [cell8_len]; omega)
    have hsrc : ∀ (j : Nat) (v : Value), (cell8 xs)[j]? = some v → w.cell? (ad.add j) = some v := by
      intro j v hv
      refine hc j v ?_
      rw [hxs] at hv
      have hj : j < (cell8 (ys.take (min sLen dLen))).length := (List.getElem?_eq_some_iff.1 hv).1
      rw [cell8_len] at hj
      rw [cell8_at _ _ hj] at hv
      rw [← hv, cell8_at _ _ (by rw [List.length_take] at hj; omega)]
      rw [List.length_take] at hj
      simp [List.getD, show j < min sLen dLen by omega]
    have hrun := run_copy_row (P := Try.prog) w 32 32 o.type 38 R i dLen dCap ad sLen sCap (cell8 l).toArray 38 (cell8 xs) Try.underlying32 size8 hR (by rw [cell8_len]; exact hlen) hsrc (by rw [cell8_len]; simp only [List.size_toArray, cell8_len]; omega) (cell8_one xs)
    have hk := fun c => h (w.setRow R ((cell8 l).toArray.toList.take i ++ cell8 xs ++ (cell8 l).toArray.toList.drop (i + (cell8 xs).length)).toArray) c (by
      unfold Row8
      rw [setRow_heap w R _ _ 38 (0, 0) hR, ← putM_splice]
      simp [splice, List.append_assoc]) ⟨rfl, rfl, by simp [World.setRow], fun k hk r => setRow_other w R k _ (by omega)⟩
    unfold Oper.wp
    simp only [execOp, ho, resolve, invoke, builtin, Sem.run_bind, Sem.run_pure, Result.andThen_ok, List.map_toArray, List.map_cons, List.map_nil, hd, hs, hrun]
    exact hk _
theorem wpList_copy_8 {w : World} {ops : Array Oper} {rest : List Oper} {o : Oper} {a : Act} {Q : Exit → Act → World → Prop} (hgd : o.guard = none) (d s : Operand)
    (ho : o.op = .call { callee := .builtin .copy, args := #[d, s], argTypes := #[32, 32] })
    (dp sp : Option Addr) (dLen dCap sLen sCap : Nat) (hd : a.eval d = .slice dp dLen dCap) (hs : a.eval s = .slice sp sLen sCap)
    (R i : Nat) (l xs ys : List Int) (hR : Row8 w R l) (hdp : 0 < dLen → dp = some ⟨R, i, none⟩) (hx : IsNums .i8 w (.slice sp sLen sCap) ys) (hxs : xs = ys.take (min sLen dLen)) (hfit : i + min sLen dLen ≤ l.length)
    (h : ∀ w' c, Row8 w' R (putM l xs i) → But R (R + 1) w w' → wpList Try.prog ops Q rest (a.put o.dst c) w') :
    wpList Try.prog ops Q (o :: rest) a w :=
  wpList_plain hgd fun K hK => oper_copy_8 d s ho dp sp dLen dCap sLen sCap hd hs R i l xs ys hR hdp hx hxs hfit (fun w' c h1 h2 => hK _ _ (h w' c h1 h2))
theorem putM_full {l xs : List Int} (h : xs.length = l.length) : putM l xs 0 = xs := by simp [putM, ← h]
set_option maxHeartbeats 2000000 in
theorem write_any (w : World) (B R : Nat) (l : List Int) (h : MemAt w B R l) (a : Int) (v : Value) (xs : List Int) (hx : IsNums .i8 w v xs) :
    Calls Try.prog 13 #[.pointer (some ⟨B, 0, none⟩), .int .i64 a, v] w fun e w' => e = .returned (.int .i64 (if okM l.length a xs.length = true then 0 else 23)) ∧ MemAt w' B R (if okM l.length a xs.length = true then putM l xs a.toNat else l) ∧ But R (R + 1) w w' := by
  have HX := Lib.hid hx
  obtain ⟨A, cap, rfl, x2, x3, x4⟩ := nums_form hx
  have wl : xs.length ≤ maxLen := by omega
  have wk : (Lit.int .i64 (xs.length : Int)).wf = true := by unfold maxLen at wl; simp [Lit.wf, IntKind.min, IntKind.max, IntKind.bits, IntKind.signed]; omega
  clear hx x2 x3 x4
  by_cases c : okM l.length a xs.length = true
  · obtain ⟨i, j, rfl, ej, hij⟩ := okM_iff.1 c
    have hj : j = xs.length := by omega
    subst hj
    have hm := h.most
    have x1 := h.box
    have i1 : (0 : Int) ≤ (i : Int) := by omega
    have i2 : (i : Int) ≤ (l.length : Int) := by omega
    have HI := Lib.hid hij
    have H := Lib.hid h
    have C := c
    rw [if_pos c, if_pos c, Int.toNat_natCast]
    clear h ej
    go_enter Try.func13, Try.ntmps13
    go_upto_region 3 with (go_at_call 18; refine (has_any _ _ _ _ H.out _ _ wk).mono ?_; rintro e w0 ⟨rfl, rfl⟩; simp only [C])
    go_wp2_with (refine wpList_copy_8 rfl (.tmp 18) (.tmp 19) rfl (if l.length = i then some ⟨R, 0, none⟩ else some ⟨R, i, none⟩) A (l.length - i) (l.length - i) xs.length cap rfl rfl R i l xs xs H.out.row (by intro hp; rw [if_neg (by omega)]) HX.out (by have := HI.out; rw [List.take_of_length_le (by omega)]) (by have := HI.out; omega) ?_; intro w4 c4 hR4 hB4)
    all_goals
      go_wp2_with fail
      go_ret
      refine ⟨rfl, ?_, hB4⟩
      have hq := H.out
      have ne := hq.ne
      have e2 := putM_len HI.out
      exact ⟨by rw [e2]; exact hq.most, putM_wf hq.wf (nums_wf HX.out), ne, hR4, Nat.lt_of_lt_of_le hq.lt hB4.2.2.1, by rw [e2]; exact (hB4.cell (p := ⟨B, 0, none⟩) hq.lt (show B < R ∨ R + 1 ≤ B by omega)).trans hq.box⟩
  · have c' : okM l.length a xs.length = false := by simpa using c
    rw [if_neg c, if_neg c]
    go_enter Try.func13, Try.ntmps13
    go_wp2_with (go_at_call 18; refine (has_any _ _ _ _ h _ _ wk).mono ?_; rintro e w0 ⟨rfl, rfl⟩; simp only [c'])
    go_ret
    exact ⟨rfl, h, But.refl _ _ _⟩
end Go.Proofs.Ytlpcppdpodedmaa
