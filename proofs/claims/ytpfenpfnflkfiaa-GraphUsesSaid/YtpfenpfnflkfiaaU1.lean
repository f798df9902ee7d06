/- math/bits.Mul at 1. -/
import Derived.Test.YtpfenpfnflkfiaaV1
import Derived.Deep.DeepCutAuto
import Derived.Laws.CopyOwn
import Derived.Laws.OwnMore
import Derived.Deep.RegionLaw
namespace Go.Proofs.Ytpfenpfnflkfiaa
open Go.ChangeShapes Go.WideShapes Go.ChangeAt Go.RowKit
set_option maxRecDepth 20000
set_option linter.unusedVariables false

theorem and_small (n : Nat) (hn : n ≤ 16) : bits .and .u64 (n : Int) 4294967295 = (n : Int) := by
  rcases (show n = 0 ∨ n = 1 ∨ n = 2 ∨ n = 3 ∨ n = 4 ∨ n = 5 ∨ n = 6 ∨ n = 7 ∨ n = 8 ∨ n = 9 ∨ n = 10 ∨ n = 11 ∨ n = 12 ∨ n = 13 ∨ n = 14 ∨ n = 15 ∨ n = 16 by omega) with rfl | rfl | rfl | rfl | rfl | rfl | rfl | rfl | rfl | rfl | rfl | rfl | rfl | rfl | rfl | rfl | rfl <;> decide

theorem mul64_one (n : Nat) (hn : n ≤ 16) (W : World) : Calls Try.prog 80 #[.int .u64 1, .int .u64 (n : Int)] W fun e w' => e = .returned (.tuple #[.int .u64 0, .int .u64 (n : Int)]) ∧ w' = W := by
  have e1 : bits .and .u64 1 4294967295 = 1 := by decide
  have e2 := and_small n hn
  have e3 : (n : Int) / 4294967296 = 0 := by omega
  have e4 : bits .and .u64 0 4294967295 = 0 := by decide
  go_enter Try.func80, Try.ntmps80
  go_wp2_with fail
  go_ret2
  exact ⟨rfl, rfl⟩

theorem mul_one (n : Nat) (hn : n ≤ 16) (W : World) : Calls Try.prog 71 #[.int .u64 1, .int .u64 (n : Int)] W fun e w' => e = .returned (.tuple #[.int .u64 0, .int .u64 (n : Int)]) ∧ w' = W := by
  go_enter Try.func71, Try.ntmps71
  go_wp2_with fail
  refine (mul64_one n hn W).mono ?_
  rintro e w1 ⟨rfl, rfl⟩
  go_wp2_with fail
  go_ret2
  exact ⟨rfl, rfl⟩

/-- A row of n numbers at block P, the first m of them below nought by one. -/
def RowM (w : World) (P n m : Nat) (cur : List Value) : Prop := w.heap[P]? = some (.cells cur.toArray 3 (0, 0)) ∧ cur.length = n ∧ ∀ j, j < m → cur[j]? = some (.int .i64 (-1))

theorem RowM.cell {w : World} {P n m : Nat} {cur : List Value} (h : RowM w P n m cur) (j : Nat) (hj : j < m) : w.cell? ⟨P, j, none⟩ = some (.int .i64 (-1)) := by
  unfold World.cell?
  simp only [h.1]
  simpa using h.2.2 j hj
theorem RowM.splice {P n m c : Nat} {cur : List Value} {w' : World} (hl : cur.length = n) (hm : ∀ j, j < m → cur[j]? = some (.int .i64 (-1))) (hc : m + c ≤ n) (h : w'.heap[P]? = some (.cells (splice cur m (List.replicate c (.int .i64 (-1)))).toArray 3 (0, 0))) : RowM w' P n (m + c) (splice cur m (List.replicate c (.int .i64 (-1)))) := by
  refine ⟨h, by rw [length_splice _ _ _ (by simp; omega)]; exact hl, fun j hj => ?_⟩
  unfold Go.splice
  by_cases c1 : j < m
  · rw [List.getElem?_append_left (by simp; omega), List.getElem?_take_of_lt c1]
    exact hm j c1
  · rw [List.getElem?_append_right (by simp; omega), List.getElem?_append_left (by simp; omega)]
    rw [List.getElem?_replicate, if_pos]
    simp
    omega
theorem past_below {W w : World} (h : Below W.heap.size W w) : Past W w := ⟨h.os, h.output, h.size, fun k hk => h.block k hk⟩

def RepPost (n : Nat) (W : World) (e : Ending) (w' : World) : Prop := e = .returned (.slice (some ⟨W.heap.size, 0, none⟩) n n) ∧ Past W w' ∧ ∃ cur, RowM w' W.heap.size n n cur

theorem infoI : (Try.prog.info? 3).map (fun i => (i.zero, i.size, i.bytes)) = some (some (.int .i64 0), 1, 8) := by kernel_rfl
theorem sizeI1 : (Try.prog.info? 3).map (·.size) = some 1 := by kernel_rfl

set_option maxHeartbeats 2000000 in
theorem repeat_any (n : Nat) (h1 : 1 ≤ n) (hn : n ≤ 16) (b off : Nat) (W : World) (hb : b < W.heap.size) (hc : W.cell? ⟨b, off, none⟩ = some (.int .i64 (-1))) : Calls Try.prog 43 #[.slice (some ⟨b, off, none⟩) 1 1, .int .i64 (n : Int)] W (RepPost n W) := by
  obtain ⟨i0, hi0, hz0, hz1, hz2⟩ := info_parts infoI
  obtain ⟨w2, hrun, own2, grow2⟩ := run_makeSlice_full (P := Try.prog) W W.heap.size 22 3 i0 (.int .i64 0) 1 Try.underlying22 hi0 hz0 hz1 .i64 .i64 n (by omega) (by rw [hz2]; omega) (by unfold maxLen; omega) (Nat.le_refl _)
  obtain ⟨cur0, hg0, hl0⟩ : ∃ cur : List Value, w2.heap[W.heap.size]? = some (.cells cur.toArray 3 (0, 0)) ∧ cur.length = n := by
    rcases own2.2 with ⟨hh, _⟩ | ⟨g, cap, cur, hh, _, hg, _, _, hs, _⟩
    · cases hh
    · simp only [Value.slice.injEq, Option.some.injEq, Addr.mk.injEq] at hh
      obtain ⟨⟨rfl, _⟩, _, rfl⟩ := hh
      exact ⟨cur.toList, by simpa using hg, by simp; omega⟩
  have hb2 : Below W.heap.size W w2 := ⟨grow2.os, grow2.tape, grow2.output, grow2.size, fun k hk => grow2.block k hk (by simp)⟩
  have hc2 : w2.cell? ⟨b, off, none⟩ = some (.int .i64 (-1)) := (World.cell?_of_block (a := ⟨b, off, none⟩) (grow2.block b hb (by simp))).trans hc
  have d0 : decide ((n : Int) < 0) = false := by simp
  have d1 : decide (9223372036854775807 < (n : Int)) = false := by simp; omega
  obtain ⟨P, hP⟩ : ∃ P, W.heap.size = P := ⟨_, rfl⟩
  rw [hP] at hrun hg0 hb2
  have HG0 := Lib.hid hg0
  have HB2 := Lib.hid hb2
  clear own2 grow2 hi0 hz0 hz1 hz2 hg0 hb2
  unfold RepPost
  rw [hP]
  go_enter Try.func43, Try.ntmps43
  go_wp2_with fail
  refine (mul_one n hn W).mono ?_
  rintro e w1 ⟨rfl, hw⟩
  subst hw
  go_upto_region 7 with fail
  have hn1 : [Value.int .i64 (-1)].length = Nat.min 1 n := by show 1 = min 1 n; omega
  have hf1 : 0 + [Value.int .i64 (-1)].length ≤ cur0.length := by simp; omega
  have ho1 : ∀ v ∈ [Value.int .i64 (-1)], v.oneCell' = true := by intro v hv; simp at hv; subst hv; rfl
  have hs1 : ∀ (j : Nat) (v : Value), [Value.int .i64 (-1)][j]? = some v → w2.cell? ((⟨b, off, none⟩ : Addr).add j) = some v := by
    intro j v hv
    match j, hv with
    | 0, hv =>
      simp at hv
      subst hv
      rw [add_plain]
      exact hc2
    | j + 1, hv => simp at hv
  have LAW := Lib.hid (And.intro hn1 (And.intro hf1 (And.intro ho1 hs1)))
  clear hn1 hf1 ho1 hs1
  go_wp2_with (refine wpList_copy_splice rfl (.tmp 31) (.tmp 32) 22 22 rfl 3 Try.underlying22 sizeI1 (some ⟨P, 0, none⟩) (some ⟨b, off, none⟩) n n 1 1 rfl rfl P 0 cur0 3 HG0.out [.int .i64 (-1)] LAW.out.1 (fun _ => ⟨rfl, _, rfl, LAW.out.2.2.2⟩) LAW.out.2.1 LAW.out.2.2.1 P w1 HB2.out (Nat.le_refl _) ?_)
  intro w4 hg4 hb4
  have R4 : Hid (RowM w4 P n 1 (splice cur0 0 (List.replicate 1 (.int .i64 (-1))))) := Lib.hid (by
    have := RowM.splice (P := P) (n := n) (m := 0) (c := 1) (cur := cur0) (w' := w4) hl0 (fun j hj => by omega) (by omega) hg4.out
    simpa using this)
  have B4 := Lib.hid hb4
  clear hg4 hb4 LAW hrun HG0 HB2 hc2
  go_wp2_with fail
  go_loopw [8] (fun x wr => ∃ (m : Nat) (cur : List Value), 1 ≤ m ∧ m ≤ n ∧ x = .int .i64 m ∧ Hid (RowM wr P n m cur) ∧ Hid (Below P w1 wr)) (fun x _ => n - (intOf x).toNat)
  case atStart => exact ⟨1, _, Nat.le_refl _, h1, by rfl, R4, B4⟩
  case round =>
    clear R4 B4
    obtain ⟨m, cur, m1, m2, rfl, rr, bb⟩ := hrel
    by_cases hmn : m < n
    · obtain ⟨c, hcm⟩ : ∃ c, c = min m (n - m) := ⟨_, rfl⟩
      have c1 : 1 ≤ c := by omega
      have c2 : m + c ≤ n := by omega
      have c3 : c ≤ m := by omega
      have hne : n ≠ m := by omega
      have LAW := Lib.hid (And.intro (show (List.replicate c (Value.int .i64 (-1))).length = Nat.min m (n - m) by rw [List.length_replicate]; exact hcm) (And.intro (show m + (List.replicate c (Value.int .i64 (-1))).length ≤ cur.length by rw [List.length_replicate, rr.out.2.1]; exact c2) (And.intro (show ∀ v ∈ List.replicate c (Value.int .i64 (-1)), v.oneCell' = true by intro v hv; have := List.eq_of_mem_replicate hv; subst this; rfl)
        (show ∀ (j : Nat) (v : Value), (List.replicate c (Value.int .i64 (-1)))[j]? = some v → wr.cell? ((⟨P, 0, none⟩ : Addr).add j) = some v by
          intro j v hv
          rw [List.getElem?_replicate] at hv
          split at hv
          · rename_i hj
            simp only [Option.some.injEq] at hv
            subst hv
            rw [add_plain, Nat.zero_add]
            exact rr.out.cell j (by omega)
          · cases hv))))
      have CP := fun (w : World) (hw : w.heap = wr.heap) => run_copy_row (P := Try.prog) w 22 22 3 3 P m (n - m) (n - m) ⟨P, 0, none⟩ m n cur.toArray 3 (List.replicate c (Value.int .i64 (-1))) Try.underlying22 sizeI1 (by rw [hw]; exact rr.out.1) LAW.out.1 (fun j v hv => by
        have := LAW.out.2.2.2 j v hv
        unfold World.cell? at this ⊢
        rw [hw]
        exact this) LAW.out.2.1 LAW.out.2.2.1
      have cp0 := CP wr rfl
      have cp1 := CP wr.drew rfl
      obtain ⟨g9, hg9⟩ : ∃ g, goInt (List.replicate c (Value.int .i64 (-1))).length = g := ⟨_, rfl⟩
      rw [hg9] at cp0 cp1
      obtain ⟨x0, hx0⟩ : ∃ x, wr.setRow P (cur.toArray.toList.take m ++ List.replicate c (Value.int .i64 (-1)) ++ cur.toArray.toList.drop (m + (List.replicate c (Value.int .i64 (-1))).length)).toArray = x := ⟨_, rfl⟩
      obtain ⟨x1, hx1⟩ : ∃ x, wr.drew.setRow P (cur.toArray.toList.take m ++ List.replicate c (Value.int .i64 (-1)) ++ cur.toArray.toList.drop (m + (List.replicate c (Value.int .i64 (-1))).length)).toArray = x := ⟨_, rfl⟩
      rw [hx0] at cp0
      rw [hx1] at cp1
      have e9 : g9 = .int .i64 (c : Int) := by rw [← hg9]; simp [goInt]
      subst e9
      clear CP hx0 hg9 hcm
      have HX1 := Lib.hid hx1
      clear hx1
      have hb1 : bb.out = bb.out := rfl
      clear hb1
      go_upto_region 9 with fail
      go_region
      all_goals
        have R5 : Hid (RowM x1 P n (m + c) (splice cur m (List.replicate c (.int .i64 (-1))))) := Lib.hid (RowM.splice rr.out.2.1 rr.out.2.2 c2 (by
          rw [← HX1.out, setRow_heap wr.drew P cur.toArray _ 3 (0, 0) rr.out.1]
          simp [Go.splice]))
        have B5 : Hid (Below P w1 x1) := Lib.hid (by
          rw [← HX1.out]
          exact below_setRow (w := wr.drew) ⟨bb.out.os, bb.out.tape, bb.out.output, bb.out.size, bb.out.block⟩ (Nat.le_refl _) _)
        clear LAW cp0 cp1 HX1 rr bb
        try go_wp2_with fail
        go_roundw
        case rel => exact ⟨m + c, _, by omega, c2, by go_num, R5, B5⟩
        case measure => simp [intOf]; omega
    · obtain rfl : m = n := by omega
      go_wp2_with fail
      go_ret
      exact ⟨rfl, past_below (by rw [hP]; exact bb.out), _, rr.out⟩
end Go.Proofs.Ytpfenpfnflkfiaa
