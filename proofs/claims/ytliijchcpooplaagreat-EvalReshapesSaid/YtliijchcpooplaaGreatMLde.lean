/- quiltref05: Same of equal rows. -/
import Derived.Test.YtliijchcpooplaaGreatMKWe
import Derived.Test.YtliijchcpooplaaGreatMR2
import Derived.Laws.OwnMore
namespace Go.Proofs.YtliijchcpooplaaGreat
open Go.ChangeShapes Go.WideShapes Go.ChangeAt Go.RowKit
set_option maxRecDepth 20000
set_option linter.unusedVariables false

def fillF (ls : List Int) (i : Nat) : Int := if 0 < ls.length then ls.getD (i % ls.length) 0 else 0
def fillL (ls : List Int) (k : Nat) : List Int := (List.range k).map (fillF ls)
theorem fillL_succ (ls : List Int) (k : Nat) : fillL ls (k + 1) = fillL ls k ++ [fillF ls k] := by unfold fillL; rw [List.range_succ, List.map_append]; rfl
theorem fillL_len (ls : List Int) (k : Nat) : (fillL ls k).length = k := by simp [fillL]
theorem own8_new {w : World} {base : Nat} (hb : base ≤ w.heap.size) : Own8 (w.alloc (.cells #[] 35)) base (.slice (some ⟨w.heap.size, 0, none⟩) 0 0) [] := World.ownsRow_lit w #[] 0 hb (by decide) (by simp)

theorem size_nn (h w c : Int) : 0 ≤ sizeI h w c := by
  by_cases k : mayS h w c
  · exact Int.le_trans (by decide) (idx_lt_size k).1
  · unfold sizeI; rw [if_neg k]; exact Int.le_refl 0

set_option maxHeartbeats 4000000 in
theorem same_eq (a b : Value) (xs : List Int) (W : World) (ha : IsNums .i8 W a xs) (hb : IsNums .i8 W b xs) :
    Calls Tryz.prog 15 #[a, b] W fun e w' => e = .returned (.bool true) ∧ Grown W w' := by
  have HA := Lib.hid ha
  have HB := Lib.hid hb
  obtain ⟨A1, c1, rfl, a1, a2, _⟩ := ha
  obtain ⟨A2, c2, rfl, b1, b2, _⟩ := hb
  have k1 : xs.length ≤ 9223372036854775807 := by unfold maxLen at a2; omega
  clear a2 b2
  go_enter Tryz.func15, Tryz.ntmps15
  go_wp2_with fail
  go_loopw [5] (fun i wr => ∃ k : Nat, k ≤ xs.length ∧ i = .int .i64 k ∧ Grown W wr) (fun i _ => xs.length - (intOf i).toNat)
  case atStart => exact ⟨0, by omega, rfl, Grown.refl _⟩
  case round =>
    obtain ⟨k, hk, rfl, g⟩ := hrel
    by_cases h : k < xs.length
    · obtain ⟨b, o, e, _, _, _, hbl, hc⟩ := nums_parts HA.out (by omega)
      obtain ⟨b', o', e', _, _, _, hbl', hc'⟩ := nums_parts HB.out (by omega)
      subst e e'
      obtain ⟨x, hx⟩ : ∃ x, xs.getD k 0 = x := ⟨_, rfl⟩
      have c0 := (grown_cell (p := ⟨b, o + k, none⟩) g hbl).trans (hc k h).1
      have c0' := (grown_cell (p := ⟨b', o' + k, none⟩) g hbl').trans (hc' k h).1
      rw [hx] at c0 c0'
      have d1 : decide ((k : Int) < (xs.length : Int)) = true := by simp; omega
      have i1 : (0 : Int) ≤ (k : Int) := by omega
      have i2 : (k : Int) < (xs.length : Int) := by omega
      clear hc hc' hx
      go_upto_region 6 with fail
      refine wp_region_fill (fun w' => w'.cell? ⟨b, o + k, none⟩ = some (.int .i8 x) ∧ w'.cell? ⟨b', o' + k, none⟩ = some (.int .i8 x) ∧ Grown W w') [(17, ?va17), (18, ?va18), (19, ?va19), (20, ?va20), (21, ?va21), (22, ?va22), (23, ?va23), (24, ?va24), (25, ?va25)] [17, 18, 19, 20, 21, 22, 23, 24, 25] (by kernel_rfl) (by kernel_rfl) rfl (by kernel_rfl) ⟨c0, c0', g⟩ (fun w h => h) ?alla ?fina
      case alla =>
        simp only [fillA, Act.put, List.setIfInBounds_toArray, List.set_cons_zero, List.set_cons_succ]
        iterate 9 (refine owes_cons (fun w hw K hK => ?_) ?_; focus ((have hS := Lib.hid hw); go_split_ands; go_simp; (try simp only [Act.put, List.setIfInBounds_toArray, List.set_cons_zero, List.set_cons_succ]); first | exact hK _ hS.out))
        exact True.intro
      case fina =>
        rintro w9 ⟨_, _, g9⟩
        simp only [fillA, Act.put, List.setIfInBounds_toArray, List.set_cons_zero, List.set_cons_succ]
        go_wp2_with fail
        go_roundw
        case rel => exact ⟨k + 1, by omega, by go_num, g9⟩
        case measure => simp [intOf]; omega
    · obtain rfl : k = xs.length := by omega
      have d1 : decide ((xs.length : Int) < (xs.length : Int)) = false := by simp
      go_wp2_with fail
      go_ret
      exact ⟨rfl, g⟩

end Go.Proofs.YtliijchcpooplaaGreat
