/- quiltlaw05: filled; quiltref05: Same of equal rows. -/
import Derived.Test.YtbkigldffcgodaaMKU
import Derived.Test.YtbkigldffcgodaaMR2
import Derived.Laws.OwnMore
namespace Go.Proofs.Ytbkigldffcgodaa
open Go.ChangeShapes Go.WideShapes Go.ChangeAt Go.RowKit
set_option maxRecDepth 20000
set_option linter.unusedVariables false

def fillF (ls : List Int) (i : Nat) : Int := if 0 < ls.length then ls.getD (i % ls.length) 0 else 0
def fillL (ls : List Int) (k : Nat) : List Int := (List.range k).map (fillF ls)
theorem fillL_succ (ls : List Int) (k : Nat) : fillL ls (k + 1) = fillL ls k ++ [fillF ls k] := by unfold fillL; rw [List.range_succ, List.map_append]; rfl
theorem fillL_len (ls : List Int) (k : Nat) : (fillL ls k).length = k := by simp [fillL]
theorem own8_new {w : World} {base : Nat} (hb : base ≤ w.heap.size) : Own8 (w.alloc (.cells #[] 52)) base (.slice (some ⟨w.heap.size, 0, none⟩) 0 0) [] := World.ownsRow_lit w #[] 0 hb (by decide) (by simp)

theorem size_nn (h w c : Int) : 0 ≤ sizeI h w c := by
  by_cases k : mayS h w c
  · exact Int.le_trans (by decide) (idx_lt_size k).1
  · unfold sizeI; rw [if_neg k]; exact Int.le_refl 0

set_option maxHeartbeats 4000000 in
theorem same_eq (a b : Value) (xs : List Int) (W : World) (ha : IsNums .i8 W a xs) (hb : IsNums .i8 W b xs) :
    Calls Try.prog 20 #[a, b] W fun e w' => e = .returned (.bool true) ∧ Grown W w' := by
  have HA := Lib.hid ha
  have HB := Lib.hid hb
  obtain ⟨A1, c1, rfl, a1, a2, _⟩ := ha
  obtain ⟨A2, c2, rfl, b1, b2, _⟩ := hb
  have k1 : xs.length ≤ 9223372036854775807 := by unfold maxLen at a2; omega
  clear a2 b2
  go_enter Try.func20, Try.ntmps20
  go_wp2_with fail
  go_loopw [5] (fun i wr => ∃ k : Nat, k ≤ xs.length ∧ i = .int .i64 k ∧ Grown W wr) (fun i _ => xs.length - (intOf i).toNat)
  case atStart => exact ⟨0, by omega, rfl, Grown.refl _⟩
  case round =>
    obtain ⟨k, hk, rfl, g⟩ := hrel
    by_cases h : k < xs.length
    · obtain ⟨b, o, e, _, _, _, hbl, hc⟩ := nums_parts HA.out (by omega)
      obtain ⟨b', o', e', _, _, _, hbl', hc'⟩ := nums_parts HB.out (by omega)
      subst e e'
      obtain ⟨x, hx⟩ : ∃ x, xs.getD k 0 = x := ⟨_, rfl⟩
      have c0 := (grown_cell (p := ⟨b, o + k, none⟩) g hbl).trans (hc k h).1
      have c0' := (grown_cell (p := ⟨b', o' + k, none⟩) g hbl').trans (hc' k h).1
      rw [hx] at c0 c0'
      have d1 : decide ((k : Int) < (xs.length : Int)) = true := by simp; omega
      have i1 : (0 : Int) ≤ (k : Int) := by omega
      have i2 : (k : Int) < (xs.length : Int) := by omega
      clear hc hc' hx
      go_upto_region 6 with fail
      refine wp_region_fill (fun w' => w'.cell? ⟨b, o + k, none⟩ = some (.int .i8 x) ∧ w'.cell? ⟨b', o' + k, none⟩ = some (.int .i8 x) ∧ Grown W w') [(17, ?va17), (18, ?va18), (19, ?va19), (20, ?va20), (21, ?va21), (22, ?va22), (23, ?va23), (24, ?va24), (25, ?va25)] [17, 18, 19, 20, 21, 22, 23, 24, 25] (by kernel_rfl) (by kernel_rfl) rfl (by kernel_rfl) ⟨c0, c0', g⟩ (fun w h => h) ?alla ?fina
      case alla =>
        simp only [fillA, Act.put, List.setIfInBounds_toArray, List.set_cons_zero, List.set_cons_succ]
        iterate 9 (refine owes_cons (fun w hw K hK => ?_) ?_; focus ((have hS := Lib.hid hw); go_split_ands; go_simp; (try simp only [Act.put, List.setIfInBounds_toArray, List.set_cons_zero, List.set_cons_succ]); first | exact hK _ hS.out))
        exact True.intro
      case fina =>
        rintro w9 ⟨_, _, g9⟩
        simp only [fillA, Act.put, List.setIfInBounds_toArray, List.set_cons_zero, List.set_cons_succ]
        go_wp2_with fail
        go_roundw
        case rel => exact ⟨k + 1, by omega, by go_num, g9⟩
        case measure => simp [intOf]; omega
    · obtain rfl : k = xs.length := by omega
      have d1 : decide ((xs.length : Int) < (xs.length : Int)) = false := by simp
      go_wp2_with fail
      go_ret
      exact ⟨rfl, g⟩

set_option maxHeartbeats 4000000 in
theorem filled_any (v : ValD) (lv : Value) (ls : List Int) (W : World) (hl : IsNums .i8 W lv ls) :
    Calls Try.prog 38 #[.agg #[.int .i64 v.h, .int .i64 v.w, .int .i64 v.c, .int .i64 v.z], lv] W fun e w' => ∃ u, e = .returned u ∧ Own8 w' W.heap.size u (fillL ls (sizeI v.h v.w v.c).toNat) ∧ Past W w' := by
  have HL := Lib.hid hl
  obtain ⟨A, cap, rfl, a1, a2, _⟩ := hl
  have k1 : ls.length ≤ 9223372036854775807 := by unfold maxLen at a2; omega
  obtain ⟨N, hN⟩ : ∃ N : Nat, sizeI v.h v.w v.c = N := ⟨(sizeI v.h v.w v.c).toNat, (Int.toNat_of_nonneg (size_nn _ _ _)).symm⟩
  have N2 : N ≤ 2048 := by
    by_cases c : mayS v.h v.w v.c
    · have := idx_lt_size c; omega
    · unfold sizeI at hN; rw [if_neg c] at hN; omega
  rw [hN, Int.toNat_natCast]
  have HN : Hid ((N : Int) = sizeI v.h v.w v.c) := Lib.hid hN.symm
  have SZ := Lib.hid (fun w => rsize_any v.h v.w v.c N w HN)
  obtain ⟨i0, hi0, hz0, hz1, hz2⟩ := info_parts infoI8
  have I1 := Lib.hid hi0
  have I2 := Lib.hid hz0
  have I3 := Lib.hid hz1
  have I4 := Lib.hid hz2
  clear hi0 hz0 hz1 hz2 hN a2
  go_enter Try.func38, Try.ntmps38
  go_upto_region 1 with fail
  refine opq (fun w' => (∀ o : Nat, w'.cell? ⟨W.heap.size, o, none⟩ = (#[.int .i64 v.h, .int .i64 v.w, .int .i64 v.c, .int .i64 v.z] : Array Value)[o]?) ∧ Past W w' ∧ W.heap.size + 1 ≤ w'.heap.size) (by (((try dsimp only); (try go_split_ands); (repeat' with_reducible apply And.intro)) <;> ((repeat (first | (with_reducible (first | assumption | refine kbS ?_ | refine has_set ?_ | refine kcS ?_ | refine free_set ?_ | refine size_set ?_ | refine kgS ?_ | refine kpS ?_ | refine box_drewN ?_ | refine has_drewN ?_ | refine cell_drewN ?_ | refine free_drewN ?_ | refine size_drewN ?_ | refine Grown.drewN ?_ | refine Past.drewN ?_ | refine box_drew ?_ | refine has_drew ?_ | refine cell_drew ?_ | refine free_drew ?_ | refine size_drew ?_ | refine Grown.drew ?_ | refine Past.drew ?_ | exact kbN | refine kbO ?_ | refine khA ?_ | refine kcA ?_ | refine free_alloc ?_ | exact ksA | refine Grown.alloc ?_ _ _ | refine Past.alloc ?_ _ | exact kbG | exact khG | exact kcG | exact ksG | exact kfG | exact kgG | exact kbP | exact kfP | exact khP | exact kcP | exact ksP | exact kpP | exact kfN | refine Grown.past ?_ | exact Grown.refl _ | exact Past.refl _)) | omega)); done))) ?_
  rintro W1 ⟨b2, p1, z1⟩
  go_wp2_with fail
  go_loopw [5, 6] (fun u i wr => ∃ k : Nat, k ≤ N ∧ i = .int .i64 k ∧ Hid (Own8 wr W1.heap.size u (fillL ls k)) ∧ Past W1 wr ∧ W1.heap.size ≤ wr.heap.size) (fun _ i _ => N - (intOf i).toNat)
  case atStart => exact ⟨0, by omega, rfl, Lib.hid (own8_new (Nat.le_refl _)), (Past.refl _).alloc _, by simp⟩
  case round =>
    obtain ⟨k, hk, rfl, hown, pp, zz⟩ := hrel
    have b2r := box_past pp b2 (by omega)
    by_cases h : k < N
    · have d1 : decide ((k : Int) < (N : Int)) = true := by simp; omega
      go_wp2_with fail
      refine (SZ.out _).mono ?_
      rintro e w5 ⟨rfl, g⟩
      have OW := Lib.hid (hown.out.past (Grown.past g))
      have P5 := past_trans3 pp g
      have Z5 : W1.heap.size ≤ w5.heap.size := P5.2.2.1
      have FS := Lib.hid (fillL_succ ls k)
      clear hown pp zz b2r g
      by_cases hz : 0 < ls.length
      · obtain ⟨lb, lo, e, _, _, _, hlb, hc⟩ := nums_parts HL.out hz
        subst e
        obtain ⟨j, hj⟩ : ∃ j, k % ls.length = j := ⟨_, rfl⟩
        have hjl : j < ls.length := by rw [← hj]; exact Nat.mod_lt _ hz
        obtain ⟨x, hx⟩ : ∃ x, ls.getD j 0 = x := ⟨_, rfl⟩
        have c0 := ((p1.trans P5).cell (p := ⟨lb, lo + j, none⟩) hlb).trans (hc j hjl).1
        rw [hx] at c0
        have FF : Hid (fillF ls k = x) := Lib.hid (by unfold fillF; rw [if_pos hz, hj, hx])
        have d2 : decide ((0 : Int) < (ls.length : Int)) = true := decide_eq_true (by omega)
        have em : (k : Int) % (ls.length : Int) = (j : Int) := by rw [← hj, Int.natCast_emod]
        have et : Int.tmod (k : Int) (ls.length : Int) = (j : Int) := by rw [Int.tmod_eq_emod_of_nonneg (by omega)]; exact em
        have i1 : (0 : Int) ≤ (j : Int) := by omega
        have i2 : (j : Int) < (ls.length : Int) := by omega
        have i3 : ((ls.length : Int) == 0) = false := by rw [beq_eq_false_iff_ne]; omega
        have wx := wf_i8 ((hc j hjl).2)
        rw [hx] at wx
        clear hc hj hx
        go_wp2_with (at_builtin; refine wpList_append_own _ rfl (.tmp 26) (.tmp 28) 25 rfl W1.heap.size 52 i0 _ 1 1 Try.underlying25 I1.out I2.out I3.out I4.out rfl (by decide) _ _ _ rfl (World.ownsRow.alloc OW.out _) ⟨w5.heap.size, 0, none⟩ 1 1 [.int .i8 x] rfl rfl (fun j u hu => cells_new1 w5 _ 52 j u hu) (by intro u hu; simp at hu; subst hu; rfl) ?c4 ?c5 ?c6 ?_)
        case c4 => unfold maxLen; rw [fillL_len]; omega
        case c5 => rw [fillL_len]; omega
        case c6 => simp; omega
        intro v4 w4 hown4 hgrow _
        have ho4 := Lib.hid (own8_add hown4)
        have P4 := (P5.alloc (.cells #[.int .i8 x] 52)).grownBy hgrow (fun j hj => (OW.out.lt j hj).1)
        have Z4 : W1.heap.size ≤ w4.heap.size := P4.2.2.1
        clear hown4 hgrow OW P5 Z5
        go_wp2_with fail
        go_roundw
        case rel => exact ⟨k + 1, by omega, by go_num, Lib.hid (by rw [FS.out, FF.out]; exact ho4.out), P4, Z4⟩
        case measure => simp [intOf]; omega
      · have FF : Hid (fillF ls k = 0) := Lib.hid (by unfold fillF; rw [if_neg hz])
        have d2 : decide ((0 : Int) < (ls.length : Int)) = false := decide_eq_false (by omega)
        go_wp2_with (at_builtin; refine wpList_append_own _ rfl (.tmp 26) (.tmp 28) 25 rfl W1.heap.size 52 i0 _ 1 1 Try.underlying25 I1.out I2.out I3.out I4.out rfl (by decide) _ _ _ rfl (World.ownsRow.alloc OW.out _) ⟨w5.heap.size, 0, none⟩ 1 1 [.int .i8 0] rfl rfl (fun j u hu => cells_new1 w5 _ 52 j u hu) (by intro u hu; simp at hu; subst hu; rfl) ?c4 ?c5 ?c6 ?_)
        case c4 => unfold maxLen; rw [fillL_len]; omega
        case c5 => rw [fillL_len]; omega
        case c6 => simp; omega
        intro v4 w4 hown4 hgrow _
        have ho4 := Lib.hid (own8_add hown4)
        have P4 := (P5.alloc (.cells #[.int .i8 0] 52)).grownBy hgrow (fun j hj => (OW.out.lt j hj).1)
        have Z4 : W1.heap.size ≤ w4.heap.size := P4.2.2.1
        clear hown4 hgrow OW P5 Z5
        go_wp2_with fail
        go_roundw
        case rel => exact ⟨k + 1, by omega, by go_num, Lib.hid (by rw [FS.out, FF.out]; exact ho4.out), P4, Z4⟩
        case measure => simp [intOf]; omega
    · obtain rfl : k = N := by omega
      have d1 : decide ((k : Int) < (k : Int)) = false := by simp
      go_wp2_with fail
      refine (SZ.out _).mono ?_
      rintro e w5 ⟨rfl, g⟩
      go_wp2_with fail
      go_ret
      exact ⟨_, rfl, own8_base (hown.out.past (Grown.past g)) p1.2.2.1, p1.trans (past_trans3 pp g)⟩
end Go.Proofs.Ytbkigldffcgodaa
