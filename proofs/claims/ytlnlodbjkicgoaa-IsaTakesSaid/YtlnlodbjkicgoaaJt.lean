/- IsaTakes: the walk. -/
import Derived.Test.YtlnlodbjkicgoaaI22
import Derived.Test.YtlnlodbjkicgoaaI14
import Derived.Test.YtlnlodbjkicgoaaI16
namespace Go.Proofs.Ytlnlodbjkicgoaa
open Go.ChangeShapes Go.WideShapes Go.ChangeAt Go.RowKit
set_option maxRecDepth 20000
set_option linter.unusedVariables false
set_option linter.unusedSimpArgs false

theorem cellsByteT : Try.prog.cellsOf 5 = 1 := by kernel_rfl
theorem open_bytes_valT {H : Type} {enc : TypeId × Value → H} {W : World} {r : Reach} {b0 : Nat} {v : Value} {d : DataW H} {p : List MemPlace} (hv : Value.okWide Try.prog W r b0 25 v) (h : DataW.Trod enc Try.prog W 0 (fun _ => true) true 25 v d p) : ∃ xs, IsNums .u8 W v xs := by
  obtain ⟨a, l, c, rfl⟩ := okWide_slice Try.underlying25 hv
  obtain ⟨fuel, hf⟩ := h
  exact open_nums (k := .u8) Try.underlying25 Try.underlying5 cellsByteT hf

set_option maxHeartbeats 2000000 in
theorem takes_walk (W : World) (bv : Value) (bz : List Int) (hb : IsNums .u8 W bv bz) : Calls Try.prog 4 #[bv] W fun e w' => e = .returned (.bool true) ∧ Past W w' := by
  have HB0 := Lib.hid hb
  obtain ⟨bA, bc, rfl, c2, c3, c4⟩ := nums_form hb
  have C4 := Lib.hid c4
  clear c4 hb
  go_enter Try.func4, Try.ntmps4
  go_wp2_with fail
  refine (shown_any W).mono ?_
  rintro e w1 ⟨rfl, p1⟩
  have P1 := Lib.hid p1
  have HB := Lib.hid (HB0.out.grow p1)
  clear p1 HB0
  go_upto_if 14 with fail
  go_cut [0] (fun c0 w' => (∃ A1 k1, c0 = .slice A1 (bz.take 5000).length k1 ∧ k1 ≤ maxLen ∧ (bz.take 5000).length ≤ k1 ∧ Hid (IsNums .u8 w' c0 (bz.take 5000))) ∧ w1 = w')
  case first =>
    by_cases h5 : 5000 < bz.length
    · have hc := Lib.hid (nums_cut 5000 (by omega) HB.out)
      have e5 : (bz.take 5000).length = 5000 := by rw [List.length_take]; omega
      obtain ⟨bb, bo, rfl⟩ : ∃ bb bo, bA = some ⟨bb, bo, none⟩ := by
        obtain ⟨b1, o1, k1, e1, _⟩ := nums_some HB.out (by omega)
        simp only [Value.slice.injEq] at e1
        exact ⟨b1, o1, e1.1⟩
      go_wp2_with fail
      go_meet
      exact ⟨⟨_, _, by rw [e5], c3, by omega, hc⟩, rfl⟩
    · have e5 : bz.take 5000 = bz := List.take_of_length_le (by omega)
      have hc := HB
      go_wp2_with fail
      go_meet
      exact ⟨⟨_, _, by rw [e5], c3, by rw [e5]; omega, by rw [e5]; exact hc⟩, rfl⟩
  case rest =>
    obtain ⟨⟨A1, k1, rfl, k1m, k1l, HX⟩, rfl⟩ := hcut
    have hl5 : (bz.take 5000).length ≤ 5000 := by rw [List.length_take]; omega
    obtain ⟨X, hX⟩ : ∃ X, bz.take 5000 = X := ⟨_, rfl⟩
    rw [hX] at HX hl5 k1l
    try simp only [hX]
    clear hX HB c2 c3 C4
    have hBX : bytesP X := by
      obtain ⟨_, _, _, hB⟩ := nums_bytes HX.out
      exact hB.bytesP
    have BX := Lib.hid hBX
    clear hBX
    go_wp2_with (at_builtin; refine wpList_append_b rfl (.tmp 18) (.tmp 19) rfl w1.heap.size _ [] rfl (ownR_lit w1) X A1 X.length k1 rfl (HX.out.grow ((Past.refl w1).alloc _)) (by simp only [List.length_nil]; omega) (by simp) ?_)
    intro v7 w7 o7 g7
    have p7 : Past w1 w7 := ((Past.refl w1).alloc _).grownBy g7 (fun k hk => by simp [Value.ownBlock] at hk; omega)
    have TA := Lib.hid (take_any v7 X w7 (o7.nums BX.out))
    have P7 := Lib.hid (P1.out.trans p7)
    have HX7 := Lib.hid (HX.out.grow p7)
    clear o7 g7 p7 P1 HX
    unfold TakePost at TA
    have RT := Lib.hid (fun w h => rTake_any (.slice A1 X.length k1) X w h (by omega))
    unfold RTakePost at RT
    obtain ⟨L, hL⟩ : ∃ L, takeL X = L := ⟨_, rfl⟩
    obtain ⟨n, hn⟩ : ∃ n, takeN X = n := ⟨_, rfl⟩
    obtain ⟨f, hf⟩ : ∃ f, takeE X = f := ⟨_, rfl⟩
    rw [hL, hn, hf] at TA RT
    clear hL hn hf
    go_wp2_with fail
    refine TA.out.mono ?_
    rintro e w8 ⟨xv, rfl, ox, p8⟩
    have P8 := Lib.hid (P7.out.trans p8)
    have HX8 := Lib.hid (HX7.out.grow p8)
    have XC := Lib.hid ox.cmds
    clear ox p8 P7 HX7 TA
    go_wp2_with fail
    refine (RT.out w8 HX8.out).mono ?_
    rintro e w9 ⟨yv, rfl, oy, p9⟩
    have P9 := Lib.hid (P8.out.trans p9)
    have SA := Lib.hid (same_any xv yv L L w9 (XC.out.grow p9) oy)
    rw [decide_eq_true rfl] at SA
    clear oy p9 P8 XC RT
    go_wp2_with fail
    refine SA.out.mono ?_
    rintro e w10 ⟨rfl, p10⟩
    have P10 := Lib.hid (P9.out.trans p10)
    clear p10 P9
    go_wp2_with fail
    go_ret
    exact ⟨rfl, P10.out⟩
end Go.Proofs.Ytlnlodbjkicgoaa
