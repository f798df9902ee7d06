/- RegionClash: its walk. -/
import Derived.Test.YtgbedoffgahhaaaST
namespace Go.Proofs.Ytgbedoffgahhaaa
open Go.ChangeShapes Go.WideShapes Go.ChangeAt Go.RowKit
set_option maxRecDepth 20000
set_option linter.unusedVariables false
set_option linter.unusedSimpArgs false
theorem IsSpans.form {W : World} {v : Value} {xs : List SpD} (h : IsSpans W v xs) : ∃ (A : Option Addr) (cap : Nat), v = .slice A xs.length cap ∧ xs.length ≤ cap ∧ cap ≤ maxLen := by
  obtain ⟨A, cap, e, h2, h3, _⟩ := h
  exact ⟨A, cap, e, h2, h3⟩
theorem IsSpans.at {W : World} {A : Option Addr} {n cap : Nat} {xs : List SpD} (h : IsSpans W (.slice A n cap) xs) {k : Nat} (hk : k < xs.length) : ∃ b off, A = some ⟨b, off, none⟩ ∧ n = xs.length ∧ ∀ w, Past W w → SpAt w b (off + k * 4) (xs.getD k default) := by
  obtain ⟨A', cap', e, h2, h3, h4, h5, h6⟩ := h
  simp only [Value.slice.injEq] at e
  obtain ⟨rfl, rfl, rfl⟩ := e
  obtain ⟨b, off, e, hb, hc⟩ := h6 (by omega)
  exact ⟨b, off, e, rfl, fun w g => (hc k hk).grow hb g⟩
set_option maxHeartbeats 4000000 in
theorem clash_walk (W : World) (va : Value) (a : List SpD) (hva : IsSpans W va a) (vb : Value) (b : List SpD) (hvb : IsSpans W vb b) : Calls Try.prog 3 #[va, vb] W fun e w' => e = .returned (.bool true) ∧ Past W w' := by
  have HA := Lib.hid hva
  have HB := Lib.hid hvb
  obtain ⟨A0, ca0, rfl, _, _⟩ := hva.form
  obtain ⟨B0, cb0, rfl, _, _⟩ := hvb.form
  clear hva hvb
  go_enter Try.func3, Try.ntmps3
  go_upto_region 2 with (go_at_call 7; with_reducible refine (shown_any _).mono ?_; rintro e w1 ⟨rfl, p1⟩)
  have HA1 := Lib.hid (HA.out.grow p1)
  have HB1 := Lib.hid (HB.out.grow p1)
  clear HA HB
  go_upto_region 3 with (go_at_call 8; with_reducible refine (few_any a _ _ HA1.out).mono ?_; rintro e w2 ⟨va, rfl, ha, rfl⟩)
  go_upto_region 4 with (go_at_call 8; with_reducible refine (few_any b _ _ HB1.out).mono ?_; rintro e w2 ⟨vb, rfl, hb, rfl⟩)
  obtain ⟨x, hx⟩ : ∃ x, a.take 40 = x := ⟨_, rfl⟩
  obtain ⟨y, hy⟩ : ∃ y, b.take 40 = y := ⟨_, rfl⟩
  rw [hx] at ha
  rw [hy] at hb
  have HX := Lib.hid ha
  have HY := Lib.hid hb
  have lx : x.length ≤ 40 := by rw [← hx, List.length_take]; omega
  obtain ⟨A, ca, rfl, _, _⟩ := ha.form
  obtain ⟨B, cb, rfl, _, _⟩ := hb.form
  have P1 := Lib.hid p1
  clear ha hb hx hy HA1 HB1 p1
  go_wp2_with fail
  go_loopw [4, 6] (fun s i wr => ∃ k : Nat, k ≤ x.length ∧ s = .bool false ∧ i = .int .i64 k ∧ Hid (Past w2 wr)) (fun _ i _ => x.length - (intOf i).toNat)
  case atStart => exact ⟨0, by omega, rfl, rfl, Lib.hid (Past.refl _)⟩
  case round =>
    obtain ⟨k, hk, rfl, rfl, PR⟩ := hrel
    by_cases l : k < x.length
    · obtain ⟨bb, off, rfl, _, hc⟩ := HX.out.at l
      obtain ⟨s, hs⟩ : ∃ s, x.getD k default = s := ⟨_, rfl⟩
      rw [hs] at hc
      have HC := Lib.hid hc
      obtain ⟨q, hq⟩ : ∃ q, q = spanE s := ⟨_, rfl⟩
      have HQ := Lib.hid hq
      clear hc hs hq
      have i1 : (0 : Int) ≤ (k : Int) := by omega
      have i2 : (k : Int) < (x.length : Int) := by omega
      have q0 : (q != q) = false := by simp
      go_upto_region 7 with fail
      go_cut [28] (fun c w' => c = .bool false ∧ Past w2 w')
      case first =>
        obtain ⟨m0, m1, m2, m3⟩ := HC.out wr PR.out
        go_region_with (first
          | (go_at_call 9; (with_reducible refine (smay_any s q _ HQ).mono ?_); rintro e w4 ⟨rfl, g4⟩; have PC := Lib.hid (Past.trans (c := w4) (by first | exact PC.out | exact PR.out.drew) (Grown.past g4)); obtain ⟨m0', m1', m2', m3'⟩ := HC.out w4 PC.out)
          | (go_at_call 10; (with_reducible refine (rsmay_any s q _ HQ).mono ?_); rintro e w4 ⟨rfl, g4⟩; have PC := Lib.hid (Past.trans (c := w4) (by first | exact PC.out | exact PR.out.drew) (Grown.past g4)); obtain ⟨m0', m1', m2', m3'⟩ := HC.out w4 PC.out))
        all_goals (go_wp2_with fail; go_meet; exact ⟨rfl, PC.out⟩)
      case rest =>
      obtain ⟨rfl, pc⟩ := hcut
      go_wp2_with fail
      go_roundw
      case rel => exact ⟨k + 1, by omega, rfl, by go_num, Lib.hid pc⟩
      case measure => simp [intOf]; omega
    · obtain ⟨t, ht⟩ : ∃ t, t = clashD x y := ⟨_, rfl⟩
      have HT := Lib.hid ht
      have HT' := Lib.hid (ht.trans (clash_comm x y))
      have tt : (t == t) = true := by simp
      have X1 := Lib.hid (HX.out.grow PR.out)
      have Y1 := Lib.hid (HY.out.grow PR.out)
      clear ht HX HY
      go_wp2_with (first
        | (go_at_call 11; (with_reducible refine (clashS_any x y _ _ t _ X1.out Y1.out HT).mono ?_); rintro e w4 ⟨rfl, g4⟩; have X2 := Lib.hid (X1.out.grow (Grown.past g4)); have Y2 := Lib.hid (Y1.out.grow (Grown.past g4)); clear X1 Y1)
        | (go_at_call 12; (with_reducible refine (rclash_any x y _ _ _ t X2.out Y2.out HT).mono ?_); rintro e w5 ⟨rfl, g5⟩; have X3 := Lib.hid (X2.out.grow (Grown.past g5)); have Y3 := Lib.hid (Y2.out.grow (Grown.past g5)); clear X2 Y2)
        | (go_at_call 11; (with_reducible refine (clashS_any x y _ _ t _ X3.out Y3.out HT).mono ?_); rintro e w6 ⟨rfl, g6⟩; have X4 := Lib.hid (X3.out.grow (Grown.past g6)); have Y4 := Lib.hid (Y3.out.grow (Grown.past g6)); clear X3 Y3)
        | (go_at_call 11; (with_reducible refine (clashS_any y x _ _ t _ Y4.out X4.out HT').mono ?_); rintro e w7 ⟨rfl, g7⟩))
      go_ret
      exact ⟨rfl, P1.out.trans (PR.out.trans ((Grown.past g4).trans ((Grown.past g5).trans ((Grown.past g6).trans (Grown.past g7)))))⟩
end Go.Proofs.Ytgbedoffgahhaaa
