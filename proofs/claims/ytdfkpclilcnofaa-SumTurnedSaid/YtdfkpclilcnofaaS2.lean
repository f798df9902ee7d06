/- The reference's Sum. -/
import Derived.Test.YtdfkpclilcnofaaS1
namespace Go.Proofs.Ytdfkpclilcnofaa
open Go.ChangeShapes Go.WideShapes Go.ChangeAt Go.RowKit
set_option maxRecDepth 20000
set_option linter.unusedVariables false


set_option maxHeartbeats 2000000 in
theorem rsum_same (bs : List Nat) (v : Value) (W : World) (h : IsNums .u8 W v (ints bs)) (hb : Bytes bs) (hl : bs.length ≤ 1000000) : Calls Try.prog 12 #[v] W fun e w' => e = .returned (.int .u32 ((sumD bs : Nat) : Int)) ∧ w' = W := by
  obtain ⟨A, cap, rfl, h2, h3, h4, h5, h6⟩ := h
  rw [ints_len] at h6 ⊢
  have L6 := Lib.hid h6
  have HB := Lib.hid hb
  clear h6 h5 h2 h4 hb
  go_enter Try.func12, Try.ntmps12
  go_wp2_with fail
  go_loopw [3, 4] (fun r i wr => ∃ (k R : Nat), k ≤ bs.length ∧ i = .int .i64 (k : Int) ∧ r = .int .u32 (R : Int) ∧ R < 4294967296 ∧ Hid (R = crc 4294967295 (bs.take k)) ∧ Hid (wr = W)) (fun _ i _ => bs.length - (intOf i).toNat)
  case atStart => exact ⟨0, 4294967295, by omega, rfl, rfl, by omega, Lib.hid (by simp [crc]), Lib.hid rfl⟩
  case round =>
    obtain ⟨k, R, hk, rfl, rfl, hR, eR, g⟩ := hrel
    by_cases c : k < bs.length
    · obtain ⟨b, off, rfl, hbb, hc⟩ := L6.out (by omega)
      have c0 := (congrArg (fun x : World => x.cell? ⟨b, off + k, none⟩) g.out).trans (hc k c)
      rw [ints_at] at c0
      have hx := HB.out.at k
      have nx : crc 4294967295 (bs.take (k + 1)) = byteD R (bs.getD k 0) := by
        rw [List.take_succ_eq_append_getElem c, crc_snoc, ← eR.out]; simp [List.getD, c]
      obtain ⟨x, ex⟩ : ∃ x, bs.getD k 0 = x := ⟨_, rfl⟩
      rw [ex] at c0 hx nx
      have NX := Lib.hid nx
      have e1 := xor32 (a := R) (b := x) (by omega) (by omega)
      have b1 := Nat.xor_lt_two_pow (x := R) (y := x) (n := 32) (by omega) (by omega)
      clear nx ex hc eR
      obtain ⟨Y, eY⟩ : ∃ Y, R ^^^ x = Y := ⟨_, rfl⟩
      rw [eY] at e1 b1
      have EY := Lib.hid eY
      clear eY
      go_wp2_with fail
      go_loopw [3, 5] (fun r i wr => ∃ (m q : Nat), m ≤ 8 ∧ i = .int .i64 (m : Int) ∧ r = .int .u32 (q : Int) ∧ q < 4294967296 ∧ Hid (q = hvs m Y) ∧ Hid (wr = W)) (fun _ i _ => 8 - (intOf i).toNat)
      case atStart => exact ⟨0, Y, by omega, rfl, by first | rfl | (rw [e1]), by omega, Lib.hid rfl, g⟩
      case round =>
        clear g
        obtain ⟨m, q, hm, rfl, rfl, hq, eq, g⟩ := hrel
        by_cases d : m < 8
        · have e2 : (q : Int) % 2 = ((q % 2 : Nat) : Int) := by simp
          by_cases odd : q % 2 = 1
          · have nx : hv q = (q / 2) ^^^ 3988292384 := by unfold hv; rw [if_pos odd]
            have e3 := xor32 (a := q / 2) (b := 3988292384) (by omega) (by omega)
            have b3 : (q / 2) ^^^ 3988292384 < 4294967296 := Nat.xor_lt_two_pow (n := 32) (by omega) (by omega)
            rw [← nx] at e3 b3
            rw [odd] at e2
            have st : Hid (hv q = hvs (m + 1) Y) := Lib.hid (by rw [hvs_snoc, ← eq.out])
            clear nx eq
            obtain ⟨q', hq'⟩ : ∃ q', hv q = q' := ⟨_, rfl⟩
            rw [hq'] at e3 b3 st
            clear hq'
            go_wp2_with fail
            exact ⟨⟨m + 1, q', by omega, by simp, by simpa using e3, b3, st, g⟩, by simp [intOf]; omega⟩
          · have nx : hv q = q / 2 := by unfold hv; rw [if_neg odd]
            have ev : q % 2 = 0 := by omega
            rw [ev] at e2
            have st : Hid (q / 2 = hvs (m + 1) Y) := Lib.hid (by rw [hvs_snoc, ← eq.out, nx])
            clear nx eq
            go_wp2_with fail
            exact ⟨⟨m + 1, q / 2, by omega, by simp, by simp, by omega, st, g⟩, by simp [intOf]; omega⟩
        · go_wp2_with fail
          refine ⟨⟨k + 1, q, by omega, by simp, rfl, hq, ?_, g⟩, ?_⟩
          · refine Lib.hid ?_
            rw [NX.out, eq.out]
            have : m = 8 := by omega
            rw [this]
            unfold byteD
            rw [EY.out]
          · simp [intOf]; omega
    · have e4 : Hid (bits .xor .u32 (R : Int) 4294967295 = ((sumD bs : Nat) : Int)) := Lib.hid (by
        have := xor32 (a := R) (b := 4294967295) (by omega) (by omega)
        rw [show (4294967295 : Int) = ((4294967295 : Nat) : Int) by decide, this]
        unfold sumD
        rw [eR.out, List.take_of_length_le (by omega)])
      go_wp2_with fail
      go_ret
      exact ⟨by rw [e4.out]; rfl, g.out⟩
theorem rsum_any (bs : List Nat) (v : Value) (W : World) (h : IsNums .u8 W v (ints bs)) (hb : Bytes bs) (hl : bs.length ≤ 1000000) : Calls Try.prog 12 #[v] W fun e w' => e = .returned (.int .u32 ((sumD bs : Nat) : Int)) ∧ Grown W w' :=
  (rsum_same bs v W h hb hl).mono fun e w' he => ⟨he.1, by rw [he.2]; exact Grown.refl _⟩
end Go.Proofs.Ytdfkpclilcnofaa
