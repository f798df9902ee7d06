/- The reference's Index. -/
import Derived.Test.YtcidpbdgikkndaaRef
import Derived.Test.YtcidpbdgikkndaaIndex
namespace Go.Proofs.Ytcidpbdgikkndaa
open Go.ChangeShapes Go.WideShapes Go.ChangeAt Go.RowKit

theorem idx_bd {H W C i k j : Int} (h : mayS H W C) (i1 : 0 ≤ i) (i2 : i ≤ H) (k1 : 0 ≤ k) (k2 : k ≤ W) (j1 : 0 ≤ j) (j2 : j ≤ C) : 0 ≤ (i * W + k) * C + j ∧ (i * W + k) * C + j ≤ 3000 := by
  obtain ⟨a1, a2, b1, b2, d1, d2⟩ := h
  have m1 : 0 ≤ i * W := Int.mul_nonneg i1 (by omega)
  have m2 : i * W ≤ 16 * 16 := Int.mul_le_mul (by omega) b2 (by omega) (by omega)
  have m3 : 0 ≤ (i * W + k) * C := Int.mul_nonneg (by omega) (by omega)
  have m4 : (i * W + k) * C ≤ 300 * 8 := Int.mul_le_mul (by omega) d2 (by omega) (by omega)
  omega

theorem rindex_no (H W C y x c : Int) (w : World) (h : ¬ mayS H W C) :
    Calls Try.prog 19 #[.agg #[.int .i64 H, .int .i64 W, .int .i64 C], .int .i64 y, .int .i64 x, .int .i64 c] w fun e w' => e = .returned (.int .i64 (-1)) ∧ Grown w w' := by
  by_cases c1 : 0 < H
  · go_enter Try.func19, Try.ntmps19
    go_wp2_with fail
    go_loop [9, 10] (fun n i => n = .int .i64 0 ∧ i = .int .i64 0) (fun _ _ => 0)
    case atStart => exact ⟨rfl, rfl⟩
    case round =>
      obtain ⟨rfl, rfl⟩ := hrel
      go_wp2_with fail
      refine (rmay_no H W C _ h).mono ?_; rintro e w1 ⟨rfl, g1⟩
      go_wp2_with fail
      go_ret
      exact ⟨rfl, grown_trans (by go_grown) g1⟩
  · go_enter Try.func19, Try.ntmps19
    go_wp2_with fail
    go_loop [9, 10] (fun n i => n = .int .i64 0 ∧ i = .int .i64 0) (fun _ _ => 0)
    case atStart => exact ⟨rfl, rfl⟩
    case round =>
      obtain ⟨rfl, rfl⟩ := hrel
      go_wp2_with fail
      go_ret
      exact ⟨rfl, by go_grown⟩

set_option maxHeartbeats 2000000 in
theorem rindex_yes (y x c q : Int) (H W C : Nat) (w : World) (h : mayS H W C) (hq : Hid (q = indexI H W C y x c)) :
    Calls Try.prog 19 #[.agg #[.int .i64 H, .int .i64 W, .int .i64 C], .int .i64 y, .int .i64 x, .int .i64 c] w fun e w' => e = .returned (.int .i64 q) ∧ Grown w w' := by
  have BD := Lib.hid (fun (i k j : Nat) => idx_bd (i := i) (k := k) (j := j) h)
  have HM := Lib.hid h
  obtain ⟨a1, a2, b1, b2, d1, d2⟩ := id h
  clear h
  have facts : (w.alloc (.cells #[.int .i64 H, .int .i64 W, .int .i64 C] 23)).cell? ⟨w.heap.size, 0, none⟩ = some (.int .i64 H) ∧ (w.alloc (.cells #[.int .i64 H, .int .i64 W, .int .i64 C] 23)).cell? ⟨w.heap.size, 1, none⟩ = some (.int .i64 W) ∧ (w.alloc (.cells #[.int .i64 H, .int .i64 W, .int .i64 C] 23)).cell? ⟨w.heap.size, 2, none⟩ = some (.int .i64 C) ∧ w.heap.size < (w.alloc (.cells #[.int .i64 H, .int .i64 W, .int .i64 C] 23)).heap.size ∧ Grown w (w.alloc (.cells #[.int .i64 H, .int .i64 W, .int .i64 C] 23)) := ⟨by go_cell, by go_cell, by go_cell, by simp, by go_grown⟩
  go_enter Try.func19, Try.ntmps19
  go_wp2_with fail
  generalize w.alloc (.cells #[.int .i64 H, .int .i64 W, .int .i64 C] 23) = B at facts ⊢
  obtain ⟨c0, c1, c2, sz, gB⟩ := facts
  go_loopw [9, 10] (fun n i wr => ∃ a : Nat, a ≤ H ∧ i = .int .i64 a ∧ n = .int .i64 ((a * W + (0 : Nat)) * C + (0 : Nat)) ∧ Hid (inS H W C y x c → a ≤ y) ∧ Grown B wr) (fun _ i _ => H - (intOf i).toNat)
  case atStart => exact ⟨0, by omega, rfl, by simp, Lib.hid (fun h => by have := h.2.1; omega), Grown.refl _⟩
  case round =>
    obtain ⟨a, ha, rfl, rfl, hI, gr⟩ := hrel
    have e0 := (grown_cell gr (p := ⟨w.heap.size, 0, none⟩) sz).trans c0
    have e1 := (grown_cell gr (p := ⟨w.heap.size, 1, none⟩) sz).trans c1
    have e2 := (grown_cell gr (p := ⟨w.heap.size, 2, none⟩) sz).trans c2
    by_cases l1 : a < H
    · go_wp2_with fail
      refine (rmay_yes H W C _ HM.out).mono ?_; rintro e w3 ⟨rfl, g3⟩
      have szr : w.heap.size < wr.heap.size := by have := gr.2.2; omega
      have f1 := (grown_cell g3 (p := ⟨w.heap.size, 1, none⟩) szr).trans e1
      have f2 := (grown_cell g3 (p := ⟨w.heap.size, 2, none⟩) szr).trans e2
      have gr3 := grown_trans gr g3
      clear e0 e1 e2 gr g3 szr
      go_wp2_with fail
      go_loop [9, 11] (fun n i => ∃ b : Nat, b ≤ W ∧ i = .int .i64 b ∧ n = .int .i64 ((a * W + b) * C + (0 : Nat)) ∧ Hid (inS H W C y x c → a ≤ y ∧ (y = a → b ≤ x))) (fun _ i => W - (intOf i).toNat)
      case atStart => exact ⟨0, by omega, rfl, rfl, Lib.hid (fun h => ⟨hI.out h, fun _ => by have := h.2.2.2.1; omega⟩)⟩
      case round =>
        obtain ⟨b, hb, rfl, rfl, hJ⟩ := hrel
        by_cases l2 : b < W
        · go_wp2_with fail
          go_loop [9, 12] (fun n i => ∃ d : Nat, d ≤ C ∧ i = .int .i64 d ∧ n = .int .i64 ((a * W + b) * C + d) ∧ Hid (inS H W C y x c → a ≤ y ∧ (y = a → b ≤ x) ∧ (y = a ∧ x = b → d ≤ c))) (fun _ i => C - (intOf i).toNat)
          case atStart => exact ⟨0, by omega, rfl, rfl, Lib.hid (fun h => ⟨(hJ.out h).1, (hJ.out h).2, fun _ => by have := h.2.2.2.2.2.1; omega⟩)⟩
          case round =>
            obtain ⟨d, hd, rfl, rfl, hK⟩ := hrel
            obtain ⟨B1, B2⟩ := BD.out a b d (by omega) (by omega) (by omega) (by omega) (by omega) (by omega)
            by_cases l3 : d < C
            · by_cases q1 : (a : Int) = y
              · by_cases q2 : (b : Int) = x
                · by_cases q3 : (d : Int) = c
                  · have E : Hid ((a * W + b) * C + d = q) := Lib.hid (by
                      rw [hq.out, indexI_yes ⟨HM.out, by omega, by omega, by omega, by omega, by omega, by omega⟩, q1, q2, q3])
                    have t1 : ((a : Int) == y) = true := by simpa using q1
                    have t2 : ((b : Int) == x) = true := by simpa using q2
                    have t3 : ((d : Int) == c) = true := by simpa using q3
                    clear q1 q2 q3 B1 B2
                    go_wp2_with fail
                    go_ret
                    exact ⟨by rw [E.out]; rfl, grown_trans gB gr3⟩
                  · have E : Hid (inS H W C y x c → a ≤ y ∧ (y = a → b ≤ x) ∧ (y = a ∧ x = b → d + 1 ≤ c)) := Lib.hid (fun h => by have := hK.out h; omega)
                    have t1 : ((a : Int) == y) = true := by simpa using q1
                    have t2 : ((b : Int) == x) = true := by simpa using q2
                    have t3 : ((d : Int) == c) = false := by simpa using q3
                    clear q1 q2 q3
                    go_wp2_with fail
                    go_round
                    case rel => exact ⟨d + 1, by omega, by go_num, by go_num, E⟩
                    case measure => simp [intOf]; omega
                · have E : Hid (inS H W C y x c → a ≤ y ∧ (y = a → b ≤ x) ∧ (y = a ∧ x = b → d + 1 ≤ c)) := Lib.hid (fun h => by have := hK.out h; omega)
                  have t1 : ((a : Int) == y) = true := by simpa using q1
                  have t2 : ((b : Int) == x) = false := by simpa using q2
                  clear q1 q2
                  go_wp2_with fail
                  go_round
                  case rel => exact ⟨d + 1, by omega, by go_num, by go_num, E⟩
                  case measure => simp [intOf]; omega
              · have E : Hid (inS H W C y x c → a ≤ y ∧ (y = a → b ≤ x) ∧ (y = a ∧ x = b → d + 1 ≤ c)) := Lib.hid (fun h => by have := hK.out h; omega)
                have t1 : ((a : Int) == y) = false := by simpa using q1
                clear q1
                go_wp2_with fail
                go_round
                case rel => exact ⟨d + 1, by omega, by go_num, by go_num, E⟩
                case measure => simp [intOf]; omega
            · obtain rfl : d = C := by omega
              have E : Hid (inS H W d y x c → a ≤ y ∧ (y = a → b + 1 ≤ x)) := Lib.hid (fun h => by have := hK.out h; have := h.2.2.2.2.2.2; omega)
              have e : ((a : Int) * W + b) * d + d = (a * W + ((b + 1 : Nat) : Int)) * d + (0 : Nat) := by
                rw [Int.natCast_add, ← Int.add_assoc, Int.add_mul ((a : Int) * W + b)]; simp
              go_wp2_with fail
              go_round
              case rel => exact ⟨b + 1, by omega, by go_num, by rw [e], E⟩
              case measure => simp [intOf]; omega
        · obtain rfl : b = W := by omega
          have E : Hid (inS H b C y x c → ((a + 1 : Nat) : Int) ≤ y) := Lib.hid (fun h => by have := hJ.out h; have := h.2.2.2.2.1; omega)
          have e : ((a : Int) * b + b) * C + (0 : Nat) = (((a + 1 : Nat) : Int) * b + (0 : Nat)) * C + (0 : Nat) := by
            rw [Int.natCast_add, Int.add_mul (a : Int)]; simp
          go_wp2_with fail
          go_roundw
          case rel => exact ⟨a + 1, by omega, by go_num, by rw [e], E, gr3⟩
          case measure => simp [intOf]; omega
    · obtain rfl : a = H := by omega
      have E : q = -1 := by rw [hq.out]; exact indexI_no (fun h => by have := hI.out h; have := h.2.2.1; omega)
      subst E
      go_wp2_with fail
      go_ret
      exact ⟨rfl, grown_trans gB gr⟩

theorem rindex_any (H W C y x c q : Int) (w : World) (hq : Hid (q = indexI H W C y x c)) :
    Calls Try.prog 19 #[.agg #[.int .i64 H, .int .i64 W, .int .i64 C], .int .i64 y, .int .i64 x, .int .i64 c] w fun e w' => e = .returned (.int .i64 q) ∧ Grown w w' := by
  by_cases h : mayS H W C
  · obtain ⟨H', rfl⟩ : ∃ n : Nat, H = n := ⟨H.toNat, by have := h.1; omega⟩
    obtain ⟨W', rfl⟩ : ∃ n : Nat, W = n := ⟨W.toNat, by have := h.2.2.1; omega⟩
    obtain ⟨C', rfl⟩ : ∃ n : Nat, C = n := ⟨C.toNat, by have := h.2.2.2.2.1; omega⟩
    exact rindex_yes y x c q H' W' C' w h hq
  · rw [hq.out, indexI_no (fun k => h k.1)]
    exact rindex_no H W C y x c w h
end Go.Proofs.Ytcidpbdgikkndaa
