/- The reference's Reach; Reach, whatever numbers; the document's example. -/
import Derived.Test.YtcidpbdgikkndaaRef
namespace Go.Proofs.Ytcidpbdgikkndaa
open Go.ChangeShapes Go.WideShapes Go.ChangeAt Go.RowKit

theorem rreach_no (first rows k stride pad size n : Int) (w : World) (h1 : -9223372036854775808 ≤ first) (h2 : first ≤ 9223372036854775807) (hn : Hid (n = outI size k stride pad)) (h : n = 0 ∨ first < 0 ∨ rows < 1 ∨ n - first < rows) :
    Calls Try.prog 21 #[.int .i64 first, .int .i64 rows, .int .i64 k, .int .i64 stride, .int .i64 pad, .int .i64 size] w fun e w' => e = .returned (.tuple #[.int .i64 0, .int .i64 0]) ∧ Grown w w' := by
  have n0 : 0 ≤ n ∧ n ≤ 97 := by rw [hn.out]; exact out_ge
  obtain ⟨n1, n2⟩ := n0
  by_cases c2 : first < 0
  · clear h
    go_enter Try.func21, Try.ntmps21
    go_wp2_with fail
    refine (rout_any size k stride pad n _ hn).mono ?_; rintro e w1 ⟨rfl, g1⟩
    go_wp2_with fail
    go_ret2
    exact ⟨rfl, grown_trans (by go_grown) g1⟩
  by_cases c3 : rows < 1
  · clear h
    go_enter Try.func21, Try.ntmps21
    go_wp2_with fail
    refine (rout_any size k stride pad n _ hn).mono ?_; rintro e w1 ⟨rfl, g1⟩
    go_wp2_with fail
    go_ret2
    exact ⟨rfl, grown_trans (by go_grown) g1⟩
  by_cases c4 : n < first
  · clear h
    go_enter Try.func21, Try.ntmps21
    go_wp2_with fail
    refine (rout_any size k stride pad n _ hn).mono ?_; rintro e w1 ⟨rfl, g1⟩
    go_wp2_with fail
    go_ret2
    exact ⟨rfl, grown_trans (by go_grown) g1⟩
  have c5 : n - first < rows := by omega
  clear h
  go_enter Try.func21, Try.ntmps21
  go_wp2_with fail
  refine (rout_any size k stride pad n _ hn).mono ?_; rintro e w1 ⟨rfl, g1⟩
  go_wp2_with fail
  go_ret2
  exact ⟨rfl, grown_trans (by go_grown) g1⟩

theorem St_bd2 {s size F T i f t : Int} (hs : size ≤ 64) (hs' : 1 ≤ size) (J : (T = 0 ∧ F = 0) ∨ (0 < T ∧ 0 ≤ F ∧ F ≤ max s 0)) (hT : T ≤ size) (hF : s ≤ 100) (H : St s size F T i f t) : 0 ≤ f ∧ f ≤ 100 ∧ 0 ≤ t ∧ t ≤ 64 := by unfold St at *; omega

set_option maxHeartbeats 2000000 in
theorem rreach_yes (first stride pad size n : Int) (kn m : Nat) (w : World) (hw : mayWin size kn stride pad) (hn : Hid (n = outI size kn stride pad)) (h1 : 0 ≤ first) (h2 : 1 ≤ m) (h3 : (m : Int) ≤ n - first) :
    Calls Try.prog 21 #[.int .i64 first, .int .i64 m, .int .i64 kn, .int .i64 stride, .int .i64 pad, .int .i64 size] w fun e w' => e = .returned (.tuple #[.int .i64 (rs first kn stride pad size m).1, .int .i64 (rs first kn stride pad size m).2]) ∧ Grown w w' := by
  have n0 : 1 ≤ n ∧ n ≤ 97 := by rw [hn.out]; exact out_bd hw
  obtain ⟨n1, n2⟩ := n0
  have HP : Hid (∀ j : Nat, j < m → 0 ≤ (first + j) * stride ∧ (first + j) * stride ≤ size + 2 * pad - kn) := Lib.hid (fun j hj => place_bd hw (by omega) (by have := hn.out; omega))
  obtain ⟨s1, s2, k1, k2, t1, t2, p1, p2, d⟩ := hw
  have m1 : m ≤ 97 := by omega
  have J := Lib.hid (rs_inv first kn stride pad size t1 s1 k1)
  go_enter Try.func21, Try.ntmps21
  go_wp2_with fail
  refine (rout_any size kn stride pad n _ hn).mono ?_; rintro e w1 ⟨rfl, g1⟩
  go_wp2_with fail
  go_loop [15, 16, 17] (fun f t p => ∃ j : Nat, j ≤ m ∧ p = .int .i64 (first + j) ∧ f = .int .i64 (rs first kn stride pad size j).1 ∧ t = .int .i64 (rs first kn stride pad size j).2) (fun _ _ p => (first + m - intOf p).toNat)
  case atStart => exact ⟨0, by omega, by simp, rfl, rfl⟩
  case round =>
    obtain ⟨j, hj, rfl, rfl, rfl⟩ := hrel
    by_cases hlt : j < m
    · obtain ⟨b1, b2⟩ := HP.out j hlt
      have J' := J.out j
      obtain ⟨F, hF⟩ : ∃ F, Hid (F = (rs first kn stride pad size j).1) := ⟨_, Lib.hid rfl⟩
      obtain ⟨T, hT⟩ : ∃ T, Hid (T = (rs first kn stride pad size j).2) := ⟨_, Lib.hid rfl⟩
      obtain ⟨s, hs⟩ : ∃ s, Hid (s = (first + j) * stride - pad) := ⟨_, Lib.hid rfl⟩
      rw [← hF.out, ← hT.out, ← hs.out] at J'
      rw [← hF.out, ← hT.out]
      have J2 : Hid ((T = 0 ∧ F = 0) ∨ (0 < T ∧ 0 ≤ F ∧ F ≤ max s 0)) := Lib.hid (by
        unfold leastI at J'; rw [← hs.out] at J'; omega)
      have hTs : T ≤ size := by omega
      have hs64 : s ≤ 100 := by rw [hs.out]; omega
      have hs16 : -16 ≤ s := by rw [hs.out]; omega
      clear J'
      go_wp2_with fail
      go_loop [15, 16, 18] (fun f t i => ∃ (a : Nat) (x y : Int), a ≤ kn ∧ i = .int .i64 a ∧ f = .int .i64 x ∧ t = .int .i64 y ∧ Hid (St s size F T a x y)) (fun _ _ i => kn - (intOf i).toNat)
      case atStart => exact ⟨0, F, T, by omega, rfl, rfl, rfl, Lib.hid (St_zero s size F T)⟩
      case round =>
        obtain ⟨a, x, y, ha, rfl, rfl, rfl, hst⟩ := hrel
        by_cases hlt2 : a < kn
        · obtain ⟨x1, x2, y1, y2⟩ := St_bd2 s2 s1 J2.out hTs hs64 hst.out
          have e1 := hs.out
          by_cases q1 : s + a < 0
          · have E := Lib.hid (St_out (Or.inl q1) (by omega) s1 hst.out)
            go_wp2_with fail
            go_round
            case rel => exact ⟨a + 1, x, y, by omega, by go_num, rfl, rfl, E⟩
            case measure => simp [intOf]; omega
          · by_cases q2 : size ≤ s + a
            · have E := Lib.hid (St_out (Or.inr q2) (by omega) s1 hst.out)
              go_wp2_with fail
              go_round
              case rel => exact ⟨a + 1, x, y, by omega, by go_num, rfl, rfl, E⟩
              case measure => simp [intOf]; omega
            · by_cases q3 : y = 0
              · have E := Lib.hid (St_new (by omega) (by omega) (by omega) J2.out q3 hst.out)
                have e0 : (y == 0) = true := by simpa using q3
                go_wp2_with fail
                go_round
                case rel => exact ⟨a + 1, s + a, s + a + 1, by omega, by go_num, by rw [hs.out], by rw [hs.out], E⟩
                case measure => simp [intOf]; omega
              · have e0 : (y == 0) = false := by simpa using q3
                by_cases q4 : y ≤ s + a + 1
                · obtain ⟨q5, E0⟩ := St_old (u := s + a + 1) (by omega) (by omega) (by omega) J2.out q3 (by omega) hst.out
                  have E := Lib.hid E0
                  clear E0
                  go_wp2_with fail
                  all_goals
                    go_round
                    case rel => exact ⟨a + 1, x, s + a + 1, by omega, by go_num, by first | rfl | (congr 1; omega), by first | rfl | (congr 1; omega), E⟩
                    case measure => simp [intOf]; omega
                · obtain ⟨q5, E0⟩ := St_old (u := y) (by omega) (by omega) (by omega) J2.out q3 (by omega) hst.out
                  have E := Lib.hid E0
                  clear E0
                  go_wp2_with fail
                  all_goals
                    go_round
                    case rel => exact ⟨a + 1, x, y, by omega, by go_num, by first | rfl | (congr 1; omega), by first | rfl | (congr 1; omega), E⟩
                    case measure => simp [intOf]; omega
        · obtain rfl : a = kn := by omega
          have E := Lib.hid (St_end (j := j) t1 s1 k1 (by rw [← hs.out, ← hF.out, ← hT.out]; exact hst.out))
          go_wp2_with fail
          go_round
          case rel => exact ⟨j + 1, by omega, by go_num, by rw [E.out], by rw [E.out]⟩
          case measure => simp [intOf]; omega
    · obtain rfl : j = m := by omega
      go_wp2_with fail
      go_ret2
      exact ⟨rfl, grown_trans (by go_grown) g1⟩

def inR (first rows k stride pad size : Int) : Prop := mayWin size k stride pad ∧ 0 ≤ first ∧ 1 ≤ rows ∧ rows ≤ outI size k stride pad - first
open Classical in
/-- P2.3's two numbers. -/
noncomputable def reachI (first rows k stride pad size : Int) : Int × Int := if inR first rows k stride pad size then rs first k stride pad size rows.toNat else (0, 0)
theorem reachI_yes {first rows k stride pad size : Int} (h : inR first rows k stride pad size) : reachI first rows k stride pad size = rs first k stride pad size rows.toNat := by unfold reachI; rw [if_pos h]
theorem reachI_no {first rows k stride pad size : Int} (h : ¬ inR first rows k stride pad size) : reachI first rows k stride pad size = (0, 0) := by unfold reachI; rw [if_neg h]

theorem not_inR {first rows k stride pad size : Int} (h : ¬ inR first rows k stride pad size) : outI size k stride pad = 0 ∨ first < 0 ∨ rows < 1 ∨ outI size k stride pad - first < rows := by
  by_cases c : mayWin size k stride pad
  · by_cases c1 : 0 ≤ first
    · by_cases c2 : 1 ≤ rows
      · have : ¬ rows ≤ outI size k stride pad - first := fun c3 => h ⟨c, c1, c2, c3⟩
        omega
      · omega
    · omega
  · exact Or.inl (outI_no c)

theorem reach_any (first rows k stride pad size a b : Int) (w : World) (h1 : -9223372036854775808 ≤ first) (h2 : first ≤ 9223372036854775807) (ha : Hid (a = (reachI first rows k stride pad size).1)) (hb : Hid (b = (reachI first rows k stride pad size).2)) :
    Calls Try.prog 20 #[.int .i64 first, .int .i64 rows, .int .i64 k, .int .i64 stride, .int .i64 pad, .int .i64 size] w fun e w' => e = .returned (.tuple #[.int .i64 a, .int .i64 b]) ∧ Grown w w' := by
  rw [ha.out, hb.out]
  by_cases h : inR first rows k stride pad size
  · rw [reachI_yes h]
    obtain ⟨c, c1, c2, c3⟩ := h
    obtain ⟨m, rfl⟩ : ∃ m : Nat, rows = m := ⟨rows.toNat, by omega⟩
    rw [Int.toNat_natCast]
    exact reach_yes first k stride pad size _ m w c (Lib.hid rfl) c1 (by omega) c3
  · rw [reachI_no h]
    exact reach_no first rows k stride pad size _ w h1 h2 (Lib.hid rfl) (not_inR h)

theorem rreach_any (first rows k stride pad size a b : Int) (w : World) (h1 : -9223372036854775808 ≤ first) (h2 : first ≤ 9223372036854775807) (ha : Hid (a = (reachI first rows k stride pad size).1)) (hb : Hid (b = (reachI first rows k stride pad size).2)) :
    Calls Try.prog 21 #[.int .i64 first, .int .i64 rows, .int .i64 k, .int .i64 stride, .int .i64 pad, .int .i64 size] w fun e w' => e = .returned (.tuple #[.int .i64 a, .int .i64 b]) ∧ Grown w w' := by
  rw [ha.out, hb.out]
  by_cases h : inR first rows k stride pad size
  · rw [reachI_yes h]
    obtain ⟨c, c1, c2, c3⟩ := h
    obtain ⟨m, rfl⟩ : ∃ m : Nat, rows = m := ⟨rows.toNat, by omega⟩
    obtain ⟨kn, rfl⟩ : ∃ kn : Nat, k = kn := ⟨k.toNat, by have := c.2.2.1; omega⟩
    rw [Int.toNat_natCast]
    exact rreach_yes first stride pad size _ kn m w c (Lib.hid rfl) c1 (by omega) c3
  · rw [reachI_no h]
    exact rreach_no first rows k stride pad size _ w h1 h2 (Lib.hid rfl) (not_inR h)

theorem shown_any (w : World) : Calls Try.prog 11 #[] w fun e w' => e = .returned (.bool true) ∧ Grown w w' := by
  have hw : mayWin 5 3 2 1 := by unfold mayWin; omega
  have ho : outI 5 3 2 1 = 3 := by rw [outI_yes hw]; decide
  have hr : reachI 1 2 3 2 1 5 = (1, 5) := by
    rw [reachI_yes ⟨hw, by omega, by omega, by omega⟩]
    decide
  have hs : sizeI 2 3 4 = 24 := by unfold sizeI; rw [if_pos (by unfold mayS; omega)]; decide
  have q1 := Lib.hid (show (1 : Int) = (reachI 1 2 3 2 1 5).1 by rw [hr])
  have q2 := Lib.hid (show (5 : Int) = (reachI 1 2 3 2 1 5).2 by rw [hr])
  have q3 := Lib.hid ho.symm
  have q4 := Lib.hid hs.symm
  clear hr hs ho
  go_enter Try.func11, Try.ntmps11
  go_wp2_with fail
  refine (reach_any 1 2 3 2 1 5 1 5 _ (by omega) (by omega) q1 q2).mono ?_; rintro e w1 ⟨rfl, g1⟩
  go_wp2_with fail
  refine (out_any 5 3 2 1 3 _ q3).mono ?_; rintro e w2 ⟨rfl, g2⟩
  go_wp2_with fail
  refine (size_any 2 3 4 24 _ q4).mono ?_; rintro e w3 ⟨rfl, g3⟩
  go_wp2_with fail
  go_ret
  exact ⟨rfl, grown_trans g1 (grown_trans g2 g3)⟩
end Go.Proofs.Ytcidpbdgikkndaa
