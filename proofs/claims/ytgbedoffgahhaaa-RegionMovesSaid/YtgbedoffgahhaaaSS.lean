/- quiltref12.Clash; the law's few. -/
import Derived.Test.YtgbedoffgahhaaaSR
namespace Go.Proofs.Ytgbedoffgahhaaa
open Go.ChangeShapes Go.WideShapes Go.ChangeAt Go.RowKit
set_option maxRecDepth 20000
set_option linter.unusedVariables false
set_option linter.unusedSimpArgs false
theorem spans_cut {W : World} {A : Option Addr} {n cap : Nat} {xs : List SpD} (k : Nat) (hk : k ≤ n) (h : IsSpans W (.slice A n cap) xs) : IsSpans W (.slice A k cap) (xs.take k) := by
  obtain ⟨A', cap', e, h2, h3, h4, h5, h6⟩ := h
  simp only [Value.slice.injEq] at e
  obtain ⟨rfl, rfl, rfl⟩ := e
  have hl : (xs.take k).length = k := by rw [List.length_take]; omega
  refine ⟨A, cap, by rw [hl], by omega, h3, h4, fun x hx => h5 x (List.mem_of_mem_take hx), fun hp => ?_⟩
  obtain ⟨b, off, e, hb, hc⟩ := h6 (by omega)
  refine ⟨b, off, e, hb, fun i hi => ?_⟩
  have := hc i (by omega)
  simpa [List.getD, List.getElem?_take_of_lt (show i < k by omega)] using this
set_option maxHeartbeats 1000000 in
theorem few_any (xs : List SpD) (v : Value) (W : World) (hv : IsSpans W v xs) : Calls Try.prog 8 #[v] W fun e w' => ∃ v', e = .returned v' ∧ IsSpans W v' (xs.take 40) ∧ w' = W := by
  have HV := Lib.hid hv
  obtain ⟨A, c1, rfl, a1, a2, a3, a4, a5⟩ := hv
  have hl1 : xs.length ≤ 9223372036854775807 := by unfold maxLen at a2; omega
  clear a3 a4 a5 a2
  by_cases c : 40 < xs.length
  · have d1 : decide ((40 : Int) < (xs.length : Int)) = true := by simp; omega
    have i1 : (40 : Int) ≤ (c1 : Int) := by omega
    go_enter Try.func8, Try.ntmps8
    go_wp2_with fail
    go_ret
    exact ⟨_, rfl, spans_cut 40 (by omega) HV.out, rfl⟩
  · have d1 : decide ((40 : Int) < (xs.length : Int)) = false := by simp; omega
    go_enter Try.func8, Try.ntmps8
    go_wp2_with fail
    go_ret
    exact ⟨_, rfl, by rw [List.take_of_length_le (by omega)]; exact HV.out, rfl⟩
set_option maxHeartbeats 4000000 in
theorem rclash_any (a b : List SpD) (va vb : Value) (W : World) (t : Bool) (ha : IsSpans W va a) (hb : IsSpans W vb b) (ht : Hid (t = clashD a b)) : Calls Try.prog 12 #[va, vb] W fun e w' => e = .returned (.bool t) ∧ Grown W w' := by
  obtain ⟨A, ca, rfl, a1, a2, a3, a4, a5⟩ := ha
  obtain ⟨B, cb, rfl, b1, b2, b3, b4, b5⟩ := hb
  have hl1 : a.length ≤ 9223372036854775807 := by unfold maxLen at a2; omega
  have hl2 : b.length ≤ 9223372036854775807 := by unfold maxLen at b2; omega
  have A5 := Lib.hid a5
  have B5 := Lib.hid b5
  clear a2 a3 a4 a5 b2 b3 b4 b5
  go_enter Try.func12, Try.ntmps12
  go_wp2_with fail
  go_loopw [4, 5] (fun s i wr => ∃ k : Nat, k ≤ a.length ∧ s = .bool false ∧ i = .int .i64 k ∧ Hid (∀ j, j < k → (b.any fun y => meets (a.getD j default) y) = false) ∧ Grown W wr) (fun _ i _ => a.length - (intOf i).toNat)
  case atStart => exact ⟨0, by omega, rfl, rfl, Lib.hid (fun j h => by omega), Grown.refl _⟩
  case round =>
    obtain ⟨k, hk, rfl, rfl, hs, hg⟩ := hrel
    obtain ⟨w8, h8⟩ : ∃ w8, w8 = wr := ⟨_, rfl⟩
    subst h8
    by_cases l : k < a.length
    · obtain ⟨bb, off, rfl, hbb, hc⟩ := A5.out (by omega)
      have AT := Lib.hid (fun w (g : Grown W w) => (hc k l).grow hbb (Grown.past g))
      have hm : a.getD k default ∈ a := by simp [List.getD, l]
      obtain ⟨x, hx⟩ : ∃ x, a.getD k default = x := ⟨_, rfl⟩
      rw [hx] at AT hm
      have HX := Lib.hid hx
      have HM := Lib.hid hm
      clear hc hm hx
      have i1 : (0 : Int) ≤ (k : Int) := by omega
      have i2 : (k : Int) < (a.length : Int) := by omega
      go_wp2_with fail
      go_loopw [4, 6] (fun s i wr => ∃ n : Nat, n ≤ b.length ∧ s = .bool false ∧ i = .int .i64 n ∧ Hid (∀ j, j < n → meets x (b.getD j default) = false) ∧ Grown W wr) (fun _ i _ => b.length - (intOf i).toNat)
      case atStart => exact ⟨0, by omega, rfl, rfl, Lib.hid (fun j h => by omega), hg⟩
      case round =>
        obtain ⟨n, hn, rfl, rfl, hs2, hg2⟩ := hrel
        by_cases l2 : n < b.length
        · obtain ⟨bc, off2, rfl, hbc, hc2⟩ := B5.out (by omega)
          obtain ⟨m0, m1, m2, m3⟩ := AT.out wr hg2
          have hm2 : b.getD n default ∈ b := by simp [List.getD, l2]
          obtain ⟨y, hy⟩ : ∃ y, b.getD n default = y := ⟨_, rfl⟩
          rw [hy] at hm2
          have ATY := Lib.hid (fun w (g : Grown W w) => by have := (hc2 n l2).grow hbc (Grown.past g); rw [hy] at this; exact this)
          have HY := Lib.hid hy
          have HM2 := Lib.hid hm2
          clear hc2 hm2 hy
          have j1 : (0 : Int) ≤ (n : Int) := by omega
          have j2 : (n : Int) < (b.length : Int) := by omega
          go_upto_region 8 with fail
          refine opq (fun w' => (∀ o : Nat, w'.cell? ⟨wr.heap.size, o, none⟩ = (#[.int .i64 x.m, .int .i64 x.f, .int .i64 x.t, .bool x.w] : Array Value)[o]?) ∧ Grown W w' ∧ w'.heap.size = wr.heap.size + 1) ⟨by (exact kKeep), by (exact kKeep), by simp⟩ ?_
          rintro w3 ⟨x1, g3, z3⟩
          obtain ⟨n0, n1, n2, n3⟩ := ATY.out w3 g3
          have Z3 := Lib.hid z3
          clear z3
          go_upto_region 9 with fail
          obtain ⟨Y, hY⟩ : ∃ Y, w3.heap.size = Y := ⟨_, rfl⟩
          try simp only [hY]
          refine opq (fun w' => (∀ o : Nat, w'.cell? ⟨wr.heap.size, o, none⟩ = (#[.int .i64 x.m, .int .i64 x.f, .int .i64 x.t, .bool x.w] : Array Value)[o]?) ∧ (∀ o : Nat, w'.cell? ⟨Y, o, none⟩ = (#[.int .i64 y.m, .int .i64 y.f, .int .i64 y.t, .bool y.w] : Array Value)[o]?) ∧ Grown W w') (by have := Z3.out; subst hY; (exact kKeep)) ?_
          rintro w4 ⟨x1, x2, g4⟩
          clear hY
          have G4 := Lib.hid g4
          clear m0 m1 m2 m3 n0 n1 n2 n3 g4 g3
          have E := Lib.hid (show meets x y = (x.m == y.m && decide (max x.f y.f < min x.t y.t) && (x.w || y.w)) from rfl)
          obtain ⟨c, hc⟩ : ∃ c, decide (max x.f y.f < min x.t y.t) = c := ⟨_, rfl⟩
          rw [hc] at E
          have hD : decide ((if x.f < y.f then y.f else x.f) < if y.t < x.t then y.t else x.t) = c := by rw [mx_of, mn_of]; exact hc
          obtain ⟨p, hp⟩ : ∃ p, (if x.f < y.f then y.f else x.f) = p := ⟨_, rfl⟩
          obtain ⟨q, hq⟩ : ∃ q, (if y.t < x.t then y.t else x.t) = q := ⟨_, rfl⟩
          rw [hp, hq] at hD
          cases e0 : (x.m == y.m)
          · go_wp2_with fail
            go_roundw
            case rel => exact ⟨n + 1, by omega, rfl, by go_num, Lib.hid (fun j h => by
              by_cases c : j = n
              · subst c; rw [HY.out, E.out, e0]; rfl
              · exact hs2.out j (by omega)), G4.out⟩
            case measure => simp [intOf]; omega
          obtain ⟨u, hu⟩ : ∃ u, x.w = u := ⟨_, rfl⟩
          obtain ⟨v, hv⟩ : ∃ v, y.w = v := ⟨_, rfl⟩
          rw [hu] at x1
          rw [hv] at x2
          rw [hu, hv] at E
          cases u <;> cases v
          · go_wp2_with fail
            go_roundw
            case rel => exact ⟨n + 1, by omega, rfl, by go_num, Lib.hid (fun j h => by
              by_cases c : j = n
              · subst c; rw [HY.out, E.out, e0]; simp
              · exact hs2.out j (by omega)), G4.out⟩
            case measure => simp [intOf]; omega
          all_goals
            cases c
            · go_wp2_with fail
              go_roundw
              case rel => exact ⟨n + 1, by omega, rfl, by go_num, Lib.hid (fun j h => by
                by_cases c : j = n
                · subst c; rw [HY.out, E.out, e0]; simp
                · exact hs2.out j (by omega)), G4.out⟩
              case measure => simp [intOf]; omega
            · go_wp2_with fail
              go_ret
              have T : clashD a b = true := List.any_eq_true.2 ⟨x, HM.out, List.any_eq_true.2 ⟨y, HM2.out, by rw [E.out, e0]; simp⟩⟩
              exact ⟨by rw [ht.out, T]; rfl, G4.out⟩
        · go_wp2_with fail
          go_roundw
          case rel => exact ⟨k + 1, by omega, rfl, by go_num, Lib.hid (fun j h => by
            by_cases c : j = k
            · subst c
              rw [HX.out, List.any_eq_false]
              intro y hy
              obtain ⟨j, hj, rfl⟩ := List.getElem_of_mem hy
              have := hs2.out j (by omega)
              simpa [List.getD, List.getElem?_eq_getElem hj] using this
            · exact hs.out j (by omega)), hg2⟩
          case measure => simp [intOf]; omega
    · go_wp2_with fail
      go_ret
      have T : clashD a b = false := by
        unfold clashD
        rw [List.any_eq_false]
        intro x hx
        obtain ⟨j, hj, rfl⟩ := List.getElem_of_mem hx
        have := hs.out j (by omega)
        simpa [List.getD, List.getElem?_eq_getElem hj] using this
      exact ⟨by rw [ht.out, T]; rfl, hg⟩
end Go.Proofs.Ytgbedoffgahhaaa
