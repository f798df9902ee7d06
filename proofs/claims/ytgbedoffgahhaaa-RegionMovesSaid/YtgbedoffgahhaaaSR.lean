/- region: Clash and its closures; slices.ContainsFunc over spans. -/
import Derived.Test.YtgbedoffgahhaaaSQc
namespace Go.Proofs.Ytgbedoffgahhaaa
open Go.ChangeShapes Go.WideShapes Go.ChangeAt Go.RowKit
set_option maxRecDepth 20000
set_option linter.unusedVariables false
set_option linter.unusedSimpArgs false
set_option maxHeartbeats 1000000 in
theorem indexSpans_any (fid : FuncId) (cp : Addr) (p : SpD → Bool) (xs : List SpD) (v : Value) (W : World) (hv : IsSpans W v xs)
    (hE : ∀ (xs : Array Value) (w : World), (callFunc fid xs).run Try.prog w = .ok (.enter fid xs) w)
    (hF : ∀ x ∈ xs, ∀ w, Grown W w → Calls Try.prog fid #[.agg #[.int .i64 x.m, .int .i64 x.f, .int .i64 x.t, .bool x.w], .pointer (some cp)] w fun e w' => e = .returned (.bool (p x)) ∧ Grown w w') :
    Calls Try.prog 29 #[v, .func (.func fid) #[] #[.pointer (some cp)]] W fun e w' => ∃ i : Int, e = .returned (.int .i64 i) ∧ ((0 ≤ i ∧ xs.any p = true) ∨ (i = -1 ∧ xs.any p = false)) ∧ Grown W w' := by
  obtain ⟨A, c1, rfl, a1, a2, a3, a4, a5⟩ := hv
  have hl1 : xs.length ≤ 9223372036854775807 := by unfold maxLen at a2; omega
  have HF := Lib.hid hF
  have HE := Lib.hid hE
  have A5 := Lib.hid a5
  clear a2 a3 a4 hF hE a5
  go_enter Try.func29, Try.ntmps29
  go_wp2_with fail
  go_loopw [8] (fun i wr => ∃ k : Nat, k ≤ xs.length ∧ i = .int .i64 k ∧ Hid (∀ j, j < k → p (xs.getD j default) = false) ∧ Grown W wr) (fun i _ => xs.length - (intOf i).toNat)
  case atStart => exact ⟨0, by omega, rfl, Lib.hid (fun j h => by omega), Grown.refl _⟩
  case round =>
    obtain ⟨k, hk, rfl, hs, hg⟩ := hrel
    by_cases l : k < xs.length
    · obtain ⟨b, off, rfl, hb, hc⟩ := A5.out (by omega)
      obtain ⟨m0, m1, m2, m3⟩ := (hc k l).grow hb (Grown.past hg)
      clear hc
      have hm : xs.getD k default ∈ xs := by simp [List.getD, l]
      obtain ⟨x, hx⟩ : ∃ x, xs.getD k default = x := ⟨_, rfl⟩
      rw [hx] at m0 m1 m2 m3 hm
      have HX := Lib.hid hx
      have HM := Lib.hid hm
      clear hx hm
      have i1 : (0 : Int) ≤ (k : Int) := by omega
      have i2 : (k : Int) < (xs.length : Int) := by omega
      have hE := fun xs w => HE.out xs w
      cases hp : p x with
      | true =>
        go_wp2_with fail
        refine (HF.out x HM.out _ kKeep).mono ?_; rintro e w1 ⟨rfl, g⟩
        rw [hp]
        clear hE
        go_wp2_with fail
        go_ret
        exact ⟨_, rfl, .inl ⟨by omega, List.any_eq_true.2 ⟨x, HM.out, hp⟩⟩, grown_trans hg g⟩
      | false =>
        go_wp2_with fail
        refine (HF.out x HM.out _ kKeep).mono ?_; rintro e w1 ⟨rfl, g⟩
        rw [hp]
        clear hE
        go_wp2_with fail
        go_roundw
        case rel => exact ⟨k + 1, by omega, by go_num, Lib.hid (fun j h => by
          by_cases c : j = k
          · subst c; rw [HX.out, hp]
          · exact hs.out j (by omega)), grown_trans hg g⟩
        case measure => simp [intOf]; omega
    · go_wp2_with fail
      go_ret
      refine ⟨_, rfl, .inr ⟨rfl, ?_⟩, hg⟩
      rw [List.any_eq_false]
      intro x hx
      obtain ⟨j, hj, rfl⟩ := List.getElem_of_mem hx
      have := hs.out j (by omega)
      simpa [List.getD, List.getElem?_eq_getElem hj] using this
theorem containsSpans_any (fid : FuncId) (cp : Addr) (p : SpD → Bool) (xs : List SpD) (v : Value) (W : World) (t : Bool) (hv : IsSpans W v xs)
    (hE : ∀ (xs : Array Value) (w : World), (callFunc fid xs).run Try.prog w = .ok (.enter fid xs) w)
    (hF : ∀ x ∈ xs, ∀ w, Grown W w → Calls Try.prog fid #[.agg #[.int .i64 x.m, .int .i64 x.f, .int .i64 x.t, .bool x.w], .pointer (some cp)] w fun e w' => e = .returned (.bool (p x)) ∧ Grown w w') (ht : Hid (t = xs.any p)) :
    Calls Try.prog 19 #[v, .func (.func fid) #[] #[.pointer (some cp)]] W fun e w' => e = .returned (.bool t) ∧ Grown W w' := by
  have H := Lib.hid (indexSpans_any fid cp p xs v W hv hE hF)
  obtain ⟨A, c1, rfl, a1, a2, a3, a4, a5⟩ := hv
  clear hE hF a1 a2 a3 a4 a5
  go_enter Try.func19, Try.ntmps19
  go_wp2_with fail
  refine H.out.mono ?_
  rintro e w1 ⟨i, rfl, hi, g⟩
  rcases hi with ⟨h0, ha⟩ | ⟨rfl, ha⟩
  · have T : t = true := ht.out.trans ha
    subst T
    go_wp2_with fail
    go_ret
    exact ⟨rfl, g⟩
  · have T : t = false := ht.out.trans ha
    subst T
    go_wp2_with fail
    go_ret
    exact ⟨rfl, g⟩
theorem enters_c11 : ∀ (xs : Array Value) (w : World), (callFunc 21 xs).run Try.prog w = .ok (.enter 21 xs) w := fun xs w => by kernel_rfl
theorem enters_c1 : ∀ (xs : Array Value) (w : World), (callFunc 20 xs).run Try.prog w = .ok (.enter 20 xs) w := fun xs w => by kernel_rfl
set_option maxHeartbeats 1000000 in
theorem c11_any (x y : SpD) (P : Nat) (W : World) (hP : (∀ o : Nat, W.cell? ⟨P, o, none⟩ = (#[.int .i64 x.m, .int .i64 x.f, .int .i64 x.t, .bool x.w] : Array Value)[o]?)) : Calls Try.prog 21 #[.agg #[.int .i64 y.m, .int .i64 y.f, .int .i64 y.t, .bool y.w], .pointer (some ⟨P, 0, none⟩)] W fun e w' => e = .returned (.bool (meets x y)) ∧ Grown W w' := by
  have hlt : P < W.heap.size := cell_lt (hP 0)
  obtain ⟨t, ht⟩ : ∃ t, t = meets x y := ⟨_, rfl⟩
  rw [← ht]
  have HT := Lib.hid ht
  clear ht
  go_enter Try.func21, Try.ntmps21
  go_upto_region 1 with fail
  refine opq (fun w' => (∀ o : Nat, w'.cell? ⟨W.heap.size, o, none⟩ = (#[.int .i64 y.m, .int .i64 y.f, .int .i64 y.t, .bool y.w] : Array Value)[o]?) ∧ (∀ o : Nat, w'.cell? ⟨P, o, none⟩ = (#[.int .i64 x.m, .int .i64 x.f, .int .i64 x.t, .bool x.w] : Array Value)[o]?) ∧ Grown W w' ∧ W.heap.size + 1 ≤ w'.heap.size) kKeep ?_
  rintro w1 ⟨b1, b2, g1, z1⟩
  go_wp2_with fail
  refine (sclash_any x y t _ HT).mono ?_
  rintro e w2 ⟨rfl, g2⟩
  go_wp2_with fail
  go_ret
  exact ⟨rfl, grown_trans g1 g2⟩
set_option maxHeartbeats 1000000 in
theorem c1_any (x : SpD) (b : List SpD) (vb : Value) (P : Nat) (W : World) (hP : (∀ o : Nat, W.cell? ⟨P, o, none⟩ = (#[vb] : Array Value)[o]?)) (hlt : P < W.heap.size) (hb : IsSpans W vb b) : Calls Try.prog 20 #[.agg #[.int .i64 x.m, .int .i64 x.f, .int .i64 x.t, .bool x.w], .pointer (some ⟨P, 0, none⟩)] W fun e w' => e = .returned (.bool (b.any fun y => meets x y)) ∧ Grown W w' := by
  have HB := Lib.hid hb
  obtain ⟨A, c1, rfl, a1, a2, a3, a4, a5⟩ := hb
  clear a1 a2 a3 a4 a5
  obtain ⟨t, ht⟩ : ∃ t, t = b.any fun y => meets x y := ⟨_, rfl⟩
  rw [← ht]
  have HT := Lib.hid ht
  clear ht
  go_enter Try.func20, Try.ntmps20
  go_upto_region 1 with fail
  refine opq (fun w' => (∀ o : Nat, w'.cell? ⟨W.heap.size, o, none⟩ = (#[.int .i64 x.m, .int .i64 x.f, .int .i64 x.t, .bool x.w] : Array Value)[o]?) ∧ (∀ o : Nat, w'.cell? ⟨P, o, none⟩ = (#[.slice A b.length c1] : Array Value)[o]?) ∧ Grown W w' ∧ W.heap.size + 1 ≤ w'.heap.size) kKeep ?_
  rintro w1 ⟨b1, b2, g1, z1⟩
  have B1 := Lib.hid b1
  have G1 := Lib.hid g1
  go_wp2_with fail
  refine (containsSpans_any 21 ⟨W.heap.size, 0, none⟩ (fun y => meets x y) b _ _ t (HB.out.grow (Grown.past kKeep)) enters_c11 (fun y hy w g => c11_any x y W.heap.size w (box_grown (grown_trans kKeep g) B1.out (by omega))) HT).mono ?_
  rintro e w2 ⟨rfl, g2⟩
  go_wp2_with fail
  go_ret
  exact ⟨rfl, by (exact kKeep)⟩
set_option maxHeartbeats 1000000 in
theorem clashS_any (a b : List SpD) (va vb : Value) (t : Bool) (W : World) (ha : IsSpans W va a) (hb : IsSpans W vb b) (ht : Hid (t = clashD a b)) : Calls Try.prog 11 #[va, vb] W fun e w' => e = .returned (.bool t) ∧ Grown W w' := by
  have HA := Lib.hid ha
  have HB := Lib.hid hb
  obtain ⟨A, c1, rfl, a1, a2, a3, a4, a5⟩ := ha
  obtain ⟨B, c2, rfl, b1, b2, b3, b4, b5⟩ := hb
  clear a1 a2 a3 a4 a5 b1 b2 b3 b4 b5
  go_enter Try.func11, Try.ntmps11
  go_upto_region 1 with fail
  refine opq (fun w' => (∀ o : Nat, w'.cell? ⟨W.heap.size, o, none⟩ = (#[.slice B b.length c2] : Array Value)[o]?) ∧ Grown W w' ∧ W.heap.size + 1 ≤ w'.heap.size) kKeep ?_
  rintro w1 ⟨b1, g1, z1⟩
  have B1 := Lib.hid b1
  go_wp2_with fail
  refine (containsSpans_any 20 ⟨W.heap.size, 0, none⟩ (fun x => b.any fun y => meets x y) a _ _ t (HA.out.grow (Grown.past kKeep)) enters_c1 (fun x hx w g => c1_any x b _ W.heap.size w (box_grown g B1.out (by omega)) (Nat.lt_of_lt_of_le (show W.heap.size < w1.heap.size by omega) (Grown.past g).2.2.1) (HB.out.grow (Grown.past (grown_trans g1 g)))) ht).mono ?_
  rintro e w2 ⟨rfl, g2⟩
  go_wp2_with fail
  go_ret
  exact ⟨rfl, grown_trans g1 g2⟩
end Go.Proofs.Ytgbedoffgahhaaa
