/- region: May, clash; the reference's May. -/
import Derived.Test.YtgbedoffgahhaaaSP
import Derived.Test.YtgbedoffgahhaaaG2
import Derived.Deep.MidRow
import Derived.Laws.ResultCell
namespace Go.Proofs.Ytgbedoffgahhaaa
open Go.ChangeShapes Go.WideShapes Go.ChangeAt Go.RowKit
set_option maxRecDepth 20000
set_option linter.unusedVariables false
set_option linter.unusedSimpArgs false
set_option maxHeartbeats 4000000 in
theorem smay_no (m f t : Int) (wr : Bool) (W : World) (hm : ¬ (m = 0 ∨ m = 1)) : Calls Try.prog 9 #[.agg #[.int .i64 m, .int .i64 f, .int .i64 t, .bool wr]] W fun e w' => e = .returned (.int .i64 1) ∧ Grown W w' := by
  by_cases c : m < 0
  · have d0 : decide (m < 0) = true := by simpa using c
    go_enter Try.func9, Try.ntmps9
    go_upto_region 2 with fail
    refine opq (fun w' => (∀ o : Nat, w'.cell? ⟨W.heap.size, o, none⟩ = (#[.int .i64 m, .int .i64 f, .int .i64 t, .bool wr] : Array Value)[o]?) ∧ (∀ o : Nat, w'.cell? ⟨W.heap.size + 1, o, none⟩ = (#[.int .i64 65536, .int .i64 1024] : Array Value)[o]?) ∧ Grown W w' ∧ W.heap.size + 2 ≤ w'.heap.size) kKeep ?_
    rintro w1 ⟨b1, b2, g1, z1⟩
    go_wp2_with fail
    go_ret
    exact ⟨rfl, by (exact kKeep)⟩
  · have d0 : decide (m < 0) = false := by simpa using c
    have d1 : decide (2 ≤ m) = true := by simp; omega
    go_enter Try.func9, Try.ntmps9
    go_upto_region 2 with fail
    refine opq (fun w' => (∀ o : Nat, w'.cell? ⟨W.heap.size, o, none⟩ = (#[.int .i64 m, .int .i64 f, .int .i64 t, .bool wr] : Array Value)[o]?) ∧ (∀ o : Nat, w'.cell? ⟨W.heap.size + 1, o, none⟩ = (#[.int .i64 65536, .int .i64 1024] : Array Value)[o]?) ∧ Grown W w' ∧ W.heap.size + 2 ≤ w'.heap.size) kKeep ?_
    rintro w1 ⟨b1, b2, g1, z1⟩
    go_wp2_with fail
    go_ret
    exact ⟨rfl, by (exact kKeep)⟩
set_option maxHeartbeats 4000000 in
theorem smay_yes (m s f t q : Int) (wr : Bool) (W : World) (hm : (m = 0 ∧ s = 65536) ∨ (m = 1 ∧ s = 1024)) (hq : Hid (q = if f < 0 ∨ t < f ∨ s < t then 23 else 0)) : Calls Try.prog 9 #[.agg #[.int .i64 m, .int .i64 f, .int .i64 t, .bool wr]] W fun e w' => e = .returned (.int .i64 q) ∧ Grown W w' := by
  have HQ := hq.out
  clear hq
  by_cases c0 : f < 0
  · rw [if_pos (.inl c0)] at HQ
    subst HQ
    have d0 : decide (f < 0) = true := by simpa using c0
    rcases hm with ⟨rfl, rfl⟩ | ⟨rfl, rfl⟩
    · go_enter Try.func9, Try.ntmps9
      go_upto_region 2 with fail
      refine opq (fun w' => (∀ o : Nat, w'.cell? ⟨W.heap.size, o, none⟩ = (#[.int .i64 0, .int .i64 f, .int .i64 t, .bool wr] : Array Value)[o]?) ∧ (∀ o : Nat, w'.cell? ⟨W.heap.size + 1, o, none⟩ = (#[.int .i64 65536, .int .i64 1024] : Array Value)[o]?) ∧ Grown W w' ∧ W.heap.size + 2 ≤ w'.heap.size) kKeep ?_
      rintro w1 ⟨b1, b2, g1, z1⟩
      go_upto_region 4 with fail
      go_quiet (fail)
      go_wp2_with fail
      go_ret
      exact ⟨rfl, by (exact kKeep)⟩
    · go_enter Try.func9, Try.ntmps9
      go_upto_region 2 with fail
      refine opq (fun w' => (∀ o : Nat, w'.cell? ⟨W.heap.size, o, none⟩ = (#[.int .i64 1, .int .i64 f, .int .i64 t, .bool wr] : Array Value)[o]?) ∧ (∀ o : Nat, w'.cell? ⟨W.heap.size + 1, o, none⟩ = (#[.int .i64 65536, .int .i64 1024] : Array Value)[o]?) ∧ Grown W w' ∧ W.heap.size + 2 ≤ w'.heap.size) kKeep ?_
      rintro w1 ⟨b1, b2, g1, z1⟩
      go_upto_region 4 with fail
      go_quiet (fail)
      go_wp2_with fail
      go_ret
      exact ⟨rfl, by (exact kKeep)⟩
  by_cases c1 : t < f
  · rw [if_pos (.inr (.inl c1))] at HQ
    subst HQ
    have d0 : decide (f < 0) = false := by simpa using c0
    have d1 : decide (t < f) = true := by simpa using c1
    rcases hm with ⟨rfl, rfl⟩ | ⟨rfl, rfl⟩
    · go_enter Try.func9, Try.ntmps9
      go_upto_region 2 with fail
      refine opq (fun w' => (∀ o : Nat, w'.cell? ⟨W.heap.size, o, none⟩ = (#[.int .i64 0, .int .i64 f, .int .i64 t, .bool wr] : Array Value)[o]?) ∧ (∀ o : Nat, w'.cell? ⟨W.heap.size + 1, o, none⟩ = (#[.int .i64 65536, .int .i64 1024] : Array Value)[o]?) ∧ Grown W w' ∧ W.heap.size + 2 ≤ w'.heap.size) kKeep ?_
      rintro w1 ⟨b1, b2, g1, z1⟩
      go_upto_region 4 with fail
      go_quiet (fail)
      go_wp2_with fail
      go_ret
      exact ⟨rfl, by (exact kKeep)⟩
    · go_enter Try.func9, Try.ntmps9
      go_upto_region 2 with fail
      refine opq (fun w' => (∀ o : Nat, w'.cell? ⟨W.heap.size, o, none⟩ = (#[.int .i64 1, .int .i64 f, .int .i64 t, .bool wr] : Array Value)[o]?) ∧ (∀ o : Nat, w'.cell? ⟨W.heap.size + 1, o, none⟩ = (#[.int .i64 65536, .int .i64 1024] : Array Value)[o]?) ∧ Grown W w' ∧ W.heap.size + 2 ≤ w'.heap.size) kKeep ?_
      rintro w1 ⟨b1, b2, g1, z1⟩
      go_upto_region 4 with fail
      go_quiet (fail)
      go_wp2_with fail
      go_ret
      exact ⟨rfl, by (exact kKeep)⟩
  by_cases c2 : s < t
  · rw [if_pos (.inr (.inr c2))] at HQ
    subst HQ
    have d0 : decide (f < 0) = false := by simpa using c0
    have d1 : decide (t < f) = false := by simpa using c1
    have d2 : decide (s < t) = true := by simpa using c2
    rcases hm with ⟨rfl, rfl⟩ | ⟨rfl, rfl⟩
    · go_enter Try.func9, Try.ntmps9
      go_upto_region 2 with fail
      refine opq (fun w' => (∀ o : Nat, w'.cell? ⟨W.heap.size, o, none⟩ = (#[.int .i64 0, .int .i64 f, .int .i64 t, .bool wr] : Array Value)[o]?) ∧ (∀ o : Nat, w'.cell? ⟨W.heap.size + 1, o, none⟩ = (#[.int .i64 65536, .int .i64 1024] : Array Value)[o]?) ∧ Grown W w' ∧ W.heap.size + 2 ≤ w'.heap.size) kKeep ?_
      rintro w1 ⟨b1, b2, g1, z1⟩
      go_upto_region 4 with fail
      go_quiet (fail)
      go_wp2_with fail
      go_ret
      exact ⟨rfl, by (exact kKeep)⟩
    · go_enter Try.func9, Try.ntmps9
      go_upto_region 2 with fail
      refine opq (fun w' => (∀ o : Nat, w'.cell? ⟨W.heap.size, o, none⟩ = (#[.int .i64 1, .int .i64 f, .int .i64 t, .bool wr] : Array Value)[o]?) ∧ (∀ o : Nat, w'.cell? ⟨W.heap.size + 1, o, none⟩ = (#[.int .i64 65536, .int .i64 1024] : Array Value)[o]?) ∧ Grown W w' ∧ W.heap.size + 2 ≤ w'.heap.size) kKeep ?_
      rintro w1 ⟨b1, b2, g1, z1⟩
      go_upto_region 4 with fail
      go_quiet (fail)
      go_wp2_with fail
      go_ret
      exact ⟨rfl, by (exact kKeep)⟩
  rw [if_neg (fun h => by omega)] at HQ
  subst HQ
  have d0 : decide (f < 0) = false := by simpa using c0
  have d1 : decide (t < f) = false := by simpa using c1
  have d2 : decide (s < t) = false := by simpa using c2
  rcases hm with ⟨rfl, rfl⟩ | ⟨rfl, rfl⟩
  · go_enter Try.func9, Try.ntmps9
    go_upto_region 2 with fail
    refine opq (fun w' => (∀ o : Nat, w'.cell? ⟨W.heap.size, o, none⟩ = (#[.int .i64 0, .int .i64 f, .int .i64 t, .bool wr] : Array Value)[o]?) ∧ (∀ o : Nat, w'.cell? ⟨W.heap.size + 1, o, none⟩ = (#[.int .i64 65536, .int .i64 1024] : Array Value)[o]?) ∧ Grown W w' ∧ W.heap.size + 2 ≤ w'.heap.size) kKeep ?_
    rintro w1 ⟨b1, b2, g1, z1⟩
    go_upto_region 4 with fail
    go_quiet (fail)
    go_wp2_with fail
    go_ret
    exact ⟨rfl, by (exact kKeep)⟩
  · go_enter Try.func9, Try.ntmps9
    go_upto_region 2 with fail
    refine opq (fun w' => (∀ o : Nat, w'.cell? ⟨W.heap.size, o, none⟩ = (#[.int .i64 1, .int .i64 f, .int .i64 t, .bool wr] : Array Value)[o]?) ∧ (∀ o : Nat, w'.cell? ⟨W.heap.size + 1, o, none⟩ = (#[.int .i64 65536, .int .i64 1024] : Array Value)[o]?) ∧ Grown W w' ∧ W.heap.size + 2 ≤ w'.heap.size) kKeep ?_
    rintro w1 ⟨b1, b2, g1, z1⟩
    go_upto_region 4 with fail
    go_quiet (fail)
    go_wp2_with fail
    go_ret
    exact ⟨rfl, by (exact kKeep)⟩
theorem smay_any (x : SpD) (q : Int) (W : World) (hq : Hid (q = spanE x)) : Calls Try.prog 9 #[.agg #[.int .i64 x.m, .int .i64 x.f, .int .i64 x.t, .bool x.w]] W fun e w' => e = .returned (.int .i64 q) ∧ Grown W w' := by
  have HQ := hq.out
  unfold spanE at HQ
  by_cases hm : x.m = 0 ∨ x.m = 1
  · rw [if_neg (fun h => h hm)] at HQ
    refine smay_yes x.m (if x.m = 1 then 1024 else 65536) x.f x.t q x.w W ?_ (Lib.hid HQ)
    rcases hm with h | h
    · left; exact ⟨h, by rw [h]; rfl⟩
    · right; exact ⟨h, by rw [h]; rfl⟩
  · rw [if_pos hm] at HQ
    subst HQ
    exact smay_no x.m x.f x.t x.w W hm
set_option maxHeartbeats 4000000 in
theorem rsmay_no (m f t : Int) (wr : Bool) (W : World) (hm : ¬ (m = 0 ∨ m = 1)) : Calls Try.prog 10 #[.agg #[.int .i64 m, .int .i64 f, .int .i64 t, .bool wr]] W fun e w' => e = .returned (.int .i64 1) ∧ Grown W w' := by
  have d0 : (m != 0) = true := by simp; omega
  have d1 : (m != 1) = true := by simp; omega
  go_enter Try.func10, Try.ntmps10
  go_upto_region 1 with fail
  refine opq (fun w' => (∀ o : Nat, w'.cell? ⟨W.heap.size, o, none⟩ = (#[.int .i64 m, .int .i64 f, .int .i64 t, .bool wr] : Array Value)[o]?) ∧ Grown W w' ∧ W.heap.size + 1 ≤ w'.heap.size) kKeep ?_
  rintro w1 ⟨b1, g1, z1⟩
  go_wp2_with fail
  go_ret
  exact ⟨rfl, by (exact kKeep)⟩
set_option maxHeartbeats 4000000 in
theorem rsmay_yes (m s f t q : Int) (wr : Bool) (W : World) (hm : (m = 0 ∧ s = 65536) ∨ (m = 1 ∧ s = 1024)) (hq : Hid (q = if f < 0 ∨ t < f ∨ s < t then 23 else 0)) : Calls Try.prog 10 #[.agg #[.int .i64 m, .int .i64 f, .int .i64 t, .bool wr]] W fun e w' => e = .returned (.int .i64 q) ∧ Grown W w' := by
  have HQ := hq.out
  clear hq
  by_cases c0 : f < 0
  · rw [if_pos (.inl c0)] at HQ
    subst HQ
    have d0 : decide (f < 0) = true := by simpa using c0
    rcases hm with ⟨rfl, rfl⟩ | ⟨rfl, rfl⟩
    · go_enter Try.func10, Try.ntmps10
      go_upto_region 1 with fail
      refine opq (fun w' => (∀ o : Nat, w'.cell? ⟨W.heap.size, o, none⟩ = (#[.int .i64 0, .int .i64 f, .int .i64 t, .bool wr] : Array Value)[o]?) ∧ Grown W w' ∧ W.heap.size + 1 ≤ w'.heap.size) kKeep ?_
      rintro w1 ⟨b1, g1, z1⟩
      go_wp2_with fail
      go_ret
      exact ⟨rfl, by (exact kKeep)⟩
    · go_enter Try.func10, Try.ntmps10
      go_upto_region 1 with fail
      refine opq (fun w' => (∀ o : Nat, w'.cell? ⟨W.heap.size, o, none⟩ = (#[.int .i64 1, .int .i64 f, .int .i64 t, .bool wr] : Array Value)[o]?) ∧ Grown W w' ∧ W.heap.size + 1 ≤ w'.heap.size) kKeep ?_
      rintro w1 ⟨b1, g1, z1⟩
      go_wp2_with fail
      go_ret
      exact ⟨rfl, by (exact kKeep)⟩
  by_cases c1 : t < f
  · rw [if_pos (.inr (.inl c1))] at HQ
    subst HQ
    have d0 : decide (f < 0) = false := by simpa using c0
    have d1 : decide (t < f) = true := by simpa using c1
    rcases hm with ⟨rfl, rfl⟩ | ⟨rfl, rfl⟩
    · go_enter Try.func10, Try.ntmps10
      go_upto_region 1 with fail
      refine opq (fun w' => (∀ o : Nat, w'.cell? ⟨W.heap.size, o, none⟩ = (#[.int .i64 0, .int .i64 f, .int .i64 t, .bool wr] : Array Value)[o]?) ∧ Grown W w' ∧ W.heap.size + 1 ≤ w'.heap.size) kKeep ?_
      rintro w1 ⟨b1, g1, z1⟩
      go_wp2_with fail
      go_ret
      exact ⟨rfl, by (exact kKeep)⟩
    · go_enter Try.func10, Try.ntmps10
      go_upto_region 1 with fail
      refine opq (fun w' => (∀ o : Nat, w'.cell? ⟨W.heap.size, o, none⟩ = (#[.int .i64 1, .int .i64 f, .int .i64 t, .bool wr] : Array Value)[o]?) ∧ Grown W w' ∧ W.heap.size + 1 ≤ w'.heap.size) kKeep ?_
      rintro w1 ⟨b1, g1, z1⟩
      go_wp2_with fail
      go_ret
      exact ⟨rfl, by (exact kKeep)⟩
  by_cases c2 : s < t
  · rw [if_pos (.inr (.inr c2))] at HQ
    subst HQ
    have d0 : decide (f < 0) = false := by simpa using c0
    have d1 : decide (t < f) = false := by simpa using c1
    have d2 : decide (s < t) = true := by simpa using c2
    rcases hm with ⟨rfl, rfl⟩ | ⟨rfl, rfl⟩
    · go_enter Try.func10, Try.ntmps10
      go_upto_region 1 with fail
      refine opq (fun w' => (∀ o : Nat, w'.cell? ⟨W.heap.size, o, none⟩ = (#[.int .i64 0, .int .i64 f, .int .i64 t, .bool wr] : Array Value)[o]?) ∧ Grown W w' ∧ W.heap.size + 1 ≤ w'.heap.size) kKeep ?_
      rintro w1 ⟨b1, g1, z1⟩
      go_wp2_with fail
      go_ret
      exact ⟨rfl, by (exact kKeep)⟩
    · go_enter Try.func10, Try.ntmps10
      go_upto_region 1 with fail
      refine opq (fun w' => (∀ o : Nat, w'.cell? ⟨W.heap.size, o, none⟩ = (#[.int .i64 1, .int .i64 f, .int .i64 t, .bool wr] : Array Value)[o]?) ∧ Grown W w' ∧ W.heap.size + 1 ≤ w'.heap.size) kKeep ?_
      rintro w1 ⟨b1, g1, z1⟩
      go_wp2_with fail
      go_ret
      exact ⟨rfl, by (exact kKeep)⟩
  rw [if_neg (fun h => by omega)] at HQ
  subst HQ
  have d0 : decide (f < 0) = false := by simpa using c0
  have d1 : decide (t < f) = false := by simpa using c1
  have d2 : decide (s < t) = false := by simpa using c2
  rcases hm with ⟨rfl, rfl⟩ | ⟨rfl, rfl⟩
  · go_enter Try.func10, Try.ntmps10
    go_upto_region 1 with fail
    refine opq (fun w' => (∀ o : Nat, w'.cell? ⟨W.heap.size, o, none⟩ = (#[.int .i64 0, .int .i64 f, .int .i64 t, .bool wr] : Array Value)[o]?) ∧ Grown W w' ∧ W.heap.size + 1 ≤ w'.heap.size) kKeep ?_
    rintro w1 ⟨b1, g1, z1⟩
    go_wp2_with fail
    go_ret
    exact ⟨rfl, by (exact kKeep)⟩
  · go_enter Try.func10, Try.ntmps10
    go_upto_region 1 with fail
    refine opq (fun w' => (∀ o : Nat, w'.cell? ⟨W.heap.size, o, none⟩ = (#[.int .i64 1, .int .i64 f, .int .i64 t, .bool wr] : Array Value)[o]?) ∧ Grown W w' ∧ W.heap.size + 1 ≤ w'.heap.size) kKeep ?_
    rintro w1 ⟨b1, g1, z1⟩
    go_wp2_with fail
    go_ret
    exact ⟨rfl, by (exact kKeep)⟩
theorem rsmay_any (x : SpD) (q : Int) (W : World) (hq : Hid (q = spanE x)) : Calls Try.prog 10 #[.agg #[.int .i64 x.m, .int .i64 x.f, .int .i64 x.t, .bool x.w]] W fun e w' => e = .returned (.int .i64 q) ∧ Grown W w' := by
  have HQ := hq.out
  unfold spanE at HQ
  by_cases hm : x.m = 0 ∨ x.m = 1
  · rw [if_neg (fun h => h hm)] at HQ
    refine rsmay_yes x.m (if x.m = 1 then 1024 else 65536) x.f x.t q x.w W ?_ (Lib.hid HQ)
    rcases hm with h | h
    · left; exact ⟨h, by rw [h]; rfl⟩
    · right; exact ⟨h, by rw [h]; rfl⟩
  · rw [if_pos hm] at HQ
    subst HQ
    exact rsmay_no x.m x.f x.t x.w W hm
end Go.Proofs.Ytgbedoffgahhaaa
