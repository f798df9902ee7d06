/- region: May, clash; the reference's May. -/
import Derived.Test.YtgbedoffgahhaaaSQ
import Derived.Test.YtgbedoffgahhaaaG2
import Derived.Deep.MidRow
import Derived.Laws.ResultCell
namespace Go.Proofs.Ytgbedoffgahhaaa
open Go.ChangeShapes Go.WideShapes Go.ChangeAt Go.RowKit
set_option maxRecDepth 20000
set_option linter.unusedVariables false
set_option linter.unusedSimpArgs false
theorem mx_of (a b : Int) : (if a < b then b else a) = max a b := by omega
theorem mn_of (a b : Int) : (if b < a then b else a) = min a b := by omega
set_option maxHeartbeats 4000000 in
theorem sclash_any (x y : SpD) (q : Bool) (W : World) (hq : Hid (q = meets x y)) : Calls Try.prog 22 #[.agg #[.int .i64 x.m, .int .i64 x.f, .int .i64 x.t, .bool x.w], .agg #[.int .i64 y.m, .int .i64 y.f, .int .i64 y.t, .bool y.w]] W fun e w' => e = .returned (.bool q) ∧ Grown W w' := by
  obtain ⟨m, f, t, wr⟩ := x
  obtain ⟨m', f', t', wr'⟩ := y
  have HQ := hq.out
  clear hq
  unfold meets at HQ
  dsimp only at HQ ⊢
  go_enter Try.func22, Try.ntmps22
  go_upto_region 1 with fail
  refine opq (fun w' => (∀ o : Nat, w'.cell? ⟨W.heap.size, o, none⟩ = (#[.int .i64 m, .int .i64 f, .int .i64 t, .bool wr] : Array Value)[o]?) ∧ (∀ o : Nat, w'.cell? ⟨W.heap.size + 1, o, none⟩ = (#[.int .i64 m', .int .i64 f', .int .i64 t', .bool wr'] : Array Value)[o]?) ∧ Grown W w' ∧ W.heap.size + 2 ≤ w'.heap.size) kKeep ?_
  rintro w1 ⟨b1, b2, g1, z1⟩
  go_upto_region 2 with fail
  obtain ⟨c, hc⟩ : ∃ c, decide (max f f' < min t t') = c := ⟨_, rfl⟩
  have hD : decide ((if f < f' then f' else f) < if t' < t then t' else t) = c := by rw [mx_of, mn_of]; exact hc
  obtain ⟨a, ha⟩ : ∃ a, (if f < f' then f' else f) = a := ⟨_, rfl⟩
  obtain ⟨b, hb⟩ : ∃ b, (if t' < t then t' else t) = b := ⟨_, rfl⟩
  simp only [hD]
  simp only [ha, hb]
  rw [hc] at HQ
  clear ha hb
  have HQ' := Lib.hid HQ
  clear HQ hD hc
  have G1 := Lib.hid g1
  clear g1
  cases e0 : (m == m')
  · go_wp2_with fail
    go_ret
    exact ⟨by rw [HQ'.out, e0]; rfl, G1.out⟩
  cases c
  · go_wp2_with fail
    go_ret
    exact ⟨by rw [HQ'.out, e0]; rfl, G1.out⟩
  cases wr <;> cases wr'
  all_goals
    go_wp2_with fail
    go_ret
    exact ⟨by rw [HQ'.out, e0]; rfl, G1.out⟩
end Go.Proofs.Ytgbedoffgahhaaa
