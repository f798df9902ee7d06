/- The law's shown. -/
import Derived.Test.YtgbedoffgahhaaaSS
namespace Go.Proofs.Ytgbedoffgahhaaa
open Go.ChangeShapes Go.WideShapes Go.ChangeAt Go.RowKit
set_option maxRecDepth 20000
set_option linter.unusedVariables false
set_option linter.unusedSimpArgs false
theorem spans_lit {w : World} {b : Nat} {x : SpD} (h : (∀ o : Nat, w.cell? ⟨b, o, none⟩ = (#[.int .i64 x.m, .int .i64 x.f, .int .i64 x.t, .bool x.w] : Array Value)[o]?)) (wf : SpWf x) : IsSpans w (.slice (some ⟨b, 0, none⟩) 1 1) [x] :=
  ⟨some ⟨b, 0, none⟩, 1, rfl, Nat.le_refl _, by unfold maxLen; decide, (fun h => by cases h), by simpa using wf, fun _ => ⟨b, 0, rfl, cell_lt (h 0), fun i hi => by
    obtain rfl : i = 0 := by simp at hi; omega
    exact ⟨h 0, h 1, h 2, h 3⟩⟩⟩
theorem engine_tile (W : World) : Calls Try.prog 18 #[.agg #[.int .i64 3, .int .i64 0, .int .i64 0, .int .i64 0, .int .i64 0, .int .i64 0, .int .i64 0, .int .i64 0, .int .i64 0, .int .i64 0, .int .i64 0, .int .i64 0, .int .i64 0, .int .i64 0]] W fun e w' => e = .returned (.int .i64 1) ∧ Grown W w' := by
  go_enter Try.func18, Try.ntmps18
  go_upto_region 1 with fail
  refine opq (fun w' => w'.cell? ⟨W.heap.size, 0, none⟩ = some (.int .i64 3) ∧ Grown W w') ⟨by rw [box_new rfl]; rfl, by (exact kKeep)⟩ ?_
  rintro w1 ⟨b1, g1⟩
  go_wp2_with fail
  go_ret
  exact ⟨rfl, g1⟩
set_option maxHeartbeats 2000000 in
theorem shown_any (W : World) : Calls Try.prog 7 #[] W fun e w' => e = .returned (.bool true) ∧ Past W w' := by
  go_enter Try.func7, Try.ntmps7
  go_upto_region 3 with fail
  obtain ⟨P, hP⟩ : ∃ P, W.heap.size = P := ⟨_, rfl⟩
  refine opq (fun w' => (∀ o : Nat, w'.cell? ⟨W.heap.size, o, none⟩ = (#[.int .i64 0, .int .i64 0, .int .i64 4, .bool false] : Array Value)[o]?) ∧ (∀ o : Nat, w'.cell? ⟨W.heap.size + 1, o, none⟩ = (#[.int .i64 0, .int .i64 3, .int .i64 5, .bool true] : Array Value)[o]?) ∧ Past W w') kKeep ?_
  rintro w1 ⟨b1, b2, p1⟩
  have s1 := Lib.hid (spans_lit (x := ⟨0, 0, 4, false⟩) b1 (by unfold SpWf; decide))
  have s2 := Lib.hid (spans_lit (x := ⟨0, 3, 5, true⟩) b2 (by unfold SpWf; decide))
  clear b1 b2 hP
  go_wp2_with (first
    | (go_at_call 11; with_reducible refine (clashS_any _ _ _ _ true _ s1.out s2.out (Lib.hid (by decide))).mono ?_; rintro e w2 ⟨rfl, g2⟩; have t1 := Lib.hid (s1.out.grow (Grown.past g2)))
    | (go_at_call 11; with_reducible refine (clashS_any _ _ _ _ false _ t1.out t1.out (Lib.hid (by decide))).mono ?_; rintro e w3 ⟨rfl, g3⟩)
    | (go_at_call 18; with_reducible refine (engine_tile _).mono ?_; rintro e w4 ⟨rfl, g4⟩))
  go_ret
  exact ⟨rfl, p1.trans ((Grown.past g2).trans ((Grown.past g3).trans (Grown.past g4)))⟩
end Go.Proofs.Ytgbedoffgahhaaa
