/- isa: fields of a kind. -/
import Derived.Test.YtgbedoffgahhaaaI1
namespace Go.Proofs.Ytgbedoffgahhaaa.Q8
open Go.ChangeShapes Go.WideShapes Go.ChangeAt Go.RowKit
set_option maxRecDepth 20000
set_option linter.unusedVariables false
set_option linter.unusedSimpArgs false

set_option maxHeartbeats 1000000 in
theorem part1_any (i : Nat) (hi : i = 0 ∨ i = 1) (P Q : Nat) (W : World) (hq : (∀ o : Nat, W.cell? ⟨Q, o, none⟩ = (#[.pointer (some ⟨P, 0, none⟩)] : Array Value)[o]?)) :
    Calls Try.prog 56 #[.int .i64 (i : Int), .pointer (some ⟨Q, 0, none⟩)] W fun e w' => e = .returned (fldV P ⟨8 + i, 0, 1023, 2⟩) ∧ Past W w' := by
  have hQ : Q < W.heap.size := cell_lt (hq 0)
  rcases hi with rfl | rfl
  all_goals
    go_enter Try.func56, Try.ntmps56
    go_upto_region 1 with fail
    refine opq (fun w' => (∀ o : Nat, w'.cell? ⟨Q, o, none⟩ = (#[.pointer (some ⟨P, 0, none⟩)] : Array Value)[o]?) ∧ (∀ o : Nat, w'.cell? ⟨W.heap.size, o, none⟩ = (#[.pointer none, .int .i64 0, .int .i64 0, .int .i64 0] : Array Value)[o]?) ∧ (∀ o : Nat, w'.frozen? ⟨W.heap.size, o, none⟩ = false) ∧ Past W w' ∧ W.heap.size + 1 ≤ w'.heap.size) kKeep ?_
    rintro w1 ⟨b1, b2, f2, p1, z1⟩
    have P1 := Lib.hid p1
    clear p1
    go_wp2_with fail
  · have b4 := box_set4 (y0 := .pointer (some ⟨P, 8 + 0, none⟩)) (y1 := .int .i64 0) (y2 := .int .i64 1023) (y3 := .int .i64 2) b2
    exact bodyPost_ret (v := .agg #[.pointer (some ⟨P, 8 + 0, none⟩), .int .i64 0, .int .i64 1023, .int .i64 2]) (by simp [results, Try.results56, go_sem, b4]) rfl ⟨rfl, by have := P1.out; (exact kKeep)⟩
  · have b4 := box_set4 (y0 := .pointer (some ⟨P, 8 + 1, none⟩)) (y1 := .int .i64 0) (y2 := .int .i64 1023) (y3 := .int .i64 2) b2
    exact bodyPost_ret (v := .agg #[.pointer (some ⟨P, 8 + 1, none⟩), .int .i64 0, .int .i64 1023, .int .i64 2]) (by simp [results, Try.results56, go_sem, b4]) rfl ⟨rfl, by have := P1.out; (exact kKeep)⟩
set_option maxHeartbeats 1000000 in
theorem part2_any (i : Nat) (hi : i = 0 ∨ i = 1) (P Q : Nat) (W : World) (hq : (∀ o : Nat, W.cell? ⟨Q, o, none⟩ = (#[.pointer (some ⟨P, 0, none⟩)] : Array Value)[o]?)) :
    Calls Try.prog 57 #[.int .i64 (i : Int), .pointer (some ⟨Q, 0, none⟩)] W fun e w' => e = .returned (fldV P ⟨10 + i, 0, 15, 1⟩) ∧ Past W w' := by
  have hQ : Q < W.heap.size := cell_lt (hq 0)
  rcases hi with rfl | rfl
  all_goals
    go_enter Try.func57, Try.ntmps57
    go_upto_region 1 with fail
    refine opq (fun w' => (∀ o : Nat, w'.cell? ⟨Q, o, none⟩ = (#[.pointer (some ⟨P, 0, none⟩)] : Array Value)[o]?) ∧ (∀ o : Nat, w'.cell? ⟨W.heap.size, o, none⟩ = (#[.pointer none, .int .i64 0, .int .i64 0, .int .i64 0] : Array Value)[o]?) ∧ (∀ o : Nat, w'.frozen? ⟨W.heap.size, o, none⟩ = false) ∧ Past W w' ∧ W.heap.size + 1 ≤ w'.heap.size) kKeep ?_
    rintro w1 ⟨b1, b2, f2, p1, z1⟩
    have P1 := Lib.hid p1
    clear p1
    go_wp2_with fail
  · have b4 := box_set4 (y0 := .pointer (some ⟨P, 10 + 0, none⟩)) (y1 := .int .i64 0) (y2 := .int .i64 15) (y3 := .int .i64 1) b2
    exact bodyPost_ret (v := .agg #[.pointer (some ⟨P, 10 + 0, none⟩), .int .i64 0, .int .i64 15, .int .i64 1]) (by simp [results, Try.results57, go_sem, b4]) rfl ⟨rfl, by have := P1.out; (exact kKeep)⟩
  · have b4 := box_set4 (y0 := .pointer (some ⟨P, 10 + 1, none⟩)) (y1 := .int .i64 0) (y2 := .int .i64 15) (y3 := .int .i64 1) b2
    exact bodyPost_ret (v := .agg #[.pointer (some ⟨P, 10 + 1, none⟩), .int .i64 0, .int .i64 15, .int .i64 1]) (by simp [results, Try.results57, go_sem, b4]) rfl ⟨rfl, by have := P1.out; (exact kKeep)⟩
set_option maxHeartbeats 1000000 in
theorem part3_any (i : Nat) (hi : i = 0 ∨ i = 1) (P Q : Nat) (W : World) (hq : (∀ o : Nat, W.cell? ⟨Q, o, none⟩ = (#[.pointer (some ⟨P, 0, none⟩)] : Array Value)[o]?)) :
    Calls Try.prog 58 #[.int .i64 (i : Int), .pointer (some ⟨Q, 0, none⟩)] W fun e w' => e = .returned (fldV P ⟨12 + i, 0, 16, 1⟩) ∧ Past W w' := by
  have hQ : Q < W.heap.size := cell_lt (hq 0)
  rcases hi with rfl | rfl
  all_goals
    go_enter Try.func58, Try.ntmps58
    go_upto_region 1 with fail
    refine opq (fun w' => (∀ o : Nat, w'.cell? ⟨Q, o, none⟩ = (#[.pointer (some ⟨P, 0, none⟩)] : Array Value)[o]?) ∧ (∀ o : Nat, w'.cell? ⟨W.heap.size, o, none⟩ = (#[.pointer none, .int .i64 0, .int .i64 0, .int .i64 0] : Array Value)[o]?) ∧ (∀ o : Nat, w'.frozen? ⟨W.heap.size, o, none⟩ = false) ∧ Past W w' ∧ W.heap.size + 1 ≤ w'.heap.size) kKeep ?_
    rintro w1 ⟨b1, b2, f2, p1, z1⟩
    have P1 := Lib.hid p1
    clear p1
    go_wp2_with fail
  · have b4 := box_set4 (y0 := .pointer (some ⟨P, 12 + 0, none⟩)) (y1 := .int .i64 0) (y2 := .int .i64 16) (y3 := .int .i64 1) b2
    exact bodyPost_ret (v := .agg #[.pointer (some ⟨P, 12 + 0, none⟩), .int .i64 0, .int .i64 16, .int .i64 1]) (by simp [results, Try.results58, go_sem, b4]) rfl ⟨rfl, by have := P1.out; (exact kKeep)⟩
  · have b4 := box_set4 (y0 := .pointer (some ⟨P, 12 + 1, none⟩)) (y1 := .int .i64 0) (y2 := .int .i64 16) (y3 := .int .i64 1) b2
    exact bodyPost_ret (v := .agg #[.pointer (some ⟨P, 12 + 1, none⟩), .int .i64 0, .int .i64 16, .int .i64 1]) (by simp [results, Try.results58, go_sem, b4]) rfl ⟨rfl, by have := P1.out; (exact kKeep)⟩
end Go.Proofs.Ytgbedoffgahhaaa.Q8
