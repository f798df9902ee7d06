/- isa: fields of a kind, all of them. -/
import Derived.Test.YtgbedoffgahhaaaI2
namespace Go.Proofs.Ytgbedoffgahhaaa.Q8
open Go.ChangeShapes Go.WideShapes Go.ChangeAt Go.RowKit
set_option maxRecDepth 20000
set_option linter.unusedVariables false
set_option linter.unusedSimpArgs false

def FieldsPost (k : Int) (P : Nat) (W : World) (e : Ending) (w' : World) : Prop := ∃ v, e = .returned (.tuple #[v, .bool (decide (kindP k))]) ∧ IsFlds w' P v (fldsD k) ∧ Past W w'
theorem flds_box {w : World} {P b : Nat} {fs : List Fld} {w1 : World} (h : (∀ o : Nat, w.cell? ⟨b, o, none⟩ = (⟨fldsC P fs⟩ : Array Value)[o]?)) (hb : b < w.heap.size) : IsFlds w P (.slice (some ⟨b, 0, none⟩) fs.length fs.length) fs := .inr ⟨b, rfl, hb, h⟩

/-- A row of a tile's fields. -/
def RowT (w : World) (P : Nat) (v : Value) : Prop := ∃ b, v = .slice (some ⟨b, 0, none⟩) 10 10 ∧ b < w.heap.size ∧ (∀ o : Nat, w.cell? ⟨b, o, none⟩ = (⟨fldsC P [⟨2, 0, 11, 1⟩, ⟨3, 0, 15, 1⟩, ⟨4, 1, 16, 1⟩, ⟨7, 0, 1023, 2⟩, ⟨8, 0, 1023, 2⟩, ⟨10, 0, 15, 1⟩, ⟨12, 0, 16, 1⟩, ⟨9, 0, 1023, 2⟩, ⟨11, 0, 15, 1⟩, ⟨13, 0, 16, 1⟩]⟩ : Array Value)[o]?)
theorem RowT.past {w w' : World} {P : Nat} {v : Value} (h : RowT w P v) (g : Past w w') : RowT w' P v := by
  obtain ⟨b, e, hb, hc⟩ := h
  exact ⟨b, e, Nat.lt_of_lt_of_le hb g.2.2.1, box_past g hc hb⟩
def JT (P : Nat) (i : Nat) (x : Value) (w : World) : Prop := match i with
  | 5 => x = fldV P ⟨8 + 0, 0, 1023, 2⟩
  | 7 => x = fldV P ⟨10 + 0, 0, 15, 1⟩
  | 9 => x = fldV P ⟨12 + 0, 0, 16, 1⟩
  | 11 => x = fldV P ⟨8 + 1, 0, 1023, 2⟩
  | 13 => x = fldV P ⟨10 + 1, 0, 15, 1⟩
  | 15 => x = fldV P ⟨12 + 1, 0, 16, 1⟩
  | 16 => RowT w P x
  | 17 => ∃ y, x = .tuple #[y, .bool true] ∧ RowT w P y
  | 18 => RowT w P x
  | 19 => x = .bool true
  | 20 => RowT w P x
  | 21 => x = .bool true
  | _ => True
theorem JT_past {P i : Nat} {x : Value} {w w' : World} (p : Past w w') (h : JT P i x w) : JT P i x w' := by
  unfold JT at *
  split at h <;> first | exact h | exact RowT.past h p | (obtain ⟨y, e, h⟩ := h; exact ⟨y, e, h.past p⟩)

set_option maxHeartbeats 4000000 in
theorem fields_load (k : Int) (hk : k = 1 ∨ k = 2) (P : Nat) (W : World) (h0 : W.cell? ⟨P, 0, none⟩ = some (.int .i64 k)) : Calls Try.prog 38 #[.pointer (some ⟨P, 0, none⟩)] W (FieldsPost k P W) := by
  have hP := cell_lt h0
  have eF : fldsD k = [⟨4, 1, 16, 1⟩, ⟨5, 1, 128, 2⟩, ⟨6, 0, 65535, 3⟩, ⟨7, 0, 1023, 2⟩] := by
    rcases hk with rfl | rfl <;> rfl
  have dk : decide (kindP k) = true := by
    rcases hk with rfl | rfl <;> decide
  unfold FieldsPost
  rw [eF, dk]
  clear eF dk
  rcases hk with rfl | rfl
  · go_enter Try.func38, Try.ntmps38
    go_upto_region 11 with fail
    obtain ⟨Q, hQ⟩ : ∃ Q, W.heap.size = Q := ⟨_, rfl⟩
    refine opq (fun w' => (∀ o : Nat, w'.cell? ⟨Q, o, none⟩ = (#[.pointer (some ⟨P, 0, none⟩)] : Array Value)[o]?) ∧ (∀ o : Nat, w'.cell? ⟨Q + 1, o, none⟩ = (#[.pointer (some ⟨P, 1, none⟩), .int .i64 0, .int .i64 7, .int .i64 1] : Array Value)[o]?) ∧ (∀ o : Nat, w'.cell? ⟨Q + 2, o, none⟩ = (#[.pointer (some ⟨P, 2, none⟩), .int .i64 0, .int .i64 11, .int .i64 1] : Array Value)[o]?) ∧ (∀ o : Nat, w'.cell? ⟨Q + 3, o, none⟩ = (#[.pointer (some ⟨P, 3, none⟩), .int .i64 0, .int .i64 15, .int .i64 1] : Array Value)[o]?) ∧ (∀ o : Nat, w'.cell? ⟨Q + 4, o, none⟩ = (#[.pointer (some ⟨P, 4, none⟩), .int .i64 1, .int .i64 16, .int .i64 1] : Array Value)[o]?) ∧ (∀ o : Nat, w'.cell? ⟨Q + 5, o, none⟩ = (#[.pointer (some ⟨P, 5, none⟩), .int .i64 1, .int .i64 128, .int .i64 2] : Array Value)[o]?) ∧ (∀ o : Nat, w'.cell? ⟨Q + 6, o, none⟩ = (#[.pointer (some ⟨P, 6, none⟩), .int .i64 0, .int .i64 65535, .int .i64 3] : Array Value)[o]?) ∧ (∀ o : Nat, w'.cell? ⟨Q + 7, o, none⟩ = (#[.pointer (some ⟨P, 7, none⟩), .int .i64 0, .int .i64 1023, .int .i64 2] : Array Value)[o]?) ∧ w'.cell? ⟨P, 0, none⟩ = some (.int .i64 1) ∧ Past W w' ∧ Q + 8 ≤ w'.heap.size) (by subst hQ; (exact kKeep)) ?_
    rintro w1 ⟨b0, b1, b2, b3, b4, b5, b6, b7, c0, p1, z1⟩
    try simp only [World.size_alloc, hQ]
    have P1 := Lib.hid p1
    have Z1 := Lib.hid z1
    clear p1 z1 h0 hP hQ
    go_wp2_with fail
    refine (told_any _ _ _ _ rfl _).mono ?_
    rintro e w2 ⟨rfl, rfl⟩
    go_wp2_with fail
    go_ret2
    refine ⟨_, rfl, ?_, P1.out.alloc _⟩
    exact .inr ⟨w1.heap.size, rfl, by simp, box_new rfl⟩
  · go_enter Try.func38, Try.ntmps38
    go_upto_region 11 with fail
    obtain ⟨Q, hQ⟩ : ∃ Q, W.heap.size = Q := ⟨_, rfl⟩
    refine opq (fun w' => (∀ o : Nat, w'.cell? ⟨Q, o, none⟩ = (#[.pointer (some ⟨P, 0, none⟩)] : Array Value)[o]?) ∧ (∀ o : Nat, w'.cell? ⟨Q + 1, o, none⟩ = (#[.pointer (some ⟨P, 1, none⟩), .int .i64 0, .int .i64 7, .int .i64 1] : Array Value)[o]?) ∧ (∀ o : Nat, w'.cell? ⟨Q + 2, o, none⟩ = (#[.pointer (some ⟨P, 2, none⟩), .int .i64 0, .int .i64 11, .int .i64 1] : Array Value)[o]?) ∧ (∀ o : Nat, w'.cell? ⟨Q + 3, o, none⟩ = (#[.pointer (some ⟨P, 3, none⟩), .int .i64 0, .int .i64 15, .int .i64 1] : Array Value)[o]?) ∧ (∀ o : Nat, w'.cell? ⟨Q + 4, o, none⟩ = (#[.pointer (some ⟨P, 4, none⟩), .int .i64 1, .int .i64 16, .int .i64 1] : Array Value)[o]?) ∧ (∀ o : Nat, w'.cell? ⟨Q + 5, o, none⟩ = (#[.pointer (some ⟨P, 5, none⟩), .int .i64 1, .int .i64 128, .int .i64 2] : Array Value)[o]?) ∧ (∀ o : Nat, w'.cell? ⟨Q + 6, o, none⟩ = (#[.pointer (some ⟨P, 6, none⟩), .int .i64 0, .int .i64 65535, .int .i64 3] : Array Value)[o]?) ∧ (∀ o : Nat, w'.cell? ⟨Q + 7, o, none⟩ = (#[.pointer (some ⟨P, 7, none⟩), .int .i64 0, .int .i64 1023, .int .i64 2] : Array Value)[o]?) ∧ w'.cell? ⟨P, 0, none⟩ = some (.int .i64 2) ∧ Past W w' ∧ Q + 8 ≤ w'.heap.size) (by subst hQ; (exact kKeep)) ?_
    rintro w1 ⟨b0, b1, b2, b3, b4, b5, b6, b7, c0, p1, z1⟩
    try simp only [World.size_alloc, hQ]
    have P1 := Lib.hid p1
    have Z1 := Lib.hid z1
    clear p1 z1 h0 hP hQ
    go_wp2_with fail
    refine (told_any _ _ _ _ rfl _).mono ?_
    rintro e w2 ⟨rfl, rfl⟩
    go_wp2_with fail
    go_ret2
    refine ⟨_, rfl, ?_, P1.out.alloc _⟩
    exact .inr ⟨w1.heap.size, rfl, by simp, box_new rfl⟩
set_option maxHeartbeats 4000000 in
theorem fields_kernel (k : Int) (hk : k = 4) (P : Nat) (W : World) (h0 : W.cell? ⟨P, 0, none⟩ = some (.int .i64 k)) : Calls Try.prog 38 #[.pointer (some ⟨P, 0, none⟩)] W (FieldsPost k P W) := by
  have hP := cell_lt h0
  have eF : fldsD k = [⟨2, 0, 11, 1⟩, ⟨4, 1, 16, 1⟩] := by
    subst hk; rfl
  have dk : decide (kindP k) = true := by
    subst hk; decide
  unfold FieldsPost
  rw [eF, dk]
  clear eF dk
  subst hk
  go_enter Try.func38, Try.ntmps38
  go_upto_region 11 with fail
  obtain ⟨Q, hQ⟩ : ∃ Q, W.heap.size = Q := ⟨_, rfl⟩
  refine opq (fun w' => (∀ o : Nat, w'.cell? ⟨Q, o, none⟩ = (#[.pointer (some ⟨P, 0, none⟩)] : Array Value)[o]?) ∧ (∀ o : Nat, w'.cell? ⟨Q + 1, o, none⟩ = (#[.pointer (some ⟨P, 1, none⟩), .int .i64 0, .int .i64 7, .int .i64 1] : Array Value)[o]?) ∧ (∀ o : Nat, w'.cell? ⟨Q + 2, o, none⟩ = (#[.pointer (some ⟨P, 2, none⟩), .int .i64 0, .int .i64 11, .int .i64 1] : Array Value)[o]?) ∧ (∀ o : Nat, w'.cell? ⟨Q + 3, o, none⟩ = (#[.pointer (some ⟨P, 3, none⟩), .int .i64 0, .int .i64 15, .int .i64 1] : Array Value)[o]?) ∧ (∀ o : Nat, w'.cell? ⟨Q + 4, o, none⟩ = (#[.pointer (some ⟨P, 4, none⟩), .int .i64 1, .int .i64 16, .int .i64 1] : Array Value)[o]?) ∧ (∀ o : Nat, w'.cell? ⟨Q + 5, o, none⟩ = (#[.pointer (some ⟨P, 5, none⟩), .int .i64 1, .int .i64 128, .int .i64 2] : Array Value)[o]?) ∧ (∀ o : Nat, w'.cell? ⟨Q + 6, o, none⟩ = (#[.pointer (some ⟨P, 6, none⟩), .int .i64 0, .int .i64 65535, .int .i64 3] : Array Value)[o]?) ∧ (∀ o : Nat, w'.cell? ⟨Q + 7, o, none⟩ = (#[.pointer (some ⟨P, 7, none⟩), .int .i64 0, .int .i64 1023, .int .i64 2] : Array Value)[o]?) ∧ w'.cell? ⟨P, 0, none⟩ = some (.int .i64 4) ∧ Past W w' ∧ Q + 8 ≤ w'.heap.size) (by subst hQ; (exact kKeep)) ?_
  rintro w1 ⟨b0, b1, b2, b3, b4, b5, b6, b7, c0, p1, z1⟩
  try simp only [World.size_alloc, hQ]
  have P1 := Lib.hid p1
  have Z1 := Lib.hid z1
  clear p1 z1 h0 hP hQ
  go_wp2_with fail
  refine (told_any _ _ _ _ rfl _).mono ?_
  rintro e w2 ⟨rfl, rfl⟩
  go_wp2_with fail
  go_ret2
  refine ⟨_, rfl, ?_, P1.out.alloc _⟩
  exact .inr ⟨w1.heap.size, rfl, by simp, box_new rfl⟩
set_option maxHeartbeats 4000000 in
theorem fields_sem (k : Int) (hk : k = 5 ∨ k = 6) (P : Nat) (W : World) (h0 : W.cell? ⟨P, 0, none⟩ = some (.int .i64 k)) : Calls Try.prog 38 #[.pointer (some ⟨P, 0, none⟩)] W (FieldsPost k P W) := by
  have hP := cell_lt h0
  have eF : fldsD k = [⟨1, 0, 7, 1⟩] := by
    rcases hk with rfl | rfl <;> rfl
  have dk : decide (kindP k) = true := by
    rcases hk with rfl | rfl <;> decide
  unfold FieldsPost
  rw [eF, dk]
  clear eF dk
  rcases hk with rfl | rfl
  · go_enter Try.func38, Try.ntmps38
    go_upto_region 11 with fail
    obtain ⟨Q, hQ⟩ : ∃ Q, W.heap.size = Q := ⟨_, rfl⟩
    refine opq (fun w' => (∀ o : Nat, w'.cell? ⟨Q, o, none⟩ = (#[.pointer (some ⟨P, 0, none⟩)] : Array Value)[o]?) ∧ (∀ o : Nat, w'.cell? ⟨Q + 1, o, none⟩ = (#[.pointer (some ⟨P, 1, none⟩), .int .i64 0, .int .i64 7, .int .i64 1] : Array Value)[o]?) ∧ (∀ o : Nat, w'.cell? ⟨Q + 2, o, none⟩ = (#[.pointer (some ⟨P, 2, none⟩), .int .i64 0, .int .i64 11, .int .i64 1] : Array Value)[o]?) ∧ (∀ o : Nat, w'.cell? ⟨Q + 3, o, none⟩ = (#[.pointer (some ⟨P, 3, none⟩), .int .i64 0, .int .i64 15, .int .i64 1] : Array Value)[o]?) ∧ (∀ o : Nat, w'.cell? ⟨Q + 4, o, none⟩ = (#[.pointer (some ⟨P, 4, none⟩), .int .i64 1, .int .i64 16, .int .i64 1] : Array Value)[o]?) ∧ (∀ o : Nat, w'.cell? ⟨Q + 5, o, none⟩ = (#[.pointer (some ⟨P, 5, none⟩), .int .i64 1, .int .i64 128, .int .i64 2] : Array Value)[o]?) ∧ (∀ o : Nat, w'.cell? ⟨Q + 6, o, none⟩ = (#[.pointer (some ⟨P, 6, none⟩), .int .i64 0, .int .i64 65535, .int .i64 3] : Array Value)[o]?) ∧ (∀ o : Nat, w'.cell? ⟨Q + 7, o, none⟩ = (#[.pointer (some ⟨P, 7, none⟩), .int .i64 0, .int .i64 1023, .int .i64 2] : Array Value)[o]?) ∧ w'.cell? ⟨P, 0, none⟩ = some (.int .i64 5) ∧ Past W w' ∧ Q + 8 ≤ w'.heap.size) (by subst hQ; (exact kKeep)) ?_
    rintro w1 ⟨b0, b1, b2, b3, b4, b5, b6, b7, c0, p1, z1⟩
    try simp only [World.size_alloc, hQ]
    have P1 := Lib.hid p1
    have Z1 := Lib.hid z1
    clear p1 z1 h0 hP hQ
    go_wp2_with fail
    refine (told_any _ _ _ _ rfl _).mono ?_
    rintro e w2 ⟨rfl, rfl⟩
    go_wp2_with fail
    go_ret2
    refine ⟨_, rfl, ?_, P1.out.alloc _⟩
    exact .inr ⟨w1.heap.size, rfl, by simp, box_new rfl⟩
  · go_enter Try.func38, Try.ntmps38
    go_upto_region 11 with fail
    obtain ⟨Q, hQ⟩ : ∃ Q, W.heap.size = Q := ⟨_, rfl⟩
    refine opq (fun w' => (∀ o : Nat, w'.cell? ⟨Q, o, none⟩ = (#[.pointer (some ⟨P, 0, none⟩)] : Array Value)[o]?) ∧ (∀ o : Nat, w'.cell? ⟨Q + 1, o, none⟩ = (#[.pointer (some ⟨P, 1, none⟩), .int .i64 0, .int .i64 7, .int .i64 1] : Array Value)[o]?) ∧ (∀ o : Nat, w'.cell? ⟨Q + 2, o, none⟩ = (#[.pointer (some ⟨P, 2, none⟩), .int .i64 0, .int .i64 11, .int .i64 1] : Array Value)[o]?) ∧ (∀ o : Nat, w'.cell? ⟨Q + 3, o, none⟩ = (#[.pointer (some ⟨P, 3, none⟩), .int .i64 0, .int .i64 15, .int .i64 1] : Array Value)[o]?) ∧ (∀ o : Nat, w'.cell? ⟨Q + 4, o, none⟩ = (#[.pointer (some ⟨P, 4, none⟩), .int .i64 1, .int .i64 16, .int .i64 1] : Array Value)[o]?) ∧ (∀ o : Nat, w'.cell? ⟨Q + 5, o, none⟩ = (#[.pointer (some ⟨P, 5, none⟩), .int .i64 1, .int .i64 128, .int .i64 2] : Array Value)[o]?) ∧ (∀ o : Nat, w'.cell? ⟨Q + 6, o, none⟩ = (#[.pointer (some ⟨P, 6, none⟩), .int .i64 0, .int .i64 65535, .int .i64 3] : Array Value)[o]?) ∧ (∀ o : Nat, w'.cell? ⟨Q + 7, o, none⟩ = (#[.pointer (some ⟨P, 7, none⟩), .int .i64 0, .int .i64 1023, .int .i64 2] : Array Value)[o]?) ∧ w'.cell? ⟨P, 0, none⟩ = some (.int .i64 6) ∧ Past W w' ∧ Q + 8 ≤ w'.heap.size) (by subst hQ; (exact kKeep)) ?_
    rintro w1 ⟨b0, b1, b2, b3, b4, b5, b6, b7, c0, p1, z1⟩
    try simp only [World.size_alloc, hQ]
    have P1 := Lib.hid p1
    have Z1 := Lib.hid z1
    clear p1 z1 h0 hP hQ
    go_wp2_with fail
    refine (told_any _ _ _ _ rfl _).mono ?_
    rintro e w2 ⟨rfl, rfl⟩
    go_wp2_with fail
    go_ret2
    refine ⟨_, rfl, ?_, P1.out.alloc _⟩
    exact .inr ⟨w1.heap.size, rfl, by simp, box_new rfl⟩
set_option maxHeartbeats 4000000 in
theorem fields_halt (k : Int) (hk : k = 7) (P : Nat) (W : World) (h0 : W.cell? ⟨P, 0, none⟩ = some (.int .i64 k)) : Calls Try.prog 38 #[.pointer (some ⟨P, 0, none⟩)] W (FieldsPost k P W) := by
  have hP := cell_lt h0
  have eF : fldsD k = [] := by
    subst hk; rfl
  have dk : decide (kindP k) = true := by
    subst hk; decide
  unfold FieldsPost
  rw [eF, dk]
  clear eF dk
  subst hk
  go_enter Try.func38, Try.ntmps38
  go_upto_region 11 with fail
  obtain ⟨Q, hQ⟩ : ∃ Q, W.heap.size = Q := ⟨_, rfl⟩
  refine opq (fun w' => (∀ o : Nat, w'.cell? ⟨Q, o, none⟩ = (#[.pointer (some ⟨P, 0, none⟩)] : Array Value)[o]?) ∧ (∀ o : Nat, w'.cell? ⟨Q + 1, o, none⟩ = (#[.pointer (some ⟨P, 1, none⟩), .int .i64 0, .int .i64 7, .int .i64 1] : Array Value)[o]?) ∧ (∀ o : Nat, w'.cell? ⟨Q + 2, o, none⟩ = (#[.pointer (some ⟨P, 2, none⟩), .int .i64 0, .int .i64 11, .int .i64 1] : Array Value)[o]?) ∧ (∀ o : Nat, w'.cell? ⟨Q + 3, o, none⟩ = (#[.pointer (some ⟨P, 3, none⟩), .int .i64 0, .int .i64 15, .int .i64 1] : Array Value)[o]?) ∧ (∀ o : Nat, w'.cell? ⟨Q + 4, o, none⟩ = (#[.pointer (some ⟨P, 4, none⟩), .int .i64 1, .int .i64 16, .int .i64 1] : Array Value)[o]?) ∧ (∀ o : Nat, w'.cell? ⟨Q + 5, o, none⟩ = (#[.pointer (some ⟨P, 5, none⟩), .int .i64 1, .int .i64 128, .int .i64 2] : Array Value)[o]?) ∧ (∀ o : Nat, w'.cell? ⟨Q + 6, o, none⟩ = (#[.pointer (some ⟨P, 6, none⟩), .int .i64 0, .int .i64 65535, .int .i64 3] : Array Value)[o]?) ∧ (∀ o : Nat, w'.cell? ⟨Q + 7, o, none⟩ = (#[.pointer (some ⟨P, 7, none⟩), .int .i64 0, .int .i64 1023, .int .i64 2] : Array Value)[o]?) ∧ w'.cell? ⟨P, 0, none⟩ = some (.int .i64 7) ∧ Past W w' ∧ Q + 8 ≤ w'.heap.size) (by subst hQ; (exact kKeep)) ?_
  rintro w1 ⟨b0, b1, b2, b3, b4, b5, b6, b7, c0, p1, z1⟩
  try simp only [World.size_alloc, hQ]
  have P1 := Lib.hid p1
  have Z1 := Lib.hid z1
  clear p1 z1 h0 hP hQ
  go_wp2_with fail
  refine (told_any _ _ _ _ rfl _).mono ?_
  rintro e w2 ⟨rfl, rfl⟩
  go_wp2_with fail
  go_ret2
  exact ⟨_, rfl, .inl ⟨rfl, rfl⟩, P1.out⟩
set_option maxHeartbeats 4000000 in
theorem fields_none (k : Int) (hk : ¬ kindP k) (P : Nat) (W : World) (h0 : W.cell? ⟨P, 0, none⟩ = some (.int .i64 k)) : Calls Try.prog 38 #[.pointer (some ⟨P, 0, none⟩)] W (FieldsPost k P W) := by
  have hP := cell_lt h0
  have eF : fldsD k = [] := by
    have e1 : ¬ (k = 1 ∨ k = 2) := by unfold kindP at hk; omega
    have e2 : ¬ k = 3 := by unfold kindP at hk; omega
    have e3 : ¬ k = 4 := by unfold kindP at hk; omega
    have e4 : ¬ (k = 5 ∨ k = 6) := by unfold kindP at hk; omega
    unfold fldsD
    rw [if_neg e1, if_neg e2, if_neg e3, if_neg e4]
  have dk : decide (kindP k) = false := by simpa using hk
  have n1 : (k == 1) = false := by unfold kindP at hk; simp; omega
  have n2 : (k == 2) = false := by unfold kindP at hk; simp; omega
  have n3 : (k == 3) = false := by unfold kindP at hk; simp; omega
  have n4 : (k == 4) = false := by unfold kindP at hk; simp; omega
  have n5 : (k == 5) = false := by unfold kindP at hk; simp; omega
  have n6 : (k == 6) = false := by unfold kindP at hk; simp; omega
  have n7 : (k == 7) = false := by unfold kindP at hk; simp; omega
  unfold FieldsPost
  rw [eF, dk]
  clear eF dk
  clear hk
  go_enter Try.func38, Try.ntmps38
  go_upto_region 11 with fail
  obtain ⟨Q, hQ⟩ : ∃ Q, W.heap.size = Q := ⟨_, rfl⟩
  refine opq (fun w' => (∀ o : Nat, w'.cell? ⟨Q, o, none⟩ = (#[.pointer (some ⟨P, 0, none⟩)] : Array Value)[o]?) ∧ (∀ o : Nat, w'.cell? ⟨Q + 1, o, none⟩ = (#[.pointer (some ⟨P, 1, none⟩), .int .i64 0, .int .i64 7, .int .i64 1] : Array Value)[o]?) ∧ (∀ o : Nat, w'.cell? ⟨Q + 2, o, none⟩ = (#[.pointer (some ⟨P, 2, none⟩), .int .i64 0, .int .i64 11, .int .i64 1] : Array Value)[o]?) ∧ (∀ o : Nat, w'.cell? ⟨Q + 3, o, none⟩ = (#[.pointer (some ⟨P, 3, none⟩), .int .i64 0, .int .i64 15, .int .i64 1] : Array Value)[o]?) ∧ (∀ o : Nat, w'.cell? ⟨Q + 4, o, none⟩ = (#[.pointer (some ⟨P, 4, none⟩), .int .i64 1, .int .i64 16, .int .i64 1] : Array Value)[o]?) ∧ (∀ o : Nat, w'.cell? ⟨Q + 5, o, none⟩ = (#[.pointer (some ⟨P, 5, none⟩), .int .i64 1, .int .i64 128, .int .i64 2] : Array Value)[o]?) ∧ (∀ o : Nat, w'.cell? ⟨Q + 6, o, none⟩ = (#[.pointer (some ⟨P, 6, none⟩), .int .i64 0, .int .i64 65535, .int .i64 3] : Array Value)[o]?) ∧ (∀ o : Nat, w'.cell? ⟨Q + 7, o, none⟩ = (#[.pointer (some ⟨P, 7, none⟩), .int .i64 0, .int .i64 1023, .int .i64 2] : Array Value)[o]?) ∧ w'.cell? ⟨P, 0, none⟩ = some (.int .i64 k) ∧ Past W w' ∧ Q + 8 ≤ w'.heap.size) (by subst hQ; (exact kKeep)) ?_
  rintro w1 ⟨b0, b1, b2, b3, b4, b5, b6, b7, c0, p1, z1⟩
  try simp only [World.size_alloc, hQ]
  have P1 := Lib.hid p1
  have Z1 := Lib.hid z1
  clear p1 z1 h0 hP hQ
  go_wp2_with fail
  go_ret2
  exact ⟨_, rfl, .inl ⟨rfl, rfl⟩, P1.out⟩
set_option maxHeartbeats 4000000 in
theorem fields_tile (k : Int) (hk : k = 3) (P : Nat) (W : World) (h0 : W.cell? ⟨P, 0, none⟩ = some (.int .i64 k)) : Calls Try.prog 38 #[.pointer (some ⟨P, 0, none⟩)] W (FieldsPost k P W) := by
  have hP := cell_lt h0
  have eF : fldsD k = [⟨2, 0, 11, 1⟩, ⟨3, 0, 15, 1⟩, ⟨4, 1, 16, 1⟩, ⟨7, 0, 1023, 2⟩, ⟨8, 0, 1023, 2⟩, ⟨10, 0, 15, 1⟩, ⟨12, 0, 16, 1⟩, ⟨9, 0, 1023, 2⟩, ⟨11, 0, 15, 1⟩, ⟨13, 0, 16, 1⟩] := by
    subst hk; rfl
  have dk : decide (kindP k) = true := by
    subst hk; decide
  unfold FieldsPost
  rw [eF, dk]
  clear eF dk
  subst hk
  go_enter Try.func38, Try.ntmps38
  go_upto_region 11 with fail
  obtain ⟨Q, hQ⟩ : ∃ Q, W.heap.size = Q := ⟨_, rfl⟩
  refine opq (fun w' => (∀ o : Nat, w'.cell? ⟨Q, o, none⟩ = (#[.pointer (some ⟨P, 0, none⟩)] : Array Value)[o]?) ∧ (∀ o : Nat, w'.cell? ⟨Q + 1, o, none⟩ = (#[.pointer (some ⟨P, 1, none⟩), .int .i64 0, .int .i64 7, .int .i64 1] : Array Value)[o]?) ∧ (∀ o : Nat, w'.cell? ⟨Q + 2, o, none⟩ = (#[.pointer (some ⟨P, 2, none⟩), .int .i64 0, .int .i64 11, .int .i64 1] : Array Value)[o]?) ∧ (∀ o : Nat, w'.cell? ⟨Q + 3, o, none⟩ = (#[.pointer (some ⟨P, 3, none⟩), .int .i64 0, .int .i64 15, .int .i64 1] : Array Value)[o]?) ∧ (∀ o : Nat, w'.cell? ⟨Q + 4, o, none⟩ = (#[.pointer (some ⟨P, 4, none⟩), .int .i64 1, .int .i64 16, .int .i64 1] : Array Value)[o]?) ∧ (∀ o : Nat, w'.cell? ⟨Q + 5, o, none⟩ = (#[.pointer (some ⟨P, 5, none⟩), .int .i64 1, .int .i64 128, .int .i64 2] : Array Value)[o]?) ∧ (∀ o : Nat, w'.cell? ⟨Q + 6, o, none⟩ = (#[.pointer (some ⟨P, 6, none⟩), .int .i64 0, .int .i64 65535, .int .i64 3] : Array Value)[o]?) ∧ (∀ o : Nat, w'.cell? ⟨Q + 7, o, none⟩ = (#[.pointer (some ⟨P, 7, none⟩), .int .i64 0, .int .i64 1023, .int .i64 2] : Array Value)[o]?) ∧ w'.cell? ⟨P, 0, none⟩ = some (.int .i64 3) ∧ Past W w' ∧ Q + 8 ≤ w'.heap.size) (by subst hQ; (exact kKeep)) ?_
  rintro w1 ⟨b0, b1, b2, b3, b4, b5, b6, b7, c0, p1, z1⟩
  try simp only [World.size_alloc, hQ]
  have P1 := Lib.hid p1
  have Z1 := Lib.hid z1
  clear p1 z1 h0 hP hQ
  have B0 := Lib.hid (fun w (g : Past w1 w) => box_past g b0 (by have := Z1.out; omega))
  go_upto_region 16 with fail
  refine wp_region_past w1 [(62, ?va62), (63, ?va63), (64, ?va64), (65, ?va65), (66, ?va66), (68, ?va68), (70, ?va70), (72, ?va72), (74, ?va74), (76, ?va76)] [(5, 67), (7, 69), (9, 71), (11, 73), (13, 75), (15, 77), (16, 78), (17, 79), (18, 80), (19, 81), (20, 2), (21, 3)] (JT P) [(16, [5, 7, 9, 11, 13, 15]), (17, [16]), (18, [17]), (19, [17]), (20, [18]), (21, [19])] [20, 21] (fun i x w w' p h => JT_past p h) (by kernel_rfl) (by kernel_rfl) (by kernel_rfl) ?da (Past.refl w1) ?ea ?la ?na
  case da =>
    intro q hq
    simp only [List.mem_cons, List.not_mem_nil, or_false] at hq
    rcases hq with rfl | rfl | rfl | rfl | rfl | rfl | rfl | rfl | rfl | rfl | rfl | rfl <;> simp
  case ea =>
    simp only [latesV, List.map_cons, List.map_nil, List.cons_append, List.nil_append, List.append_nil, fillA, Act.put, List.setIfInBounds_toArray, List.set_cons_zero, List.set_cons_succ]
    refine early_cons (fun v w hw hd K hK => ?_) ?_
    focus
      have c := box_past hw b2 (by have := Z1.out; omega)
      go_simp
      (try simp only [Act.put, List.setIfInBounds_toArray, List.set_cons_zero, List.set_cons_succ])
      exact hK
    refine early_cons (fun v w hw hd K hK => ?_) ?_
    focus
      have c := box_past hw b3 (by have := Z1.out; omega)
      go_simp
      (try simp only [Act.put, List.setIfInBounds_toArray, List.set_cons_zero, List.set_cons_succ])
      exact hK
    refine early_cons (fun v w hw hd K hK => ?_) ?_
    focus
      have c := box_past hw b4 (by have := Z1.out; omega)
      go_simp
      (try simp only [Act.put, List.setIfInBounds_toArray, List.set_cons_zero, List.set_cons_succ])
      exact hK
    refine early_cons (fun v w hw hd K hK => ?_) ?_
    focus
      have c := box_past hw b7 (by have := Z1.out; omega)
      go_simp
      (try simp only [Act.put, List.setIfInBounds_toArray, List.set_cons_zero, List.set_cons_succ])
      exact hK
    (refine early_cons (fun v w hw hd K hK => ?_) ?_; focus (go_simp; (try simp only [Act.put, List.setIfInBounds_toArray, List.set_cons_zero, List.set_cons_succ]); exact hK))
    refine early_skip rfl ?_
    (refine early_cons (fun v w hw hd K hK => ?_) ?_; focus (go_simp; (try simp only [Act.put, List.setIfInBounds_toArray, List.set_cons_zero, List.set_cons_succ]); exact hK))
    refine early_skip rfl ?_
    (refine early_cons (fun v w hw hd K hK => ?_) ?_; focus (go_simp; (try simp only [Act.put, List.setIfInBounds_toArray, List.set_cons_zero, List.set_cons_succ]); exact hK))
    refine early_skip rfl ?_
    (refine early_cons (fun v w hw hd K hK => ?_) ?_; focus (go_simp; (try simp only [Act.put, List.setIfInBounds_toArray, List.set_cons_zero, List.set_cons_succ]); exact hK))
    refine early_skip rfl ?_
    (refine early_cons (fun v w hw hd K hK => ?_) ?_; focus (go_simp; (try simp only [Act.put, List.setIfInBounds_toArray, List.set_cons_zero, List.set_cons_succ]); exact hK))
    refine early_skip rfl ?_
    (refine early_cons (fun v w hw hd K hK => ?_) ?_; focus (go_simp; (try simp only [Act.put, List.setIfInBounds_toArray, List.set_cons_zero, List.set_cons_succ]); exact hK))
    refine early_skip rfl ?_
    refine early_skip rfl ?_
    refine early_skip rfl ?_
    refine early_skip rfl ?_
    refine early_skip rfl ?_
    refine early_skip rfl ?_
    refine early_skip rfl ?_
    exact True.intro
  case la =>
    simp only [latesV, List.map_cons, List.map_nil, List.cons_append, List.nil_append, List.append_nil, fillA, Act.put, List.setIfInBounds_toArray, List.set_cons_zero, List.set_cons_succ]
    refine lateP_skip rfl ?_
    refine lateP_skip rfl ?_
    refine lateP_skip rfl ?_
    refine lateP_skip rfl ?_
    refine lateP_skip rfl ?_
    refine lateP_cons (fun v w hw hd => ⟨rfl, fun K hK => ?_⟩) ?_
    focus
      (try simp only [Act.put, List.setIfInBounds_toArray, List.set_cons_zero, List.set_cons_succ])
      go_simp
      refine (part1_any 0 (.inl rfl) P Q w (B0.out w hw)).mono ?_
      rintro e w2 ⟨rfl, g⟩
      exact hK _ _ g (show JT P 5 _ w2 from rfl)
    refine lateP_skip rfl ?_
    refine lateP_cons (fun v w hw hd => ⟨rfl, fun K hK => ?_⟩) ?_
    focus
      (try simp only [Act.put, List.setIfInBounds_toArray, List.set_cons_zero, List.set_cons_succ])
      go_simp
      refine (part2_any 0 (.inl rfl) P Q w (B0.out w hw)).mono ?_
      rintro e w2 ⟨rfl, g⟩
      exact hK _ _ g (show JT P 7 _ w2 from rfl)
    refine lateP_skip rfl ?_
    refine lateP_cons (fun v w hw hd => ⟨rfl, fun K hK => ?_⟩) ?_
    focus
      (try simp only [Act.put, List.setIfInBounds_toArray, List.set_cons_zero, List.set_cons_succ])
      go_simp
      refine (part3_any 0 (.inl rfl) P Q w (B0.out w hw)).mono ?_
      rintro e w2 ⟨rfl, g⟩
      exact hK _ _ g (show JT P 9 _ w2 from rfl)
    refine lateP_skip rfl ?_
    refine lateP_cons (fun v w hw hd => ⟨rfl, fun K hK => ?_⟩) ?_
    focus
      (try simp only [Act.put, List.setIfInBounds_toArray, List.set_cons_zero, List.set_cons_succ])
      go_simp
      refine (part1_any 1 (.inr rfl) P Q w (B0.out w hw)).mono ?_
      rintro e w2 ⟨rfl, g⟩
      exact hK _ _ g (show JT P 11 _ w2 from rfl)
    refine lateP_skip rfl ?_
    refine lateP_cons (fun v w hw hd => ⟨rfl, fun K hK => ?_⟩) ?_
    focus
      (try simp only [Act.put, List.setIfInBounds_toArray, List.set_cons_zero, List.set_cons_succ])
      go_simp
      refine (part2_any 1 (.inr rfl) P Q w (B0.out w hw)).mono ?_
      rintro e w2 ⟨rfl, g⟩
      exact hK _ _ g (show JT P 13 _ w2 from rfl)
    refine lateP_skip rfl ?_
    refine lateP_cons (fun v w hw hd => ⟨rfl, fun K hK => ?_⟩) ?_
    focus
      (try simp only [Act.put, List.setIfInBounds_toArray, List.set_cons_zero, List.set_cons_succ])
      go_simp
      refine (part3_any 1 (.inr rfl) P Q w (B0.out w hw)).mono ?_
      rintro e w2 ⟨rfl, g⟩
      exact hK _ _ g (show JT P 15 _ w2 from rfl)
    refine lateP_cons (fun v w hw hd => ⟨rfl, fun K hK => ?_⟩) ?_
    focus
      (try simp only [Act.put, List.setIfInBounds_toArray, List.set_cons_zero, List.set_cons_succ])
      have e5 : v 5 = .agg #[.pointer (some ⟨P, 8, none⟩), .int .i64 0, .int .i64 1023, .int .i64 2] := hd 5 rfl
      have e7 : v 7 = .agg #[.pointer (some ⟨P, 10, none⟩), .int .i64 0, .int .i64 15, .int .i64 1] := hd 7 rfl
      have e9 : v 9 = .agg #[.pointer (some ⟨P, 12, none⟩), .int .i64 0, .int .i64 16, .int .i64 1] := hd 9 rfl
      have e11 : v 11 = .agg #[.pointer (some ⟨P, 9, none⟩), .int .i64 0, .int .i64 1023, .int .i64 2] := hd 11 rfl
      have e13 : v 13 = .agg #[.pointer (some ⟨P, 11, none⟩), .int .i64 0, .int .i64 15, .int .i64 1] := hd 13 rfl
      have e15 : v 15 = .agg #[.pointer (some ⟨P, 13, none⟩), .int .i64 0, .int .i64 16, .int .i64 1] := hd 15 rfl
      rw [e5, e7, e9, e11, e13, e15] at hK ⊢
      go_simp
      exact hK _ _ ((Past.refl w).alloc _) ⟨w.heap.size, rfl, by simp, box_new rfl⟩
    refine lateP_cons (fun v w hw hd => ⟨rfl, fun K hK => ?_⟩) ?_
    focus
      (try simp only [Act.put, List.setIfInBounds_toArray, List.set_cons_zero, List.set_cons_succ])
      have HR : Hid (RowT w P (v 16)) := Lib.hid (hd 16 rfl)
      go_simp
      obtain ⟨b, e16, hr⟩ := HR.out
      refine (told_any (v 16) _ _ _ e16 w).mono ?_
      rintro e w2 ⟨rfl, rfl⟩
      exact hK _ _ (Past.refl _) ⟨_, rfl, b, e16, hr⟩
    refine lateP_cons (fun v w hw hd => ⟨rfl, fun K hK => ?_⟩) ?_
    focus
      (try simp only [Act.put, List.setIfInBounds_toArray, List.set_cons_zero, List.set_cons_succ])
      obtain ⟨y, e17, hr⟩ : ∃ y, v 17 = .tuple #[y, .bool true] ∧ RowT w P y := hd 17 rfl
      rw [e17] at hK ⊢
      go_simp
      exact hK _ _ (Past.refl _) hr
    refine lateP_cons (fun v w hw hd => ⟨rfl, fun K hK => ?_⟩) ?_
    focus
      (try simp only [Act.put, List.setIfInBounds_toArray, List.set_cons_zero, List.set_cons_succ])
      obtain ⟨y, e17, hr⟩ : ∃ y, v 17 = .tuple #[y, .bool true] ∧ RowT w P y := hd 17 rfl
      rw [e17] at hK ⊢
      go_simp
      exact hK _ _ (Past.refl _) rfl
    refine lateP_cons (fun v w hw hd => ⟨rfl, fun K hK => ?_⟩) ?_
    focus
      (try simp only [Act.put, List.setIfInBounds_toArray, List.set_cons_zero, List.set_cons_succ])
      have hr : RowT w P (v 18) := hd 18 rfl
      go_simp
      exact hK _ _ (Past.refl _) hr
    refine lateP_cons (fun v w hw hd => ⟨rfl, fun K hK => ?_⟩) ?_
    focus
      (try simp only [Act.put, List.setIfInBounds_toArray, List.set_cons_zero, List.set_cons_succ])
      have HR : Hid (v 19 = .bool true) := Lib.hid (hd 19 rfl)
      go_simp
      exact hK _ _ (Past.refl _) HR.out
    exact True.intro
  case na =>
    intro v w8 hw hd
    simp only [latesV, List.map_cons, List.map_nil, List.cons_append, List.nil_append, List.append_nil, fillA, Act.put, List.setIfInBounds_toArray, List.set_cons_zero, List.set_cons_succ]
    have h20 : RowT w8 P (v 20) := hd 20 rfl
    have h21 : v 21 = .bool true := hd 21 rfl
    obtain ⟨b, e20, hb, hc⟩ := h20
    rw [e20, h21]
    have HB := Lib.hid hb
    have HC := Lib.hid hc
    clear hd e20 h21 hb hc
    go_wp2_with fail
    go_ret2
    exact ⟨_, rfl, .inr ⟨b, rfl, HB.out, HC.out⟩, P1.out.trans hw⟩
theorem fields_any (k : Int) (P : Nat) (W : World) (h0 : W.cell? ⟨P, 0, none⟩ = some (.int .i64 k)) : Calls Try.prog 38 #[.pointer (some ⟨P, 0, none⟩)] W (FieldsPost k P W) := by
  by_cases h : kindP k
  · rcases kind_cases h with q | q | q | q | q
    · exact fields_load k q P W h0
    · exact fields_tile k q P W h0
    · exact fields_kernel k q P W h0
    · exact fields_sem k q P W h0
    · exact fields_halt k q P W h0
  · exact fields_none k h P W h0
end Go.Proofs.Ytgbedoffgahhaaa.Q8
