/- graph: opOf, 5, 6, 7, 8. Layer 8 in numbers: which commands may be, their bytes, and how bytes are taken. A box of many cells that is made: the world behind it is a letter. Layer 8 in numbers: May, field by field. -/
import Derived.Test.YtejllmjkeefloaaLG6
import Derived.Test.YtejllmjkeefloaaLWorld
import Derived.WalkKit
import Derived.Test.YtejllmjkeefloaaLN1
namespace Go.Proofs.Ytejllmjkeefloaa
open Go.ChangeShapes Go.WideShapes Go.ChangeAt Go.RowKit
set_option maxRecDepth 20000
set_option linter.unusedVariables false

set_option maxHeartbeats 2000000 in
theorem opOf_5 (w : World) : Calls Try.prog 99 #[.int .i64 5] w (Made1 ⟨1, 1, 3, 1, 2, 0, 0, 0, 0, false, true⟩ 128 132 (.func (.func 112) #[] #[]) (.int .i64 0) w) := by
  go_enter Try.func99, Try.ntmps99
  go_wp2_with (first | (go_at_call 116; with_reducible refine (always_any _ _).mono ?_; rintro e w1 ⟨rfl, rfl⟩) | (go_at_call 108; with_reducible refine (slid_any _ _).mono ?_; rintro e w1 ⟨rfl, rfl⟩) | (go_at_call 110; with_reducible refine (ofChannels_any _ _).mono ?_; rintro e w1 ⟨rfl, rfl⟩))
  exact bodyPost_ret (by simp [results, Try.results99, go_sem]; rfl) rfl ⟨_, _, rfl, by go_cell, by simp, by go_cell, by simp, by go_grown⟩
set_option maxHeartbeats 2000000 in
theorem opOf_6 (w : World) : Calls Try.prog 99 #[.int .i64 6] w (Made0 ⟨2, 0, 0, 0, 0, 0, 0, 0, 0, false, false⟩ 117 132 (.int .i64 0) w) := by
  go_enter Try.func99, Try.ntmps99
  go_wp2_with (first | (go_at_call 116; with_reducible refine (always_any _ _).mono ?_; rintro e w1 ⟨rfl, rfl⟩) | (go_at_call 108; with_reducible refine (slid_any _ _).mono ?_; rintro e w1 ⟨rfl, rfl⟩) | (go_at_call 110; with_reducible refine (ofChannels_any _ _).mono ?_; rintro e w1 ⟨rfl, rfl⟩))
  exact bodyPost_ret (by simp [results, Try.results99, go_sem]; rfl) rfl ⟨_, rfl, by go_cell, by simp, by go_grown⟩
set_option maxHeartbeats 2000000 in
theorem opOf_7 (w : World) : Calls Try.prog 99 #[.int .i64 7] w (Made0 ⟨2, 0, 0, 0, 0, 0, 0, 0, 0, false, false⟩ 117 132 (.int .i64 0) w) := by
  go_enter Try.func99, Try.ntmps99
  go_wp2_with (first | (go_at_call 116; with_reducible refine (always_any _ _).mono ?_; rintro e w1 ⟨rfl, rfl⟩) | (go_at_call 108; with_reducible refine (slid_any _ _).mono ?_; rintro e w1 ⟨rfl, rfl⟩) | (go_at_call 110; with_reducible refine (ofChannels_any _ _).mono ?_; rintro e w1 ⟨rfl, rfl⟩))
  exact bodyPost_ret (by simp [results, Try.results99, go_sem]; rfl) rfl ⟨_, rfl, by go_cell, by simp, by go_grown⟩
set_option maxHeartbeats 2000000 in
theorem opOf_8 (w : World) : Calls Try.prog 99 #[.int .i64 8] w (Made0 ⟨1, 0, 0, 0, 0, 0, 0, 0, 0, false, true⟩ 117 132 (.int .i64 0) w) := by
  go_enter Try.func99, Try.ntmps99
  go_wp2_with (first | (go_at_call 116; with_reducible refine (always_any _ _).mono ?_; rintro e w1 ⟨rfl, rfl⟩) | (go_at_call 108; with_reducible refine (slid_any _ _).mono ?_; rintro e w1 ⟨rfl, rfl⟩) | (go_at_call 110; with_reducible refine (ofChannels_any _ _).mono ?_; rintro e w1 ⟨rfl, rfl⟩))
  exact bodyPost_ret (by simp [results, Try.results99, go_sem]; rfl) rfl ⟨_, rfl, by go_cell, by simp, by go_grown⟩
end Go.Proofs.Ytejllmjkeefloaa
namespace Go.Proofs.Ytejllmjkeefloaa.Q8
open Go.ChangeShapes Go.WideShapes Go.ChangeAt Go.RowKit
set_option maxRecDepth 20000
set_option linter.unusedVariables false
set_option linter.unusedSimpArgs false

/-- k bytes of x, the highest first. -/
def numB : Nat → Int → List Int
  | 0, _ => []
  | k + 1, x => x / 256 ^ k % 256 :: numB k x
/-- Bytes: numbers of 0 to 255. -/
def bytesP (l : List Int) : Prop := ∀ c ∈ l, 0 ≤ c ∧ c < 256
theorem bytesP_app {a b : List Int} (ha : bytesP a) (hb : bytesP b) : bytesP (a ++ b) := fun c hc => by
  rcases List.mem_append.1 hc with h | h
  · exact ha c h
  · exact hb c h
theorem numB_len (k : Nat) (x : Int) : (numB k x).length = k := by
  induction k with
  | zero => rfl
  | succ k ih => simp [numB, ih]
theorem numB_bytes (k : Nat) (x : Int) : bytesP (numB k x) := by
  induction k with
  | zero => intro c hc; simp [numB] at hc
  | succ k ih =>
    intro c hc
    simp only [numB, List.mem_cons] at hc
    rcases hc with rfl | hc
    · omega
    · exact ih c hc
theorem flat_bytes {α : Type} {f : α → List Int} {l : List α} (h : ∀ x, bytesP (f x)) : bytesP (l.flatMap f) := by
  intro c hc
  obtain ⟨x, _, hx⟩ := List.mem_flatMap.1 hc
  exact h x c hx
/-! ### Commands: rows of fourteen numbers. -/
/-- A field: its place, its bounds, how many bytes it has. -/
structure Fld where
  pos : Nat
  lo : Int
  hi : Int
  wide : Nat
def fldsD (k : Int) : List Fld :=
  if k = 1 ∨ k = 2 then [⟨4, 1, 16, 1⟩, ⟨5, 1, 128, 2⟩, ⟨6, 0, 65535, 3⟩, ⟨7, 0, 1023, 2⟩]
  else if k = 3 then [⟨2, 0, 11, 1⟩, ⟨3, 0, 15, 1⟩, ⟨4, 1, 16, 1⟩, ⟨7, 0, 1023, 2⟩, ⟨8, 0, 1023, 2⟩, ⟨10, 0, 15, 1⟩, ⟨12, 0, 16, 1⟩, ⟨9, 0, 1023, 2⟩, ⟨11, 0, 15, 1⟩, ⟨13, 0, 16, 1⟩]
  else if k = 4 then [⟨2, 0, 11, 1⟩, ⟨4, 1, 16, 1⟩]
  else if k = 5 ∨ k = 6 then [⟨1, 0, 7, 1⟩]
  else []
/-- A kind there is. -/
def kindP (k : Int) : Prop := 1 ≤ k ∧ k ≤ 7
instance (k : Int) : Decidable (kindP k) := by unfold kindP; infer_instance
def inF (f : Fld) (c : List Int) : Prop := f.lo ≤ c.getD f.pos 0 ∧ c.getD f.pos 0 ≤ f.hi
instance (f : Fld) (c : List Int) : Decidable (inF f c) := by unfold inF; infer_instance
def bareP (c : List Int) : Prop := c.tail = List.replicate 13 0
instance (c : List Int) : Decidable (bareP c) := by unfold bareP; infer_instance
/-- May: field by field; what is told is taken away; nothing must be left. -/
def mayGo : List Fld → List Int → Prop
  | [], c => bareP c
  | f :: fs, c => inF f c ∧ mayGo fs (c.set f.pos 0)
def decGo : (fs : List Fld) → (c : List Int) → Decidable (mayGo fs c)
  | [], c => inferInstanceAs (Decidable (bareP c))
  | f :: fs, c => by
    unfold mayGo
    have := decGo fs (c.set f.pos 0)
    infer_instance
instance (fs : List Fld) (c : List Int) : Decidable (mayGo fs c) := decGo fs c
def mayD (c : List Int) : Prop := kindP (c.getD 0 0) ∧ mayGo (fldsD (c.getD 0 0)) c
instance (c : List Int) : Decidable (mayD c) := by unfold mayD; infer_instance
/-- May's answer. -/
def mayE (c : List Int) : Int := if mayD c then 0 else 1
def fieldB (c : List Int) (f : Fld) : List Int := numB f.wide (c.getD f.pos 0)
def cmdB (c : List Int) : List Int := numB 1 (c.getD 0 0) ++ (fldsD (c.getD 0 0)).flatMap (fieldB c)
def putB (l : List (List Int)) : List Int := numB 2 l.length ++ l.flatMap cmdB
/-- The bytes of a command of a kind, less one. -/
def restW (k : Int) : Nat := ((fldsD k).map (·.wide)).sum
def zeros : List Int := List.replicate 14 0
theorem fourteen {c : List Int} (h : c.length = 14) : ∃ k s n f r w d p i0 i1 b0 b1 h0 h1, c = [k, s, n, f, r, w, d, p, i0, i1, b0, b1, h0, h1] := by
  match c, h with
  | [k, s, n, f, r, w, d, p, i0, i1, b0, b1, h0, h1], _ => exact ⟨_, _, _, _, _, _, _, _, _, _, _, _, _, _, rfl⟩
/-- What may be, kind by kind. -/
theorem may_load {k s n f r w d p i0 i1 b0 b1 h0 h1 : Int} (hk : k = 1 ∨ k = 2) : mayD [k, s, n, f, r, w, d, p, i0, i1, b0, b1, h0, h1] ↔ (1 ≤ r ∧ r ≤ 16) ∧ (1 ≤ w ∧ w ≤ 128) ∧ (0 ≤ d ∧ d ≤ 65535) ∧ (0 ≤ p ∧ p ≤ 1023) ∧ s = 0 ∧ n = 0 ∧ f = 0 ∧ i0 = 0 ∧ i1 = 0 ∧ b0 = 0 ∧ b1 = 0 ∧ h0 = 0 ∧ h1 = 0 := by
  have e : kindP k := by unfold kindP; omega
  simp [mayD, fldsD, mayGo, inF, bareP, hk, e, List.replicate]
theorem may_tile {k s n f r w d p i0 i1 b0 b1 h0 h1 : Int} (hk : k = 3) : mayD [k, s, n, f, r, w, d, p, i0, i1, b0, b1, h0, h1] ↔ (0 ≤ n ∧ n ≤ 11) ∧ (0 ≤ f ∧ f ≤ 15) ∧ (1 ≤ r ∧ r ≤ 16) ∧ (0 ≤ p ∧ p ≤ 1023) ∧ (0 ≤ i0 ∧ i0 ≤ 1023) ∧ (0 ≤ b0 ∧ b0 ≤ 15) ∧ (0 ≤ h0 ∧ h0 ≤ 16) ∧ (0 ≤ i1 ∧ i1 ≤ 1023) ∧ (0 ≤ b1 ∧ b1 ≤ 15) ∧ (0 ≤ h1 ∧ h1 ≤ 16) ∧ s = 0 ∧ w = 0 ∧ d = 0 := by
  have e : kindP k := by unfold kindP; omega
  subst hk
  simp [mayD, fldsD, mayGo, inF, bareP, e, List.replicate]
theorem may_kernel {k s n f r w d p i0 i1 b0 b1 h0 h1 : Int} (hk : k = 4) : mayD [k, s, n, f, r, w, d, p, i0, i1, b0, b1, h0, h1] ↔ (0 ≤ n ∧ n ≤ 11) ∧ (1 ≤ r ∧ r ≤ 16) ∧ s = 0 ∧ f = 0 ∧ w = 0 ∧ d = 0 ∧ p = 0 ∧ i0 = 0 ∧ i1 = 0 ∧ b0 = 0 ∧ b1 = 0 ∧ h0 = 0 ∧ h1 = 0 := by
  have e : kindP k := by unfold kindP; omega
  subst hk
  simp [mayD, fldsD, mayGo, inF, bareP, e, List.replicate]
theorem may_sem {k s n f r w d p i0 i1 b0 b1 h0 h1 : Int} (hk : k = 5 ∨ k = 6) : mayD [k, s, n, f, r, w, d, p, i0, i1, b0, b1, h0, h1] ↔ (0 ≤ s ∧ s ≤ 7) ∧ n = 0 ∧ f = 0 ∧ r = 0 ∧ w = 0 ∧ d = 0 ∧ p = 0 ∧ i0 = 0 ∧ i1 = 0 ∧ b0 = 0 ∧ b1 = 0 ∧ h0 = 0 ∧ h1 = 0 := by
  have e : kindP k := by unfold kindP; omega
  rcases hk with rfl | rfl <;> simp [mayD, fldsD, mayGo, inF, bareP, e, List.replicate]
theorem may_halt {k s n f r w d p i0 i1 b0 b1 h0 h1 : Int} (hk : k = 7) : mayD [k, s, n, f, r, w, d, p, i0, i1, b0, b1, h0, h1] ↔ s = 0 ∧ n = 0 ∧ f = 0 ∧ r = 0 ∧ w = 0 ∧ d = 0 ∧ p = 0 ∧ i0 = 0 ∧ i1 = 0 ∧ b0 = 0 ∧ b1 = 0 ∧ h0 = 0 ∧ h1 = 0 := by
  have e : kindP k := by unfold kindP; omega
  subst hk
  simp [mayD, fldsD, mayGo, inF, bareP, e, List.replicate]
theorem kind_cases {k : Int} (h : kindP k) : (k = 1 ∨ k = 2) ∨ k = 3 ∨ k = 4 ∨ (k = 5 ∨ k = 6) ∨ k = 7 := by unfold kindP at h; omega
theorem restW_of {k : Int} (c : List Int) : ((fldsD k).flatMap (fieldB c)).length = restW k := by
  unfold restW
  induction fldsD k with
  | nil => rfl
  | cons f fs ih => simp only [List.flatMap_cons, List.length_append, ih, List.map_cons, List.sum_cons, fieldB, numB_len]
theorem cmdB_len (c : List Int) : (cmdB c).length = 1 + restW (c.getD 0 0) := by unfold cmdB; rw [List.length_append, numB_len, restW_of]
theorem cmdB_bytes (c : List Int) : bytesP (cmdB c) := bytesP_app (numB_bytes _ _) (flat_bytes fun f => numB_bytes _ _)
theorem putB_bytes (l : List (List Int)) : bytesP (putB l) := bytesP_app (numB_bytes _ _) (flat_bytes cmdB_bytes)
theorem numB_one {x : Int} (h : 0 ≤ x ∧ x < 256) : numB 1 x = [x] := by
  simp only [numB]
  simp
  omega
theorem fldsD_pos (k : Int) : (∀ f ∈ fldsD k, f.pos < 14 ∧ f.pos ≠ 0) ∧ ((fldsD k).map (·.pos)).Nodup := by
  unfold fldsD
  split
  · decide
  split
  · decide
  split
  · decide
  split
  · decide
  · decide
end Go.Proofs.Ytejllmjkeefloaa.Q8
namespace Go.Proofs.Ytejllmjkeefloaa
open Go

section
variable {P : Program} {ops : Array Oper} {Q : Exit → Act → World → Prop}

/-- A box of its own is made; the world behind it is a letter. -/
theorem wpList_alloc_box {rest : List Oper} {op : Oper} {a : Act} {w : World} (hgd : op.guard = none) (ty : TypeId) (ho : op.op = .alloc ty) (z : Value) (hz : (P.info? ty).map (·.zero) = some (some z)) (S : World → Prop) (hS : S (w.alloc (.cells z.cells ty)))
    (h : ∀ w', S w' → wpList P ops Q rest (a.put op.dst (.pointer (some ⟨w.heap.size, 0, none⟩))) w') : wpList P ops Q (op :: rest) a w := by
  refine wpList_plain hgd fun K hK => ?_
  obtain ⟨i, hi, hiz⟩ : ∃ i, P.info? ty = some i ∧ i.zero = some z := by
    cases hq : P.info? ty with
    | none => simp [hq] at hz
    | some i => exact ⟨i, rfl, by simpa [hq] using hz⟩
  have hrun : (Instr.alloc ty true (.tuple #[])).run P w = .ok (.pointer (some ⟨w.heap.size, 0, none⟩)) (w.alloc (.cells z.cells ty)) := by
    simp [Instr.alloc, zeroValue, typeInfo, newVar, newRow, Sem.run_bind, hi, hiz, go_sem]
  unfold Oper.wp execOp
  simp only [ho]
  simp only [hrun, Sem.run_bind, Sem.run_pure, Result.andThen_ok]
  exact hK _ _ (h _ hS)
end
end Go.Proofs.Ytejllmjkeefloaa
namespace Go.Proofs.Ytejllmjkeefloaa.Q8
open Go.ChangeShapes Go.WideShapes Go.ChangeAt Go.RowKit
set_option linter.unusedVariables false
/-- What is left of May's answer at a field. -/
def goE (fs : List Fld) (c : List Int) : Int := if mayGo fs c then 0 else 1
theorem mayE_kind {c : List Int} (h : kindP (c.getD 0 0)) : mayE c = goE (fldsD (c.getD 0 0)) c := by
  unfold mayE goE
  by_cases q : mayGo (fldsD (c.getD 0 0)) c
  · rw [if_pos ⟨h, q⟩, if_pos q]
  · rw [if_neg (fun k => q k.2), if_neg q]
theorem mayE_none {c : List Int} (h : ¬ kindP (c.getD 0 0)) : mayE c = 1 := if_neg (fun k => h k.1)
theorem goE_yes {f : Fld} {fs : List Fld} {c : List Int} (h : inF f c) : goE (f :: fs) c = goE fs (c.set f.pos 0) := by
  unfold goE
  by_cases q : mayGo fs (c.set f.pos 0)
  · rw [if_pos ⟨h, q⟩, if_pos q]
  · rw [if_neg (fun k => q k.2), if_neg q]
theorem goE_no {f : Fld} {fs : List Fld} {c : List Int} (h : ¬ inF f c) : goE (f :: fs) c = 1 := if_neg (fun k => h k.1)
theorem goE_nil (c : List Int) : goE [] c = if c.tail = List.replicate 13 0 then 0 else 1 := by
  unfold goE
  by_cases q : bareP c
  · exact (if_pos q).trans (if_pos q).symm
  · exact (if_neg q).trans (if_neg q).symm
theorem mayE_ok {c : List Int} : mayE c = 0 ↔ mayD c := by unfold mayE; split <;> simp_all
theorem fldsD_len (k : Int) : (fldsD k).length ≤ 10 := by
  unfold fldsD
  split
  · decide
  split
  · decide
  split
  · decide
  split
  · decide
  · decide
end Go.Proofs.Ytejllmjkeefloaa.Q8
