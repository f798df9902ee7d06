/- Layer 8 in numbers: which commands may be, their bytes, and how bytes are taken. -/
import Derived.Test.YtgbedoffgahhaaaWorld
namespace Go.Proofs.Ytgbedoffgahhaaa.Q8
open Go.ChangeShapes Go.WideShapes Go.ChangeAt Go.RowKit
set_option maxRecDepth 20000
set_option linter.unusedVariables false
set_option linter.unusedSimpArgs false

/-- k bytes of x, the highest first. -/
def numB : Nat → Int → List Int
  | 0, _ => []
  | k + 1, x => x / 256 ^ k % 256 :: numB k x
def foldB (l : List Int) : Int := l.foldl (fun x c => 256 * x + c) 0
/-- Bytes: numbers of 0 to 255. -/
def bytesP (l : List Int) : Prop := ∀ c ∈ l, 0 ≤ c ∧ c < 256
theorem bytesP_app {a b : List Int} (ha : bytesP a) (hb : bytesP b) : bytesP (a ++ b) := fun c hc => by
  rcases List.mem_append.1 hc with h | h
  · exact ha c h
  · exact hb c h
theorem numB_len (k : Nat) (x : Int) : (numB k x).length = k := by
  induction k with
  | zero => rfl
  | succ k ih => simp [numB, ih]
theorem numB_bytes (k : Nat) (x : Int) : bytesP (numB k x) := by
  induction k with
  | zero => intro c hc; simp [numB] at hc
  | succ k ih =>
    intro c hc
    simp only [numB, List.mem_cons] at hc
    rcases hc with rfl | hc
    · omega
    · exact ih c hc
theorem flat_bytes {α : Type} {f : α → List Int} {l : List α} (h : ∀ x, bytesP (f x)) : bytesP (l.flatMap f) := by
  intro c hc
  obtain ⟨x, _, hx⟩ := List.mem_flatMap.1 hc
  exact h x c hx
theorem fold_num (k : Nat) (x a : Int) : (numB k x).foldl (fun x c => 256 * x + c) a = a * 256 ^ k + x % 256 ^ k := by
  induction k generalizing a with
  | zero => simp [numB]
  | succ k ih =>
    simp only [numB, List.foldl_cons]
    rw [ih]
    have hp : (0 : Int) < 256 ^ k := Int.pow_pos (by omega)
    have e1 : x % 256 ^ (k + 1) = 256 ^ k * (x / 256 ^ k % 256) + x % 256 ^ k := by
      rw [Int.pow_succ]
      have h1 := Int.emod_add_mul_ediv x (256 ^ k)
      have h2 := Int.emod_add_mul_ediv (x / 256 ^ k) 256
      have h3 : x = 256 ^ k * 256 * (x / 256 ^ k / 256) + (256 ^ k * (x / 256 ^ k % 256) + x % 256 ^ k) := by
        conv => lhs; rw [← h1, ← h2]
        rw [Int.mul_add, Int.mul_assoc]
        try omega
      have b1 := Int.emod_nonneg x (Int.ne_of_gt hp)
      have b2 := Int.emod_lt_of_pos x hp
      have b3 : 0 ≤ x / 256 ^ k % 256 := by omega
      have b4 : x / 256 ^ k % 256 ≤ 255 := by omega
      have b5 : 0 ≤ 256 ^ k * (x / 256 ^ k % 256) := Int.mul_nonneg (Int.le_of_lt hp) b3
      have b6 : 256 ^ k * (x / 256 ^ k % 256) ≤ 256 ^ k * 255 := Int.mul_le_mul_of_nonneg_left b4 (Int.le_of_lt hp)
      have b7 : (0 : Int) ≤ 256 ^ k * (x / 256 ^ k % 256) + x % 256 ^ k := by omega
      have b8 : 256 ^ k * (x / 256 ^ k % 256) + x % 256 ^ k < 256 ^ k * 256 := by omega
      conv => lhs; rw [h3]
      rw [Int.add_comm, Int.add_mul_emod_self_left]
      exact Int.emod_eq_of_lt b7 b8
    rw [e1, Int.pow_succ, Int.add_mul, Int.mul_comm 256 a, Int.mul_assoc, Int.mul_comm 256 (256 ^ k), Int.mul_comm (x / 256 ^ k % 256) (256 ^ k)]
    omega
theorem num_fold (l : List Int) (a : Int) (hl : bytesP l) : numB l.length (l.foldl (fun x c => 256 * x + c) a) = l ∧ l.foldl (fun x c => 256 * x + c) a / 256 ^ l.length = a ∧ 0 ≤ l.foldl (fun x c => 256 * x + c) a - a * 256 ^ l.length ∧ l.foldl (fun x c => 256 * x + c) a - a * 256 ^ l.length < 256 ^ l.length := by
  induction l generalizing a with
  | nil => simp [numB]
  | cons c l ih =>
    obtain ⟨c0, c1⟩ := hl c (List.mem_cons_self ..)
    obtain ⟨i1, i2, i3, i4⟩ := ih (256 * a + c) (fun d hd => hl d (List.mem_cons_of_mem _ hd))
    simp only [List.foldl_cons, List.length_cons, numB]
    have hp : (0 : Int) < 256 ^ l.length := Int.pow_pos (by omega)
    refine ⟨?_, ?_, ?_, ?_⟩
    · rw [i1, i2]
      congr 1
      omega
    · rw [Int.pow_succ, ← Int.ediv_ediv_of_nonneg (Int.le_of_lt hp), i2]; omega
    · rw [Int.pow_succ]
      rw [Int.add_mul] at i3
      have e : a * (256 ^ l.length * 256) = 256 * a * 256 ^ l.length := by rw [Int.mul_comm (256 ^ l.length) 256, ← Int.mul_assoc, Int.mul_comm a 256]
      have : 0 ≤ c * 256 ^ l.length := Int.mul_nonneg c0 (Int.le_of_lt hp)
      rw [e]; omega
    · rw [Int.pow_succ]
      rw [Int.add_mul] at i4
      have e : a * (256 ^ l.length * 256) = 256 * a * 256 ^ l.length := by rw [Int.mul_comm (256 ^ l.length) 256, ← Int.mul_assoc, Int.mul_comm a 256]
      have : c * 256 ^ l.length ≤ 255 * 256 ^ l.length := Int.mul_le_mul_of_nonneg_right (by omega) (Int.le_of_lt hp)
      rw [e]; omega
theorem fold_numB (k : Nat) (x : Int) : foldB (numB k x) = x % 256 ^ k := by unfold foldB; rw [fold_num]; simp
theorem numB_fold {l : List Int} (hl : bytesP l) : numB l.length (foldB l) = l := (num_fold l 0 hl).1
theorem foldB_bd {l : List Int} (hl : bytesP l) : 0 ≤ foldB l ∧ foldB l < 256 ^ l.length := by
  have := num_fold l 0 hl
  unfold foldB
  omega
theorem foldB_take (l : List Int) (k : Nat) (h : k < l.length) : foldB (l.take (k + 1)) = 256 * foldB (l.take k) + l.getD k 0 := by
  unfold foldB
  rw [List.take_succ_eq_append_getElem h, List.foldl_append]
  simp [List.getD, h]

/-! ### Commands: rows of fourteen numbers. -/
/-- A field: its place, its bounds, how many bytes it has. -/
structure Fld where
  pos : Nat
  lo : Int
  hi : Int
  wide : Nat
def fldsD (k : Int) : List Fld :=
  if k = 1 ∨ k = 2 then [⟨4, 1, 16, 1⟩, ⟨5, 1, 128, 2⟩, ⟨6, 0, 65535, 3⟩, ⟨7, 0, 1023, 2⟩]
  else if k = 3 then [⟨2, 0, 11, 1⟩, ⟨3, 0, 15, 1⟩, ⟨4, 1, 16, 1⟩, ⟨7, 0, 1023, 2⟩, ⟨8, 0, 1023, 2⟩, ⟨10, 0, 15, 1⟩, ⟨12, 0, 16, 1⟩, ⟨9, 0, 1023, 2⟩, ⟨11, 0, 15, 1⟩, ⟨13, 0, 16, 1⟩]
  else if k = 4 then [⟨2, 0, 11, 1⟩, ⟨4, 1, 16, 1⟩]
  else if k = 5 ∨ k = 6 then [⟨1, 0, 7, 1⟩]
  else []
/-- A kind there is. -/
def kindP (k : Int) : Prop := 1 ≤ k ∧ k ≤ 7
instance (k : Int) : Decidable (kindP k) := by unfold kindP; infer_instance
def inF (f : Fld) (c : List Int) : Prop := f.lo ≤ c.getD f.pos 0 ∧ c.getD f.pos 0 ≤ f.hi
instance (f : Fld) (c : List Int) : Decidable (inF f c) := by unfold inF; infer_instance
def bareP (c : List Int) : Prop := c.tail = List.replicate 13 0
instance (c : List Int) : Decidable (bareP c) := by unfold bareP; infer_instance
/-- May: field by field; what is told is taken away; nothing must be left. -/
def mayGo : List Fld → List Int → Prop
  | [], c => bareP c
  | f :: fs, c => inF f c ∧ mayGo fs (c.set f.pos 0)
def decGo : (fs : List Fld) → (c : List Int) → Decidable (mayGo fs c)
  | [], c => inferInstanceAs (Decidable (bareP c))
  | f :: fs, c => by
    unfold mayGo
    have := decGo fs (c.set f.pos 0)
    infer_instance
instance (fs : List Fld) (c : List Int) : Decidable (mayGo fs c) := decGo fs c
def mayD (c : List Int) : Prop := kindP (c.getD 0 0) ∧ mayGo (fldsD (c.getD 0 0)) c
instance (c : List Int) : Decidable (mayD c) := by unfold mayD; infer_instance
/-- May's answer. -/
def mayE (c : List Int) : Int := if mayD c then 0 else 1
def fieldB (c : List Int) (f : Fld) : List Int := numB f.wide (c.getD f.pos 0)
def cmdB (c : List Int) : List Int := numB 1 (c.getD 0 0) ++ (fldsD (c.getD 0 0)).flatMap (fieldB c)
def putB (l : List (List Int)) : List Int := numB 2 l.length ++ l.flatMap cmdB
/-- The bytes of a command of a kind, less one. -/
def restW (k : Int) : Nat := ((fldsD k).map (·.wide)).sum
def zeros : List Int := List.replicate 14 0
def readF : List Fld → List Int → List Int → List Int
  | [], c, _ => c
  | f :: fs, c, t => readF fs (c.set f.pos (foldB (t.take f.wide))) (t.drop f.wide)
/-- A command off the front. -/
def cmdT (k : Int) (t : List Int) : List Int := readF (fldsD k) (zeros.set 0 k) t
def oneT : List Int → Option (List Int × List Int)
  | [] => none
  | k :: t => if kindP k ∧ restW k ≤ t.length ∧ mayD (cmdT k t) then some (cmdT k t, t.drop (restW k)) else none
def takeGo : Nat → List (List Int) → List Int → Option (List (List Int) × List Int)
  | 0, acc, t => some (acc, t)
  | n + 1, acc, t => match oneT t with
    | none => none
    | some (c, u) => takeGo n (acc ++ [c]) u
def takeD (b : List Int) : Option (List (List Int) × List Int) :=
  if b.length < 2 ∨ 4096 < foldB (b.take 2) then none else takeGo (foldB (b.take 2)).toNat [] (b.drop 2)

/-- A command that may be. -/
def okC (c : List Int) : Prop := c.length = 14 ∧ mayD c

theorem fourteen {c : List Int} (h : c.length = 14) : ∃ k s n f r w d p i0 i1 b0 b1 h0 h1, c = [k, s, n, f, r, w, d, p, i0, i1, b0, b1, h0, h1] := by
  match c, h with
  | [k, s, n, f, r, w, d, p, i0, i1, b0, b1, h0, h1], _ => exact ⟨_, _, _, _, _, _, _, _, _, _, _, _, _, _, rfl⟩

/-- What may be, kind by kind. -/
theorem may_load {k s n f r w d p i0 i1 b0 b1 h0 h1 : Int} (hk : k = 1 ∨ k = 2) : mayD [k, s, n, f, r, w, d, p, i0, i1, b0, b1, h0, h1] ↔ (1 ≤ r ∧ r ≤ 16) ∧ (1 ≤ w ∧ w ≤ 128) ∧ (0 ≤ d ∧ d ≤ 65535) ∧ (0 ≤ p ∧ p ≤ 1023) ∧ s = 0 ∧ n = 0 ∧ f = 0 ∧ i0 = 0 ∧ i1 = 0 ∧ b0 = 0 ∧ b1 = 0 ∧ h0 = 0 ∧ h1 = 0 := by
  have e : kindP k := by unfold kindP; omega
  simp [mayD, fldsD, mayGo, inF, bareP, hk, e, List.replicate]
theorem may_tile {k s n f r w d p i0 i1 b0 b1 h0 h1 : Int} (hk : k = 3) : mayD [k, s, n, f, r, w, d, p, i0, i1, b0, b1, h0, h1] ↔ (0 ≤ n ∧ n ≤ 11) ∧ (0 ≤ f ∧ f ≤ 15) ∧ (1 ≤ r ∧ r ≤ 16) ∧ (0 ≤ p ∧ p ≤ 1023) ∧ (0 ≤ i0 ∧ i0 ≤ 1023) ∧ (0 ≤ b0 ∧ b0 ≤ 15) ∧ (0 ≤ h0 ∧ h0 ≤ 16) ∧ (0 ≤ i1 ∧ i1 ≤ 1023) ∧ (0 ≤ b1 ∧ b1 ≤ 15) ∧ (0 ≤ h1 ∧ h1 ≤ 16) ∧ s = 0 ∧ w = 0 ∧ d = 0 := by
  have e : kindP k := by unfold kindP; omega
  subst hk
  simp [mayD, fldsD, mayGo, inF, bareP, e, List.replicate]
theorem may_kernel {k s n f r w d p i0 i1 b0 b1 h0 h1 : Int} (hk : k = 4) : mayD [k, s, n, f, r, w, d, p, i0, i1, b0, b1, h0, h1] ↔ (0 ≤ n ∧ n ≤ 11) ∧ (1 ≤ r ∧ r ≤ 16) ∧ s = 0 ∧ f = 0 ∧ w = 0 ∧ d = 0 ∧ p = 0 ∧ i0 = 0 ∧ i1 = 0 ∧ b0 = 0 ∧ b1 = 0 ∧ h0 = 0 ∧ h1 = 0 := by
  have e : kindP k := by unfold kindP; omega
  subst hk
  simp [mayD, fldsD, mayGo, inF, bareP, e, List.replicate]
theorem may_sem {k s n f r w d p i0 i1 b0 b1 h0 h1 : Int} (hk : k = 5 ∨ k = 6) : mayD [k, s, n, f, r, w, d, p, i0, i1, b0, b1, h0, h1] ↔ (0 ≤ s ∧ s ≤ 7) ∧ n = 0 ∧ f = 0 ∧ r = 0 ∧ w = 0 ∧ d = 0 ∧ p = 0 ∧ i0 = 0 ∧ i1 = 0 ∧ b0 = 0 ∧ b1 = 0 ∧ h0 = 0 ∧ h1 = 0 := by
  have e : kindP k := by unfold kindP; omega
  rcases hk with rfl | rfl <;> simp [mayD, fldsD, mayGo, inF, bareP, e, List.replicate]
theorem may_halt {k s n f r w d p i0 i1 b0 b1 h0 h1 : Int} (hk : k = 7) : mayD [k, s, n, f, r, w, d, p, i0, i1, b0, b1, h0, h1] ↔ s = 0 ∧ n = 0 ∧ f = 0 ∧ r = 0 ∧ w = 0 ∧ d = 0 ∧ p = 0 ∧ i0 = 0 ∧ i1 = 0 ∧ b0 = 0 ∧ b1 = 0 ∧ h0 = 0 ∧ h1 = 0 := by
  have e : kindP k := by unfold kindP; omega
  subst hk
  simp [mayD, fldsD, mayGo, inF, bareP, e, List.replicate]
theorem may_none {k s n f r w d p i0 i1 b0 b1 h0 h1 : Int} (hk : ¬ kindP k) : ¬ mayD [k, s, n, f, r, w, d, p, i0, i1, b0, b1, h0, h1] := fun h => hk (by simpa using h.1)
theorem kind_cases {k : Int} (h : kindP k) : (k = 1 ∨ k = 2) ∨ k = 3 ∨ k = 4 ∨ (k = 5 ∨ k = 6) ∨ k = 7 := by unfold kindP at h; omega

theorem take_numB (k : Nat) (x : Int) (r : List Int) : (numB k x ++ r).take k = numB k x := by
  rw [List.take_append_of_le_length (by rw [numB_len]; exact Nat.le_refl _), List.take_of_length_le (by rw [numB_len]; exact Nat.le_refl _)]
theorem drop_numB (k : Nat) (x : Int) (r : List Int) : (numB k x ++ r).drop k = r := by
  rw [List.drop_append_of_le_length (by rw [numB_len]; exact Nat.le_refl _), List.drop_of_length_le (by rw [numB_len]; exact Nat.le_refl _), List.nil_append]
theorem restW_of {k : Int} (c : List Int) : ((fldsD k).flatMap (fieldB c)).length = restW k := by
  unfold restW
  induction fldsD k with
  | nil => rfl
  | cons f fs ih => simp only [List.flatMap_cons, List.length_append, ih, List.map_cons, List.sum_cons, fieldB, numB_len]
theorem cmdB_len (c : List Int) : (cmdB c).length = 1 + restW (c.getD 0 0) := by unfold cmdB; rw [List.length_append, numB_len, restW_of]
theorem cmdB_bytes (c : List Int) : bytesP (cmdB c) := bytesP_app (numB_bytes _ _) (flat_bytes fun f => numB_bytes _ _)
theorem putB_bytes (l : List (List Int)) : bytesP (putB l) := bytesP_app (numB_bytes _ _) (flat_bytes cmdB_bytes)

theorem numB_one {x : Int} (h : 0 ≤ x ∧ x < 256) : numB 1 x = [x] := by
  simp only [numB]
  simp
  omega

set_option maxHeartbeats 2000000 in
theorem oneT_forth {c : List Int} (h : okC c) (rest : List Int) : oneT (cmdB c ++ rest) = some (c, rest) := by
  obtain ⟨hl, hm⟩ := h
  have hl14 := hl
  obtain ⟨k, s, n, f, r, w, d, p, i0, i1, b0, b1, h0, h1, rfl⟩ := fourteen hl
  have hk : kindP k := by simpa using hm.1
  have e1 : numB 1 k = [k] := numB_one (by unfold kindP at hk; omega)
  have key : cmdT k ((fldsD k).flatMap (fieldB [k, s, n, f, r, w, d, p, i0, i1, b0, b1, h0, h1]) ++ rest) = [k, s, n, f, r, w, d, p, i0, i1, b0, b1, h0, h1] := by
    unfold cmdT
    rcases kind_cases hk with q | q | q | q | q
    · have m := (may_load q).1 hm
      obtain ⟨⟨_, _⟩, ⟨_, _⟩, ⟨_, _⟩, ⟨_, _⟩, rfl, rfl, rfl, rfl, rfl, rfl, rfl, rfl, rfl⟩ := m
      simp only [fldsD, q, if_true, List.flatMap_cons, List.flatMap_nil, List.append_nil, List.append_assoc, readF, fieldB, take_numB, drop_numB, fold_numB]
      simp [zeros, List.replicate]
      omega
    · have m := (may_tile q).1 hm
      obtain ⟨⟨_, _⟩, ⟨_, _⟩, ⟨_, _⟩, ⟨_, _⟩, ⟨_, _⟩, ⟨_, _⟩, ⟨_, _⟩, ⟨_, _⟩, ⟨_, _⟩, ⟨_, _⟩, rfl, rfl, rfl⟩ := m
      subst q
      simp only [fldsD, if_true, List.flatMap_cons, List.flatMap_nil, List.append_nil, List.append_assoc, readF, fieldB, take_numB, drop_numB, fold_numB, show ¬ ((3 : Int) = 1 ∨ (3 : Int) = 2) by decide, if_false]
      simp [zeros, List.replicate]
      omega
    · have m := (may_kernel q).1 hm
      obtain ⟨⟨_, _⟩, ⟨_, _⟩, rfl, rfl, rfl, rfl, rfl, rfl, rfl, rfl, rfl, rfl, rfl⟩ := m
      subst q
      simp only [fldsD, if_true, List.flatMap_cons, List.flatMap_nil, List.append_nil, List.append_assoc, readF, fieldB, take_numB, drop_numB, fold_numB, show ¬ ((4 : Int) = 1 ∨ (4 : Int) = 2) by decide, show ¬ ((4 : Int) = 3) by decide, if_false]
      simp [zeros, List.replicate]
      omega
    · have m := (may_sem q).1 hm
      obtain ⟨⟨_, _⟩, rfl, rfl, rfl, rfl, rfl, rfl, rfl, rfl, rfl, rfl, rfl, rfl⟩ := m
      have n1 : ¬ (k = 1 ∨ k = 2) := by omega
      have n2 : ¬ (k = 3) := by omega
      have n3 : ¬ (k = 4) := by omega
      simp only [fldsD, if_pos q, if_neg n1, if_neg n2, if_neg n3, List.flatMap_cons, List.flatMap_nil, List.append_nil, List.append_assoc, readF, fieldB, take_numB, drop_numB, fold_numB]
      simp [zeros, List.replicate]
      omega
    · have m := (may_halt q).1 hm
      obtain ⟨rfl, rfl, rfl, rfl, rfl, rfl, rfl, rfl, rfl, rfl, rfl, rfl, rfl⟩ := m
      subst q
      simp [fldsD, readF, zeros, List.replicate]
  unfold cmdB
  simp only [List.getD_cons_zero]
  rw [e1]
  have hw := restW_of (k := k) [k, s, n, f, r, w, d, p, i0, i1, b0, b1, h0, h1]
  show oneT (k :: ((fldsD k).flatMap (fieldB [k, s, n, f, r, w, d, p, i0, i1, b0, b1, h0, h1]) ++ rest)) = _
  simp only [oneT]
  rw [key, if_pos ⟨hk, by rw [List.length_append, hw]; omega, hm⟩, List.drop_append_of_le_length (by omega), List.drop_of_length_le (by omega), List.nil_append]

theorem readF_len (fs : List Fld) (c t : List Int) : (readF fs c t).length = c.length := by
  induction fs generalizing c t with
  | nil => rfl
  | cons f fs ih => unfold readF; rw [ih]; simp
theorem cmdT_len (k : Int) (t : List Int) : (cmdT k t).length = 14 := by unfold cmdT; rw [readF_len]; simp [zeros]
theorem take_cut {t : List Int} (w : Nat) (hb : bytesP t) (h : w ≤ t.length) : numB w (foldB (t.take w)) = t.take w := by
  have := numB_fold (l := t.take w) (fun c hc => hb c (List.mem_of_mem_take hc))
  rwa [List.length_take, Nat.min_eq_left h] at this
/-- Reading goes back: the numbers that were read are laid down as the bytes. -/
theorem read_lay (fs : List Fld) (c0 t : List Int) (c : List Int) (hb : bytesP t) (hl : (fs.map (·.wide)).sum ≤ t.length) (hc : c = readF fs c0 t) (hp : ∀ f ∈ fs, f.pos < c0.length) (hd : (fs.map (·.pos)).Nodup) :
    fs.flatMap (fieldB c) ++ t.drop (fs.map (·.wide)).sum = t ∧ ∀ j, (∀ f ∈ fs, f.pos ≠ j) → c.getD j 0 = c0.getD j 0 := by
  induction fs generalizing c0 t with
  | nil => subst hc; simp [readF]
  | cons f fs ih =>
    simp only [List.map_cons, List.sum_cons] at hl ⊢
    simp only [List.map_cons, List.nodup_cons, List.mem_map, not_exists, not_and] at hd
    unfold readF at hc
    obtain ⟨h1, h2⟩ := ih (c0.set f.pos (foldB (t.take f.wide))) (t.drop f.wide) (fun x hx => hb x (List.mem_of_mem_drop hx)) (by rw [List.length_drop]; omega) hc (fun g hg => by rw [List.length_set]; exact hp g (List.mem_cons_of_mem _ hg)) hd.2
    have e0 : c.getD f.pos 0 = foldB (t.take f.wide) := by
      rw [h2 f.pos (fun g hg e => hd.1 g hg e)]
      simp [List.getD, hp f (List.mem_cons_self ..)]
    refine ⟨?_, fun j hj => ?_⟩
    · rw [List.flatMap_cons, List.append_assoc, ← List.drop_drop, h1]
      unfold fieldB
      rw [e0, take_cut _ hb (by omega), List.take_append_drop]
    · rw [h2 j (fun g hg => hj g (List.mem_cons_of_mem _ hg))]
      simp [List.getD, List.getElem?_set, hj f (List.mem_cons_self ..)]
theorem fldsD_pos (k : Int) : (∀ f ∈ fldsD k, f.pos < 14 ∧ f.pos ≠ 0) ∧ ((fldsD k).map (·.pos)).Nodup := by
  unfold fldsD
  split
  · decide
  split
  · decide
  split
  · decide
  split
  · decide
  · decide
theorem oneT_back {b : List Int} (hb : bytesP b) {c r : List Int} (h : oneT b = some (c, r)) : okC c ∧ b = cmdB c ++ r := by
  match b, h with
  | k :: t, h =>
    simp only [oneT] at h
    by_cases q : kindP k ∧ restW k ≤ t.length ∧ mayD (cmdT k t)
    · rw [if_pos q] at h
      obtain ⟨hk, hl, hm⟩ := q
      simp only [Option.some.injEq, Prod.mk.injEq] at h
      obtain ⟨rfl, rfl⟩ := h
      have kb := hb k (List.mem_cons_self ..)
      obtain ⟨h1, h2⟩ := read_lay (fldsD k) (zeros.set 0 k) t _ (fun x hx => hb x (List.mem_cons_of_mem _ hx)) hl rfl (fun f hf => by simp [zeros]; exact ((fldsD_pos k).1 f hf).1) (fldsD_pos k).2
      have e0 : (cmdT k t).getD 0 0 = k := by
        unfold cmdT
        rw [h2 0 (fun f hf => ((fldsD_pos k).1 f hf).2)]
        simp [zeros]
      refine ⟨⟨cmdT_len k t, hm⟩, ?_⟩
      unfold cmdB
      rw [e0, numB_one kb]
      have h1' : (fldsD k).flatMap (fieldB (cmdT k t)) ++ t.drop (restW k) = t := h1
      rw [List.append_assoc, h1']
      rfl
    · rw [if_neg q] at h
      cases h

theorem takeGo_forth (l acc : List (List Int)) (rest : List Int) (h : ∀ c ∈ l, okC c) : takeGo l.length acc (l.flatMap cmdB ++ rest) = some (acc ++ l, rest) := by
  induction l generalizing acc with
  | nil => simp [takeGo]
  | cons c l ih =>
    simp only [List.flatMap_cons, List.length_cons, takeGo, List.append_assoc, oneT_forth (h c (List.mem_cons_self ..))]
    rw [ih _ (fun d hd => h d (List.mem_cons_of_mem _ hd))]
    simp
theorem takeGo_back (n : Nat) (acc : List (List Int)) (t : List Int) (hb : bytesP t) {l : List (List Int)} {r : List Int} (h : takeGo n acc t = some (l, r)) : ∃ m, l = acc ++ m ∧ m.length = n ∧ (∀ c ∈ m, okC c) ∧ t = m.flatMap cmdB ++ r := by
  induction n generalizing acc t with
  | zero =>
    simp only [takeGo, Option.some.injEq, Prod.mk.injEq] at h
    exact ⟨[], by simp [h.1], rfl, by simp, by simp [h.2]⟩
  | succ n ih =>
    unfold takeGo at h
    cases e : oneT t with
    | none => rw [e] at h; cases h
    | some x =>
      obtain ⟨c, u⟩ := x
      rw [e] at h
      simp only at h
      obtain ⟨oc, rfl⟩ := oneT_back hb e
      obtain ⟨m, h1, h2, h3, h4⟩ := ih (acc ++ [c]) u (fun x hx => hb x (List.mem_append_right _ hx)) h
      refine ⟨c :: m, by simp [h1], by simp [h2], fun d hd => ?_, by rw [List.flatMap_cons, List.append_assoc, ← h4]⟩
      rcases List.mem_cons.1 hd with rfl | hd
      · exact oc
      · exact h3 d hd
theorem takeD_forth (l : List (List Int)) (rest : List Int) (h : ∀ c ∈ l, okC c) (hl : l.length ≤ 4096) : takeD (putB l ++ rest) = some (l, rest) := by
  unfold takeD putB
  rw [List.append_assoc, take_numB, drop_numB, fold_numB]
  have e : ((l.length : Nat) : Int) % 256 ^ 2 = (l.length : Int) := by omega
  rw [e, if_neg (by rw [List.length_append, numB_len]; omega), Int.toNat_natCast, takeGo_forth l [] rest h]
  simp
theorem takeD_back {b : List Int} (hb : bytesP b) {l : List (List Int)} {r : List Int} (h : takeD b = some (l, r)) : (∀ c ∈ l, okC c) ∧ l.length ≤ 4096 ∧ b = putB l ++ r := by
  unfold takeD at h
  split at h
  · cases h
  · rename_i q
    have hb2 : bytesP (b.take 2) := fun c hc => hb c (List.mem_of_mem_take hc)
    have hl2 : (b.take 2).length = 2 := by rw [List.length_take]; omega
    have bd := foldB_bd hb2
    obtain ⟨m, h1, h2, h3, h4⟩ := takeGo_back _ _ _ (fun c hc => hb c (List.mem_of_mem_drop hc)) h
    simp only [List.nil_append] at h1
    subst h1
    refine ⟨h3, by omega, ?_⟩
    unfold putB
    have e : ((l.length : Nat) : Int) = foldB (b.take 2) := by rw [h2]; omega
    have := numB_fold hb2
    rw [hl2] at this
    rw [e, this, List.append_assoc, ← h4, List.take_append_drop]
/-- No row of commands has the bytes of another. -/
theorem putB_inj {l m : List (List Int)} (h : ∀ c ∈ l, okC c) (k : ∀ c ∈ m, okC c) (hl : l.length ≤ 4096) (hm : m.length ≤ 4096) (e : putB l = putB m) : l = m := by
  have h1 := takeD_forth l [] h hl
  have h2 := takeD_forth m [] k hm
  rw [e, h2] at h1
  simpa using h1.symm
/-- What is cut is none. -/
theorem takeD_cut {l : List (List Int)} (h : ∀ c ∈ l, okC c) (hl : l.length ≤ 4096) {n : Nat} (hn : n < (putB l).length) : takeD ((putB l).take n) = none := by
  cases e : takeD ((putB l).take n) with
  | none => rfl
  | some x =>
    obtain ⟨m, r⟩ := x
    obtain ⟨h1, h2, h3⟩ := takeD_back (fun c hc => putB_bytes l c (List.mem_of_mem_take hc)) e
    have e2 : putB l = putB m ++ (r ++ (putB l).drop n) := by rw [← List.append_assoc, ← h3, List.take_append_drop]
    have h4 := takeD_forth l [] h hl
    rw [List.append_nil] at h4
    rw [e2, takeD_forth m _ h1 h2] at h4
    simp only [Option.some.injEq, Prod.mk.injEq, List.append_eq_nil_iff] at h4
    have := congrArg List.length h4.2.2
    rw [List.length_drop] at this
    simp at this
    omega
/-- Where what was taken ends. -/
theorem takeD_len {b : List Int} (hb : bytesP b) {l : List (List Int)} {r : List Int} (h : takeD b = some (l, r)) : b.length - r.length = (putB l).length ∧ (putB l).length ≤ b.length ∧ b.take (putB l).length = putB l := by
  obtain ⟨_, _, e⟩ := takeD_back hb h
  rw [e]
  simp
/-- Steps. -/
def stepsD (c : List Int) : Int := if 1 ≤ c.getD 0 0 ∧ c.getD 0 0 ≤ 4 then c.getD 4 0 else 1
theorem steps_bd {c : List Int} (h : okC c) : 1 ≤ stepsD c ∧ stepsD c ≤ 16 := by
  obtain ⟨hl, hm⟩ := h
  obtain ⟨k, s, n, f, r, w, d, p, i0, i1, b0, b1, h0, h1, rfl⟩ := fourteen hl
  have hk : kindP k := by simpa using hm.1
  unfold stepsD
  simp
  rcases kind_cases hk with q | q | q | q | q
  · have := (may_load q).1 hm; split <;> omega
  · have := (may_tile q).1 hm; split <;> omega
  · have := (may_kernel q).1 hm; split <;> omega
  · split <;> omega
  · split <;> omega
end Go.Proofs.Ytgbedoffgahhaaa.Q8
