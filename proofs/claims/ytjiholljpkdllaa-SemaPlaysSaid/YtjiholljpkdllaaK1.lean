/- Semaphores: where they lie in memory, and what stays as it was. -/
import Derived.Test.YtjiholljpkdllaaS0
import Derived.Conc.LoneCalls
import Derived.Conc.LoneSelect
import Derived.Conc.LoneSelectN
import Derived.KernelRfl
import Derived.Laws.Rows
namespace Go.Proofs.Ytjiholljpkdllaa
open Go.ChangeShapes Go.WideShapes Go.ChangeAt Go.RowKit
set_option maxRecDepth 20000
set_option linter.unusedVariables false
/-- All blocks but those from lo up to hi are as they were. -/
def But (lo hi : Nat) (w w' : World) : Prop := w'.os = w.os ∧ w'.output = w.output ∧ w.heap.size ≤ w'.heap.size ∧ ∀ k, k < w.heap.size → (k < lo ∨ hi ≤ k) → w'.heap[k]? = w.heap[k]?
theorem But.refl (lo hi : Nat) (w : World) : But lo hi w w := ⟨rfl, rfl, Nat.le_refl _, fun _ _ _ => rfl⟩
theorem But.trans {lo hi : Nat} {a b c : World} (h : But lo hi a b) (k : But lo hi b c) : But lo hi a c :=
  ⟨k.1.trans h.1, k.2.1.trans h.2.1, Nat.le_trans h.2.2.1 k.2.2.1, fun i hi r => (k.2.2.2 i (Nat.lt_of_lt_of_le hi h.2.2.1) r).trans (h.2.2.2 i hi r)⟩
theorem Past.but {a b : World} (h : Past a b) (lo hi : Nat) : But lo hi a b := ⟨h.1, h.2.1, h.2.2.1, fun k hk _ => h.2.2.2 k hk⟩
theorem But.past {a b c : World} {lo hi : Nat} (h : But lo hi b c) (g : Past a b) (hl : a.heap.size ≤ lo) : Past a c :=
  ⟨h.1.trans g.1, h.2.1.trans g.2.1, Nat.le_trans g.2.2.1 h.2.2.1, fun k hk => (h.2.2.2 k (Nat.lt_of_lt_of_le hk g.2.2.1) (Or.inl (Nat.lt_of_lt_of_le hk hl))).trans (g.2.2.2 k hk)⟩
theorem But.mono {a b : World} {lo hi lo' hi' : Nat} (h : But lo hi a b) (h1 : lo' ≤ lo) (h2 : hi ≤ hi') : But lo' hi' a b :=
  ⟨h.1, h.2.1, h.2.2.1, fun k hk r => h.2.2.2 k hk (by omega)⟩
theorem But.cell {a b : World} {lo hi : Nat} (h : But lo hi a b) {p : Addr} (hp : p.block < a.heap.size) (r : p.block < lo ∨ hi ≤ p.block) : b.cell? p = a.cell? p := World.cell?_of_block (h.2.2.2 p.block hp r)
theorem But.free {a b : World} {lo hi : Nat} (h : But lo hi a b) {p : Addr} (hp : p.block < a.heap.size) (r : p.block < lo ∨ hi ≤ p.block) : b.frozen? p = a.frozen? p := World.frozen?_of_block (h.2.2.2 p.block hp r)
/-- Eight semaphores at block b: their counts. -/
structure SemAt (w : World) (b : Nat) (l : List Nat) : Prop where
  len : l.length = 8
  most : ∀ k, k < 8 → l.getD k 0 ≤ 15
  size : b + 9 ≤ w.heap.size
  cell : ∀ k : Nat, k < 8 → w.cell? ⟨b, k, none⟩ = some (.chan (some (b + 1 + k)))
  chan : ∀ k : Nat, k < 8 → ∃ (buf : Array Value) (s r : Nat), w.heap[b + 1 + k]? = some (.chan 15 buf false s r false) ∧ buf.size = l.getD k 0
theorem SemAt.keep {w w' : World} {b lo hi : Nat} {l : List Nat} (h : SemAt w b l) (g : But lo hi w w') (r : b + 9 ≤ lo ∨ hi ≤ b) : SemAt w' b l := by
  have hs := h.size
  refine ⟨h.len, h.most, Nat.le_trans hs g.2.2.1, fun k hk => (g.cell (p := ⟨b, k, none⟩) (show b < _ by omega) (show b < lo ∨ hi ≤ b by omega)).trans (h.cell k hk), fun k hk => ?_⟩
  obtain ⟨buf, s, q, e, n⟩ := h.chan k hk
  exact ⟨buf, s, q, (g.2.2.2 (b + 1 + k) (by omega) (by omega)).trans e, n⟩
theorem SemAt.grow {w w' : World} {b : Nat} {l : List Nat} (h : SemAt w b l) (g : Past w w') : SemAt w' b l := h.keep (g.but 0 0) (Or.inr (Nat.zero_le _))
theorem setChan_size (w : World) (c cap : Nat) (buf : Array Value) (cl : Bool) (s r : Nat) (tm : Bool) : (w.setChan c cap buf cl s r tm).heap.size = w.heap.size := by simp [World.setChan]
theorem setChan_other (w : World) (c c' cap : Nat) (buf : Array Value) (cl : Bool) (s r : Nat) (tm : Bool) (h : c ≠ c') : (w.setChan c cap buf cl s r tm).heap[c']? = w.heap[c']? := by
  simp [World.setChan, Array.getElem?_setIfInBounds_ne h]
theorem But.setChan {w : World} {lo hi c : Nat} (h1 : lo ≤ c) (h2 : c < hi) (cap : Nat) (buf : Array Value) (cl : Bool) (s r : Nat) (tm : Bool) : But lo hi w (w.setChan c cap buf cl s r tm) :=
  ⟨rfl, rfl, by rw [setChan_size]; exact Nat.le_refl _, fun k _ hr => setChan_other _ _ _ _ _ _ _ _ _ (by omega)⟩
theorem getD_set {l : List Nat} {k j x : Nat} (hk : k < l.length) : (l.set k x).getD j 0 = if j = k then x else l.getD j 0 := by
  by_cases h : j = k
  · subst h; simp [List.getD, hk]
  · have : k ≠ j := fun e => h e.symm
    simp [List.getD, List.getElem?_set_ne this, h]
theorem SemAt.turn {w : World} {b k n s r : Nat} {l : List Nat} {buf : Array Value} (h : SemAt w b l) (hk : k < 8) (hb : buf.size = n) (hn : n ≤ 15) : SemAt (w.setChan (b + 1 + k) 15 buf false s r false) b (l.set k n) ∧ But (b + 1) (b + 9) w (w.setChan (b + 1 + k) 15 buf false s r false) := by
  have hs := h.size
  have hl := h.len
  have B : But (b + 1) (b + 9) w (w.setChan (b + 1 + k) 15 buf false s r false) := But.setChan (by omega) (by omega) _ _ _ _ _ _
  refine ⟨⟨by simp [hl], fun j hj => ?_, by rw [setChan_size]; exact hs, fun j hj => (B.cell (p := ⟨b, j, none⟩) (show b < _ by omega) (Or.inl (show b < b + 1 by omega))).trans (h.cell j hj), fun j hj => ?_⟩, B⟩
  · rw [getD_set (by omega)]
    split
    · exact hn
    · exact h.most j hj
  · rw [getD_set (by omega)]
    by_cases c : j = k
    · subst c
      exact ⟨buf, s, r, Go.Conc.heap_setChan w (b + 1 + j) 15 buf false s r false (by omega), by simp [hb]⟩
    · obtain ⟨bf, s', r', e, q⟩ := h.chan j hj
      exact ⟨bf, s', r', (setChan_other _ _ _ _ _ _ _ _ _ (by omega)).trans e, by simp [c, q]⟩
/-- Is there a semaphore of that number. -/
def okS (i : Int) : Bool := decide (0 ≤ i) && decide (i < 8)
theorem okS_iff {i : Int} : okS i = true ↔ ∃ k : Nat, k < 8 ∧ i = k := by
  simp only [okS, Bool.and_eq_true, decide_eq_true_eq]
  constructor
  · rintro ⟨h1, h2⟩
    exact ⟨i.toNat, by omega, by omega⟩
  · rintro ⟨k, h, rfl⟩
    omega
theorem there_any (w : World) (i : Int) : Calls Try.prog 20 #[.int .i64 i] w fun e w' => e = .returned (.bool (okS i)) ∧ w = w' := by
  by_cases h1 : 0 ≤ i
  · by_cases h2 : i < 8
    · have e : okS i = true := by simp [okS, h1, h2]
      have d1 : decide (0 ≤ i) = true := by simpa using h1
      have d2 : decide (i < 8) = true := by simpa using h2
      rw [e]
      go_enter Try.func20, Try.ntmps20
      go_wp2_with fail
      go_ret
      exact ⟨rfl, rfl⟩
    · have e : okS i = false := by simp [okS, h2]
      have d1 : decide (0 ≤ i) = true := by simpa using h1
      have d2 : decide (i < 8) = false := by simpa using h2
      rw [e]
      go_enter Try.func20, Try.ntmps20
      go_wp2_with fail
      go_ret
      exact ⟨rfl, rfl⟩
  · have e : okS i = false := by simp [okS, h1]
    have d1 : decide (0 ≤ i) = false := by simpa using h1
    rw [e]
    go_enter Try.func20, Try.ntmps20
    go_wp2_with fail
    go_ret
    exact ⟨rfl, rfl⟩
/-- What Count tells. -/
def countS (l : List Nat) (i : Int) : Int := if okS i = true then (l.getD i.toNat 0 : Nat) else 0
theorem count_any (w : World) (b : Nat) (l : List Nat) (i : Int) (h : SemAt w b l) : Calls Try.prog 15 #[.pointer (some ⟨b, 0, none⟩), .int .i64 i] w fun e w' => e = .returned (.int .i64 (countS l i)) ∧ w = w' := by
  by_cases c : okS i = true
  · obtain ⟨k, hk, rfl⟩ := okS_iff.1 c
    have e : countS l k = (l.getD k 0 : Nat) := by simp [countS, c]
    rw [e]
    have x1 := h.cell k hk
    obtain ⟨buf, s, r, x2, x3⟩ := h.chan k hk
    have hlen := fun ty => Go.Conc.run_len_chan (P := Try.prog) 39 ty Try.underlying39 x2
    rw [x3] at hlen
    have i1 : (0 : Int) ≤ (k : Int) := by omega
    have i2 : (k : Int) < 8 := by omega
    go_enter Try.func15, Try.ntmps15
    go_wp2_with (go_at_call 20; refine (there_any _ _).mono ?_; rintro e w0 ⟨rfl, rfl⟩; simp only [c])
    go_ret
    exact ⟨rfl, rfl⟩
  · have c' : okS i = false := by simpa using c
    have e : countS l i = 0 := by simp [countS, c']
    rw [e]
    go_enter Try.func15, Try.ntmps15
    go_wp2_with (go_at_call 20; refine (there_any _ _).mono ?_; rintro e w0 ⟨rfl, rfl⟩; simp only [c'])
    go_ret
    exact ⟨rfl, rfl⟩
end Go.Proofs.Ytjiholljpkdllaa
