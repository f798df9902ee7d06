/- Rows of int8 in memory; memories: where they lie, and what stays as it was. -/
import Derived.Test.YtlpcppdpodedmaaS0
import Derived.KernelRfl
import Derived.Laws.Rows
import Derived.Laws.AppendOwn
import Derived.Laws.OwnMore
import Derived.Laws.CopyOwn
import Derived.OwnWalk
import Derived.Deep.RegionLaw
namespace Go.Proofs.Ytlpcppdpodedmaa
open Go.ChangeShapes Go.WideShapes Go.ChangeAt Go.RowKit
set_option maxRecDepth 20000
set_option linter.unusedVariables false
/-- All blocks but those from lo up to hi are as they were. -/
def But (lo hi : Nat) (w w' : World) : Prop := w'.os = w.os ∧ w'.output = w.output ∧ w.heap.size ≤ w'.heap.size ∧ ∀ k, k < w.heap.size → (k < lo ∨ hi ≤ k) → w'.heap[k]? = w.heap[k]?
theorem But.refl (lo hi : Nat) (w : World) : But lo hi w w := ⟨rfl, rfl, Nat.le_refl _, fun _ _ _ => rfl⟩
theorem But.trans {lo hi : Nat} {a b c : World} (h : But lo hi a b) (k : But lo hi b c) : But lo hi a c :=
  ⟨k.1.trans h.1, k.2.1.trans h.2.1, Nat.le_trans h.2.2.1 k.2.2.1, fun i hi r => (k.2.2.2 i (Nat.lt_of_lt_of_le hi h.2.2.1) r).trans (h.2.2.2 i hi r)⟩
theorem Past.but {a b : World} (h : Past a b) (lo hi : Nat) : But lo hi a b := ⟨h.1, h.2.1, h.2.2.1, fun k hk _ => h.2.2.2 k hk⟩
theorem But.past {a b c : World} {lo hi : Nat} (h : But lo hi b c) (g : Past a b) (hl : a.heap.size ≤ lo) : Past a c :=
  ⟨h.1.trans g.1, h.2.1.trans g.2.1, Nat.le_trans g.2.2.1 h.2.2.1, fun k hk => (h.2.2.2 k (Nat.lt_of_lt_of_le hk g.2.2.1) (Or.inl (Nat.lt_of_lt_of_le hk hl))).trans (g.2.2.2 k hk)⟩
theorem But.mono {a b : World} {lo hi lo' hi' : Nat} (h : But lo hi a b) (h1 : lo' ≤ lo) (h2 : hi ≤ hi') : But lo' hi' a b :=
  ⟨h.1, h.2.1, h.2.2.1, fun k hk r => h.2.2.2 k hk (by omega)⟩
theorem But.cell {a b : World} {lo hi : Nat} (h : But lo hi a b) {p : Addr} (hp : p.block < a.heap.size) (r : p.block < lo ∨ hi ≤ p.block) : b.cell? p = a.cell? p := World.cell?_of_block (h.2.2.2 p.block hp r)
theorem But.free {a b : World} {lo hi : Nat} (h : But lo hi a b) {p : Addr} (hp : p.block < a.heap.size) (r : p.block < lo ∨ hi ≤ p.block) : b.frozen? p = a.frozen? p := World.frozen?_of_block (h.2.2.2 p.block hp r)
theorem But.setCell (w : World) {lo hi : Nat} {a : Addr} (h1 : lo ≤ a.block) (h2 : a.block < hi) (u : Value) : But lo hi w (w.setCell a u) :=
  ⟨rfl, rfl, by simp [World.setCell], fun k _ hr => Below.heap_setCell _ _ _ _ (by omega)⟩
def cell8 (l : List Int) : List Value := l.map (Value.int .i8)
theorem cell8_len (l : List Int) : (cell8 l).length = l.length := by simp [cell8]
theorem cell8_one (l : List Int) : ∀ v ∈ cell8 l, v.oneCell' = true := by
  intro v hv
  obtain ⟨x, _, rfl⟩ := List.mem_map.1 hv
  rfl
theorem cell8_at (l : List Int) (i : Nat) (h : i < l.length) : (cell8 l)[i]? = some (.int .i8 (l.getD i 0)) := by simp [cell8, List.getD, h]
theorem cell8_set (l : List Int) (j : Nat) (c : Int) : (cell8 l).set j (.int .i8 c) = cell8 (l.set j c) := by simp [cell8, List.map_set]
/-- Numbers of a byte. -/
def Wf8 (l : List Int) : Prop := ∀ x ∈ l, (Lit.int .i8 x).wf = true
theorem wf8_at {l : List Int} (h : Wf8 l) (i : Nat) : (Lit.int .i8 (l.getD i 0)).wf = true := by
  by_cases c : i < l.length
  · have : l.getD i 0 = l[i] := by simp [List.getD, c]
    rw [this]; exact h _ (List.getElem_mem c)
  · have : l.getD i 0 = 0 := by simp [List.getD, c]
    rw [this]; rfl
theorem wf8_rep (n : Nat) : Wf8 (List.replicate n 0) := fun x hx => by rw [List.eq_of_mem_replicate hx]; rfl
/-- A block that holds just these numbers. -/
def Row8 (w : World) (b : Nat) (l : List Int) : Prop := w.heap[b]? = some (.cells (cell8 l).toArray 38 (0, 0))
theorem Row8.lt {w : World} {b : Nat} {l : List Int} (h : Row8 w b l) : b < w.heap.size := (Array.getElem?_eq_some_iff.1 h).1
theorem Row8.cell {w : World} {b : Nat} {l : List Int} (h : Row8 w b l) {i : Nat} (hi : i < l.length) : w.cell? ⟨b, i, none⟩ = some (.int .i8 (l.getD i 0)) := by
  rw [← cell8_at l i hi]
  unfold Row8 at h
  simp [World.cell?, h]
theorem Row8.free {w : World} {b : Nat} {l : List Int} (h : Row8 w b l) : (∀ o : Nat, w.frozen? ⟨b, o, none⟩ = false) := fun o => frozen_of_row w b o _ _ h
theorem Row8.keep {w w' : World} {b lo hi : Nat} {l : List Int} (h : Row8 w b l) (g : But lo hi w w') (r : b < lo ∨ hi ≤ b) : Row8 w' b l := (g.2.2.2 b h.lt r).trans h
theorem Row8.past {w w' : World} {b : Nat} {l : List Int} (h : Row8 w b l) (g : Past w w') : Row8 w' b l := (g.2.2.2 b h.lt).trans h
theorem Row8.set {w : World} {b : Nat} {l : List Int} (h : Row8 w b l) (j : Nat) (c : Int) : Row8 (w.setCell ⟨b, j, none⟩ (.int .i8 c)) b (l.set j c) := by
  have := heap_setCell_same w b j (cell8 l).toArray 38 (.int .i8 c) h
  unfold Row8
  rw [this, ← cell8_set]
  simp
theorem Row8.nums {w : World} {b : Nat} {l : List Int} (h : Row8 w b l) (hb : Wf8 l) (hm : l.length ≤ maxLen) : IsNums .i8 w (.slice (some ⟨b, 0, none⟩) l.length l.length) l := by
  refine ⟨some ⟨b, 0, none⟩, l.length, rfl, Nat.le_refl _, hm, (fun h => by cases h), hb, fun _ => ⟨b, 0, rfl, h.lt, fun i hi => ?_⟩⟩
  rw [Nat.zero_add]
  exact h.cell hi
theorem row_of_own8 {w : World} {base b n : Nat} {xs : List Value} {l : List Int} (h : w.ownsRow base 38 1 (.slice (some ⟨b, 0, none⟩) n n) n xs) (e : xs = cell8 l) : Row8 w b l := by
  subst e
  obtain ⟨hl, h⟩ := h
  rcases h with ⟨h', _⟩ | ⟨g, cap, cur, h', hb, hg, hn, hm, hs, ht⟩
  · simp at h'
  · simp only [Value.slice.injEq, Option.some.injEq, Addr.mk.injEq, and_true, true_and] at h'
    obtain ⟨rfl, rfl⟩ := h'
    unfold Row8
    rw [hg, ← ht, List.take_of_length_le (by simp [hs])]
theorem nums_cells8 {w : World} {A : Option Addr} {len cap : Nat} {l : List Int} (h : IsNums .i8 w (.slice A len cap) l) : 0 < (cell8 l).length → ∃ ad, A = some ad ∧ ∀ j v, (cell8 l)[j]? = some v → w.cell? (ad.add j) = some v := by
  intro hp
  obtain ⟨A', cap', e, h2, h3, h4, h5, h6⟩ := h
  simp only [Value.slice.injEq] at e
  obtain ⟨rfl, rfl, rfl⟩ := e
  rw [cell8_len] at hp
  obtain ⟨b, off, rfl, hb, hc⟩ := h6 hp
  refine ⟨_, rfl, fun j v hv => ?_⟩
  have hj : j < l.length := by have := (List.getElem?_eq_some_iff.1 hv).1; rwa [cell8_len] at this
  rw [add_plain, hc j hj, ← cell8_at l j hj, hv]
theorem info_parts {e : TypeId} {z : Value} {s b : Nat} (h : (Try.prog.info? e).map (fun i => (i.zero, i.size, i.bytes)) = some (some z, s, b)) : ∃ i, Try.prog.info? e = some i ∧ i.zero = some z ∧ i.size = s ∧ i.bytes = b := by
  obtain ⟨i, hi, hb⟩ := Option.map_eq_some_iff.1 h
  simp only [Prod.mk.injEq] at hb
  exact ⟨i, hi, hb⟩
theorem info8 : (Try.prog.info? 38).map (fun i => (i.zero, i.size, i.bytes)) = some (some (.int .i8 0), 1, 1) := by kernel_rfl
theorem size8 : (Try.prog.info? 38).map (·.size) = some 1 := by kernel_rfl
theorem nums_form {k : IntKind} {w : World} {v : Value} {l : List Int} (h : IsNums k w v l) : ∃ A cap, v = .slice A l.length cap ∧ l.length ≤ cap ∧ cap ≤ maxLen ∧ (A = none → cap = 0) := by
  obtain ⟨A, cap, rfl, h2, h3, h4, _⟩ := h
  exact ⟨A, cap, rfl, h2, h3, h4⟩
theorem nums_wf {w : World} {v : Value} {l : List Int} (h : IsNums .i8 w v l) : Wf8 l := by
  obtain ⟨A, cap, rfl, h2, h3, h4, h5, _⟩ := h
  exact h5
theorem nums_cut {k : IntKind} {w : World} {A : Option Addr} {len cap : Nat} {l : List Int} (m : Nat) (hm : m ≤ l.length) (h : IsNums k w (.slice A len cap) l) : IsNums k w (.slice A m cap) (l.take m) := by
  obtain ⟨A', cap', e, h2, h3, h4, h5, h6⟩ := h
  simp only [Value.slice.injEq] at e
  obtain ⟨rfl, rfl, rfl⟩ := e
  have e1 : (l.take m).length = m := by simp; omega
  refine ⟨A, cap, by rw [e1], by omega, h3, h4, fun x hx => h5 x (List.mem_of_mem_take hx), fun hp => ?_⟩
  rw [e1] at hp
  obtain ⟨b, off, rfl, hb, hc⟩ := h6 (by omega)
  refine ⟨b, off, rfl, hb, fun i hi => ?_⟩
  rw [e1] at hi
  rw [hc i (by omega)]
  simp [List.getD, hi]
theorem nums_drop {k : IntKind} {w : World} {b off len cap n : Nat} {l : List Int} (h : IsNums k w (.slice (some ⟨b, off, none⟩) len cap) l) (hn : n ≤ l.length) : IsNums k w (.slice (some ⟨b, off + n, none⟩) (len - n) (cap - n)) (l.drop n) := by
  obtain ⟨A', cap', e, h2, h3, h4, h5, h6⟩ := h
  simp only [Value.slice.injEq] at e
  obtain ⟨rfl, rfl, rfl⟩ := e
  refine ⟨_, cap - n, by rw [List.length_drop], by rw [List.length_drop]; omega, by omega, (fun h => by cases h), fun x hx => h5 x (List.mem_of_mem_drop hx), fun hp => ?_⟩
  rw [List.length_drop] at hp
  obtain ⟨b', off', e, hb, hc⟩ := h6 (by omega)
  simp only [Option.some.injEq, Addr.mk.injEq, and_true] at e
  obtain ⟨rfl, rfl⟩ := e
  refine ⟨b, off + n, rfl, hb, fun i hi => ?_⟩
  rw [List.length_drop] at hi
  rw [Nat.add_assoc, hc (n + i) (by omega)]
  simp [List.getD]
theorem nums_none {k : IntKind} (w : World) : IsNums k w (.slice none 0 0) [] := ⟨none, 0, rfl, Nat.le_refl _, by decide, fun _ => rfl, by simp, by simp⟩
/-- A memory: its numbers, its box, its row. -/
structure MemAt (w : World) (B R : Nat) (l : List Int) : Prop where
  most : l.length ≤ 65536
  wf : Wf8 l
  ne : B ≠ R
  row : Row8 w R l
  lt : B < w.heap.size
  box : w.cell? ⟨B, 0, none⟩ = some (.slice (some ⟨R, 0, none⟩) l.length l.length)
theorem MemAt.keep {w w' : World} {B R lo hi : Nat} {l : List Int} (h : MemAt w B R l) (g : But lo hi w w') (r1 : B < lo ∨ hi ≤ B) (r2 : R < lo ∨ hi ≤ R) : MemAt w' B R l :=
  ⟨h.most, h.wf, h.ne, h.row.keep g r2, Nat.lt_of_lt_of_le h.lt g.2.2.1, (g.cell (p := ⟨B, 0, none⟩) h.lt r1).trans h.box⟩
theorem MemAt.grow {w w' : World} {B R : Nat} {l : List Int} (h : MemAt w B R l) (g : Past w w') : MemAt w' B R l := h.keep (g.but 0 0) (Or.inr (Nat.zero_le _)) (Or.inr (Nat.zero_le _))
/-- Are there so many numbers. -/
def okM (n : Nat) (at' k : Int) : Bool := decide (0 ≤ at') && decide (0 ≤ k) && decide (at' ≤ (n : Int) - k)
theorem okM_iff {n : Nat} {a k : Int} : okM n a k = true ↔ ∃ i j : Nat, a = i ∧ k = j ∧ i + j ≤ n := by
  simp only [okM, Bool.and_eq_true, decide_eq_true_eq]
  constructor
  · rintro ⟨⟨h1, h2⟩, h3⟩
    exact ⟨a.toNat, k.toNat, by omega, by omega, by omega⟩
  · rintro ⟨i, j, rfl, rfl, h⟩
    omega
theorem size_any (w : World) (B R : Nat) (l : List Int) (h : MemAt w B R l) : Calls Try.prog 11 #[.pointer (some ⟨B, 0, none⟩)] w fun e w' => e = .returned (.int .i64 (l.length : Int)) ∧ w = w' := by
  have x1 := h.box
  go_enter Try.func11, Try.ntmps11
  go_wp2_with fail
  go_ret
  exact ⟨rfl, rfl⟩
set_option maxHeartbeats 1000000 in
theorem has_any (w : World) (B R : Nat) (l : List Int) (h : MemAt w B R l) (a k : Int) (hk : (Lit.int .i64 k).wf = true) : Calls Try.prog 18 #[.pointer (some ⟨B, 0, none⟩), .int .i64 a, .int .i64 k] w fun e w' => e = .returned (.bool (okM l.length a k)) ∧ w = w' := by
  have hm := h.most
  have wk : k ≤ 9223372036854775807 := by simp [Lit.wf, IntKind.min, IntKind.max, IntKind.bits, IntKind.signed] at hk; omega
  by_cases h1 : 0 ≤ a
  · have d1 : decide (0 ≤ a) = true := by simpa using h1
    by_cases h2 : 0 ≤ k
    · have d2 : decide (0 ≤ k) = true := by simpa using h2
      have e1 : IntKind.i64.wrap ((l.length : Int) - k) = (l.length : Int) - k := by rw [IntKind.wrap_i64]; omega
      obtain ⟨d, hd⟩ : ∃ d, decide (a ≤ (l.length : Int) - k) = d := ⟨_, rfl⟩
      have e : okM l.length a k = d := by rw [okM, d1, d2, hd]; rfl
      rw [e]
      clear e hk wk
      go_enter Try.func18, Try.ntmps18
      go_wp2_with (go_at_call 11; refine (size_any _ _ _ _ h).mono ?_; rintro e w0 ⟨rfl, rfl⟩)
      go_ret
      exact ⟨by simp, rfl⟩
    · have d2 : decide (0 ≤ k) = false := by simpa using h2
      have e : okM l.length a k = false := by rw [okM, d2]; simp
      rw [e]
      go_enter Try.func18, Try.ntmps18
      go_wp2_with fail
      go_ret
      exact ⟨rfl, rfl⟩
  · have d1 : decide (0 ≤ a) = false := by simpa using h1
    have e : okM l.length a k = false := by rw [okM, d1]; simp
    rw [e]
    go_enter Try.func18, Try.ntmps18
    go_wp2_with fail
    go_ret
    exact ⟨rfl, rfl⟩
end Go.Proofs.Ytlpcppdpodedmaa
