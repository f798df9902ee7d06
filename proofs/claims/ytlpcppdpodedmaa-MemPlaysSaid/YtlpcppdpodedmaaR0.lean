/- The reference of layer 11: where it lies; New; there. -/
import Derived.Test.YtlpcppdpodedmaaJk
namespace Go.Proofs.Ytlpcppdpodedmaa
open Go.ChangeShapes Go.WideShapes Go.ChangeAt Go.RowKit
set_option maxRecDepth 20000
set_option linter.unusedVariables false
/-- Numbers that were written at a place. -/
structure PutD where
  a : Nat
  v : Value
  l : List Int
/-- The cells of a row of them. -/
def cellsP : List PutD → List Value
  | [] => []
  | p :: ps => .int .i64 (p.a : Int) :: p.v :: cellsP ps
theorem cellsP_len (ps : List PutD) : (cellsP ps).length = ps.length * 2 := by
  induction ps with
  | nil => rfl
  | cons p ps ih => simp only [cellsP, List.length_cons, ih]; omega
theorem cellsP_add (ps qs : List PutD) : cellsP (ps ++ qs) = cellsP ps ++ cellsP qs := by
  induction ps with
  | nil => rfl
  | cons p ps ih => simp only [List.cons_append, cellsP, ih]
theorem cellsP_at (ps : List PutD) (i : Nat) (p : PutD) (h : ps[i]? = some p) : (cellsP ps)[i * 2]? = some (.int .i64 (p.a : Int)) ∧ (cellsP ps)[i * 2 + 1]? = some p.v := by
  induction ps generalizing i with
  | nil => simp at h
  | cons q ps ih =>
    cases i with
    | zero =>
      simp at h
      subst h
      exact ⟨rfl, rfl⟩
    | succ i =>
      have := ih i (by simpa using h)
      rw [show (i + 1) * 2 = i * 2 + 2 by omega, show i * 2 + 2 + 1 = i * 2 + 1 + 2 by omega]
      simpa [cellsP] using this
theorem cellsP_one {ps : List PutD} (h : ∀ p ∈ ps, p.v.oneCell' = true) : ∀ u ∈ cellsP ps, u.oneCell' = true := by
  induction ps with
  | nil => intro u hu; cases hu
  | cons p ps ih =>
    intro u hu
    simp only [cellsP, List.mem_cons] at hu
    rcases hu with rfl | rfl | hu
    · rfl
    · exact h p (List.mem_cons_self ..)
    · exact ih (fun q hq => h q (List.mem_cons_of_mem _ hq)) u hu
/-- A row's value lies in no block of X. -/
def Apart (X : List Nat) (v : Value) : Prop := ∀ a n c, v = .slice (some a) n c → 0 < n → a.block ∉ X
/-- A row of puts in memory, in no block of X. -/
structure PutsAt (w : World) (X : List Nat) (A : Option Addr) (cap : Nat) (ps : List PutD) : Prop where
  le : ps.length ≤ cap
  most : cap ≤ maxLen
  nil : A = none → cap = 0
  row : 0 < ps.length → ∃ g, A = some ⟨g, 0, none⟩ ∧ g ∉ X ∧ g < w.heap.size ∧ ∀ j u, (cellsP ps)[j]? = some u → w.cell? ⟨g, j, none⟩ = some u
  nums : ∀ p ∈ ps, IsNums .i8 w p.v p.l ∧ Apart X p.v
theorem nums_one {w : World} {v : Value} {l : List Int} (h : IsNums .i8 w v l) : v.oneCell' = true := by
  obtain ⟨A, cap, rfl, _⟩ := h
  rfl
theorem nums_keep {w w' : World} {v : Value} {l : List Int} {X : List Nat} {k : Nat} (h : IsNums .i8 w v l) (ha : Apart X v) (hk : k ∈ X) (g : But k (k + 1) w w') : IsNums .i8 w' v l := by
  obtain ⟨A, cap, rfl, h2, h3, h4, h5, h6⟩ := h
  refine ⟨A, cap, rfl, h2, h3, h4, h5, fun hp => ?_⟩
  obtain ⟨b, off, rfl, hb, hc⟩ := h6 hp
  have hne : b ≠ k := fun e => ha _ _ _ rfl hp (by rw [e]; exact hk)
  exact ⟨b, off, rfl, Nat.lt_of_lt_of_le hb g.2.2.1, fun i hi => (g.cell (p := ⟨b, off + i, none⟩) hb (show b < k ∨ k + 1 ≤ b by omega)).trans (hc i hi)⟩
theorem PutsAt.keep {w w' : World} {X : List Nat} {A : Option Addr} {cap k : Nat} {ps : List PutD} (h : PutsAt w X A cap ps) (hk : k ∈ X) (g : But k (k + 1) w w') : PutsAt w' X A cap ps := by
  refine ⟨h.le, h.most, h.nil, fun hp => ?_, fun p hp => ⟨nums_keep (h.nums p hp).1 (h.nums p hp).2 hk g, (h.nums p hp).2⟩⟩
  obtain ⟨b, rfl, hx, hb, hc⟩ := h.row hp
  have hne : b ≠ k := fun e => hx (by rw [e]; exact hk)
  exact ⟨b, rfl, hx, Nat.lt_of_lt_of_le hb g.2.2.1, fun j u hu => (g.cell (p := ⟨b, j, none⟩) hb (show b < k ∨ k + 1 ≤ b by omega)).trans (hc j u hu)⟩
theorem PutsAt.grow {w w' : World} {X : List Nat} {A : Option Addr} {cap : Nat} {ps : List PutD} (h : PutsAt w X A cap ps) (g : Past w w') : PutsAt w' X A cap ps := by
  refine ⟨h.le, h.most, h.nil, fun hp => ?_, fun p hp => ⟨(h.nums p hp).1.grow g, (h.nums p hp).2⟩⟩
  obtain ⟨b, rfl, hx, hb, hc⟩ := h.row hp
  exact ⟨b, rfl, hx, Nat.lt_of_lt_of_le hb g.2.2.1, fun j u hu => (g.cell (p := ⟨b, j, none⟩) hb).trans (hc j u hu)⟩
/-- The reference's memory: its box at Y; no block of X is its. -/
structure RefAt (w : World) (Y : Nat) (X : List Nat) (N : Nat) (ps : List PutD) : Prop where
  most : N ≤ 65536
  few : ps.length ≤ 1000
  inN : ∀ p ∈ ps, p.a + p.l.length ≤ N
  ne : Y ∉ X
  lt : Y < w.heap.size
  free : (∀ o : Nat, w.frozen? ⟨Y, o, none⟩ = false)
  c0 : w.cell? ⟨Y, 0, none⟩ = some (.int .i64 (N : Int))
  row : ∃ A cap, w.cell? ⟨Y, 1, none⟩ = some (.slice A ps.length cap) ∧ PutsAt w (Y :: X) A cap ps
theorem RefAt.keep {w w' : World} {Y N k : Nat} {X : List Nat} {ps : List PutD} (h : RefAt w Y X N ps) (hk : k ∈ X) (g : But k (k + 1) w w') : RefAt w' Y X N ps := by
  have hne : Y ≠ k := fun e => h.ne (by rw [e]; exact hk)
  have r : Y < k ∨ k + 1 ≤ Y := by omega
  obtain ⟨A, cap, c1, hp⟩ := h.row
  exact ⟨h.most, h.few, h.inN, h.ne, Nat.lt_of_lt_of_le h.lt g.2.2.1, fun o => (g.free (p := ⟨Y, o, none⟩) h.lt r).trans (h.free o), (g.cell (p := ⟨Y, 0, none⟩) h.lt r).trans h.c0, A, cap, (g.cell (p := ⟨Y, 1, none⟩) h.lt r).trans c1, hp.keep (List.mem_cons_of_mem _ hk) g⟩
theorem RefAt.grow {w w' : World} {Y N : Nat} {X : List Nat} {ps : List PutD} (h : RefAt w Y X N ps) (g : Past w w') : RefAt w' Y X N ps := by
  obtain ⟨A, cap, c1, hp⟩ := h.row
  exact ⟨h.most, h.few, h.inN, h.ne, Nat.lt_of_lt_of_le h.lt g.2.2.1, fun o => (g.free (p := ⟨Y, o, none⟩) h.lt).trans (h.free o), (g.cell (p := ⟨Y, 0, none⟩) h.lt).trans h.c0, A, cap, (g.cell (p := ⟨Y, 1, none⟩) h.lt).trans c1, hp.grow g⟩
theorem PutsAt.more {w : World} {X : List Nat} {A : Option Addr} {cap k : Nat} {ps : List PutD} (h : PutsAt w X A cap ps) (hk : w.heap.size ≤ k) (Z : List Nat) (hZ : ∀ z ∈ Z, z = k ∨ z ∈ X) : PutsAt w Z A cap ps := by
  refine ⟨h.le, h.most, h.nil, fun hp => ?_, fun p hp => ⟨(h.nums p hp).1, fun a n c e hn ha => ?_⟩⟩
  · obtain ⟨b, rfl, hx, hb, hc⟩ := h.row hp
    refine ⟨b, rfl, fun hz => ?_, hb, hc⟩
    rcases hZ b hz with q | q
    · omega
    · exact hx q
  · obtain ⟨hN, hA⟩ := h.nums p hp
    rcases hZ _ ha with q | q
    · obtain ⟨A', cap', e', h2, h3, h4, h5, h6⟩ := hN
      rw [e] at e'
      simp only [Value.slice.injEq] at e'
      obtain ⟨rfl, rfl, rfl⟩ := e'
      obtain ⟨b, off, e2, hb, _⟩ := h6 hn
      simp only [Option.some.injEq] at e2
      subst e2
      simp only at q
      omega
    · exact hA a n c e hn q
/-- New blocks are none of its. -/
theorem RefAt.more {w : World} {Y N k : Nat} {X : List Nat} {ps : List PutD} (h : RefAt w Y X N ps) (hk : w.heap.size ≤ k) : RefAt w Y (k :: X) N ps := by
  obtain ⟨A, cap, c1, hp⟩ := h.row
  refine ⟨h.most, h.few, h.inN, fun hm => ?_, h.lt, h.free, h.c0, A, cap, c1, hp.more hk _ (fun z hz => ?_)⟩
  · rcases List.mem_cons.1 hm with q | q
    · have := h.lt; omega
    · exact h.ne q
  · simp only [List.mem_cons] at hz ⊢
    rcases hz with q | q | q
    · exact .inr (.inl q)
    · exact .inl q
    · exact .inr (.inr q)
theorem RefAt.sub {w : World} {Y N : Nat} {X Z : List Nat} {ps : List PutD} (h : RefAt w Y X N ps) (hZ : ∀ z ∈ Z, z ∈ X) : RefAt w Y Z N ps := by
  obtain ⟨A, cap, c1, hp⟩ := h.row
  refine ⟨h.most, h.few, h.inN, fun hm => h.ne (hZ _ hm), h.lt, h.free, h.c0, A, cap, c1, hp.more (Nat.le_refl _) _ (fun z hz => ?_)⟩
  rcases List.mem_cons.1 hz with q | q
  · exact .inr (by rw [q]; exact List.mem_cons_self ..)
  · exact .inr (List.mem_cons_of_mem _ (hZ z q))
theorem rthere_any (w : World) (Y N : Nat) (X : List Nat) (ps : List PutD) (h : RefAt w Y X N ps) (a k : Int) : Calls Try.prog 19 #[.pointer (some ⟨Y, 0, none⟩), .int .i64 a, .int .i64 k] w fun e w' => e = .returned (.bool (okM N a k)) ∧ w = w' := by
  have hm := h.most
  have x0 := h.c0
  by_cases h2 : 0 ≤ k
  · have d2 : decide (0 ≤ k) = true := by simpa using h2
    by_cases h3 : k ≤ (N : Int)
    · have d3 : decide (k ≤ (N : Int)) = true := by simpa using h3
      by_cases h1 : 0 ≤ a
      · have d1 : decide (0 ≤ a) = true := by simpa using h1
        obtain ⟨d, hd⟩ : ∃ d, decide (a ≤ (N : Int) - k) = d := ⟨_, rfl⟩
        have e : okM N a k = d := by rw [okM, d1, d2, hd]; rfl
        have e1 : IntKind.i64.wrap ((N : Int) - k) = (N : Int) - k := by rw [IntKind.wrap_i64]; omega
        rw [e]
        clear e hm
        go_enter Try.func19, Try.ntmps19
        go_wp2_with fail
        go_ret
        exact ⟨by simp, rfl⟩
      · have d1 : decide (0 ≤ a) = false := by simpa using h1
        have e : okM N a k = false := by rw [okM, d1]; simp
        rw [e]
        go_enter Try.func19, Try.ntmps19
        go_wp2_with fail
        go_ret
        exact ⟨rfl, rfl⟩
    · have d3 : decide (k ≤ (N : Int)) = false := by simpa using h3
      have e : okM N a k = false := okM_no (by omega)
      rw [e]
      go_enter Try.func19, Try.ntmps19
      go_wp2_with fail
      go_ret
      exact ⟨rfl, rfl⟩
  · have d2 : decide (0 ≤ k) = false := by simpa using h2
    have e : okM N a k = false := by rw [okM, d2]; simp
    rw [e]
    go_enter Try.func19, Try.ntmps19
    go_wp2_with fail
    go_ret
    exact ⟨rfl, rfl⟩
theorem rnew_n (w : World) (s : Int) (n : Nat) (u : Int) (hu : u = (n : Int)) (hn : n ≤ 65536) (hs : (s < 0 ∧ u = 0) ∨ (0 ≤ s ∧ s ≤ 65536 ∧ u = s) ∨ (65536 < s ∧ u = 65536)) (X : List Nat) (hX : ∀ k ∈ X, k < w.heap.size) :
    Calls Try.prog 10 #[.int .i64 s] w fun e w' => ∃ Y : Nat, Hid (w.heap.size ≤ Y) ∧ e = .returned (.pointer (some ⟨Y, 0, none⟩)) ∧ RefAt w' Y X n [] ∧ Past w w' := by
  have END := Lib.hid (show ∃ Y : Nat, Hid (w.heap.size ≤ Y) ∧ Ending.returned (.pointer (some ⟨w.heap.size, 0, none⟩)) = .returned (.pointer (some ⟨Y, 0, none⟩)) ∧ RefAt (w.alloc (.cells #[.int .i64 u, .slice none 0 0] 31)) Y X n [] ∧ Past w (w.alloc (.cells #[.int .i64 u, .slice none 0 0] 31)) from
    ⟨w.heap.size, Lib.hid (Nat.le_refl _), rfl, ⟨hn, by simp, (fun p hp => by cases hp), fun h => Nat.lt_irrefl _ (hX _ h), by simp, free_alloc (free_new (Nat.le_refl _)), by rw [box_new rfl]; simp [hu], none, 0, by rw [box_new rfl]; simp, ⟨by simp, by decide, fun _ => rfl, fun h => by simp at h, fun p hp => by cases hp⟩⟩, (Past.refl w).alloc _⟩)
  clear hX hu hn
  rcases hs with ⟨h1, rfl⟩ | ⟨h1, h2, rfl⟩ | ⟨h1, rfl⟩
  · go_enter Try.func10, Try.ntmps10
    go_wp2_with fail
    go_ret
    exact END.out
  · go_enter Try.func10, Try.ntmps10
    go_wp2_with fail
    go_ret
    exact END.out
  · go_enter Try.func10, Try.ntmps10
    go_wp2_with fail
    go_ret
    exact END.out
theorem rnew_any (w : World) (s : Int) (X : List Nat) (hX : ∀ k ∈ X, k < w.heap.size) : Calls Try.prog 10 #[.int .i64 s] w fun e w' => ∃ Y : Nat, Hid (w.heap.size ≤ Y) ∧ e = .returned (.pointer (some ⟨Y, 0, none⟩)) ∧ RefAt w' Y X (memN s) [] ∧ Past w w' := by
  refine rnew_n w s (memN s) _ rfl (memN_most s) ?_ X hX
  unfold memN
  omega
end Go.Proofs.Ytlpcppdpodedmaa
