/- Semaphores: All. -/
import Derived.Test.YtjiholljpkdllaaK3
namespace Go.Proofs.Ytjiholljpkdllaa
open Go.ChangeShapes Go.WideShapes Go.ChangeAt Go.RowKit
set_option maxRecDepth 20000
set_option linter.unusedVariables false
def natsI (l : List Nat) : List Int := l.map (fun (n : Nat) => (n : Int))
theorem natsI_at (l : List Nat) (k : Nat) : (natsI l).getD k 0 = ((l.getD k 0 : Nat) : Int) := by
  simp only [natsI, List.getD, List.getElem?_map]
  cases l[k]? <;> rfl
theorem infoI : ∃ i, Try.prog.info? 3 = some i ∧ i.zero = some (.int .i64 0) ∧ i.size = 1 ∧ i.bytes = 8 := by
  have h : (Try.prog.info? 3).map (fun i => (i.zero, i.size, i.bytes)) = some (some (.int .i64 0), 1, 8) := by kernel_rfl
  obtain ⟨i, hi, hb⟩ := Option.map_eq_some_iff.1 h
  simp only [Prod.mk.injEq] at hb
  exact ⟨i, hi, hb⟩
theorem eight0 : madeCells (Value.int .i64 0).cells (Int.toNat 8 * 1) = #[.int .i64 0, .int .i64 0, .int .i64 0, .int .i64 0, .int .i64 0, .int .i64 0, .int .i64 0, .int .i64 0] := by kernel_rfl
theorem mk8 (w : World) : (Instr.makeSlice 27 (.int .i64 8) (.int .i64 8)).run Try.prog w = .ok (.slice (some ⟨w.heap.size, 0, none⟩) 8 8) (w.alloc (.cells #[.int .i64 0, .int .i64 0, .int .i64 0, .int .i64 0, .int .i64 0, .int .i64 0, .int .i64 0, .int .i64 0] 3)) := by
  obtain ⟨i, h1, h2, h3, h4⟩ := infoI
  have := run_makeSlice (P := Try.prog) (w := w) 27 3 i (.int .i64 0) Try.underlying27 h1 h2 .i64 .i64 8 8 (by omega) (by omega) (by rw [h3]; decide) (by rw [h4]; decide) (by decide)
  rw [this, h3, eight0]
  rfl
/-- The first k counts are laid down. -/
structure AllAt (w : World) (p : Nat) (l : List Nat) (k : Nat) : Prop where
  size : p < w.heap.size
  cell : ∀ j : Nat, j < 8 → w.cell? ⟨p, j, none⟩ = some (.int .i64 (if j < k then ((l.getD j 0 : Nat) : Int) else 0))
  free : ∀ o : Nat, w.frozen? ⟨p, o, none⟩ = false
theorem AllAt.step {w : World} {p k : Nat} {l : List Nat} (h : AllAt w p l k) (hk : k < 8) : AllAt (w.setCell ⟨p, k, none⟩ (.int .i64 ((l.getD k 0 : Nat) : Int))) p l (k + 1) := by
  refine ⟨size_set h.size, fun j hj => ?_, free_set h.free⟩
  have e0 := h.cell j hj
  by_cases c : j = k
  · subst c
    have := World.cell?_setCell_same w ⟨p, j, none⟩ (.int .i64 ((l.getD j 0 : Nat) : Int)) e0
    rw [this]
    simp
  · rw [World.cell?_setCell_other _ _ _ _ (by first | (simp; done) | (simp; omega)), e0]
    simp only [show (j < k + 1) = (j < k) from propext ⟨fun h => by omega, fun h => by omega⟩]
set_option maxHeartbeats 1000000 in
theorem all_any (w : World) (b : Nat) (l : List Nat) (h : SemAt w b l) : Calls Try.prog 18 #[.pointer (some ⟨b, 0, none⟩)] w fun e w' => e = .returned (.slice (some ⟨w.heap.size, 0, none⟩) 8 8) ∧ IsNums .i64 w' (.slice (some ⟨w.heap.size, 0, none⟩) 8 8) (natsI l) ∧ Past w w' := by
  have hmk := mk8 w
  go_enter Try.func18, Try.ntmps18
  go_wp2_with fail
  go_loopw [8, 4] (fun i x wr => ∃ k : Nat, k ≤ 8 ∧ i = .int .i64 k ∧ AllAt wr w.heap.size l k ∧ Past w wr) (fun i _ _ => 8 - (intOf i).toNat)
  case atStart =>
    refine ⟨0, by omega, rfl, ⟨by simp, fun j hj => ?_, free_alloc (free_new (Nat.le_refl _))⟩, (Past.refl w).alloc _⟩
    rw [box_new rfl]
    match j, hj with
    | 0, _ | 1, _ | 2, _ | 3, _ | 4, _ | 5, _ | 6, _ | 7, _ => rfl
  case round =>
    obtain ⟨k, hk, rfl, hA, hP⟩ := hrel
    have i1 : (0 : Int) ≤ (k : Int) := by omega
    by_cases c : k < 8
    · have i2 : (k : Int) < 8 := by omega
      have d1 : decide ((k : Int) < 8) = true := by simpa using i2
      have x1 := hA.cell k c
      have x2 := hA.free
      have x3 := h.grow hP
      have ec : countS l k = ((l.getD k 0 : Nat) : Int) := by
        have := okS_iff.2 ⟨k, c, rfl⟩
        simp [countS, this]
      have hK := Lib.hid (hA.step c)
      go_wp2_with (go_at_call 15; refine (count_any _ _ _ _ x3).mono ?_; rintro e w0 ⟨rfl, rfl⟩; rw [ec])
      go_roundw
      case rel => exact ⟨k + 1, by omega, by go_num, hK.out, hP.setCell (Nat.le_refl _) _⟩
      case measure => simp [intOf]; omega
    · obtain rfl : k = 8 := by omega
      go_wp2_with fail
      go_ret
      refine ⟨rfl, ⟨some ⟨w.heap.size, 0, none⟩, 8, by simp [natsI, h.len], by simp [natsI, h.len], by decide, (fun h => by cases h), fun x hx => ?_, fun _ => ⟨_, _, rfl, hA.size, fun i hi => ?_⟩⟩, hP⟩
      · obtain ⟨n, hn, rfl⟩ := List.mem_map.1 hx
        obtain ⟨i, hi, rfl⟩ := List.getElem_of_mem hn
        have := h.most i (by rw [← h.len]; exact hi)
        rw [List.getD, List.getElem?_eq_getElem hi] at this
        simp at this
        simp [Lit.wf, IntKind.min, IntKind.max, IntKind.bits, IntKind.signed]
        omega
      · have hi' : i < 8 := by simpa [natsI, h.len] using hi
        rw [natsI_at, Nat.zero_add]
        simpa [hi'] using hA.cell i hi'
end Go.Proofs.Ytjiholljpkdllaa
