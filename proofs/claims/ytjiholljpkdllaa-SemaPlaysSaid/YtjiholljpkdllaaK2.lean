/- Semaphores: New. -/
import Derived.Test.YtjiholljpkdllaaK1
namespace Go.Proofs.Ytjiholljpkdllaa
open Go.ChangeShapes Go.WideShapes Go.ChangeAt Go.RowKit
set_option maxRecDepth 20000
set_option linter.unusedVariables false
theorem bytesE : ∃ i, Try.prog.info? 44 = some i ∧ i.bytes = 0 := by
  have h : (Try.prog.info? 44).map (·.bytes) = some 0 := by kernel_rfl
  obtain ⟨i, hi, hb⟩ := Option.map_eq_some_iff.1 h
  exact ⟨i, hi, hb⟩
theorem mkE (w : World) : (Instr.makeChan 39 (.int .i64 15)).run Try.prog w = .ok (.chan (some w.heap.size)) (w.alloc (.chan 15 #[] false 0 0 false)) := by
  obtain ⟨i, hi, hb⟩ := bytesE
  simpa using Go.Conc.run_makeChan (P := Try.prog) (w := w) Try.underlying39 hi .i64 15 (by omega) (by rw [hb]; omega)
/-- The first k channels are made. -/
structure NewAt (w : World) (b k : Nat) : Prop where
  size : w.heap.size = b + 1 + k
  cell : ∀ j : Nat, j < 8 → w.cell? ⟨b, j, none⟩ = some (.chan (if j < k then some (b + 1 + j) else none))
  free : ∀ o : Nat, w.frozen? ⟨b, o, none⟩ = false
  chan : ∀ j : Nat, j < k → w.heap[b + 1 + j]? = some (.chan 15 #[] false 0 0 false)
theorem frozen_alloc_old {w : World} {o : Obj} {a : Addr} (h : a.block < w.heap.size) : (w.alloc o).frozen? a = w.frozen? a := World.frozen?_alloc_old _ _ _ (by omega)
theorem NewAt.step {w : World} {b k : Nat} (h : NewAt w b k) (hk : k < 8) : NewAt ((w.alloc (.chan 15 #[] false 0 0 false)).setCell ⟨b, k, none⟩ (.chan (some (b + 1 + k)))) b (k + 1) := by
  have hs := h.size
  rw [← hs]
  refine ⟨by simp [World.setCell, hs]; omega, fun j hj => ?_, fun o => ?_, fun j hj => ?_⟩
  · have e0 := (World.cell?_alloc_lt w (.chan 15 #[] false 0 0 false) ⟨b, j, none⟩ (show b < _ by omega)).trans (h.cell j hj)
    by_cases c : j = k
    · subst c
      have := World.cell?_setCell_same (w.alloc (.chan 15 #[] false 0 0 false)) ⟨b, j, none⟩ (.chan (some w.heap.size)) e0
      rw [this, hs]
      simp
    · rw [World.cell?_setCell_other _ _ _ _ (by first | (simp; done) | (simp; omega)), e0]
      simp only [show (j < k + 1) = (j < k) from propext ⟨fun h => by omega, fun h => by omega⟩]
  · rw [World.frozen?_setCell, frozen_alloc_old (show b < _ by omega)]
    exact h.free o
  · rw [Below.heap_setCell _ _ _ _ (by simp; omega)]
    by_cases c : j = k
    · subst c
      rw [← hs]
      exact heap_alloc_new w _
    · rw [Below.heap_alloc _ _ _ (by omega)]
      exact h.chan j (by omega)
theorem NewAt.same {w w' : World} {b k : Nat} (h : NewAt w b k) (e : w'.heap = w.heap) : NewAt w' b k := by
  have c : ∀ a, w'.cell? a = w.cell? a := fun a => by unfold World.cell?; rw [e]
  have f : ∀ a, w'.frozen? a = w.frozen? a := fun a => by unfold World.frozen?; rw [e]
  exact ⟨by rw [e]; exact h.size, fun j hj => (c _).trans (h.cell j hj), fun o => (f _).trans (h.free o), fun j hj => by rw [e]; exact h.chan j hj⟩
theorem rep0 (k : Nat) : (List.replicate 8 0).getD k 0 = 0 := by
  by_cases h : k < 8
  · rw [List.getD, List.getElem?_replicate, if_pos h]; rfl
  · rw [List.getD, List.getElem?_replicate, if_neg h]; rfl
theorem NewAt.sems {w : World} {b : Nat} (h : NewAt w b 8) : SemAt w b (List.replicate 8 0) := by
  refine ⟨by simp, fun k hk => by rw [rep0]; omega, by have := h.size; omega, fun k hk => by simpa [hk] using h.cell k hk, fun k hk => ⟨#[], 0, 0, h.chan k hk, by rw [rep0]; rfl⟩⟩
set_option maxHeartbeats 1000000 in
theorem new_any (w : World) : Calls Try.prog 9 #[] w fun e w' => e = .returned (.pointer (some ⟨w.heap.size, 0, none⟩)) ∧ SemAt w' w.heap.size (List.replicate 8 0) ∧ Past w w' := by
  go_enter Try.func9, Try.ntmps9
  go_wp2_with fail
  go_loopw [5, 2] (fun i x wr => ∃ k : Nat, k ≤ 8 ∧ i = .int .i64 k ∧ NewAt wr w.heap.size k ∧ Past w wr) (fun i _ _ => 8 - (intOf i).toNat)
  case atStart =>
    refine ⟨0, by omega, rfl, ⟨by simp, fun j hj => ?_, fun o => ?_, fun j hj => by omega⟩, (Past.refl w).alloc _⟩
    · rw [box_new rfl]
      match j, hj with
      | 0, _ | 1, _ | 2, _ | 3, _ | 4, _ | 5, _ | 6, _ | 7, _ => rfl
    · rw [frozen?_alloc_cells]
      exact free_new (Nat.le_refl _) o
  case round =>
    obtain ⟨k, hk, rfl, hN, hP⟩ := hrel
    have i1 : (0 : Int) ≤ (k : Int) := by omega
    by_cases l : k < 8
    · have i2 : (k : Int) < 8 := by omega
      have d1 : decide ((k : Int) < 8) = true := by simpa using i2
      have x1 := hN.cell k l
      have x2 := hN.free
      have hmc := mkE
      have hs := hN.size
      have y1 := (World.cell?_alloc_lt wr (.chan 15 #[] false 0 0 false) ⟨w.heap.size, k, none⟩ (show w.heap.size < _ by omega)).trans x1
      have y2 := fun o => (frozen_alloc_old (w := wr) (o := .chan 15 #[] false 0 0 false) (a := ⟨w.heap.size, o, none⟩) (show w.heap.size < _ by omega)).trans (x2 o)
      have z1 : (wr.alloc (.chan 15 #[] false 0 0 false)).drew.cell? ⟨w.heap.size, k, none⟩ = _ := y1
      have z2 : ∀ o, (wr.alloc (.chan 15 #[] false 0 0 false)).drew.frozen? ⟨w.heap.size, o, none⟩ = false := y2
      have hK := Lib.hid (hN.step l)
      go_wp2_with fail
      go_region
      go_wp2_with fail
      go_roundw
      case rel => exact ⟨k + 1, by omega, by go_num, hK.out.same rfl, (hP.alloc _).setCell (Nat.le_refl _) _⟩
      case measure => simp [intOf]; omega
    · obtain rfl : k = 8 := by omega
      go_wp2_with fail
      go_ret
      exact ⟨rfl, hN.sems, hP⟩
end Go.Proofs.Ytjiholljpkdllaa
