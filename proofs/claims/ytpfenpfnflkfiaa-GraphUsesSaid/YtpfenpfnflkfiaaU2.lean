/- graph.Last's closure: marks. -/
import Derived.Test.YtpfenpfnflkfiaaV1
import Derived.Deep.DeepCutAuto
namespace Go.Proofs.Ytpfenpfnflkfiaa
open Go.ChangeShapes Go.WideShapes Go.ChangeAt Go.RowKit
set_option maxRecDepth 20000
set_option linter.unusedVariables false

/-- All but block P is as it was. -/
def KeepU (P : Nat) (w w' : World) : Prop := w'.os = w.os ∧ w'.output = w.output ∧ w.heap.size ≤ w'.heap.size ∧ ∀ k, k < w.heap.size → k ≠ P → w'.heap[k]? = w.heap[k]?
theorem KeepU.refl (P : Nat) (w : World) : KeepU P w w := ⟨rfl, rfl, Nat.le_refl _, fun _ _ _ => rfl⟩
theorem KeepU.trans {P : Nat} {a b c : World} (h : KeepU P a b) (k : KeepU P b c) : KeepU P a c :=
  ⟨k.1.trans h.1, k.2.1.trans h.2.1, Nat.le_trans h.2.2.1 k.2.2.1, fun i hi hn => (k.2.2.2 i (Nat.lt_of_lt_of_le hi h.2.2.1) hn).trans (h.2.2.2 i hi hn)⟩
theorem KeepU.set {P : Nat} {w w' : World} (h : KeepU P w w') (o : Nat) (u : Value) : KeepU P w (w'.setCell ⟨P, o, none⟩ u) := by
  have b := Below.heap_setCell w' ⟨P, o, none⟩ u
  exact ⟨h.1, h.2.1, by simpa [World.setCell] using h.2.2.1, fun k hk hne => (b k hne).trans (h.2.2.2 k hk hne)⟩
theorem KeepU.cell {P b o : Nat} {w w' : World} (h : KeepU P w w') (hb : b < w.heap.size) (hn : b ≠ P) : w'.cell? ⟨b, o, none⟩ = w.cell? ⟨b, o, none⟩ := World.cell?_of_block (a := ⟨b, o, none⟩) (h.2.2.2 b hb hn)

/-- A row of the numbers L at block P. -/
def RowL (w : World) (P : Nat) (L : List Int) : Prop := w.heap[P]? = some (.cells (L.map (Value.int .i64)).toArray 3 (0, 0))
theorem RowL.cell {w : World} {P : Nat} {L : List Int} (h : RowL w P L) (j : Nat) (hj : j < L.length) : w.cell? ⟨P, j, none⟩ = some (.int .i64 (L.getD j 0)) := by
  unfold World.cell?
  simp only [show w.heap[P]? = _ from h]
  simp [List.getD, hj]
theorem RowL.free {w : World} {P : Nat} {L : List Int} (h : RowL w P L) (j : Nat) : w.frozen? ⟨P, j, none⟩ = false := by
  unfold World.frozen?
  simp only [show w.heap[P]? = _ from h]
  simp
theorem RowL.lt {w : World} {P : Nat} {L : List Int} (h : RowL w P L) : P < w.heap.size := (Array.getElem?_eq_some_iff.1 h).1
theorem RowL.set {w : World} {P : Nat} {L : List Int} (h : RowL w P L) (j : Nat) (hj : j < L.length) (x : Int) : RowL (w.setCell ⟨P, j, none⟩ (.int .i64 x)) P (L.set j x) := by
  have hP := h.lt
  unfold RowL
  unfold World.setCell
  simp only [Array.getElem?_modify, if_true, show w.heap[P]? = _ from h]
  simp [List.map_set]

/-- Marks: what stands under these numbers is when. -/
def markL (L : List Int) (nums : List Int) (when : Int) : List Int := nums.foldl (fun l i => l.set i.toNat when) L

def MarkPost (P : Nat) (L nums : List Int) (when : Int) (W : World) (e : Ending) (w' : World) : Prop := (∃ v, e = .returned v) ∧ RowL w' P (markL L nums when) ∧ KeepU P W w'

theorem markL_len (L nums : List Int) (when : Int) : (markL L nums when).length = L.length := by
  unfold markL
  induction nums generalizing L with
  | nil => rfl
  | cons i nums ih => simp only [List.foldl_cons]; rw [ih]; simp
theorem markL_take (L nums : List Int) (when : Int) (k : Nat) (h : k < nums.length) : markL L (nums.take (k + 1)) when = (markL L (nums.take k) when).set (nums.getD k 0).toNat when := by
  unfold markL
  rw [List.take_succ_eq_append_getElem h, List.foldl_append]
  simp [List.getD, h]

set_option maxHeartbeats 2000000 in
theorem mark_any (nv : Value) (nums L : List Int) (when : Int) (PL P n : Nat) (W : World) (hn : IsNums .i64 W nv nums) (hr : ∀ x ∈ nums, 0 ≤ x ∧ x < (n : Int)) (hold : ∀ b o s l c, nv = .slice (some ⟨b, o, s⟩) l c → 0 < nums.length → b ≠ P) (hL : L.length = n) (n16 : n ≤ 16)
    (hbox : W.cell? ⟨PL, 0, none⟩ = some (.slice (some ⟨P, 0, none⟩) n n)) (hPL : PL ≠ P) (hrow : RowL W P L) : Calls Try.prog 44 #[nv, .int .i64 when, .pointer (some ⟨PL, 0, none⟩)] W (MarkPost P L nums when W) := by
  obtain ⟨A, cap, rfl, a2, a3, _, _, a6⟩ := hn
  have hm : nums.length ≤ 9223372036854775807 := by unfold maxLen at a3; omega
  have hPLs : PL < W.heap.size := cell_lt hbox
  have A6 := Lib.hid a6
  have HO := Lib.hid hold
  have HR := Lib.hid hr
  clear a2 a3 a6 hold hr
  go_enter Try.func44, Try.ntmps44
  go_wp2_with fail
  go_loopw [9] (fun i wr => ∃ k : Nat, k ≤ nums.length ∧ i = .int .i64 k ∧ Hid (RowL wr P (markL L (nums.take k) when)) ∧ Hid (KeepU P W wr)) (fun i _ => nums.length - (intOf i).toNat)
  case atStart => exact ⟨0, by omega, rfl, Lib.hid (by simpa [markL] using hrow), Lib.hid (KeepU.refl _ _)⟩
  case round =>
    clear hrow
    obtain ⟨k, hk, rfl, rr, kk⟩ := hrel
    have bx := (kk.out.cell hPLs hPL).trans hbox
    by_cases h : k < nums.length
    · obtain ⟨b, off, rfl, hbb, hc⟩ := A6.out (by omega)
      have hbP : b ≠ P := HO.out b off none _ _ rfl (by omega)
      have c0 := (kk.out.cell hbb hbP).trans (hc k h)
      have hx := HR.out (nums.getD k 0) (by simp [List.getD, h])
      have hnext := markL_take L nums when k h
      obtain ⟨x, hxe⟩ : ∃ x, nums.getD k 0 = x := ⟨_, rfl⟩
      rw [hxe] at c0 hx hnext
      obtain ⟨m, rfl⟩ : ∃ m : Nat, x = m := ⟨x.toNat, by omega⟩
      have hmn : m < n := by omega
      have i0 : (0 : Int) ≤ (m : Int) := by omega
      have hlen : (markL L (nums.take k) when).length = n := by rw [markL_len, hL]
      have cm := rr.out.cell m (by omega)
      have fm := rr.out.free m
      rw [Int.toNat_natCast] at hnext
      have R2 := Lib.hid (rr.out.set m (by omega) when)
      rw [← hnext] at R2
      have K2 := Lib.hid (kk.out.set m (.int .i64 when))
      clear hxe hc hx hnext
      go_wp2_with fail
      go_roundw
      case rel => exact ⟨k + 1, by omega, by go_num, R2, K2⟩
      case measure => simp [intOf]; omega
    · have e : nums.take k = nums := List.take_of_length_le (by omega)
      rw [e] at rr
      go_wp2_with fail
      refine ⟨rfl, .tuple #[], ?_, ⟨_, rfl⟩, rr.out, kk.out⟩
      simp [results, Try.results44, go_sem]
end Go.Proofs.Ytpfenpfnflkfiaa
