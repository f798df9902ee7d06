/- The reader: piece, number. The reader: single, small, wide, shape, value. The reader: value. -/
import Derived.Deep.DeepCutAuto
import Derived.Test.YtejllmjkeefloaaJP2
import Derived.Test.YtejllmjkeefloaaJN1
import Derived.Test.YtejllmjkeefloaaJV1
namespace Go.Proofs.Ytejllmjkeefloaa
open Go.ChangeShapes Go.WideShapes Go.ChangeAt Go.RowKit
set_option maxRecDepth 20000
set_option linter.unusedVariables false

/-- All but block P is as it was. -/
def Keep (P : Nat) (w w' : World) : Prop := w'.os = w.os ∧ w'.output = w.output ∧ w.heap.size ≤ w'.heap.size ∧ ∀ k, k < w.heap.size → k ≠ P → w'.heap[k]? = w.heap[k]?
theorem Keep.refl (P : Nat) (w : World) : Keep P w w := ⟨rfl, rfl, Nat.le_refl _, fun _ _ _ => rfl⟩
theorem Keep.trans {P : Nat} {a b c : World} (h : Keep P a b) (k : Keep P b c) : Keep P a c :=
  ⟨k.1.trans h.1, k.2.1.trans h.2.1, Nat.le_trans h.2.2.1 k.2.2.1, fun i hi hn => (k.2.2.2 i (Nat.lt_of_lt_of_le hi h.2.2.1) hn).trans (h.2.2.2 i hi hn)⟩
theorem Keep.set {P : Nat} {w w' : World} (h : Keep P w w') (o : Nat) (u : Value) : Keep P w (w'.setCell ⟨P, o, none⟩ u) := by
  have b := Below.heap_setCell w' ⟨P, o, none⟩ u
  exact ⟨h.1, h.2.1, by simpa [World.setCell] using h.2.2.1, fun k hk hne => (b k hne).trans (h.2.2.2 k hk hne)⟩
theorem Keep.of_past {P : Nat} {w w' : World} (h : Past w w') : Keep P w w' := ⟨h.1, h.2.1, h.2.2.1, fun k hk _ => h.2.2.2 k hk⟩
theorem Keep.past {P : Nat} {W w w' : World} (p : Past W w) (h : Keep P w w') (hP : W.heap.size ≤ P) : Past W w' :=
  ⟨h.1.trans p.1, h.2.1.trans p.2.1, Nat.le_trans p.2.2.1 h.2.2.1, fun k hk => (h.2.2.2 k (Nat.lt_of_lt_of_le hk p.2.2.1) (by omega)).trans (p.2.2.2 k hk)⟩
theorem Keep.cell {P b o : Nat} {w w' : World} (h : Keep P w w') (hb : b < w.heap.size) (hn : b ≠ P) : w'.cell? ⟨b, o, none⟩ = w.cell? ⟨b, o, none⟩ := World.cell?_of_block (a := ⟨b, o, none⟩) (h.2.2.2 b hb hn)
theorem Keep.free {P b o : Nat} {w w' : World} (h : Keep P w w') (hb : b < w.heap.size) (hn : b ≠ P) : w'.frozen? ⟨b, o, none⟩ = w.frozen? ⟨b, o, none⟩ := World.frozen?_of_block (a := ⟨b, o, none⟩) (h.2.2.2 b hb hn)
theorem box_keep {P b : Nat} {w w' : World} {cs : Array Value} (h : Keep P w w') (k : (∀ o : Nat, w.cell? ⟨b, o, none⟩ = (cs : Array Value)[o]?)) (hb : b < w.heap.size) (hn : b ≠ P) : (∀ o : Nat, w'.cell? ⟨b, o, none⟩ = (cs : Array Value)[o]?) := fun o => (h.cell hb hn).trans (k o)
theorem free_keep {P b : Nat} {w w' : World} (h : Keep P w w') (k : (∀ o : Nat, w.frozen? ⟨b, o, none⟩ = false)) (hb : b < w.heap.size) (hn : b ≠ P) : (∀ o : Nat, w'.frozen? ⟨b, o, none⟩ = false) := fun o => (h.free hb hn).trans (k o)
theorem own_keep {P : Nat} {w w' : World} {base e size n : Nat} {v : Value} {xs : List Value} (h : w.ownsRow base e size v n xs) (g : Keep P w w') (hP : P < base) : w'.ownsRow base e size v n xs := by
  refine ⟨h.1, ?_⟩
  rcases h.2 with hn | ⟨b, cap, cur, rfl, hb, hg, rest⟩
  · exact Or.inl hn
  · exact Or.inr ⟨b, cap, cur, rfl, hb, (g.2.2.2 b (Array.getElem?_eq_some_iff.1 hg).1 (by omega)).trans hg, rest⟩
/-- Bytes that lie below B. -/
def Bytes (w : World) (B : Nat) (A : Option Addr) (cap : Nat) (l : List Int) : Prop :=
  l.length ≤ cap ∧ cap ≤ maxLen ∧ (∀ x ∈ l, (Lit.int .u8 x).wf = true) ∧ (0 < l.length → ∃ b off, A = some ⟨b, off, none⟩ ∧ b < B ∧ ∀ i, i < l.length → w.cell? ⟨b, off + i, none⟩ = some (.int .u8 (l.getD i 0)))
theorem Bytes.keep {w w' : World} {B P cap : Nat} {A : Option Addr} {l : List Int} (h : Bytes w B A cap l) (g : Keep P w w') (hB : B ≤ P) (hB' : B ≤ w.heap.size) : Bytes w' B A cap l := by
  obtain ⟨h1, h2, h3, h4⟩ := h
  refine ⟨h1, h2, h3, fun hp => ?_⟩
  obtain ⟨b, off, e, hb, hc⟩ := h4 hp
  exact ⟨b, off, e, hb, fun i hi => (g.cell (by omega) (by omega)).trans (hc i hi)⟩
theorem Bytes.nil (w : World) (B : Nat) (A : Option Addr) (cap : Nat) (hc : cap ≤ maxLen) : Bytes w B A cap [] := ⟨Nat.zero_le _, hc, by simp, by simp⟩
theorem Bytes.bytesP {w : World} {B cap : Nat} {A : Option Addr} {l : List Int} (h : Bytes w B A cap l) : bytesP l := fun c hc => by
  have := wf_u8 (h.2.2.1 c hc)
  omega
/-- The reader at block P, of bytes that lie below B. -/
def RdAt (w : World) (B P : Nat) (s : Rd) : Prop :=
  ∃ A cap, (∀ o : Nat, w.cell? ⟨P, o, none⟩ = (#[.slice A s.rest.length cap, .bool s.short] : Array Value)[o]?) ∧ (∀ o : Nat, w.frozen? ⟨P, o, none⟩ = false) ∧ Bytes w B A cap s.rest ∧ B ≤ P ∧ P < w.heap.size
/-- Behind a call of a method of the reader. -/
def RdPost (B P : Nat) (v : Value) (t : Rd) (w : World) (e : Ending) (w' : World) : Prop := e = .returned v ∧ RdAt w' B P t ∧ Keep P w w'
def PiecePost (B P : Nat) (l : List Int) (t : Rd) (w : World) (e : Ending) (w' : World) : Prop := ∃ A cap, e = .returned (.slice A l.length cap) ∧ Bytes w' B A cap l ∧ RdAt w' B P t ∧ Keep P w w'
theorem box2_set0 {w : World} {b : Nat} {x0 x1 y : Value} (h : (∀ o : Nat, w.cell? ⟨b, o, none⟩ = (#[x0, x1] : Array Value)[o]?)) : (∀ o : Nat, (w.setCell ⟨b, 0, none⟩ y).cell? ⟨b, o, none⟩ = (#[y, x1] : Array Value)[o]?) := by
  intro o
  match o with
  | 0 => exact World.cell?_setCell_same w _ _ (h 0)
  | k + 1 => rw [World.cell?_setCell_other _ _ _ _ (by simp)]; have := h (k + 1); simpa using this
theorem box2_set1 {w : World} {b : Nat} {x0 x1 y : Value} (h : (∀ o : Nat, w.cell? ⟨b, o, none⟩ = (#[x0, x1] : Array Value)[o]?)) : (∀ o : Nat, (w.setCell ⟨b, 1, none⟩ y).cell? ⟨b, o, none⟩ = (#[x0, y] : Array Value)[o]?) := by
  intro o
  match o with
  | 0 => rw [World.cell?_setCell_other _ _ _ _ (by simp)]; exact h 0
  | 1 => exact World.cell?_setCell_same w _ _ (h 1)
  | k + 2 => rw [World.cell?_setCell_other _ _ _ _ (by simp)]; have := h (k + 2); simpa using this
theorem Bytes.take {w : World} {B cap n : Nat} {A : Option Addr} {l : List Int} (h : Bytes w B A cap l) (hn : n ≤ l.length) : Bytes w B A n (l.take n) := by
  obtain ⟨h1, h2, h3, h4⟩ := h
  have hl : (l.take n).length = n := by simp; omega
  refine ⟨by omega, by omega, fun x hx => h3 x (List.mem_of_mem_take hx), fun hp => ?_⟩
  obtain ⟨b, off, e, hb, hc⟩ := h4 (by omega)
  refine ⟨b, off, e, hb, fun i hi => ?_⟩
  rw [hc i (by omega)]
  simp only [List.getD, List.getElem?_take]
  rw [if_pos (by omega)]
theorem Bytes.drop {w : World} {B b off cap n : Nat} {l : List Int} (h : Bytes w B (some ⟨b, off, none⟩) cap l) (hn : n ≤ l.length) : Bytes w B (some ⟨b, off + n, none⟩) (cap - n) (l.drop n) := by
  obtain ⟨h1, h2, h3, h4⟩ := h
  refine ⟨by simp; omega, by omega, fun x hx => h3 x (List.mem_of_mem_drop hx), fun hp => ?_⟩
  rw [List.length_drop] at hp
  obtain ⟨b', off', e, hb, hc⟩ := h4 (by omega)
  simp only [Option.some.injEq, Addr.mk.injEq, and_true] at e
  obtain ⟨rfl, rfl⟩ := e
  refine ⟨b, off + n, rfl, hb, fun i hi => ?_⟩
  rw [List.length_drop] at hi
  rw [Nat.add_assoc, hc (n + i) (by omega)]
  simp [List.getD]
set_option maxHeartbeats 1000000 in
theorem piece_any (n : Nat) (h1 : 1 ≤ n) (h4 : n ≤ 4) (B P : Nat) (s : Rd) (W : World) (hr : RdAt W B P s) : Calls Try.prog 93 #[.pointer (some ⟨P, 0, none⟩), .int .i64 (n : Int)] W (PiecePost B P (pieceR n s).1 (pieceR n s).2 W) := by
  obtain ⟨A, cap, bx, fr, by', hB, hP⟩ := hr
  have BY := Lib.hid by'
  have hm : s.rest.length ≤ 9223372036854775807 := by have := by'.1; have := by'.2.1; unfold maxLen at this; omega
  by_cases h : s.rest.length < n
  · have e : pieceR n s = ([], ⟨[], true⟩) := by unfold pieceR; rw [if_pos h]
    rw [e]
    clear by'
    go_enter Try.func93, Try.ntmps93
    go_wp2_with fail
    go_ret
    refine ⟨none, 0, rfl, Bytes.nil _ _ _ _ (by simp [maxLen]), ⟨none, 0, box2_set1 (box2_set0 bx), by (exact kKeep), Bytes.nil _ _ _ _ (by simp [maxLen]), hB, by simpa [World.setCell] using hP⟩, ((Keep.refl P W).set _ _).set _ _⟩
  · have e : pieceR n s = (s.rest.take n, ⟨s.rest.drop n, s.short⟩) := by unfold pieceR; rw [if_neg h]
    rw [e]
    obtain ⟨k1, k2, _, k4⟩ := by'
    obtain ⟨b, off, rfl, hb, _⟩ := k4 (by omega)
    have d1 : decide ((s.rest.length : Int) < (n : Int)) = false := by simp; omega
    go_enter Try.func93, Try.ntmps93
    go_wp2_with fail
    · go_ret
      have hl : (s.rest.take n).length = n := by simp; omega
      have hd : s.rest.drop n = [] := List.drop_of_length_le (by omega)
      have hz : s.rest.length - n = 0 := by omega
      rw [hd]
      exact ⟨some ⟨b, off, none⟩, n, by rw [hl]; rfl, ((BY.out.take (by omega)).keep ((Keep.refl P W).set _ _) hB (by omega)), ⟨some ⟨b, off, none⟩, 0, by
        rw [hz]
        exact box2_set0 bx, by (exact kKeep), Bytes.nil _ _ _ _ (by simp [maxLen]), hB, by simpa [World.setCell] using hP⟩, (Keep.refl P W).set _ _⟩
    · go_ret
      have hl : (s.rest.take n).length = n := by simp; omega
      exact ⟨some ⟨b, off, none⟩, n, by rw [hl]; rfl, ((BY.out.take (by omega)).keep ((Keep.refl P W).set _ _) hB (by omega)), ⟨some ⟨b, off + n, none⟩, cap - n, by
        rw [List.length_drop]
        exact box2_set0 bx, by (exact kKeep), (BY.out.drop (by omega)).keep ((Keep.refl P W).set _ _) hB (by omega), hB, by simpa [World.setCell] using hP⟩, (Keep.refl P W).set _ _⟩
theorem foldB_take (l : List Int) (k : Nat) (h : k < l.length) : foldB (l.take (k + 1)) = 256 * foldB (l.take k) + l.getD k 0 := by
  unfold foldB
  rw [List.take_succ_eq_append_getElem h, List.foldl_append]
  simp [List.getD, h]
theorem or_byte (x c : Int) (x0 : 0 ≤ x) (x1 : x < 16777216) (c0 : 0 ≤ c) (c1 : c < 256) : bits .or .i64 (x * 256) c = 256 * x + c := by
  obtain ⟨m, rfl⟩ : ∃ m : Nat, x = m := ⟨x.toNat, by omega⟩
  obtain ⟨d, rfl⟩ : ∃ m : Nat, c = m := ⟨c.toNat, by omega⟩
  have h2 : (BitVec.ofInt 64 (d : Int)).toNat = d := by
    rw [BitVec.toNat_ofInt]
    omega
  have h3 : (BitVec.ofInt 64 ((m : Int) * 256)).toNat = m <<< 8 := by
    rw [BitVec.toNat_ofInt, Nat.shiftLeft_eq]
    omega
  show IntKind.i64.wrap ((BitVec.ofInt 64 ((m : Int) * 256) ||| BitVec.ofInt 64 (d : Int)).toNat : Int) = _
  rw [BitVec.toNat_or, h2, h3, ← Nat.shiftLeft_add_eq_or_of_lt (by omega), Nat.shiftLeft_eq, IntKind.wrap_i64]
  omega
set_option maxHeartbeats 1000000 in
theorem number_any (n : Nat) (h1 : 1 ≤ n) (h4 : n ≤ 4) (B P : Nat) (s : Rd) (W : World) (hr : RdAt W B P s) : Calls Try.prog 69 #[.pointer (some ⟨P, 0, none⟩), .int .i64 (n : Int)] W (RdPost B P (.int .i64 (numR n s).1) (numR n s).2 W) := by
  have PA := Lib.hid (piece_any n h1 h4 B P s W hr)
  have hn : (pieceR n s).1.length ≤ 4 := by
    unfold pieceR
    split
    · simp
    · simp; omega
  obtain ⟨l, hl⟩ : ∃ l, (pieceR n s).1 = l := ⟨_, rfl⟩
  obtain ⟨t, ht⟩ : ∃ t, (pieceR n s).2 = t := ⟨_, rfl⟩
  have e : numR n s = (foldB l, t) := by unfold numR; rw [hl, ht]
  rw [e]
  rw [hl, ht] at PA
  rw [hl] at hn
  clear hl ht e hr
  go_enter Try.func69, Try.ntmps69
  go_wp2_with fail
  refine PA.out.mono ?_
  rintro e w1 ⟨A, cap, rfl, by1, r1, k1⟩
  have R1 := Lib.hid r1
  have K1 := Lib.hid k1
  have BY := Lib.hid by1
  have hm : l.length ≤ 9223372036854775807 := by omega
  clear r1 k1 by1 PA
  go_wp2_with fail
  go_loopw [5, 12] (fun x i wr => ∃ k : Nat, k ≤ l.length ∧ i = .int .i64 k ∧ x = .int .i64 (foldB (l.take k)) ∧ Hid (0 ≤ foldB (l.take k) ∧ foldB (l.take k) < 256 ^ k) ∧ wr = w1) (fun _ i _ => l.length - (intOf i).toNat)
  case atStart => exact ⟨0, by omega, rfl, rfl, Lib.hid (by simp [foldB]), rfl⟩
  case round =>
    obtain ⟨k, hk, rfl, rfl, hb, rfl⟩ := hrel
    by_cases h : k < l.length
    · obtain ⟨b, off, rfl, hbb, hc⟩ := BY.out.2.2.2 (by omega)
      have c0 := hc k h
      have wc := wf_u8 (BY.out.2.2.1 (l.getD k 0) (by simp [List.getD, h]))
      obtain ⟨c, hc'⟩ : ∃ c, l.getD k 0 = c := ⟨_, rfl⟩
      rw [hc'] at c0 wc
      have hnext := foldB_take l k h
      obtain ⟨x, hx⟩ : ∃ x, foldB (l.take k) = x := ⟨_, rfl⟩
      rw [hx] at hb hnext
      rw [hx]
      rw [hc'] at hnext
      have x1 : x < 16777216 := by
        have h2 := hb.out.2
        rcases (show k = 0 ∨ k = 1 ∨ k = 2 ∨ k = 3 by omega) with rfl | rfl | rfl | rfl <;> simp at h2 <;> omega
      have x0 := hb.out.1
      have hor : bits .or .i64 (wrap64 (x * 256)) (wrap64 c) = foldB (l.take (k + 1)) := by
        have e1 : wrap64 (x * 256) = x * 256 := by unfold wrap64; omega
        have e2 : wrap64 c = c := by unfold wrap64; omega
        rw [e1, e2, or_byte x c x0 x1 wc.1 (by omega), hnext]
      have hnb : 0 ≤ foldB (l.take (k + 1)) ∧ foldB (l.take (k + 1)) < 256 ^ (k + 1) := by
        rw [hnext, Int.pow_succ]
        have := hb.out
        omega
      have HOR := Lib.hid hor
      have HNB := Lib.hid hnb
      clear hor hnb hnext hx hc' hc x0 x1 wc
      go_wp2_with fail
      go_roundw
      case rel => exact ⟨k + 1, by omega, by go_num, by rw [HOR.out], HNB, trivial⟩
      case measure => simp [intOf]; omega
    · have e : l.take k = l := List.take_of_length_le (by omega)
      rw [e]
      clear hb e
      go_wp2_with fail
      go_ret
      exact ⟨rfl, R1.out, K1.out⟩
end Go.Proofs.Ytejllmjkeefloaa

namespace Go.Proofs.Ytejllmjkeefloaa
open Go.ChangeShapes Go.WideShapes Go.ChangeAt Go.RowKit
set_option maxRecDepth 20000
set_option linter.unusedVariables false

theorem wrap32_eq (x : Int) : wrap32 x = IntKind.i32.wrap x := by
  rw [IntKind.wrap_i32]
  unfold wrap32
  omega
theorem single_rd (B P : Nat) (s : Rd) (W : World) (hr : RdAt W B P s) : Calls Try.prog 51 #[.pointer (some ⟨P, 0, none⟩)] W (RdPost B P (.int .i64 (numR 1 s).1) (numR 1 s).2 W) := by
  have C := Lib.hid (number_any 1 (by omega) (by omega) B P s W hr)
  clear hr
  go_enter Try.func51, Try.ntmps51
  go_wp2_with fail
  refine C.out.mono ?_
  rintro e w1 ⟨rfl, r1, k1⟩
  have R := Lib.hid r1
  have K := Lib.hid k1
  clear r1 k1 C
  go_wp2_with fail
  go_ret
  exact ⟨rfl, R.out, K.out⟩
theorem small_rd (B P : Nat) (s : Rd) (W : World) (hr : RdAt W B P s) : Calls Try.prog 71 #[.pointer (some ⟨P, 0, none⟩)] W (RdPost B P (.int .i8 (smallR s).1) (smallR s).2 W) := by
  have C := Lib.hid (number_any 1 (by omega) (by omega) B P s W hr)
  obtain ⟨x, hx⟩ : ∃ x, numR 1 s = x := ⟨_, rfl⟩
  have e : smallR s = (IntKind.i8.wrap x.1, x.2) := by unfold smallR; rw [hx]
  rw [e]
  rw [hx] at C
  clear hr e hx
  go_enter Try.func71, Try.ntmps71
  go_wp2_with fail
  refine C.out.mono ?_
  rintro e w1 ⟨rfl, r1, k1⟩
  have R := Lib.hid r1
  have K := Lib.hid k1
  clear r1 k1 C
  go_wp2_with fail
  go_ret
  exact ⟨rfl, R.out, K.out⟩
theorem wide_rd (B P : Nat) (s : Rd) (W : World) (hr : RdAt W B P s) : Calls Try.prog 74 #[.pointer (some ⟨P, 0, none⟩)] W (RdPost B P (.int .i32 (wideR s).1) (wideR s).2 W) := by
  have C := Lib.hid (number_any 4 (by omega) (by omega) B P s W hr)
  obtain ⟨x, hx⟩ : ∃ x, numR 4 s = x := ⟨_, rfl⟩
  have e : wideR s = (IntKind.i32.wrap x.1, x.2) := by unfold wideR; rw [hx]
  rw [e]
  rw [hx] at C
  clear hr e hx
  go_enter Try.func74, Try.ntmps74
  go_wp2_with fail
  refine C.out.mono ?_
  rintro e w1 ⟨rfl, r1, k1⟩
  have R := Lib.hid r1
  have K := Lib.hid k1
  clear r1 k1 C
  go_wp2_with fail
  go_ret
  exact ⟨by rw [← wrap32_eq]; rfl, R.out, K.out⟩
theorem RdAt.alloc {w : World} {B P : Nat} {s : Rd} (h : RdAt w B P s) (x : Obj) : RdAt (w.alloc x) B P s := by
  obtain ⟨A, cap, bx, fr, by', hB, hP⟩ := h
  exact ⟨A, cap, box_old bx hP, fun o => (((Past.refl w).alloc x).free (p := ⟨P, o, none⟩) hP).trans (fr o), by'.keep (Keep.of_past ((Past.refl w).alloc x)) hB (by omega), hB, by simp; omega⟩
theorem RdAt.set {w : World} {B P Q o : Nat} {s : Rd} {u : Value} (h : RdAt w B P s) (hQ : P < Q) : RdAt (w.setCell ⟨Q, o, none⟩ u) B P s := by
  obtain ⟨A, cap, bx, fr, by', hB, hP⟩ := h
  refine ⟨A, cap, box_set bx (by first | (simp; done) | (dsimp only; omega) | (simp; omega)), free_set fr, ?_, hB, by simpa [World.setCell] using hP⟩
  obtain ⟨h1, h2, h3, h4⟩ := by'
  refine ⟨h1, h2, h3, fun hp => ?_⟩
  obtain ⟨b, off, e, hb, hc⟩ := h4 hp
  exact ⟨b, off, e, hb, fun i hi => (World.cell?_setCell_other _ _ _ _ (by first | (simp; done) | (dsimp only; omega) | (simp; omega))).trans (hc i hi)⟩
theorem Keep.setNew {P Q o : Nat} {W w : World} {u : Value} (h : Keep P W w) (hQ : W.heap.size ≤ Q) : Keep P W (w.setCell ⟨Q, o, none⟩ u) := by
  have b := Below.heap_setCell w ⟨Q, o, none⟩ u
  exact ⟨h.1, h.2.1, by simpa [World.setCell] using h.2.2.1, fun k hk hne => (b k (by simp only; omega)).trans (h.2.2.2 k hk hne)⟩
def ShapePost (B P : Nat) (h w c : Int) (t : Rd) (w0 : World) (e : Ending) (w' : World) : Prop := e = .returned (.agg #[.int .i64 h, .int .i64 w, .int .i64 c]) ∧ RdAt w' B P t ∧ Keep P w0 w'
set_option maxHeartbeats 1000000 in
theorem shape_rd (B P : Nat) (s : Rd) (W : World) (hr : RdAt W B P s) : Calls Try.prog 70 #[.pointer (some ⟨P, 0, none⟩)] W (ShapePost B P (shapeR s).1.1 (shapeR s).1.2.1 (shapeR s).1.2.2 (shapeR s).2 W) := by
  have C := Lib.hid (fun s w (k : RdAt w B P s) => single_rd B P s w k)
  obtain ⟨x, hx⟩ : ∃ x, numR 1 s = x := ⟨_, rfl⟩
  obtain ⟨y, hy⟩ : ∃ y, numR 1 x.2 = y := ⟨_, rfl⟩
  obtain ⟨z, hz⟩ : ∃ z, numR 1 y.2 = z := ⟨_, rfl⟩
  have e : shapeR s = ((x.1, y.1, z.1), z.2) := by simp only [shapeR, hx, hy, hz]
  rw [e]
  have hPW : P < W.heap.size := hr.choose_spec.choose_spec.2.2.2.2
  have HR := Lib.hid hr
  have HX := Lib.hid hx
  have HY := Lib.hid hy
  have HZ := Lib.hid hz
  clear hr e hx hy hz
  go_enter Try.func70, Try.ntmps70
  go_upto_region 1 with fail
  obtain ⟨Q, hQ⟩ : ∃ Q, W.heap.size = Q := ⟨_, rfl⟩
  refine opq (fun w' => (∀ o : Nat, w'.cell? ⟨Q, o, none⟩ = (#[.int .i64 0, .int .i64 0, .int .i64 0] : Array Value)[o]?) ∧ (∀ o : Nat, w'.frozen? ⟨Q, o, none⟩ = false) ∧ RdAt w' B P s ∧ Keep P W w' ∧ Q + 1 ≤ w'.heap.size) (by subst hQ; exact ⟨box_new rfl, free_alloc (free_new (Nat.le_refl _)), HR.out.alloc _, Keep.of_past ((Past.refl W).alloc _), by simp⟩) ?_
  rintro w0 ⟨b0, f0, r0, k0, s0⟩
  try rw [hQ]
  have R0 := Lib.hid r0
  have K0 := Lib.hid k0
  clear r0 k0
  go_wp2_with fail
  refine (C.out _ _ R0.out).mono ?_
  rintro e w1 ⟨rfl, r1, k1⟩
  rw [HX.out] at r1
  simp only [HX.out]
  have b1 := box_keep k1 b0 (by omega) (by omega)
  have f1 := free_keep k1 f0 (by omega) (by omega)
  have s1 : Q + 1 ≤ w1.heap.size := by have := k1.2.2.1; omega
  have R1 := Lib.hid r1
  have K1 := Lib.hid (K0.out.trans k1)
  clear b0 f0 s0 r1 k1 R0 K0
  go_wp2_with fail
  refine (C.out _ _ R1.out).mono ?_
  rintro e w2 ⟨rfl, r2, k2⟩
  rw [HY.out] at r2
  simp only [HY.out]
  have b2 := box_keep k2 b1 (by omega) (by omega)
  have f2 := free_keep k2 f1 (by omega) (by omega)
  have s2 : Q + 1 ≤ w2.heap.size := by have := k2.2.2.1; omega
  have R2 := Lib.hid r2
  have K2 := Lib.hid (K1.out.trans k2)
  clear b1 f1 s1 r2 k2 R1 K1
  go_wp2_with fail
  refine (C.out _ _ R2.out).mono ?_
  rintro e w3 ⟨rfl, r3, k3⟩
  rw [HZ.out] at r3
  simp only [HZ.out]
  have b3 := box_keep k3 b2 (by omega) (by omega)
  have f3 := free_keep k3 f2 (by omega) (by omega)
  have R3 := Lib.hid r3
  have K3 := Lib.hid (K2.out.trans k3)
  clear b2 f2 s2 r3 k3 R2 K2 C
  go_wp2_with fail
  have b4 := box_set3 (y0 := .int .i64 x.1) (y1 := .int .i64 y.1) (y2 := .int .i64 z.1) b3
  have R4 := Lib.hid (((R3.out.set (Q := Q) (o := 0) (u := .int .i64 x.1) (by omega)).set (Q := Q) (o := 1) (u := .int .i64 y.1) (by omega)).set (Q := Q) (o := 2) (u := .int .i64 z.1) (by omega))
  have K4 := Lib.hid (((K3.out.setNew (Q := Q) (o := 0) (u := .int .i64 x.1) (by omega)).setNew (Q := Q) (o := 1) (u := .int .i64 y.1) (by omega)).setNew (Q := Q) (o := 2) (u := .int .i64 z.1) (by omega))
  clear b3 f3 R3 K3
  generalize (((w3.setCell { block := Q, off := 0 } (Value.int IntKind.i64 x.1)).setCell { block := Q, off := 1 } (Value.int IntKind.i64 y.1)).setCell { block := Q, off := 2 } (Value.int IntKind.i64 z.1)) = w4 at *
  exact bodyPost_ret (v := .agg #[.int .i64 x.1, .int .i64 y.1, .int .i64 z.1]) (by simp [results, Try.results70, go_sem, b4]) rfl ⟨rfl, R4.out, K4.out⟩
end Go.Proofs.Ytejllmjkeefloaa

namespace Go.Proofs.Ytejllmjkeefloaa
open Go.ChangeShapes Go.WideShapes Go.ChangeAt Go.RowKit
set_option maxRecDepth 20000
set_option linter.unusedVariables false

def ValPost (B P : Nat) (x : ValD) (t : Rd) (w0 : World) (e : Ending) (w' : World) : Prop := e = .returned (.agg #[.int .i64 x.h, .int .i64 x.w, .int .i64 x.c, .int .i64 x.z]) ∧ RdAt w' B P t ∧ Keep P w0 w'
theorem RdAt.drewN {w : World} {B P n : Nat} {s : Rd} (h : RdAt w B P s) : RdAt (w.drewN n) B P s := by
  obtain ⟨A, cap, bx, fr, by', hB, hP⟩ := h
  exact ⟨A, cap, box_drewN bx, free_drewN fr, by'.keep (Keep.of_past ((Past.refl w).drewN)) hB (by omega), hB, by simpa using hP⟩
theorem RdAt.drew {w : World} {B P : Nat} {s : Rd} (h : RdAt w B P s) : RdAt w.drew B P s := by
  obtain ⟨A, cap, bx, fr, by', hB, hP⟩ := h
  exact ⟨A, cap, box_drew bx, free_drew fr, by'.keep (Keep.of_past ((Past.refl w).drew)) hB (by omega), hB, by simpa using hP⟩
theorem Keep.of_drew {P : Nat} {w w' : World} (h : Keep P w.drew w') : Keep P w w' := (Keep.of_past ((Past.refl w).drew)).trans h
theorem Keep.of_drewN {P n : Nat} {w w' : World} (h : Keep P (w.drewN n) w') : Keep P w w' := (Keep.of_past ((Past.refl w).drewN)).trans h
theorem val_after {W w : World} {P S Q : Nat} {x y z : Int} (c0 : w.cell? ⟨S, 0, none⟩ = some (.int .i64 x)) (c1 : w.cell? ⟨S, 1, none⟩ = some (.int .i64 y)) (c2 : w.cell? ⟨S, 2, none⟩ = some (.int .i64 z))
    (b : (∀ o : Nat, w.cell? ⟨Q, o, none⟩ = (#[.int .i64 0, .int .i64 0, .int .i64 0, .int .i64 0] : Array Value)[o]?)) (f : (∀ o : Nat, w.frozen? ⟨Q, o, none⟩ = false)) (k : Keep P W w) (hS : S < w.heap.size) (hSP : S ≠ P) (hQ : Q < w.heap.size) (hQP : Q ≠ P) (w' : World) (g : Keep P w w') :
    w'.cell? ⟨S, 0, none⟩ = some (.int .i64 x) ∧ w'.cell? ⟨S, 1, none⟩ = some (.int .i64 y) ∧ w'.cell? ⟨S, 2, none⟩ = some (.int .i64 z) ∧ (∀ o : Nat, w'.cell? ⟨Q, o, none⟩ = (#[.int .i64 0, .int .i64 0, .int .i64 0, .int .i64 0] : Array Value)[o]?) ∧ (∀ o : Nat, w'.frozen? ⟨Q, o, none⟩ = false) ∧ Hid (Keep P W w') :=
  ⟨(g.cell hS hSP).trans c0, (g.cell hS hSP).trans c1, (g.cell hS hSP).trans c2, box_keep g b hQ hQP, free_keep g f hQ hQP, Lib.hid (k.trans g)⟩
set_option maxHeartbeats 1000000 in
theorem val_rd (B P : Nat) (s : Rd) (W : World) (hr : RdAt W B P s) : Calls Try.prog 47 #[.pointer (some ⟨P, 0, none⟩)] W (ValPost B P (valR s).1 (valR s).2 W) := by
  have C := Lib.hid (fun w (k : RdAt w B P s) => shape_rd B P s w k)
  obtain ⟨x, hx⟩ : ∃ x, shapeR s = x := ⟨_, rfl⟩
  obtain ⟨y, hy⟩ : ∃ y, smallR x.2 = y := ⟨_, rfl⟩
  have hz : -128 ≤ y.1 ∧ y.1 < 128 := by rw [← hy]; exact wrap8_bd _
  have e : valR s = (⟨x.1.1, x.1.2.1, x.1.2.2, y.1⟩, y.2) := by simp only [valR, hx, hy]
  have C2 := Lib.hid (fun w (k : RdAt w B P x.2) => small_rd B P x.2 w k)
  rw [e]
  have hPW : P < W.heap.size := hr.choose_spec.choose_spec.2.2.2.2
  have HR := Lib.hid hr
  rw [hx] at C
  rw [hy] at C2
  clear hr e hx hy
  obtain ⟨⟨xh, xw, xc⟩, t1⟩ := x
  obtain ⟨z, t2⟩ := y
  simp only at C C2 hz ⊢
  have e64 : IntKind.i64.wrap z = z := by simp only [IntKind.wrap, IntKind.bits, IntKind.signed]; simp; split <;> omega
  clear hz
  go_enter Try.func47, Try.ntmps47
  go_upto_region 1 with fail
  obtain ⟨Q, hQ⟩ : ∃ Q, W.heap.size = Q := ⟨_, rfl⟩
  refine opq (fun w' => (∀ o : Nat, w'.cell? ⟨Q, o, none⟩ = (#[.int .i64 0, .int .i64 0, .int .i64 0, .int .i64 0] : Array Value)[o]?) ∧ (∀ o : Nat, w'.frozen? ⟨Q, o, none⟩ = false) ∧ RdAt w' B P s ∧ Keep P W w' ∧ Q + 1 ≤ w'.heap.size) (by subst hQ; exact ⟨box_new rfl, free_alloc (free_new (Nat.le_refl _)), HR.out.alloc _, Keep.of_past ((Past.refl W).alloc _), by simp⟩) ?_
  rintro w0 ⟨b0, f0, r0, k0, s0⟩
  try rw [hQ]
  have R0 := Lib.hid r0
  have K0 := Lib.hid k0
  clear r0 k0
  go_wp2_with fail
  refine (C.out _ R0.out).mono ?_
  rintro e w1 ⟨rfl, r1, k1⟩
  have b1 := box_keep k1 b0 (by omega) (by omega)
  have f1 := free_keep k1 f0 (by omega) (by omega)
  have s1 : Q + 1 ≤ w1.heap.size := by have := k1.2.2.1; omega
  have R1 := Lib.hid r1
  have K1 := Lib.hid (K0.out.trans k1)
  clear b0 f0 s0 r1 k1 R0 K0 C
  obtain ⟨S, hS⟩ : ∃ S, w1.heap.size = S := ⟨_, rfl⟩
  go_upto_region 2 with fail
  refine opq (fun w' => (∀ o : Nat, w'.cell? ⟨Q, o, none⟩ = (#[.int .i64 0, .int .i64 0, .int .i64 0, .int .i64 0] : Array Value)[o]?) ∧ (∀ o : Nat, w'.frozen? ⟨Q, o, none⟩ = false) ∧ (∀ o : Nat, w'.cell? ⟨S, o, none⟩ = (#[.int .i64 xh, .int .i64 xw, .int .i64 xc] : Array Value)[o]?) ∧ RdAt w' B P t1 ∧ Keep P W w' ∧ S + 1 ≤ w'.heap.size) (by
    subst hS
    exact ⟨by (exact kKeep), by (exact kKeep), box_new rfl, R1.out.alloc _, K1.out.trans (Keep.of_past ((Past.refl w1).alloc _)), by simp⟩) ?_
  rintro w2 ⟨b2, f2, c2, r2, k2, s2⟩
  try rw [hS]
  have hne : S ≠ P := by omega
  have hQS : Q < S := by omega
  have R2 := Lib.hid r2
  have K2 := Lib.hid k2
  clear b1 f1 s1 r2 k2 R1 K1
  have c0 : w2.cell? ⟨S, 0, none⟩ = some (.int .i64 xh) := c2 0
  have c1 : w2.cell? ⟨S, 1, none⟩ = some (.int .i64 xw) := c2 1
  have c3 : w2.cell? ⟨S, 2, none⟩ = some (.int .i64 xc) := c2 2
  have AF := Lib.hid (val_after (W := W) (w := w2) (P := P) (S := S) (Q := Q) (x := xh) (y := xw) (z := xc) c0 c1 c3 b2 f2 K2.out (by omega) (by omega) (by omega) (by omega))
  clear c2 b2 f2 s2
  go_region_held3 (fun w' => w'.cell? ⟨S, 0, none⟩ = some (.int .i64 xh) ∧ w'.cell? ⟨S, 1, none⟩ = some (.int .i64 xw) ∧ w'.cell? ⟨S, 2, none⟩ = some (.int .i64 xc)) ((refine ⟨?_, ?_, ?_⟩ <;> go_cell))
    (first | (go_at_call 71; ((with_reducible refine (C2.out _ (by first | exact R2.out | exact RdAt.drew R2.out | exact RdAt.drewN R2.out)).mono ?_)); rintro e w3 ⟨rfl, r3, k3⟩; obtain ⟨d0, d1, d2, d3, d4, d5⟩ := AF.out w3 (by first | exact k3 | exact Keep.of_drew k3 | exact Keep.of_drewN k3)))
  all_goals
    try rw [e64]
    have b4 := box_set4 (y0 := .int .i64 xh) (y1 := .int .i64 xw) (y2 := .int .i64 xc) (y3 := .int .i64 z) d3
    have R4 := Lib.hid ((((r3.set (Q := Q) (o := 0) (u := .int .i64 xh) (by omega)).set (Q := Q) (o := 1) (u := .int .i64 xw) (by omega)).set (Q := Q) (o := 2) (u := .int .i64 xc) (by omega)).set (Q := Q) (o := 3) (u := .int .i64 z) (by omega))
    have K4 := Lib.hid ((((d5.out.setNew (Q := Q) (o := 0) (u := .int .i64 xh) (by omega)).setNew (Q := Q) (o := 1) (u := .int .i64 xw) (by omega)).setNew (Q := Q) (o := 2) (u := .int .i64 xc) (by omega)).setNew (Q := Q) (o := 3) (u := .int .i64 z) (by omega))
    clear d0 d1 d2 d3 d4 d5 r3 k3 AF R2 K2
    generalize ((((w3.setCell { block := Q, off := 0 } (Value.int IntKind.i64 xh)).setCell { block := Q, off := 1 } (Value.int IntKind.i64 xw)).setCell { block := Q, off := 2 } (Value.int IntKind.i64 xc)).setCell { block := Q, off := 3 } (Value.int IntKind.i64 z)) = w4 at *
    go_wp2_with fail
    exact bodyPost_ret (v := .agg #[.int .i64 xh, .int .i64 xw, .int .i64 xc, .int .i64 z]) (by simp [results, Try.results47, go_sem, b4]) rfl ⟨rfl, R4.out, K4.out⟩
end Go.Proofs.Ytejllmjkeefloaa
