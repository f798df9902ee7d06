/- isa: the reader: number. -/
import Derived.Test.YtlnlodbjkicgoaaI7
namespace Go.Proofs.Ytlnlodbjkicgoaa
open Go.ChangeShapes Go.WideShapes Go.ChangeAt Go.RowKit
set_option maxRecDepth 20000
set_option linter.unusedVariables false
set_option linter.unusedSimpArgs false

/-- What is left, and whether it was too short. -/
structure Rd where
  rest : List Int
  short : Bool
def numI (k : Nat) (s : Rd) : Int × Rd := if s.rest.length < k then (0, ⟨s.rest, true⟩) else (foldB (s.rest.take k), ⟨s.rest.drop k, s.short⟩)

/-- All but block P is as it was. -/
def Keep (P : Nat) (w w' : World) : Prop := w'.os = w.os ∧ w'.output = w.output ∧ w.heap.size ≤ w'.heap.size ∧ ∀ k, k < w.heap.size → k ≠ P → w'.heap[k]? = w.heap[k]?
theorem Keep.refl (P : Nat) (w : World) : Keep P w w := ⟨rfl, rfl, Nat.le_refl _, fun _ _ _ => rfl⟩
theorem Keep.trans {P : Nat} {a b c : World} (h : Keep P a b) (k : Keep P b c) : Keep P a c :=
  ⟨k.1.trans h.1, k.2.1.trans h.2.1, Nat.le_trans h.2.2.1 k.2.2.1, fun i hi hn => (k.2.2.2 i (Nat.lt_of_lt_of_le hi h.2.2.1) hn).trans (h.2.2.2 i hi hn)⟩
theorem Keep.set {P : Nat} {w w' : World} (h : Keep P w w') (o : Nat) (u : Value) : Keep P w (w'.setCell ⟨P, o, none⟩ u) := by
  have b := Below.heap_setCell w' ⟨P, o, none⟩ u
  exact ⟨h.1, h.2.1, by simpa [World.setCell] using h.2.2.1, fun k hk hne => (b k hne).trans (h.2.2.2 k hk hne)⟩
theorem Keep.of_past {P : Nat} {w w' : World} (h : Past w w') : Keep P w w' := ⟨h.1, h.2.1, h.2.2.1, fun k hk _ => h.2.2.2 k hk⟩
theorem Keep.past {P : Nat} {W w w' : World} (p : Past W w) (h : Keep P w w') (hP : W.heap.size ≤ P) : Past W w' :=
  ⟨h.1.trans p.1, h.2.1.trans p.2.1, Nat.le_trans p.2.2.1 h.2.2.1, fun k hk => (h.2.2.2 k (Nat.lt_of_lt_of_le hk p.2.2.1) (by omega)).trans (p.2.2.2 k hk)⟩
theorem Keep.cell {P b o : Nat} {w w' : World} (h : Keep P w w') (hb : b < w.heap.size) (hn : b ≠ P) : w'.cell? ⟨b, o, none⟩ = w.cell? ⟨b, o, none⟩ := World.cell?_of_block (a := ⟨b, o, none⟩) (h.2.2.2 b hb hn)
theorem Keep.free {P b o : Nat} {w w' : World} (h : Keep P w w') (hb : b < w.heap.size) (hn : b ≠ P) : w'.frozen? ⟨b, o, none⟩ = w.frozen? ⟨b, o, none⟩ := World.frozen?_of_block (a := ⟨b, o, none⟩) (h.2.2.2 b hb hn)
theorem box_keep {P b : Nat} {w w' : World} {cs : Array Value} (h : Keep P w w') (k : (∀ o : Nat, w.cell? ⟨b, o, none⟩ = (cs : Array Value)[o]?)) (hb : b < w.heap.size) (hn : b ≠ P) : (∀ o : Nat, w'.cell? ⟨b, o, none⟩ = (cs : Array Value)[o]?) := fun o => (h.cell hb hn).trans (k o)
theorem free_keep {P b : Nat} {w w' : World} (h : Keep P w w') (k : (∀ o : Nat, w.frozen? ⟨b, o, none⟩ = false)) (hb : b < w.heap.size) (hn : b ≠ P) : (∀ o : Nat, w'.frozen? ⟨b, o, none⟩ = false) := fun o => (h.free hb hn).trans (k o)
theorem own_keep {P : Nat} {w w' : World} {base e size n : Nat} {v : Value} {xs : List Value} (h : w.ownsRow base e size v n xs) (g : Keep P w w') (hP : P < base) : w'.ownsRow base e size v n xs := by
  refine ⟨h.1, ?_⟩
  rcases h.2 with hn | ⟨b, cap, cur, rfl, hb, hg, rest⟩
  · exact Or.inl hn
  · exact Or.inr ⟨b, cap, cur, rfl, hb, (g.2.2.2 b (Array.getElem?_eq_some_iff.1 hg).1 (by omega)).trans hg, rest⟩

/-- Bytes that lie below B. -/
def Bytes (w : World) (B : Nat) (A : Option Addr) (cap : Nat) (l : List Int) : Prop :=
  l.length ≤ cap ∧ cap ≤ maxLen ∧ (∀ x ∈ l, (Lit.int .u8 x).wf = true) ∧ (0 < l.length → ∃ b off, A = some ⟨b, off, none⟩ ∧ b < B ∧ ∀ i, i < l.length → w.cell? ⟨b, off + i, none⟩ = some (.int .u8 (l.getD i 0)))

theorem Bytes.keep {w w' : World} {B P cap : Nat} {A : Option Addr} {l : List Int} (h : Bytes w B A cap l) (g : Keep P w w') (hB : B ≤ P) (hB' : B ≤ w.heap.size) : Bytes w' B A cap l := by
  obtain ⟨h1, h2, h3, h4⟩ := h
  refine ⟨h1, h2, h3, fun hp => ?_⟩
  obtain ⟨b, off, e, hb, hc⟩ := h4 hp
  exact ⟨b, off, e, hb, fun i hi => (g.cell (by omega) (by omega)).trans (hc i hi)⟩
theorem Bytes.nil (w : World) (B : Nat) (A : Option Addr) (cap : Nat) (hc : cap ≤ maxLen) : Bytes w B A cap [] := ⟨Nat.zero_le _, hc, by simp, by simp⟩
theorem Bytes.bytesP {w : World} {B cap : Nat} {A : Option Addr} {l : List Int} (h : Bytes w B A cap l) : bytesP l := fun c hc => by
  have := wf_u8 (h.2.2.1 c hc)
  omega

/-- The reader at block P, of bytes that lie below B. -/
def RdAt (w : World) (B P : Nat) (s : Rd) : Prop :=
  ∃ A cap, (∀ o : Nat, w.cell? ⟨P, o, none⟩ = (#[.slice A s.rest.length cap, .bool s.short] : Array Value)[o]?) ∧ (∀ o : Nat, w.frozen? ⟨P, o, none⟩ = false) ∧ Bytes w B A cap s.rest ∧ B ≤ P ∧ P < w.heap.size

/-- Behind a call of a method of the reader. -/
def RdPost (B P : Nat) (v : Value) (t : Rd) (w : World) (e : Ending) (w' : World) : Prop := e = .returned v ∧ RdAt w' B P t ∧ Keep P w w'
theorem box2_set0 {w : World} {b : Nat} {x0 x1 y : Value} (h : (∀ o : Nat, w.cell? ⟨b, o, none⟩ = (#[x0, x1] : Array Value)[o]?)) : (∀ o : Nat, (w.setCell ⟨b, 0, none⟩ y).cell? ⟨b, o, none⟩ = (#[y, x1] : Array Value)[o]?) := by
  intro o
  match o with
  | 0 => exact World.cell?_setCell_same w _ _ (h 0)
  | k + 1 => rw [World.cell?_setCell_other _ _ _ _ (by simp)]; have := h (k + 1); simpa using this
theorem box2_set1 {w : World} {b : Nat} {x0 x1 y : Value} (h : (∀ o : Nat, w.cell? ⟨b, o, none⟩ = (#[x0, x1] : Array Value)[o]?)) : (∀ o : Nat, (w.setCell ⟨b, 1, none⟩ y).cell? ⟨b, o, none⟩ = (#[x0, y] : Array Value)[o]?) := by
  intro o
  match o with
  | 0 => rw [World.cell?_setCell_other _ _ _ _ (by simp)]; exact h 0
  | 1 => exact World.cell?_setCell_same w _ _ (h 1)
  | k + 2 => rw [World.cell?_setCell_other _ _ _ _ (by simp)]; have := h (k + 2); simpa using this

theorem Bytes.take {w : World} {B cap n : Nat} {A : Option Addr} {l : List Int} (h : Bytes w B A cap l) (hn : n ≤ l.length) : Bytes w B A n (l.take n) := by
  obtain ⟨h1, h2, h3, h4⟩ := h
  have hl : (l.take n).length = n := by simp; omega
  refine ⟨by omega, by omega, fun x hx => h3 x (List.mem_of_mem_take hx), fun hp => ?_⟩
  obtain ⟨b, off, e, hb, hc⟩ := h4 (by omega)
  refine ⟨b, off, e, hb, fun i hi => ?_⟩
  rw [hc i (by omega)]
  simp only [List.getD, List.getElem?_take]
  rw [if_pos (by omega)]
theorem Bytes.drop {w : World} {B b off cap n : Nat} {l : List Int} (h : Bytes w B (some ⟨b, off, none⟩) cap l) (hn : n ≤ l.length) : Bytes w B (some ⟨b, off + n, none⟩) (cap - n) (l.drop n) := by
  obtain ⟨h1, h2, h3, h4⟩ := h
  refine ⟨by simp; omega, by omega, fun x hx => h3 x (List.mem_of_mem_drop hx), fun hp => ?_⟩
  rw [List.length_drop] at hp
  obtain ⟨b', off', e, hb, hc⟩ := h4 (by omega)
  simp only [Option.some.injEq, Addr.mk.injEq, and_true] at e
  obtain ⟨rfl, rfl⟩ := e
  refine ⟨b, off + n, rfl, hb, fun i hi => ?_⟩
  rw [List.length_drop] at hi
  rw [Nat.add_assoc, hc (n + i) (by omega)]
  simp [List.getD]

theorem or_byte (x c : Int) (x0 : 0 ≤ x) (x1 : x < 16777216) (c0 : 0 ≤ c) (c1 : c < 256) : bits .or .i64 (x * 256) c = 256 * x + c := by
  obtain ⟨m, rfl⟩ : ∃ m : Nat, x = m := ⟨x.toNat, by omega⟩
  obtain ⟨d, rfl⟩ : ∃ m : Nat, c = m := ⟨c.toNat, by omega⟩
  have h2 : (BitVec.ofInt 64 (d : Int)).toNat = d := by
    rw [BitVec.toNat_ofInt]
    omega
  have h3 : (BitVec.ofInt 64 ((m : Int) * 256)).toNat = m <<< 8 := by
    rw [BitVec.toNat_ofInt, Nat.shiftLeft_eq]
    omega
  show IntKind.i64.wrap ((BitVec.ofInt 64 ((m : Int) * 256) ||| BitVec.ofInt 64 (d : Int)).toNat : Int) = _
  rw [BitVec.toNat_or, h2, h3, ← Nat.shiftLeft_add_eq_or_of_lt (by omega), Nat.shiftLeft_eq, IntKind.wrap_i64]
  omega

theorem RdAt.alloc {w : World} {B P : Nat} {s : Rd} (h : RdAt w B P s) (x : Obj) : RdAt (w.alloc x) B P s := by
  obtain ⟨A, cap, bx, fr, by', hB, hP⟩ := h
  exact ⟨A, cap, box_old bx hP, fun o => (((Past.refl w).alloc x).free (p := ⟨P, o, none⟩) hP).trans (fr o), by'.keep (Keep.of_past ((Past.refl w).alloc x)) hB (by omega), hB, by simp; omega⟩
theorem RdAt.set {w : World} {B P Q o : Nat} {s : Rd} {u : Value} (h : RdAt w B P s) (hQ : P < Q) : RdAt (w.setCell ⟨Q, o, none⟩ u) B P s := by
  obtain ⟨A, cap, bx, fr, by', hB, hP⟩ := h
  refine ⟨A, cap, box_set bx (by first | (simp; done) | (dsimp only; omega) | (simp; omega)), free_set fr, ?_, hB, by simpa [World.setCell] using hP⟩
  obtain ⟨h1, h2, h3, h4⟩ := by'
  refine ⟨h1, h2, h3, fun hp => ?_⟩
  obtain ⟨b, off, e, hb, hc⟩ := h4 hp
  exact ⟨b, off, e, hb, fun i hi => (World.cell?_setCell_other _ _ _ _ (by first | (simp; done) | (dsimp only; omega) | (simp; omega))).trans (hc i hi)⟩

theorem Keep.setNew {P Q o : Nat} {W w : World} {u : Value} (h : Keep P W w) (hQ : W.heap.size ≤ Q) : Keep P W (w.setCell ⟨Q, o, none⟩ u) := by
  have b := Below.heap_setCell w ⟨Q, o, none⟩ u
  exact ⟨h.1, h.2.1, by simpa [World.setCell] using h.2.2.1, fun k hk hne => (b k (by simp only; omega)).trans (h.2.2.2 k hk hne)⟩

theorem RdAt.drewN {w : World} {B P n : Nat} {s : Rd} (h : RdAt w B P s) : RdAt (w.drewN n) B P s := by
  obtain ⟨A, cap, bx, fr, by', hB, hP⟩ := h
  exact ⟨A, cap, box_drewN bx, free_drewN fr, by'.keep (Keep.of_past ((Past.refl w).drewN)) hB (by omega), hB, by simpa using hP⟩
theorem RdAt.drew {w : World} {B P : Nat} {s : Rd} (h : RdAt w B P s) : RdAt w.drew B P s := by
  obtain ⟨A, cap, bx, fr, by', hB, hP⟩ := h
  exact ⟨A, cap, box_drew bx, free_drew fr, by'.keep (Keep.of_past ((Past.refl w).drew)) hB (by omega), hB, by simpa using hP⟩
theorem Keep.of_drew {P : Nat} {w w' : World} (h : Keep P w.drew w') : Keep P w w' := (Keep.of_past ((Past.refl w).drew)).trans h
theorem Keep.of_drewN {P n : Nat} {w w' : World} (h : Keep P (w.drewN n) w') : Keep P w w' := (Keep.of_past ((Past.refl w).drewN)).trans h


set_option maxHeartbeats 1000000 in
theorem number_any (n : Nat) (h1 : 1 ≤ n) (h4 : n ≤ 3) (B P : Nat) (s : Rd) (W : World) (hr : RdAt W B P s) : Calls Try.prog 28 #[.pointer (some ⟨P, 0, none⟩), .int .i64 (n : Int)] W (RdPost B P (.int .i64 (numI n s).1) (numI n s).2 W) := by
  obtain ⟨A, cap, bx, fr, by', hB, hP⟩ := hr
  have BY := Lib.hid by'
  have hm : s.rest.length ≤ 9223372036854775807 := by have := by'.1; have := by'.2.1; unfold maxLen at this; omega
  by_cases h : s.rest.length < n
  · have e : numI n s = (0, ⟨s.rest, true⟩) := by unfold numI; rw [if_pos h]
    rw [e]
    have BX := Lib.hid bx
    clear by'
    go_enter Try.func28, Try.ntmps28
    go_wp2_with fail
    go_ret
    exact ⟨rfl, ⟨A, cap, box2_set1 BX.out, by (exact kKeep), BY.out.keep ((Keep.refl P W).set _ _) hB (by omega), hB, by simpa [World.setCell] using hP⟩, ((Keep.refl P W).set _ _)⟩
  · have e : numI n s = (foldB (s.rest.take n), ⟨s.rest.drop n, s.short⟩) := by unfold numI; rw [if_neg h]
    rw [e]
    obtain ⟨k1, k2, k3, k4⟩ := by'
    obtain ⟨b, off, rfl, hb, hc⟩ := k4 (by omega)
    have K3 := Lib.hid k3
    have HC := Lib.hid hc
    have BX := Lib.hid bx
    have d1 : decide ((n : Int) > (s.rest.length : Int)) = false := by simp; omega
    obtain ⟨m, hm'⟩ : ∃ m, s.rest.length = m := ⟨_, rfl⟩
    rw [hm'] at h k1 hm d1 bx
    have HM := Lib.hid hm'
    clear hm' k3 k4 hc e
    go_enter Try.func28, Try.ntmps28
    go_wp2_with fail
    go_loopw [5, 25] (fun x i wr => ∃ k : Nat, k ≤ n ∧ i = .int .i64 k ∧ x = .int .i64 (foldB (s.rest.take k)) ∧ Hid (0 ≤ foldB (s.rest.take k) ∧ foldB (s.rest.take k) < 256 ^ k) ∧ wr = W) (fun _ i _ => n - (intOf i).toNat)
    case atStart => exact ⟨0, by omega, rfl, rfl, Lib.hid (by simp [foldB]), rfl⟩
    case round =>
      obtain ⟨k, hk, rfl, rfl, hb, rfl⟩ := hrel
      by_cases hkn : k < n
      · have c0 := HC.out k (by rw [HM.out]; omega)
        have wc := wf_u8 (K3.out (s.rest.getD k 0) (by simp [List.getD, show k < s.rest.length by rw [HM.out]; omega]))
        have hnext := foldB_take s.rest k (by rw [HM.out]; omega)
        obtain ⟨c, hc'⟩ : ∃ c, s.rest.getD k 0 = c := ⟨_, rfl⟩
        rw [hc'] at c0 wc hnext
        obtain ⟨x, hx⟩ : ∃ x, foldB (s.rest.take k) = x := ⟨_, rfl⟩
        rw [hx] at hb hnext
        rw [hx]
        have x1 : x < 16777216 := by
          have h2 := hb.out.2
          rcases (show k = 0 ∨ k = 1 ∨ k = 2 by omega) with rfl | rfl | rfl <;> simp at h2 <;> omega
        have x0 := hb.out.1
        have hor : bits .or .i64 (wrap64 (x * 256)) (wrap64 c) = foldB (s.rest.take (k + 1)) := by
          have e1 : wrap64 (x * 256) = x * 256 := by unfold wrap64; omega
          have e2 : wrap64 c = c := by unfold wrap64; omega
          rw [e1, e2, or_byte x c x0 x1 wc.1 (by omega), hnext]
        have hnb : 0 ≤ foldB (s.rest.take (k + 1)) ∧ foldB (s.rest.take (k + 1)) < 256 ^ (k + 1) := by
          rw [hnext, Int.pow_succ]
          have := hb.out
          omega
        have HOR := Lib.hid hor
        have HNB := Lib.hid hnb
        clear hor hnb hnext hx hc' x0 x1 wc
        go_wp2_with fail
        go_roundw
        case rel => exact ⟨k + 1, by omega, by go_num, by rw [HOR.out], HNB, trivial⟩
        case measure => simp [intOf]; omega
      · have e : k = n := by omega
        subst e
        go_wp2_with fail
        · go_ret
          have hm' := HM.out
          have hd : s.rest.drop k = [] := List.drop_of_length_le (by omega)
          have hz : m - k = 0 := by omega
          rw [hd, hz]
          exact ⟨rfl, ⟨some ⟨b, off, none⟩, 0, box2_set0 BX.out, by (exact kKeep), Bytes.nil _ _ _ _ (by simp [maxLen]), hB, by simpa [World.setCell] using hP⟩, (Keep.refl P wr).set _ _⟩
        · go_ret
          have hm' := HM.out
          have hl : (s.rest.drop k).length = m - k := by rw [List.length_drop]; omega
          exact ⟨rfl, ⟨some ⟨b, off + k, none⟩, cap - k, by rw [hl]; exact box2_set0 BX.out, by (exact kKeep), (BY.out.drop (by omega)).keep ((Keep.refl P wr).set _ _) hB (by omega), hB, by simpa [World.setCell] using hP⟩, (Keep.refl P wr).set _ _⟩
end Go.Proofs.Ytlnlodbjkicgoaa
