/- The reference of layer 4: the reader; num. isa: the reader: number. -/
import Derived.Test.YtejllmjkeefloaaJN7
import Derived.Test.YtejllmjkeefloaaJI7
namespace Go.Proofs.Ytejllmjkeefloaa
open Go.ChangeShapes Go.WideShapes Go.ChangeAt Go.RowKit
set_option maxRecDepth 20000
set_option linter.unusedVariables false
set_option linter.unusedSimpArgs false

/-- Where the reference's reader is, as what is left. -/
def leftOf (b : List Int) (k : Nat) (bad : Bool) : Rd := if bad then ⟨[], true⟩ else ⟨b.drop k, false⟩
/-- The reference's reader in memory: the bytes, a place, whether there were too few. -/
def QAt (w : World) (B P : Nat) (A : Option Addr) (cap : Nat) (b : List Int) (k : Nat) (bad : Bool) : Prop :=
  (∀ o : Nat, w.cell? ⟨P, o, none⟩ = (#[.slice A b.length cap, .int .i64 (k : Int), .bool bad] : Array Value)[o]?) ∧ (∀ o : Nat, w.frozen? ⟨P, o, none⟩ = false) ∧ Bytes w B A cap b ∧ k ≤ b.length ∧ b.length ≤ 100000 ∧ B ≤ P ∧ P < w.heap.size
theorem QAt.keep {w w' : World} {B P Q cap k : Nat} {A : Option Addr} {b : List Int} {bad : Bool} (h : QAt w B P A cap b k bad) (g : Keep Q w w') (hQ : P < Q) : QAt w' B P A cap b k bad := by
  obtain ⟨h1, h2, h3, h4, h5, h6, h7⟩ := h
  exact ⟨box_keep g h1 h7 (by omega), free_keep g h2 h7 (by omega), h3.keep g (by omega) (by omega), h4, h5, h6, Nat.lt_of_lt_of_le h7 g.2.2.1⟩
theorem QAt.past {w w' : World} {B P cap k : Nat} {A : Option Addr} {b : List Int} {bad : Bool} (h : QAt w B P A cap b k bad) (g : Past w w') : QAt w' B P A cap b k bad :=
  h.keep (Keep.of_past (P := P + 1) g) (by omega)
theorem QAt.q {w : World} {B P cap k : Nat} {A : Option Addr} {b : List Int} {bad : Bool} (h : QAt w B P A cap b k bad) : (∀ o : Nat, w.cell? ⟨P, o, none⟩ = (#[.slice A b.length cap, .int .i64 (k : Int), .bool bad] : Array Value)[o]?) := h.1
theorem box3_at {w : World} {b : Nat} {cs : Array Value} (h : (∀ o : Nat, w.cell? ⟨b, o, none⟩ = (cs : Array Value)[o]?)) (i : Nat) (hi : i < cs.size) (y : Value) : (∀ o : Nat, (w.setCell ⟨b, i, none⟩ y).cell? ⟨b, o, none⟩ = (cs.setIfInBounds i y : Array Value)[o]?) := by
  intro o
  by_cases c : i = o
  · subst c
    rw [World.cell?_setCell_same w _ _ ((h i).trans (Array.getElem?_eq_getElem hi)), Array.getElem?_setIfInBounds_self_of_lt hi]
  · rw [World.cell?_setCell_other _ _ _ _ (by first | (simp; done) | (simp; omega)), Array.getElem?_setIfInBounds_ne c]
    exact h o
theorem QAt.worse {w : World} {B P cap k : Nat} {A : Option Addr} {b : List Int} {bad : Bool} (h : QAt w B P A cap b k bad) : QAt (w.setCell ⟨P, 2, none⟩ (.bool true)) B P A cap b k true := by
  obtain ⟨h1, h2, h3, h4, h5, h6, h7⟩ := h
  have kp : Keep P w (w.setCell ⟨P, 2, none⟩ (.bool true)) := (Keep.refl P w).set _ _
  exact ⟨by simpa using box3_at h1 2 (by simp) (.bool true), free_set h2, h3.keep kp h6 (by omega), h4, h5, h6, Nat.lt_of_lt_of_le h7 kp.2.2.1⟩
theorem QAt.on {w : World} {B P cap k wd : Nat} {A : Option Addr} {b : List Int} {bad : Bool} (h : QAt w B P A cap b k bad) (hf : k + wd ≤ b.length) : QAt (w.setCell ⟨P, 1, none⟩ (.int .i64 ((k : Int) + (wd : Int)))) B P A cap b (k + wd) bad := by
  obtain ⟨h1, h2, h3, h4, h5, h6, h7⟩ := h
  have kp : Keep P w (w.setCell ⟨P, 1, none⟩ (.int .i64 ((k : Int) + (wd : Int)))) := (Keep.refl P w).set _ _
  exact ⟨by simpa using box3_at h1 1 (by simp) (.int .i64 ((k : Int) + (wd : Int))), free_set h2, h3.keep kp h6 (by omega), hf, h5, h6, Nat.lt_of_lt_of_le h7 kp.2.2.1⟩
def QRd (w : World) (B P : Nat) (A : Option Addr) (cap : Nat) (b : List Int) (s : Rd) : Prop := ∃ k bad, QAt w B P A cap b k bad ∧ leftOf b k bad = s
/-- What the reader tells, and where it is then. -/
def QPost (v : Value) (B P : Nat) (A : Option Addr) (cap : Nat) (b : List Int) (t : Rd) (W : World) (e : Ending) (w' : World) : Prop := e = .returned v ∧ QRd w' B P A cap b t ∧ Keep P W w'
theorem left_short {b : List Int} {k wd : Nat} {bad : Bool} (h1 : 1 ≤ wd) (h : bad = true ∨ b.length < k + wd) (hk : k ≤ b.length) : numR wd (leftOf b k bad) = (0, leftOf b k true) := by
  have e : leftOf b k true = ⟨[], true⟩ := rfl
  rw [e]
  unfold numR pieceR
  rcases h with rfl | h
  · rw [e, if_pos (by simp; omega)]
    rfl
  · cases bad
    · rw [show leftOf b k false = ⟨b.drop k, false⟩ from rfl, if_pos (by simp only [List.length_drop]; omega)]
      rfl
    · rw [e, if_pos (by simp; omega)]
      rfl
theorem left_more {b : List Int} {k wd : Nat} (h : k + wd ≤ b.length) : numR wd (leftOf b k false) = (foldB ((b.drop k).take wd), leftOf b (k + wd) false) := by
  unfold numR pieceR leftOf
  simp only [Bool.false_eq_true, if_false]
  rw [if_neg (by simp only [List.length_drop]; omega), List.drop_drop]
set_option maxHeartbeats 2000000 in
theorem qnum_any (wd : Nat) (h1 : 1 ≤ wd) (h4 : wd ≤ 4) (B P : Nat) (A : Option Addr) (cap : Nat) (b : List Int) (k : Nat) (bad : Bool) (W : World) (hr : QAt W B P A cap b k bad) :
    Calls Try.prog 23 #[.pointer (some ⟨P, 0, none⟩), .int .i64 (wd : Int)] W (QPost (.int .i64 (numR wd (leftOf b k bad)).1) B P A cap b (numR wd (leftOf b k bad)).2 W) := by
  have QR := Lib.hid hr
  obtain ⟨bx, fr, by', hk, hl, hB, hP⟩ := hr
  have FR := Lib.hid fr
  have BY := Lib.hid by'
  by_cases hs : bad = true ∨ b.length < k + wd
  · rw [left_short h1 hs hk]
    have FIN := Lib.hid (fun (w : World) (p : Past W w) => (⟨⟨k, true, (QR.out.past p).worse, rfl⟩, (Keep.of_past p).set _ _⟩ : (∃ k' bad', QAt (w.setCell ⟨P, 2, none⟩ (.bool true)) B P A cap b k' bad' ∧ leftOf b k' bad' = leftOf b k true) ∧ Keep P W (w.setCell ⟨P, 2, none⟩ (.bool true))))
    clear by'
    obtain ⟨L, hL⟩ : ∃ L, b.length = L := ⟨_, rfl⟩
    rw [hL] at bx hs hk hl
    cases bad
    · have hs' : L < k + wd := by simpa using hs
      have d1 : decide ((L : Int) < (k : Int) + (wd : Int)) = true := decide_eq_true (by omega)
      clear hs hL
      go_enter Try.func23, Try.ntmps23
      go_upto_region 1 with fail
      go_quiet (fail)
      go_wp2_with fail
      go_ret
      exact ⟨rfl, FIN.out _ ((Past.refl W).drewN)⟩
    · clear hs hL
      go_enter Try.func23, Try.ntmps23
      go_upto_region 1 with fail
      go_quiet (fail)
      go_wp2_with fail
      go_ret
      exact ⟨rfl, FIN.out _ ((Past.refl W).drewN)⟩
  · have hbad : bad = false := by cases bad <;> simp_all
    subst hbad
    have hfit : k + wd ≤ b.length := by omega
    rw [left_more hfit]
    have FIN := Lib.hid (fun (w : World) (p : Past W w) => (⟨⟨k + wd, false, (QR.out.past p).on hfit, rfl⟩, (Keep.of_past p).set _ _⟩ : (∃ k' bad', QAt (w.setCell ⟨P, 1, none⟩ (.int .i64 ((k : Int) + (wd : Int)))) B P A cap b k' bad' ∧ leftOf b k' bad' = leftOf b (k + wd) false) ∧ Keep P W (w.setCell ⟨P, 1, none⟩ (.int .i64 ((k : Int) + (wd : Int))))))
    have hlw : ((b.drop k).take wd).length = wd := by rw [List.length_take, List.length_drop]; omega
    have HLW := Lib.hid hlw
    have GD := Lib.hid (fun i (hi : i < wd) => show ((b.drop k).take wd).getD i 0 = b.getD (k + i) 0 by simp [List.getD, hi, List.getElem?_take])
    have BT := Lib.hid (fun c (hc : c ∈ (b.drop k).take wd) => BY.out.bytesP c (List.mem_of_mem_drop (List.mem_of_mem_take hc)))
    obtain ⟨bb, off, rfl, hbb, hc⟩ := by'.2.2.2 (by omega)
    have HC := Lib.hid hc
    obtain ⟨t, ht⟩ : ∃ t, (b.drop k).take wd = t := ⟨_, rfl⟩
    rw [ht] at HLW GD BT
    rw [ht]
    obtain ⟨L, hL⟩ : ∃ L, b.length = L := ⟨_, rfl⟩
    rw [hL] at bx hfit hk hl
    have HM := Lib.hid hL
    have d1 : decide ((L : Int) < (k : Int) + (wd : Int)) = false := decide_eq_false (by omega)
    clear by' hc hlw ht hL hs
    go_enter Try.func23, Try.ntmps23
    go_upto_region 1 with fail
    go_quiet (fail)
    go_wp2_with fail
    go_loopw [5, 6] (fun x i wr => ∃ n : Nat, n ≤ wd ∧ i = .int .i64 n ∧ x = .int .i64 (foldB (t.take n)) ∧ Hid (0 ≤ foldB (t.take n) ∧ foldB (t.take n) < 256 ^ n) ∧ Past W wr) (fun _ i _ => wd - (intOf i).toNat)
    case atStart => exact ⟨0, by omega, rfl, rfl, Lib.hid (by simp [foldB]), (Past.refl W).drewN⟩
    case round =>
      obtain ⟨n, hn, rfl, rfl, hb, pr⟩ := hrel
      have br := box_past pr bx hP
      have fr2 := free_past pr fr hP
      by_cases h : n < wd
      · have c0 := (pr.cell (p := ⟨bb, off + (k + n), none⟩) (show bb < W.heap.size by omega)).trans (HC.out (k + n) (by rw [HM.out]; omega))
        rw [← GD.out n h] at c0
        have wc := BT.out (t.getD n 0) (by simp [List.getD, show n < t.length by rw [HLW.out]; exact h])
        have hnext := foldB_take t n (by rw [HLW.out]; exact h)
        obtain ⟨c, hc'⟩ : ∃ c, t.getD n 0 = c := ⟨_, rfl⟩
        rw [hc'] at c0 wc hnext
        obtain ⟨x, hx⟩ : ∃ x, foldB (t.take n) = x := ⟨_, rfl⟩
        rw [hx] at hb hnext
        rw [hx]
        have x1 : x < 16777216 := by
          have h2 := hb.out.2
          rcases (show n = 0 ∨ n = 1 ∨ n = 2 ∨ n = 3 by omega) with rfl | rfl | rfl | rfl <;> simp at h2 <;> omega
        have x0 := hb.out.1
        have hnb : 0 ≤ foldB (t.take (n + 1)) ∧ foldB (t.take (n + 1)) < 256 ^ (n + 1) := by
          rw [hnext, Int.pow_succ]
          have := hb.out
          omega
        have HNB := Lib.hid hnb
        have HNX := Lib.hid hnext
        have wc0 := wc.1
        have wc1 := wc.2
        have j1 : (0 : Int) ≤ (k : Int) + (n : Int) := by omega
        have j2 : (k : Int) + (n : Int) < (L : Int) := by omega
        clear hnb hnext hx hc' wc hb
        go_wp2_with fail
        go_upto_region 8 with fail
        go_quiet (fail)
        go_wp2_with fail
        go_roundw
        case rel => exact ⟨n + 1, by omega, by go_num, by rw [HNX.out], HNB, pr.drewN⟩
        case measure => simp [intOf]; omega
      · have e : n = wd := by omega
        subst e
        have et : t.take n = t := List.take_of_length_le (by rw [HLW.out]; exact Nat.le_refl _)
        rw [et]
        clear hb
        go_wp2_with fail
        go_ret
        exact ⟨rfl, FIN.out _ pr⟩
end Go.Proofs.Ytejllmjkeefloaa
namespace Go.Proofs.Ytejllmjkeefloaa.Q8
open Go.ChangeShapes Go.WideShapes Go.ChangeAt Go.RowKit
set_option maxRecDepth 20000
set_option linter.unusedVariables false
set_option linter.unusedSimpArgs false

/-- What is left, and whether it was too short. -/
structure Rd where
  rest : List Int
  short : Bool
/-- All but block P is as it was. -/
def Keep (P : Nat) (w w' : World) : Prop := w'.os = w.os ∧ w'.output = w.output ∧ w.heap.size ≤ w'.heap.size ∧ ∀ k, k < w.heap.size → k ≠ P → w'.heap[k]? = w.heap[k]?
theorem Keep.refl (P : Nat) (w : World) : Keep P w w := ⟨rfl, rfl, Nat.le_refl _, fun _ _ _ => rfl⟩
theorem Keep.trans {P : Nat} {a b c : World} (h : Keep P a b) (k : Keep P b c) : Keep P a c :=
  ⟨k.1.trans h.1, k.2.1.trans h.2.1, Nat.le_trans h.2.2.1 k.2.2.1, fun i hi hn => (k.2.2.2 i (Nat.lt_of_lt_of_le hi h.2.2.1) hn).trans (h.2.2.2 i hi hn)⟩
theorem Keep.set {P : Nat} {w w' : World} (h : Keep P w w') (o : Nat) (u : Value) : Keep P w (w'.setCell ⟨P, o, none⟩ u) := by
  have b := Below.heap_setCell w' ⟨P, o, none⟩ u
  exact ⟨h.1, h.2.1, by simpa [World.setCell] using h.2.2.1, fun k hk hne => (b k hne).trans (h.2.2.2 k hk hne)⟩
theorem Keep.of_past {P : Nat} {w w' : World} (h : Past w w') : Keep P w w' := ⟨h.1, h.2.1, h.2.2.1, fun k hk _ => h.2.2.2 k hk⟩
theorem Keep.past {P : Nat} {W w w' : World} (p : Past W w) (h : Keep P w w') (hP : W.heap.size ≤ P) : Past W w' :=
  ⟨h.1.trans p.1, h.2.1.trans p.2.1, Nat.le_trans p.2.2.1 h.2.2.1, fun k hk => (h.2.2.2 k (Nat.lt_of_lt_of_le hk p.2.2.1) (by omega)).trans (p.2.2.2 k hk)⟩
theorem Keep.cell {P b o : Nat} {w w' : World} (h : Keep P w w') (hb : b < w.heap.size) (hn : b ≠ P) : w'.cell? ⟨b, o, none⟩ = w.cell? ⟨b, o, none⟩ := World.cell?_of_block (a := ⟨b, o, none⟩) (h.2.2.2 b hb hn)
theorem Keep.free {P b o : Nat} {w w' : World} (h : Keep P w w') (hb : b < w.heap.size) (hn : b ≠ P) : w'.frozen? ⟨b, o, none⟩ = w.frozen? ⟨b, o, none⟩ := World.frozen?_of_block (a := ⟨b, o, none⟩) (h.2.2.2 b hb hn)
theorem box_keep {P b : Nat} {w w' : World} {cs : Array Value} (h : Keep P w w') (k : (∀ o : Nat, w.cell? ⟨b, o, none⟩ = (cs : Array Value)[o]?)) (hb : b < w.heap.size) (hn : b ≠ P) : (∀ o : Nat, w'.cell? ⟨b, o, none⟩ = (cs : Array Value)[o]?) := fun o => (h.cell hb hn).trans (k o)
theorem free_keep {P b : Nat} {w w' : World} (h : Keep P w w') (k : (∀ o : Nat, w.frozen? ⟨b, o, none⟩ = false)) (hb : b < w.heap.size) (hn : b ≠ P) : (∀ o : Nat, w'.frozen? ⟨b, o, none⟩ = false) := fun o => (h.free hb hn).trans (k o)
theorem own_keep {P : Nat} {w w' : World} {base e size n : Nat} {v : Value} {xs : List Value} (h : w.ownsRow base e size v n xs) (g : Keep P w w') (hP : P < base) : w'.ownsRow base e size v n xs := by
  refine ⟨h.1, ?_⟩
  rcases h.2 with hn | ⟨b, cap, cur, rfl, hb, hg, rest⟩
  · exact Or.inl hn
  · exact Or.inr ⟨b, cap, cur, rfl, hb, (g.2.2.2 b (Array.getElem?_eq_some_iff.1 hg).1 (by omega)).trans hg, rest⟩
/-- Bytes that lie below B. -/
def Bytes (w : World) (B : Nat) (A : Option Addr) (cap : Nat) (l : List Int) : Prop :=
  l.length ≤ cap ∧ cap ≤ maxLen ∧ (∀ x ∈ l, (Lit.int .u8 x).wf = true) ∧ (0 < l.length → ∃ b off, A = some ⟨b, off, none⟩ ∧ b < B ∧ ∀ i, i < l.length → w.cell? ⟨b, off + i, none⟩ = some (.int .u8 (l.getD i 0)))
theorem Bytes.keep {w w' : World} {B P cap : Nat} {A : Option Addr} {l : List Int} (h : Bytes w B A cap l) (g : Keep P w w') (hB : B ≤ P) (hB' : B ≤ w.heap.size) : Bytes w' B A cap l := by
  obtain ⟨h1, h2, h3, h4⟩ := h
  refine ⟨h1, h2, h3, fun hp => ?_⟩
  obtain ⟨b, off, e, hb, hc⟩ := h4 hp
  exact ⟨b, off, e, hb, fun i hi => (g.cell (by omega) (by omega)).trans (hc i hi)⟩
theorem Bytes.nil (w : World) (B : Nat) (A : Option Addr) (cap : Nat) (hc : cap ≤ maxLen) : Bytes w B A cap [] := ⟨Nat.zero_le _, hc, by simp, by simp⟩
theorem Bytes.bytesP {w : World} {B cap : Nat} {A : Option Addr} {l : List Int} (h : Bytes w B A cap l) : bytesP l := fun c hc => by
  have := wf_u8 (h.2.2.1 c hc)
  omega
/-- The reader at block P, of bytes that lie below B. -/
def RdAt (w : World) (B P : Nat) (s : Rd) : Prop :=
  ∃ A cap, (∀ o : Nat, w.cell? ⟨P, o, none⟩ = (#[.slice A s.rest.length cap, .bool s.short] : Array Value)[o]?) ∧ (∀ o : Nat, w.frozen? ⟨P, o, none⟩ = false) ∧ Bytes w B A cap s.rest ∧ B ≤ P ∧ P < w.heap.size
/-- Behind a call of a method of the reader. -/
def RdPost (B P : Nat) (v : Value) (t : Rd) (w : World) (e : Ending) (w' : World) : Prop := e = .returned v ∧ RdAt w' B P t ∧ Keep P w w'
theorem box2_set0 {w : World} {b : Nat} {x0 x1 y : Value} (h : (∀ o : Nat, w.cell? ⟨b, o, none⟩ = (#[x0, x1] : Array Value)[o]?)) : (∀ o : Nat, (w.setCell ⟨b, 0, none⟩ y).cell? ⟨b, o, none⟩ = (#[y, x1] : Array Value)[o]?) := by
  intro o
  match o with
  | 0 => exact World.cell?_setCell_same w _ _ (h 0)
  | k + 1 => rw [World.cell?_setCell_other _ _ _ _ (by simp)]; have := h (k + 1); simpa using this
theorem box2_set1 {w : World} {b : Nat} {x0 x1 y : Value} (h : (∀ o : Nat, w.cell? ⟨b, o, none⟩ = (#[x0, x1] : Array Value)[o]?)) : (∀ o : Nat, (w.setCell ⟨b, 1, none⟩ y).cell? ⟨b, o, none⟩ = (#[x0, y] : Array Value)[o]?) := by
  intro o
  match o with
  | 0 => rw [World.cell?_setCell_other _ _ _ _ (by simp)]; exact h 0
  | 1 => exact World.cell?_setCell_same w _ _ (h 1)
  | k + 2 => rw [World.cell?_setCell_other _ _ _ _ (by simp)]; have := h (k + 2); simpa using this
theorem Bytes.take {w : World} {B cap n : Nat} {A : Option Addr} {l : List Int} (h : Bytes w B A cap l) (hn : n ≤ l.length) : Bytes w B A n (l.take n) := by
  obtain ⟨h1, h2, h3, h4⟩ := h
  have hl : (l.take n).length = n := by simp; omega
  refine ⟨by omega, by omega, fun x hx => h3 x (List.mem_of_mem_take hx), fun hp => ?_⟩
  obtain ⟨b, off, e, hb, hc⟩ := h4 (by omega)
  refine ⟨b, off, e, hb, fun i hi => ?_⟩
  rw [hc i (by omega)]
  simp only [List.getD, List.getElem?_take]
  rw [if_pos (by omega)]
theorem Bytes.drop {w : World} {B b off cap n : Nat} {l : List Int} (h : Bytes w B (some ⟨b, off, none⟩) cap l) (hn : n ≤ l.length) : Bytes w B (some ⟨b, off + n, none⟩) (cap - n) (l.drop n) := by
  obtain ⟨h1, h2, h3, h4⟩ := h
  refine ⟨by simp; omega, by omega, fun x hx => h3 x (List.mem_of_mem_drop hx), fun hp => ?_⟩
  rw [List.length_drop] at hp
  obtain ⟨b', off', e, hb, hc⟩ := h4 (by omega)
  simp only [Option.some.injEq, Addr.mk.injEq, and_true] at e
  obtain ⟨rfl, rfl⟩ := e
  refine ⟨b, off + n, rfl, hb, fun i hi => ?_⟩
  rw [List.length_drop] at hi
  rw [Nat.add_assoc, hc (n + i) (by omega)]
  simp [List.getD]
theorem or_byte (x c : Int) (x0 : 0 ≤ x) (x1 : x < 16777216) (c0 : 0 ≤ c) (c1 : c < 256) : bits .or .i64 (x * 256) c = 256 * x + c := by
  obtain ⟨m, rfl⟩ : ∃ m : Nat, x = m := ⟨x.toNat, by omega⟩
  obtain ⟨d, rfl⟩ : ∃ m : Nat, c = m := ⟨c.toNat, by omega⟩
  have h2 : (BitVec.ofInt 64 (d : Int)).toNat = d := by
    rw [BitVec.toNat_ofInt]
    omega
  have h3 : (BitVec.ofInt 64 ((m : Int) * 256)).toNat = m <<< 8 := by
    rw [BitVec.toNat_ofInt, Nat.shiftLeft_eq]
    omega
  show IntKind.i64.wrap ((BitVec.ofInt 64 ((m : Int) * 256) ||| BitVec.ofInt 64 (d : Int)).toNat : Int) = _
  rw [BitVec.toNat_or, h2, h3, ← Nat.shiftLeft_add_eq_or_of_lt (by omega), Nat.shiftLeft_eq, IntKind.wrap_i64]
  omega
theorem RdAt.alloc {w : World} {B P : Nat} {s : Rd} (h : RdAt w B P s) (x : Obj) : RdAt (w.alloc x) B P s := by
  obtain ⟨A, cap, bx, fr, by', hB, hP⟩ := h
  exact ⟨A, cap, box_old bx hP, fun o => (((Past.refl w).alloc x).free (p := ⟨P, o, none⟩) hP).trans (fr o), by'.keep (Keep.of_past ((Past.refl w).alloc x)) hB (by omega), hB, by simp; omega⟩
theorem RdAt.set {w : World} {B P Q o : Nat} {s : Rd} {u : Value} (h : RdAt w B P s) (hQ : P < Q) : RdAt (w.setCell ⟨Q, o, none⟩ u) B P s := by
  obtain ⟨A, cap, bx, fr, by', hB, hP⟩ := h
  refine ⟨A, cap, box_set bx (by first | (simp; done) | (dsimp only; omega) | (simp; omega)), free_set fr, ?_, hB, by simpa [World.setCell] using hP⟩
  obtain ⟨h1, h2, h3, h4⟩ := by'
  refine ⟨h1, h2, h3, fun hp => ?_⟩
  obtain ⟨b, off, e, hb, hc⟩ := h4 hp
  exact ⟨b, off, e, hb, fun i hi => (World.cell?_setCell_other _ _ _ _ (by first | (simp; done) | (dsimp only; omega) | (simp; omega))).trans (hc i hi)⟩
theorem Keep.setNew {P Q o : Nat} {W w : World} {u : Value} (h : Keep P W w) (hQ : W.heap.size ≤ Q) : Keep P W (w.setCell ⟨Q, o, none⟩ u) := by
  have b := Below.heap_setCell w ⟨Q, o, none⟩ u
  exact ⟨h.1, h.2.1, by simpa [World.setCell] using h.2.2.1, fun k hk hne => (b k (by simp only; omega)).trans (h.2.2.2 k hk hne)⟩
theorem RdAt.drewN {w : World} {B P n : Nat} {s : Rd} (h : RdAt w B P s) : RdAt (w.drewN n) B P s := by
  obtain ⟨A, cap, bx, fr, by', hB, hP⟩ := h
  exact ⟨A, cap, box_drewN bx, free_drewN fr, by'.keep (Keep.of_past ((Past.refl w).drewN)) hB (by omega), hB, by simpa using hP⟩
theorem RdAt.drew {w : World} {B P : Nat} {s : Rd} (h : RdAt w B P s) : RdAt w.drew B P s := by
  obtain ⟨A, cap, bx, fr, by', hB, hP⟩ := h
  exact ⟨A, cap, box_drew bx, free_drew fr, by'.keep (Keep.of_past ((Past.refl w).drew)) hB (by omega), hB, by simpa using hP⟩
theorem Keep.of_drew {P : Nat} {w w' : World} (h : Keep P w.drew w') : Keep P w w' := (Keep.of_past ((Past.refl w).drew)).trans h
theorem Keep.of_drewN {P n : Nat} {w w' : World} (h : Keep P (w.drewN n) w') : Keep P w w' := (Keep.of_past ((Past.refl w).drewN)).trans h
end Go.Proofs.Ytejllmjkeefloaa.Q8
