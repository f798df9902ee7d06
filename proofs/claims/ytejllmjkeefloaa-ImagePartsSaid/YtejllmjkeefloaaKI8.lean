/- isa: the reader: number. isa: the reader: a command. The reference of layer 3: ints, SameValues. -/
import Derived.Test.YtejllmjkeefloaaKI7
import Derived.OpenShut
import Derived.Deep.QuietTactic
import Derived.BigQuiet
import Derived.Test.YtejllmjkeefloaaKRead
namespace Go.Proofs.Ytejllmjkeefloaa.Q8
open Go.ChangeShapes Go.WideShapes Go.ChangeAt Go.RowKit
set_option maxRecDepth 20000
set_option linter.unusedVariables false
set_option linter.unusedSimpArgs false

/-- What is left, and whether it was too short. -/
structure Rd where
  rest : List Int
  short : Bool
/-- All but block P is as it was. -/
def Keep (P : Nat) (w w' : World) : Prop := w'.os = w.os ∧ w'.output = w.output ∧ w.heap.size ≤ w'.heap.size ∧ ∀ k, k < w.heap.size → k ≠ P → w'.heap[k]? = w.heap[k]?
theorem Keep.refl (P : Nat) (w : World) : Keep P w w := ⟨rfl, rfl, Nat.le_refl _, fun _ _ _ => rfl⟩
theorem Keep.trans {P : Nat} {a b c : World} (h : Keep P a b) (k : Keep P b c) : Keep P a c :=
  ⟨k.1.trans h.1, k.2.1.trans h.2.1, Nat.le_trans h.2.2.1 k.2.2.1, fun i hi hn => (k.2.2.2 i (Nat.lt_of_lt_of_le hi h.2.2.1) hn).trans (h.2.2.2 i hi hn)⟩
theorem Keep.set {P : Nat} {w w' : World} (h : Keep P w w') (o : Nat) (u : Value) : Keep P w (w'.setCell ⟨P, o, none⟩ u) := by
  have b := Below.heap_setCell w' ⟨P, o, none⟩ u
  exact ⟨h.1, h.2.1, by simpa [World.setCell] using h.2.2.1, fun k hk hne => (b k hne).trans (h.2.2.2 k hk hne)⟩
theorem Keep.of_past {P : Nat} {w w' : World} (h : Past w w') : Keep P w w' := ⟨h.1, h.2.1, h.2.2.1, fun k hk _ => h.2.2.2 k hk⟩
theorem Keep.past {P : Nat} {W w w' : World} (p : Past W w) (h : Keep P w w') (hP : W.heap.size ≤ P) : Past W w' :=
  ⟨h.1.trans p.1, h.2.1.trans p.2.1, Nat.le_trans p.2.2.1 h.2.2.1, fun k hk => (h.2.2.2 k (Nat.lt_of_lt_of_le hk p.2.2.1) (by omega)).trans (p.2.2.2 k hk)⟩
theorem Keep.cell {P b o : Nat} {w w' : World} (h : Keep P w w') (hb : b < w.heap.size) (hn : b ≠ P) : w'.cell? ⟨b, o, none⟩ = w.cell? ⟨b, o, none⟩ := World.cell?_of_block (a := ⟨b, o, none⟩) (h.2.2.2 b hb hn)
theorem Keep.free {P b o : Nat} {w w' : World} (h : Keep P w w') (hb : b < w.heap.size) (hn : b ≠ P) : w'.frozen? ⟨b, o, none⟩ = w.frozen? ⟨b, o, none⟩ := World.frozen?_of_block (a := ⟨b, o, none⟩) (h.2.2.2 b hb hn)
theorem box_keep {P b : Nat} {w w' : World} {cs : Array Value} (h : Keep P w w') (k : (∀ o : Nat, w.cell? ⟨b, o, none⟩ = (cs : Array Value)[o]?)) (hb : b < w.heap.size) (hn : b ≠ P) : (∀ o : Nat, w'.cell? ⟨b, o, none⟩ = (cs : Array Value)[o]?) := fun o => (h.cell hb hn).trans (k o)
theorem own_keep {P : Nat} {w w' : World} {base e size n : Nat} {v : Value} {xs : List Value} (h : w.ownsRow base e size v n xs) (g : Keep P w w') (hP : P < base) : w'.ownsRow base e size v n xs := by
  refine ⟨h.1, ?_⟩
  rcases h.2 with hn | ⟨b, cap, cur, rfl, hb, hg, rest⟩
  · exact Or.inl hn
  · exact Or.inr ⟨b, cap, cur, rfl, hb, (g.2.2.2 b (Array.getElem?_eq_some_iff.1 hg).1 (by omega)).trans hg, rest⟩
/-- Bytes that lie below B. -/
def Bytes (w : World) (B : Nat) (A : Option Addr) (cap : Nat) (l : List Int) : Prop :=
  l.length ≤ cap ∧ cap ≤ maxLen ∧ (∀ x ∈ l, (Lit.int .u8 x).wf = true) ∧ (0 < l.length → ∃ b off, A = some ⟨b, off, none⟩ ∧ b < B ∧ ∀ i, i < l.length → w.cell? ⟨b, off + i, none⟩ = some (.int .u8 (l.getD i 0)))
theorem Bytes.keep {w w' : World} {B P cap : Nat} {A : Option Addr} {l : List Int} (h : Bytes w B A cap l) (g : Keep P w w') (hB : B ≤ P) (hB' : B ≤ w.heap.size) : Bytes w' B A cap l := by
  obtain ⟨h1, h2, h3, h4⟩ := h
  refine ⟨h1, h2, h3, fun hp => ?_⟩
  obtain ⟨b, off, e, hb, hc⟩ := h4 hp
  exact ⟨b, off, e, hb, fun i hi => (g.cell (by omega) (by omega)).trans (hc i hi)⟩
theorem Bytes.nil (w : World) (B : Nat) (A : Option Addr) (cap : Nat) (hc : cap ≤ maxLen) : Bytes w B A cap [] := ⟨Nat.zero_le _, hc, by simp, by simp⟩
theorem Bytes.bytesP {w : World} {B cap : Nat} {A : Option Addr} {l : List Int} (h : Bytes w B A cap l) : bytesP l := fun c hc => by
  have := wf_u8 (h.2.2.1 c hc)
  omega
/-- The reader at block P, of bytes that lie below B. -/
def RdAt (w : World) (B P : Nat) (s : Rd) : Prop :=
  ∃ A cap, (∀ o : Nat, w.cell? ⟨P, o, none⟩ = (#[.slice A s.rest.length cap, .bool s.short] : Array Value)[o]?) ∧ (∀ o : Nat, w.frozen? ⟨P, o, none⟩ = false) ∧ Bytes w B A cap s.rest ∧ B ≤ P ∧ P < w.heap.size
theorem Bytes.take {w : World} {B cap n : Nat} {A : Option Addr} {l : List Int} (h : Bytes w B A cap l) (hn : n ≤ l.length) : Bytes w B A n (l.take n) := by
  obtain ⟨h1, h2, h3, h4⟩ := h
  have hl : (l.take n).length = n := by simp; omega
  refine ⟨by omega, by omega, fun x hx => h3 x (List.mem_of_mem_take hx), fun hp => ?_⟩
  obtain ⟨b, off, e, hb, hc⟩ := h4 (by omega)
  refine ⟨b, off, e, hb, fun i hi => ?_⟩
  rw [hc i (by omega)]
  simp only [List.getD, List.getElem?_take]
  rw [if_pos (by omega)]
theorem Bytes.drop {w : World} {B b off cap n : Nat} {l : List Int} (h : Bytes w B (some ⟨b, off, none⟩) cap l) (hn : n ≤ l.length) : Bytes w B (some ⟨b, off + n, none⟩) (cap - n) (l.drop n) := by
  obtain ⟨h1, h2, h3, h4⟩ := h
  refine ⟨by simp; omega, by omega, fun x hx => h3 x (List.mem_of_mem_drop hx), fun hp => ?_⟩
  rw [List.length_drop] at hp
  obtain ⟨b', off', e, hb, hc⟩ := h4 (by omega)
  simp only [Option.some.injEq, Addr.mk.injEq, and_true] at e
  obtain ⟨rfl, rfl⟩ := e
  refine ⟨b, off + n, rfl, hb, fun i hi => ?_⟩
  rw [List.length_drop] at hi
  rw [Nat.add_assoc, hc (n + i) (by omega)]
  simp [List.getD]
theorem RdAt.alloc {w : World} {B P : Nat} {s : Rd} (h : RdAt w B P s) (x : Obj) : RdAt (w.alloc x) B P s := by
  obtain ⟨A, cap, bx, fr, by', hB, hP⟩ := h
  exact ⟨A, cap, box_old bx hP, fun o => (((Past.refl w).alloc x).free (p := ⟨P, o, none⟩) hP).trans (fr o), by'.keep (Keep.of_past ((Past.refl w).alloc x)) hB (by omega), hB, by simp; omega⟩
theorem RdAt.set {w : World} {B P Q o : Nat} {s : Rd} {u : Value} (h : RdAt w B P s) (hQ : P < Q) : RdAt (w.setCell ⟨Q, o, none⟩ u) B P s := by
  obtain ⟨A, cap, bx, fr, by', hB, hP⟩ := h
  refine ⟨A, cap, box_set bx (by first | (simp; done) | (dsimp only; omega) | (simp; omega)), free_set fr, ?_, hB, by simpa [World.setCell] using hP⟩
  obtain ⟨h1, h2, h3, h4⟩ := by'
  refine ⟨h1, h2, h3, fun hp => ?_⟩
  obtain ⟨b, off, e, hb, hc⟩ := h4 hp
  exact ⟨b, off, e, hb, fun i hi => (World.cell?_setCell_other _ _ _ _ (by first | (simp; done) | (dsimp only; omega) | (simp; omega))).trans (hc i hi)⟩
theorem RdAt.drewN {w : World} {B P n : Nat} {s : Rd} (h : RdAt w B P s) : RdAt (w.drewN n) B P s := by
  obtain ⟨A, cap, bx, fr, by', hB, hP⟩ := h
  exact ⟨A, cap, box_drewN bx, free_drewN fr, by'.keep (Keep.of_past ((Past.refl w).drewN)) hB (by omega), hB, by simpa using hP⟩
theorem RdAt.drew {w : World} {B P : Nat} {s : Rd} (h : RdAt w B P s) : RdAt w.drew B P s := by
  obtain ⟨A, cap, bx, fr, by', hB, hP⟩ := h
  exact ⟨A, cap, box_drew bx, free_drew fr, by'.keep (Keep.of_past ((Past.refl w).drew)) hB (by omega), hB, by simpa using hP⟩
end Go.Proofs.Ytejllmjkeefloaa.Q8
namespace Go.Proofs.Ytejllmjkeefloaa.Q8
open Go.ChangeShapes Go.WideShapes Go.ChangeAt Go.RowKit
set_option maxRecDepth 20000
set_option linter.unusedVariables false
set_option linter.unusedSimpArgs false

theorem RdAt.past {w w' : World} {B P : Nat} {s : Rd} (h : RdAt w B P s) (g : Past w w') : RdAt w' B P s := by
  obtain ⟨A, cap, bx, fr, by', hB, hP⟩ := h
  exact ⟨A, cap, box_past g bx hP, free_past g fr hP, by'.keep (Keep.of_past g) hB (by omega), hB, Nat.lt_of_lt_of_le hP g.2.2.1⟩
theorem RdAt.lt {w : World} {B P : Nat} {s : Rd} (h : RdAt w B P s) : P < w.heap.size := h.choose_spec.choose_spec.2.2.2.2
theorem FldsP.keep {w w' : World} {P X : Nat} {A : Option Addr} {fs : List Fld} (h : FldsP w P A fs) (g : Keep X w w') (hX : ∀ b, A = some ⟨b, 0, none⟩ → b ≠ X) : FldsP w' P A fs := fun q => by
  obtain ⟨b, e, h1, h2⟩ := h q
  exact ⟨b, e, Nat.lt_of_lt_of_le h1 g.2.2.1, box_keep g h2 h1 (hX b e)⟩
theorem one_cellC (c : List Int) : (⟨cellC c⟩ : Array Value).all (·.oneCell') = true := by
  simp [cellC, Value.oneCell']
end Go.Proofs.Ytejllmjkeefloaa.Q8
namespace Go.Proofs.Ytejllmjkeefloaa
open Go.ChangeShapes Go.WideShapes Go.ChangeAt Go.RowKit
set_option linter.unusedVariables false

theorem getD_ext {xs ys : List Int} (h : xs.length = ys.length) : xs = ys ↔ ∀ j, j < xs.length → xs.getD j 0 = ys.getD j 0 := by
  constructor
  · rintro rfl j _; rfl
  · intro k
    refine List.ext_getElem h (fun i h1 h2 => ?_)
    have := k i h1
    simpa [List.getD, h1, h2] using this
theorem vals_ext {xs ys : List ValD} (h : xs.length = ys.length) : xs = ys ↔ ∀ j, j < xs.length → xs.getD j default = ys.getD j default := by
  constructor
  · rintro rfl j _; rfl
  · intro k
    refine List.ext_getElem h (fun i h1 h2 => ?_)
    have := k i h1
    simpa [List.getD, h1, h2] using this
end Go.Proofs.Ytejllmjkeefloaa
