/- What a graph's nodes make: numbers of GraphMakes. Check; graphs that a law has cut. The reader: piece, number. The reader: single, small, wide, shape, value. The reader: value. The reader: lists of numbers. The reader: a list of values. -/
import Derived.Test.YtejllmjkeefloaaLV4
import Derived.Test.YtejllmjkeefloaaLG6A
import Derived.Deep.DeepCutAuto
import Derived.Test.YtejllmjkeefloaaLN1
namespace Go.Proofs.Ytejllmjkeefloaa
open Go.ChangeShapes Go.WideShapes Go.ChangeAt Go.RowKit
set_option linter.unusedVariables false

theorem valueE_facts {n : NodeD} {vs : List ValD} (e : valueE n vs = 0) : mayV (valueV n vs) ∧ (valueV n vs).z = n.zero := by
  have m : mayT (madeS n vs) := by
    apply Classical.byContradiction
    intro m
    by_cases h : hasOp n.op ∧ takesP (opD n.op) n vs
    · rw [valueE_mk10' h m] at e; cases e
    · rw [valueE_mk11 h] at e; cases e
  rw [valueV_mk e]
  exact ⟨m, rfl⟩
theorem getD_app_left {l r : List ValD} {j : Nat} (h : j < l.length) : (l ++ r).getD j default = l.getD j default := by simp [List.getD, List.getElem?_append_left h]
theorem goS_spec (ns : List NodeD) : ∀ (l r : List ValD), goS ns l = (0, r) → ∃ m, r = l ++ m ∧ m.length = ns.length ∧ ∀ j, j < ns.length → mayV (m.getD j default) ∧ (m.getD j default).z = (ns.getD j default).zero := by
  induction ns with
  | nil =>
    intro l r h
    simp only [goS, Prod.mk.injEq, true_and] at h
    exact ⟨[], by simp [h], rfl, fun j hj => by simp at hj⟩
  | cons n ns ih =>
    intro l r h
    by_cases hp : namedP l n.ins
    · by_cases he : valueE n (namedL l n.ins) = 0
      · rw [goS_ok hp he] at h
        obtain ⟨m, rfl, hl, hm⟩ := ih _ _ h
        refine ⟨valueV n (namedL l n.ins) :: m, by simp, by simp [hl], fun j hj => ?_⟩
        cases j with
        | zero => simpa using valueE_facts he
        | succ j => simpa using hm j (by simpa using hj)
      · rw [goS_err hp he] at h
        simp only [Prod.mk.injEq] at h
        exact absurd h.1 he
    · rw [goS_no hp] at h
      simp at h
/-- What holds of a graph that may be. -/
theorem values_ok {g : GraphD} (h : valuesE g = 0) : beginsE g = 0 ∧ goS g.nodes g.ins = (0, valuesL g) ∧ sumW g.nodes ≤ 4096 ∧ namedP (valuesL g) g.outs := by
  have h' := h
  unfold valuesE at h
  by_cases a : beginsE g ≠ 0
  · rw [if_pos a] at h; exact absurd h a
  rw [if_neg a] at h
  by_cases b : (goS g.nodes g.ins).1 ≠ 0
  · rw [if_pos b] at h; exact absurd h b
  rw [if_neg b] at h
  by_cases c : 4096 < sumW g.nodes
  · rw [if_pos c] at h; cases h
  rw [if_neg c] at h
  have e : valuesL g = (goS g.nodes g.ins).2 := by unfold valuesL; rw [if_pos h']
  by_cases d : namedP (goS g.nodes g.ins).2 g.outs
  · refine ⟨by simpa using a, ?_, by omega, by rw [e]; exact d⟩
    rw [e]
    have : (goS g.nodes g.ins).1 = 0 := by simpa using b
    exact Prod.ext this rfl
  · rw [if_pos d] at h; cases h
theorem begins_ok {g : GraphD} (h : beginsE g = 0) : (1 ≤ g.ins.length ∧ g.ins.length ≤ 4 ∧ g.nodes.length ≤ 12 ∧ 1 ≤ g.outs.length ∧ g.outs.length ≤ 4) ∧ (∀ j, j < g.ins.length → mayV (g.ins.getD j default)) ∧ (∀ j, j < g.ins.length → -128 ≤ (g.ins.getD j default).z ∧ (g.ins.getD j default).z ≤ 127) := by
  unfold beginsE at h
  by_cases a : 4 < g.ins.length ∨ 12 < g.nodes.length ∨ 4 < g.outs.length
  · rw [if_pos a] at h; cases h
  rw [if_neg a] at h
  by_cases b : g.ins.length = 0 ∨ g.outs.length = 0
  · rw [if_pos b] at h; cases h
  rw [if_neg b] at h
  by_cases c : ∀ j, j < g.ins.length → mayV (g.ins.getD j default)
  · rw [if_neg (fun f => f c)] at h
    by_cases d : ∀ j, j < g.ins.length → -128 ≤ (g.ins.getD j default).z ∧ (g.ins.getD j default).z ≤ 127
    · exact ⟨by omega, c, d⟩
    · rw [if_pos d] at h; cases h
  · rw [if_pos c] at h; cases h
theorem begins_mk {g : GraphD} (h : 1 ≤ g.ins.length ∧ g.ins.length ≤ 4 ∧ g.nodes.length ≤ 12 ∧ 1 ≤ g.outs.length ∧ g.outs.length ≤ 4) (c : ∀ j, j < g.ins.length → mayV (g.ins.getD j default)) (d : ∀ j, j < g.ins.length → -128 ≤ (g.ins.getD j default).z ∧ (g.ins.getD j default).z ≤ 127) : beginsE g = 0 := by
  unfold beginsE
  rw [if_neg (by omega), if_neg (by omega), if_neg (fun f => f c), if_neg (fun f => f d)]
/-- P3.3, and how many. -/
theorem makes_facts {g : GraphD} (h : valuesE g = 0) : (valuesL g).length = g.ins.length + g.nodes.length ∧ (∀ j, j < (valuesL g).length → mayV ((valuesL g).getD j default)) ∧ ∀ j, g.ins.length ≤ j → j < (valuesL g).length → ((valuesL g).getD j default).z = (g.nodes.getD (j - g.ins.length) default).zero := by
  obtain ⟨h1, h2, h3, h4⟩ := values_ok h
  obtain ⟨_, b2, _⟩ := begins_ok h1
  obtain ⟨m, e, hl, hm⟩ := goS_spec _ _ _ h2
  rw [e]
  have key : ∀ j, g.ins.length ≤ j → (g.ins ++ m).getD j default = m.getD (j - g.ins.length) default := fun j hj => by simp [List.getD, List.getElem?_append_right hj]
  refine ⟨by simp [hl], fun j hj => ?_, fun j h1 h2 => ?_⟩
  · by_cases c : j < g.ins.length
    · rw [getD_app_left c]; exact b2 j c
    · rw [key j (by omega)]
      simp only [List.length_append] at hj
      exact (hm _ (by omega)).1
  · rw [key j h1]
    simp only [List.length_append] at h2
    exact (hm _ (by omega)).2
end Go.Proofs.Ytejllmjkeefloaa
namespace Go.Proofs.Ytejllmjkeefloaa
open Go.ChangeShapes Go.WideShapes Go.ChangeAt Go.RowKit
set_option maxRecDepth 20000
set_option linter.unusedVariables false

/-- A block that holds no number. -/
def NoInt (w : World) (B : Nat) : Prop := ∀ o k n, w.cell? ⟨B, o, none⟩ ≠ some (.int k n)
/-- All but block B is as it was. -/
def Save (B : Nat) (w w' : World) : Prop := w.heap.size ≤ w'.heap.size ∧ ∀ k, k < w.heap.size → k ≠ B → w'.heap[k]? = w.heap[k]?
theorem Save.refl (B : Nat) (w : World) : Save B w w := ⟨Nat.le_refl _, fun _ _ _ => rfl⟩
theorem Save.set {B : Nat} {w w' : World} (h : Save B w w') (o : Nat) (u : Value) : Save B w (w'.setCell ⟨B, o, none⟩ u) :=
  ⟨by simpa [World.setCell] using h.1, fun k hk hne => (Below.heap_setCell w' ⟨B, o, none⟩ u k hne).trans (h.2 k hk hne)⟩
theorem Save.cell {B : Nat} {w w' : World} (h : Save B w w') {b o : Nat} (hb : b < w.heap.size) (hne : b ≠ B) : w'.cell? ⟨b, o, none⟩ = w.cell? ⟨b, o, none⟩ := World.cell?_of_block (h.2 b hb hne)
theorem nums_save {k : IntKind} {B : Nat} {w w' : World} {v : Value} {xs : List Int} (h : IsNums k w v xs) (hN : NoInt w B) (g : Save B w w') : IsNums k w' v xs := by
  obtain ⟨A, cap, h1, h2, h3, h4, h5, h6⟩ := h
  refine ⟨A, cap, h1, h2, h3, h4, h5, fun hp => ?_⟩
  obtain ⟨b, off, e, hb, hc⟩ := h6 hp
  have hne : b ≠ B := fun e => hN _ _ _ (e ▸ hc 0 hp)
  exact ⟨b, off, e, Nat.lt_of_lt_of_le hb g.1, fun i hi => (g.cell hb hne).trans (hc i hi)⟩
theorem vals_save {B : Nat} {w w' : World} {v : Value} {xs : List ValD} (h : IsVals w v xs) (hN : NoInt w B) (g : Save B w w') : IsVals w' v xs := by
  obtain ⟨A, cap, h1, h2, h3, h4, h5, h6⟩ := h
  refine ⟨A, cap, h1, h2, h3, h4, h5, fun hp => ?_⟩
  obtain ⟨b, off, e, hb, hc⟩ := h6 hp
  have hne : b ≠ B := fun e => hN _ _ _ (e ▸ (hc 0 hp).1)
  exact ⟨b, off, e, Nat.lt_of_lt_of_le hb g.1, fun i hi => ⟨(g.cell hb hne).trans (hc i hi).1, (g.cell hb hne).trans (hc i hi).2.1, (g.cell hb hne).trans (hc i hi).2.2.1, (g.cell hb hne).trans (hc i hi).2.2.2⟩⟩
theorem nodes_save {B : Nat} {w w' : World} {v : Value} {ns : List NodeD} (h : IsNodes w v ns) (hN : NoInt w B) (g : Save B w w') : IsNodes w' v ns := by
  obtain ⟨A, cap, h1, h2, h3, h4, h5, h6⟩ := h
  refine ⟨A, cap, h1, h2, h3, h4, h5, fun hp => ?_⟩
  obtain ⟨b, off, e, hb, hc⟩ := h6 hp
  have hne : b ≠ B := fun e => by
    obtain ⟨vi, vw, vb, _, k⟩ := hc 0 hp
    exact hN _ _ _ (e ▸ k 0 (by omega))
  refine ⟨b, off, e, Nat.lt_of_lt_of_le hb g.1, fun i hi => ?_⟩
  obtain ⟨vi, vw, vb, hin, k⟩ := hc i hi
  exact ⟨vi, vw, vb, ⟨nums_save hin.1 hN g, nums_save hin.2.1 hN g, nums_save hin.2.2 hN g⟩, fun j hj => (g.cell hb hne).trans (k j hj)⟩
theorem box_set3 {w : World} {b : Nat} {x0 x1 x2 y0 y1 y2 : Value} (h : (∀ o : Nat, w.cell? ⟨b, o, none⟩ = (#[x0, x1, x2] : Array Value)[o]?)) : (∀ o : Nat, (((w.setCell ⟨b, 0, none⟩ y0).setCell ⟨b, 1, none⟩ y1).setCell ⟨b, 2, none⟩ y2).cell? ⟨b, o, none⟩ = (#[y0, y1, y2] : Array Value)[o]?) := by
  have h0 := h 0
  have h1 := h 1
  have h2 := h 2
  have c1 : ((w.setCell ⟨b, 0, none⟩ y0).setCell ⟨b, 1, none⟩ y1).cell? ⟨b, 2, none⟩ = some x2 := by
    rw [World.cell?_setCell_other _ _ _ _ (by simp), World.cell?_setCell_other _ _ _ _ (by simp)]; exact h2
  have c2 : (w.setCell ⟨b, 0, none⟩ y0).cell? ⟨b, 1, none⟩ = some x1 := by
    rw [World.cell?_setCell_other _ _ _ _ (by simp)]; exact h1
  intro o
  match o with
  | 0 =>
    rw [World.cell?_setCell_other _ _ _ _ (by simp), World.cell?_setCell_other _ _ _ _ (by simp)]
    exact World.cell?_setCell_same w _ _ h0
  | 1 =>
    rw [World.cell?_setCell_other _ _ _ _ (by simp)]
    exact World.cell?_setCell_same _ _ _ c2
  | 2 => exact World.cell?_setCell_same _ _ _ c1
  | k + 3 =>
    rw [World.cell?_setCell_other _ _ _ _ (by simp), World.cell?_setCell_other _ _ _ _ (by simp), World.cell?_setCell_other _ _ _ _ (by simp)]
    have := h (k + 3)
    simpa using this
theorem check_any (g : GraphD) (gv : Value) (W : World) (hg : IsGraph W gv g) (hc : Cut g) : Calls Try.prog 22 #[gv] W fun e w' => e = .returned (.int .i64 (valuesE g)) ∧ Past W w' := by
  have HG := Lib.hid hg
  obtain ⟨iv, nv, ov, rfl, hi, hn, ho⟩ := hg
  obtain ⟨A1, c1, rfl, _, _, _, _, _⟩ := hi
  obtain ⟨A2, c2, rfl, _, _, _, _, _⟩ := hn
  obtain ⟨A3, c3, rfl, _, _, _, _, _⟩ := ho
  have HV := Lib.hid (fun w (p : Past W w) => values_any g _ w (HG.out.grow p) hc)
  clear hc
  go_enter Try.func22, Try.ntmps22
  go_upto_region 1 with fail
  refine opq (fun w' => (∀ o : Nat, w'.cell? ⟨W.heap.size, o, none⟩ = (#[.slice A1 g.ins.length c1, .slice A2 g.nodes.length c2, .slice A3 g.outs.length c3] : Array Value)[o]?) ∧ Past W w') kKeep ?_
  rintro w1 ⟨b1, p1⟩
  go_wp2_with fail
  refine (HV.out _ p1).mono ?_
  rintro e w2 ⟨v, rfl, hv, p2⟩
  obtain ⟨A, c, rfl, _, _, _, _, _⟩ := hv
  go_wp2_with fail
  go_ret
  exact ⟨rfl, p1.trans p2⟩
end Go.Proofs.Ytejllmjkeefloaa
namespace Go.Proofs.Ytejllmjkeefloaa
open Go.ChangeShapes Go.WideShapes Go.ChangeAt Go.RowKit
set_option maxRecDepth 20000
set_option linter.unusedVariables false

/-- All but block P is as it was. -/
def Keep (P : Nat) (w w' : World) : Prop := w'.os = w.os ∧ w'.output = w.output ∧ w.heap.size ≤ w'.heap.size ∧ ∀ k, k < w.heap.size → k ≠ P → w'.heap[k]? = w.heap[k]?
theorem Keep.refl (P : Nat) (w : World) : Keep P w w := ⟨rfl, rfl, Nat.le_refl _, fun _ _ _ => rfl⟩
theorem Keep.trans {P : Nat} {a b c : World} (h : Keep P a b) (k : Keep P b c) : Keep P a c :=
  ⟨k.1.trans h.1, k.2.1.trans h.2.1, Nat.le_trans h.2.2.1 k.2.2.1, fun i hi hn => (k.2.2.2 i (Nat.lt_of_lt_of_le hi h.2.2.1) hn).trans (h.2.2.2 i hi hn)⟩
theorem Keep.set {P : Nat} {w w' : World} (h : Keep P w w') (o : Nat) (u : Value) : Keep P w (w'.setCell ⟨P, o, none⟩ u) := by
  have b := Below.heap_setCell w' ⟨P, o, none⟩ u
  exact ⟨h.1, h.2.1, by simpa [World.setCell] using h.2.2.1, fun k hk hne => (b k hne).trans (h.2.2.2 k hk hne)⟩
theorem Keep.of_past {P : Nat} {w w' : World} (h : Past w w') : Keep P w w' := ⟨h.1, h.2.1, h.2.2.1, fun k hk _ => h.2.2.2 k hk⟩
theorem Keep.past {P : Nat} {W w w' : World} (p : Past W w) (h : Keep P w w') (hP : W.heap.size ≤ P) : Past W w' :=
  ⟨h.1.trans p.1, h.2.1.trans p.2.1, Nat.le_trans p.2.2.1 h.2.2.1, fun k hk => (h.2.2.2 k (Nat.lt_of_lt_of_le hk p.2.2.1) (by omega)).trans (p.2.2.2 k hk)⟩
theorem Keep.cell {P b o : Nat} {w w' : World} (h : Keep P w w') (hb : b < w.heap.size) (hn : b ≠ P) : w'.cell? ⟨b, o, none⟩ = w.cell? ⟨b, o, none⟩ := World.cell?_of_block (a := ⟨b, o, none⟩) (h.2.2.2 b hb hn)
theorem Keep.free {P b o : Nat} {w w' : World} (h : Keep P w w') (hb : b < w.heap.size) (hn : b ≠ P) : w'.frozen? ⟨b, o, none⟩ = w.frozen? ⟨b, o, none⟩ := World.frozen?_of_block (a := ⟨b, o, none⟩) (h.2.2.2 b hb hn)
theorem box_keep {P b : Nat} {w w' : World} {cs : Array Value} (h : Keep P w w') (k : (∀ o : Nat, w.cell? ⟨b, o, none⟩ = (cs : Array Value)[o]?)) (hb : b < w.heap.size) (hn : b ≠ P) : (∀ o : Nat, w'.cell? ⟨b, o, none⟩ = (cs : Array Value)[o]?) := fun o => (h.cell hb hn).trans (k o)
theorem own_keep {P : Nat} {w w' : World} {base e size n : Nat} {v : Value} {xs : List Value} (h : w.ownsRow base e size v n xs) (g : Keep P w w') (hP : P < base) : w'.ownsRow base e size v n xs := by
  refine ⟨h.1, ?_⟩
  rcases h.2 with hn | ⟨b, cap, cur, rfl, hb, hg, rest⟩
  · exact Or.inl hn
  · exact Or.inr ⟨b, cap, cur, rfl, hb, (g.2.2.2 b (Array.getElem?_eq_some_iff.1 hg).1 (by omega)).trans hg, rest⟩
/-- Bytes that lie below B. -/
def Bytes (w : World) (B : Nat) (A : Option Addr) (cap : Nat) (l : List Int) : Prop :=
  l.length ≤ cap ∧ cap ≤ maxLen ∧ (∀ x ∈ l, (Lit.int .u8 x).wf = true) ∧ (0 < l.length → ∃ b off, A = some ⟨b, off, none⟩ ∧ b < B ∧ ∀ i, i < l.length → w.cell? ⟨b, off + i, none⟩ = some (.int .u8 (l.getD i 0)))
theorem Bytes.keep {w w' : World} {B P cap : Nat} {A : Option Addr} {l : List Int} (h : Bytes w B A cap l) (g : Keep P w w') (hB : B ≤ P) (hB' : B ≤ w.heap.size) : Bytes w' B A cap l := by
  obtain ⟨h1, h2, h3, h4⟩ := h
  refine ⟨h1, h2, h3, fun hp => ?_⟩
  obtain ⟨b, off, e, hb, hc⟩ := h4 hp
  exact ⟨b, off, e, hb, fun i hi => (g.cell (by omega) (by omega)).trans (hc i hi)⟩
theorem Bytes.nil (w : World) (B : Nat) (A : Option Addr) (cap : Nat) (hc : cap ≤ maxLen) : Bytes w B A cap [] := ⟨Nat.zero_le _, hc, by simp, by simp⟩
theorem Bytes.bytesP {w : World} {B cap : Nat} {A : Option Addr} {l : List Int} (h : Bytes w B A cap l) : bytesP l := fun c hc => by
  have := wf_u8 (h.2.2.1 c hc)
  omega
/-- The reader at block P, of bytes that lie below B. -/
def RdAt (w : World) (B P : Nat) (s : Rd) : Prop :=
  ∃ A cap, (∀ o : Nat, w.cell? ⟨P, o, none⟩ = (#[.slice A s.rest.length cap, .bool s.short] : Array Value)[o]?) ∧ (∀ o : Nat, w.frozen? ⟨P, o, none⟩ = false) ∧ Bytes w B A cap s.rest ∧ B ≤ P ∧ P < w.heap.size
theorem Bytes.take {w : World} {B cap n : Nat} {A : Option Addr} {l : List Int} (h : Bytes w B A cap l) (hn : n ≤ l.length) : Bytes w B A n (l.take n) := by
  obtain ⟨h1, h2, h3, h4⟩ := h
  have hl : (l.take n).length = n := by simp; omega
  refine ⟨by omega, by omega, fun x hx => h3 x (List.mem_of_mem_take hx), fun hp => ?_⟩
  obtain ⟨b, off, e, hb, hc⟩ := h4 (by omega)
  refine ⟨b, off, e, hb, fun i hi => ?_⟩
  rw [hc i (by omega)]
  simp only [List.getD, List.getElem?_take]
  rw [if_pos (by omega)]
theorem Bytes.drop {w : World} {B b off cap n : Nat} {l : List Int} (h : Bytes w B (some ⟨b, off, none⟩) cap l) (hn : n ≤ l.length) : Bytes w B (some ⟨b, off + n, none⟩) (cap - n) (l.drop n) := by
  obtain ⟨h1, h2, h3, h4⟩ := h
  refine ⟨by simp; omega, by omega, fun x hx => h3 x (List.mem_of_mem_drop hx), fun hp => ?_⟩
  rw [List.length_drop] at hp
  obtain ⟨b', off', e, hb, hc⟩ := h4 (by omega)
  simp only [Option.some.injEq, Addr.mk.injEq, and_true] at e
  obtain ⟨rfl, rfl⟩ := e
  refine ⟨b, off + n, rfl, hb, fun i hi => ?_⟩
  rw [List.length_drop] at hi
  rw [Nat.add_assoc, hc (n + i) (by omega)]
  simp [List.getD]
end Go.Proofs.Ytejllmjkeefloaa

namespace Go.Proofs.Ytejllmjkeefloaa
open Go.ChangeShapes Go.WideShapes Go.ChangeAt Go.RowKit
set_option maxRecDepth 20000
set_option linter.unusedVariables false

theorem RdAt.alloc {w : World} {B P : Nat} {s : Rd} (h : RdAt w B P s) (x : Obj) : RdAt (w.alloc x) B P s := by
  obtain ⟨A, cap, bx, fr, by', hB, hP⟩ := h
  exact ⟨A, cap, box_old bx hP, fun o => (((Past.refl w).alloc x).free (p := ⟨P, o, none⟩) hP).trans (fr o), by'.keep (Keep.of_past ((Past.refl w).alloc x)) hB (by omega), hB, by simp; omega⟩
theorem RdAt.set {w : World} {B P Q o : Nat} {s : Rd} {u : Value} (h : RdAt w B P s) (hQ : P < Q) : RdAt (w.setCell ⟨Q, o, none⟩ u) B P s := by
  obtain ⟨A, cap, bx, fr, by', hB, hP⟩ := h
  refine ⟨A, cap, box_set bx (by first | (simp; done) | (dsimp only; omega) | (simp; omega)), free_set fr, ?_, hB, by simpa [World.setCell] using hP⟩
  obtain ⟨h1, h2, h3, h4⟩ := by'
  refine ⟨h1, h2, h3, fun hp => ?_⟩
  obtain ⟨b, off, e, hb, hc⟩ := h4 hp
  exact ⟨b, off, e, hb, fun i hi => (World.cell?_setCell_other _ _ _ _ (by first | (simp; done) | (dsimp only; omega) | (simp; omega))).trans (hc i hi)⟩
end Go.Proofs.Ytejllmjkeefloaa

namespace Go.Proofs.Ytejllmjkeefloaa
open Go.ChangeShapes Go.WideShapes Go.ChangeAt Go.RowKit
set_option maxRecDepth 20000
set_option linter.unusedVariables false

theorem RdAt.drewN {w : World} {B P n : Nat} {s : Rd} (h : RdAt w B P s) : RdAt (w.drewN n) B P s := by
  obtain ⟨A, cap, bx, fr, by', hB, hP⟩ := h
  exact ⟨A, cap, box_drewN bx, free_drewN fr, by'.keep (Keep.of_past ((Past.refl w).drewN)) hB (by omega), hB, by simpa using hP⟩
theorem RdAt.drew {w : World} {B P : Nat} {s : Rd} (h : RdAt w B P s) : RdAt w.drew B P s := by
  obtain ⟨A, cap, bx, fr, by', hB, hP⟩ := h
  exact ⟨A, cap, box_drew bx, free_drew fr, by'.keep (Keep.of_past ((Past.refl w).drew)) hB (by omega), hB, by simpa using hP⟩
end Go.Proofs.Ytejllmjkeefloaa
namespace Go.Proofs.Ytejllmjkeefloaa
open Go.ChangeShapes Go.WideShapes Go.ChangeAt Go.RowKit
set_option maxRecDepth 20000
set_option linter.unusedVariables false

theorem infoInt : (Try.prog.info? 3).map (fun i => (i.zero, i.size, i.bytes)) = some (some (.int .i64 0), 1, 8) := by kernel_rfl
/-- A row of numbers that a call owns. -/
def OwnI (k : IntKind) (t : TypeId) (w : World) (base : Nat) (v : Value) (xs : List Int) : Prop := w.ownsRow base t 1 v xs.length (xs.map (Value.int k))
theorem RdAt.low {w w' : World} {B P : Nat} {s : Rd} (h : RdAt w B P s) (hs : w.heap.size ≤ w'.heap.size) (g : ∀ k, k ≤ P → w'.heap[k]? = w.heap[k]?) : RdAt w' B P s := by
  obtain ⟨A, cap, bx, fr, by', hB, hP⟩ := h
  refine ⟨A, cap, fun o => (World.cell?_of_block (a := ⟨P, o, none⟩) (g P (Nat.le_refl _))).trans (bx o), fun o => (World.frozen?_of_block (a := ⟨P, o, none⟩) (g P (Nat.le_refl _))).trans (fr o), ?_, hB, by omega⟩
  obtain ⟨h1, h2, h3, h4⟩ := by'
  refine ⟨h1, h2, h3, fun hp => ?_⟩
  obtain ⟨b, off, e, hb, hc⟩ := h4 hp
  exact ⟨b, off, e, hb, fun i hi => (World.cell?_of_block (a := ⟨b, off + i, none⟩) (g b (by omega))).trans (hc i hi)⟩
theorem RdAt.grownBy {w w' : World} {B P : Nat} {s : Rd} {row : Option Nat} (h : RdAt w B P s) (g : w.grownBy w' row) (hr : ∀ k, row = some k → P < k) : RdAt w' B P s :=
  h.low g.size (fun k hk => g.block k (by have := h.choose_spec.choose_spec.2.2.2.2; omega) (fun e => by have := hr k e.symm; omega))
theorem Keep.grownBy {P : Nat} {W w w' : World} {row : Option Nat} (h : Keep P W w) (g : w.grownBy w' row) (hr : ∀ k, row = some k → W.heap.size ≤ k) : Keep P W w' :=
  ⟨g.os.trans h.1, g.output.trans h.2.1, Nat.le_trans h.2.2.1 g.size, fun k hk hne => (g.block k (Nat.lt_of_lt_of_le hk h.2.2.1) (fun e => by have := hr k e.symm; omega)).trans (h.2.2.2 k hk hne)⟩
theorem Keep.alloc {P : Nat} {W w : World} (h : Keep P W w) (x : Obj) : Keep P W (w.alloc x) := h.trans (Keep.of_past ((Past.refl w).alloc x))
theorem RdAt.bytesP {w : World} {B P : Nat} {s : Rd} (h : RdAt w B P s) : bytesP s.rest := by
  obtain ⟨A, cap, bx, fr, by', hB, hP⟩ := h
  exact by'.bytesP
theorem RdAt.lt {w : World} {B P : Nat} {s : Rd} (h : RdAt w B P s) : P < w.heap.size := by
  obtain ⟨A, cap, bx, fr, by', hB, hP⟩ := h
  exact hP
end Go.Proofs.Ytejllmjkeefloaa

namespace Go.Proofs.Ytejllmjkeefloaa
open Go.ChangeShapes Go.WideShapes Go.ChangeAt Go.RowKit
set_option maxRecDepth 20000
set_option linter.unusedVariables false

end Go.Proofs.Ytejllmjkeefloaa
