/- Bytes in memory, and what stays as it was. -/
import Derived.Test.YtlpcppdpodedmaaWorld
import Derived.Test.YtlpcppdpodedmaaChecked
import Derived.OpenShut
import Derived.ChangeSlices
import Derived.Deep.Slices
import Derived.Deep.Strs
import Derived.Lib.SmallJoins
import Derived.Carry
import Derived.Below
import Derived.Deep.QuietTactic
import Derived.BigQuiet
import Derived.Deep.DeepCutAuto
namespace Go.Proofs.Ytlpcppdpodedmaa
open Go.ChangeShapes Go.WideShapes Go.ChangeAt Go.RowKit
set_option maxRecDepth 20000
set_option linter.unusedVariables false
/-- A slice of numbers of one kind, in memory. -/
def IsNums (k : IntKind) (w : World) (v : Value) (xs : List Int) : Prop :=
  ∃ (A : Option Addr) (cap : Nat), v = .slice A xs.length cap ∧ xs.length ≤ cap ∧ cap ≤ maxLen ∧ (A = none → cap = 0) ∧ (∀ x ∈ xs, (Lit.int k x).wf = true) ∧
    (0 < xs.length → ∃ b off, A = some ⟨b, off, none⟩ ∧ b < w.heap.size ∧ ∀ i, i < xs.length → w.cell? ⟨b, off + i, none⟩ = some (.int k (xs.getD i 0)))
theorem cell_lt {w : World} {b off : Nat} {v : Value} (h : w.cell? ⟨b, off, none⟩ = some v) : b < w.heap.size := by
  unfold World.cell? at h
  by_cases c : b < w.heap.size
  · exact c
  · simp [Array.getElem?_eq_none (Nat.le_of_not_lt c)] at h
variable {H : Type} {enc : TypeId × Value → H} {W : World}
theorem open_nums {k : IntKind} {t e : TypeId} {fuel : Nat} {v : Value} {x : DataW H × List MemPlace} (ht : Try.prog.underlying t = some (.slice e)) (he : Try.prog.underlying e = some (.int k)) (hc : Try.prog.cellsOf e = 1)
    (h : DataW.trod enc Try.prog W 0 (fun _ => true) true fuel t [v] = some x) : ∃ xs, IsNums k W v xs := by
  rcases open_ints ht he hc h with ⟨hcs, _⟩ | ⟨a, len, cap, zs, hcs, _, hl, hm, hz, _, hcell, hwf⟩
  · simp at hcs
    exact ⟨[], none, 0, by simpa using hcs, by simp, by simp, fun _ => rfl, by simp, by simp⟩
  · simp at hcs hz
    have hlen : (zs.take len).length = len := by rw [List.length_take]; omega
    refine ⟨zs.take len, some a, cap, by rw [hlen, hcs], by omega, hm, (fun h => by cases h), fun x hx => hwf x (List.mem_of_mem_take hx), fun hp => ?_⟩
    rw [hlen] at hp
    obtain ⟨b, off, spot⟩ := a
    have h0 := hcell 0 (by omega)
    have hs : spot = none := by simpa [Addr.add] using World.cell?_spot h0
    subst hs
    refine ⟨b, off, rfl, cell_lt (by rw [add_plain] at h0; exact h0), fun i hi => ?_⟩
    rw [hlen] at hi
    have hi' := hcell i (by omega)
    rw [add_plain] at hi'
    rw [hi']
    simp [List.getD, hi]
theorem spot_none {w : World} {a : Addr} {v : Value} (h : w.cell? a = some v) : ∃ b off, a = ⟨b, off, none⟩ ∧ b < w.heap.size := by
  obtain ⟨b, off, spot⟩ := a
  have hs : spot = none := by simpa using World.cell?_spot h
  subst hs
  exact ⟨b, off, rfl, cell_lt h⟩
def Past (w w' : World) : Prop := w'.os = w.os ∧ w'.output = w.output ∧ w.heap.size ≤ w'.heap.size ∧ ∀ k, k < w.heap.size → w'.heap[k]? = w.heap[k]?
theorem Past.refl (w : World) : Past w w := ⟨rfl, rfl, Nat.le_refl _, fun _ _ => rfl⟩
theorem Past.trans {a b c : World} (h : Past a b) (k : Past b c) : Past a c :=
  ⟨k.1.trans h.1, k.2.1.trans h.2.1, Nat.le_trans h.2.2.1 k.2.2.1, fun i hi => (k.2.2.2 i (Nat.lt_of_lt_of_le hi h.2.2.1)).trans (h.2.2.2 i hi)⟩
theorem Past.drew {a w : World} (h : Past a w) : Past a w.drew := h
theorem Past.alloc {a w : World} (h : Past a w) (o : Obj) : Past a (w.alloc o) :=
  ⟨h.1, h.2.1, by simp; have := h.2.2.1; omega, fun k hk => (Below.heap_alloc w o k (Nat.lt_of_lt_of_le hk h.2.2.1)).trans (h.2.2.2 k hk)⟩
theorem Past.setCell {a w : World} (h : Past a w) {p : Addr} (hp : a.heap.size ≤ p.block) (u : Value) : Past a (w.setCell p u) := by
  obtain ⟨h1, h2, h3, h4⟩ := h
  have b := Below.setCell (B := a.heap.size) (Below.refl _ w) hp u
  exact ⟨b.os.trans h1, b.output.trans h2, Nat.le_trans h3 b.size, fun k hk => (b.block k hk).trans (h4 k hk)⟩
theorem Past.grownBy {a w w' : World} {row : Option Nat} (h : Past a w) (g : w.grownBy w' row) (hr : ∀ k, row = some k → a.heap.size ≤ k) : Past a w' :=
  ⟨g.os.trans h.1, g.output.trans h.2.1, Nat.le_trans h.2.2.1 g.size, fun k hk => (g.block k (Nat.lt_of_lt_of_le hk h.2.2.1) (fun e => by have := hr k e.symm; omega)).trans (h.2.2.2 k hk)⟩
theorem Past.cell {w w' : World} (h : Past w w') {p : Addr} (hp : p.block < w.heap.size) : w'.cell? p = w.cell? p := World.cell?_of_block (h.2.2.2 p.block hp)
theorem Past.free {w w' : World} (h : Past w w') {p : Addr} (hp : p.block < w.heap.size) : w'.frozen? p = w.frozen? p := World.frozen?_of_block (h.2.2.2 p.block hp)
theorem Past.frame {w w' : World} (h : Past w w') (may : MemPlace → Prop) : w.keptBut w' may := by
  refine ⟨h.1, h.2.1, fun i hi => ?_⟩
  rw [h.2.2.2 i hi]
  split <;> simp_all
theorem Past.same {w w' : World} (h : Past w w') {p : MemPlace} (hp : p.block < w.heap.size) : w.sameAt w' p := by
  cases p with
  | cell b o => exact World.cell?_of_block (w := w) (h.2.2.2 b hp)
  | map b => exact h.2.2.2 b hp
theorem Grown.past {w w' : World} (h : Grown w w') : Past w w' := by
  refine ⟨h.1.1, h.1.2.1, h.2.2, fun b hp => ?_⟩
  have k := h.1.2.2 b hp
  have hp' : b < w.heap.size := hp
  cases e1 : w.heap[b]? with
  | none => rw [Array.getElem?_eq_none_iff] at e1; omega
  | some o =>
    rw [e1] at k
    cases e2 : w'.heap[b]? with
    | none => rw [e2] at k; cases o <;> simp at k
    | some o' =>
      rw [e2] at k
      cases o with
      | cells c t fr =>
        cases o' with
        | cells c' t' fr' =>
          obtain ⟨h1, h2, h3, h4⟩ := k
          have : c' = c := Array.ext_getElem? (fun i => h4 i (fun f => f))
          subst h1 h2 this
          rfl
        | map es clock => simp at k
        | _ => simp_all
      | map es clock => cases o' <;> simp_all
      | _ => cases o' <;> simp_all
theorem IsNums.grow {k : IntKind} {w w' : World} {v : Value} {xs : List Int} (h : IsNums k w v xs) (g : Past w w') : IsNums k w' v xs := by
  obtain ⟨A, cap, h1, h2, h3, h4, h5, h6⟩ := h
  refine ⟨A, cap, h1, h2, h3, h4, h5, fun hp => ?_⟩
  obtain ⟨b, off, e, hb, hc⟩ := h6 hp
  exact ⟨b, off, e, Nat.lt_of_lt_of_le hb g.2.2.1, fun i hi => (g.cell hb).trans (hc i hi)⟩
theorem laidOut : laidOutB Try.prog = true := by kernel_rfl
theorem stays {H : Type} {enc : TypeId × Value → H} {t : TypeId} (hr : Try.prog.readableRec t = true) (hrow : t < Try.prog.types.size) {W W' : World} {sp : Nat → Bool} {v : Value} {d : DataW H} {ps : List MemPlace}
    (h : DataW.Trod enc Try.prog W 0 (fun _ => true) true t v d ps) (g : Past W W') (hlt : ∀ p ∈ ps, p.block < W.heap.size) (hs : ∀ p ∈ ps, sp p.block = true) : DataW.Trod enc Try.prog W' 0 sp true t v d ps :=
  WideElems.Trod_stays laidOut hr hrow h (fun p hp => g.same (hlt p hp)) hs
theorem box_new {w : World} {cs : Array Value} {t : TypeId} {b : Nat} (hb : w.heap.size = b) : ∀ o : Nat, (w.alloc (.cells cs t)).cell? ⟨b, o, none⟩ = cs[o]? := by
  intro o
  subst hb
  unfold World.cell?
  simp only [heap_alloc_new w]
  rfl
theorem box_old {w : World} {b : Nat} {cs : Array Value} {x : Obj} (h : ∀ o : Nat, w.cell? ⟨b, o, none⟩ = cs[o]?) (hb : b < w.heap.size) : ∀ o : Nat, (w.alloc x).cell? ⟨b, o, none⟩ = cs[o]? :=
  fun o => (World.cell?_alloc_lt w x ⟨b, o, none⟩ hb).trans (h o)
theorem box_grown {w w' : World} {b : Nat} {cs : Array Value} (g : Grown w w') (h : ∀ o : Nat, w.cell? ⟨b, o, none⟩ = cs[o]?) (hb : b < w.heap.size) : ∀ o : Nat, w'.cell? ⟨b, o, none⟩ = cs[o]? :=
  fun o => (grown_cell (p := ⟨b, o, none⟩) g hb).trans (h o)
theorem box_past {w w' : World} {b : Nat} {cs : Array Value} (g : Past w w') (h : ∀ o : Nat, w.cell? ⟨b, o, none⟩ = cs[o]?) (hb : b < w.heap.size) : ∀ o : Nat, w'.cell? ⟨b, o, none⟩ = cs[o]? :=
  fun o => (g.cell (p := ⟨b, o, none⟩) hb).trans (h o)
theorem box_drew {w : World} {b : Nat} {cs : Array Value} (h : ∀ o : Nat, w.cell? ⟨b, o, none⟩ = cs[o]?) : ∀ o : Nat, w.drew.cell? ⟨b, o, none⟩ = cs[o]? := h
theorem size_drew {w : World} {m : Nat} (h : m ≤ w.heap.size) : m ≤ w.drew.heap.size := h
theorem cell_drew {w : World} {p : Addr} {v : Value} (h : w.cell? p = some v) : w.drew.cell? p = some v := h
theorem free_new {w : World} {b : Nat} (hb : w.heap.size ≤ b) : (∀ o : Nat, w.frozen? ⟨b, o, none⟩ = false) := by
  intro o
  unfold World.frozen?
  rw [Array.getElem?_eq_none (by exact hb)]
theorem free_alloc {w : World} {b : Nat} {cs : Array Value} {t : TypeId} (h : (∀ o : Nat, w.frozen? ⟨b, o, none⟩ = false)) : (∀ o : Nat, (w.alloc (.cells cs t)).frozen? ⟨b, o, none⟩ = false) := fun o => (frozen?_alloc_cells w cs t ⟨b, o, none⟩).trans (h o)
theorem free_grown {w w' : World} {b : Nat} (g : Grown w w') (h : (∀ o : Nat, w.frozen? ⟨b, o, none⟩ = false)) : (∀ o : Nat, w'.frozen? ⟨b, o, none⟩ = false) := fun o => (g.2.1 ⟨b, o, none⟩).trans (h o)
/-- What a cell holds (a name for it). -/
def rd (w : World) (b o : Nat) : Value := (w.cell? ⟨b, o, none⟩).getD undef
theorem box_drewN {w : World} {b k : Nat} {cs : Array Value} (h : ∀ o : Nat, w.cell? ⟨b, o, none⟩ = cs[o]?) : ∀ o : Nat, (w.drewN k).cell? ⟨b, o, none⟩ = cs[o]? := h
theorem cell_drewN {w : World} {p : Addr} {k : Nat} {v : Value} (h : w.cell? p = some v) : (w.drewN k).cell? p = some v := h
theorem size_drewN {w : World} {m k : Nat} (h : m ≤ w.heap.size) : m ≤ (w.drewN k).heap.size := h
theorem free_drewN {w : World} {b k : Nat} (h : (∀ o : Nat, w.frozen? ⟨b, o, none⟩ = false)) : (∀ o : Nat, (w.drewN k).frozen? ⟨b, o, none⟩ = false) := h
theorem has_drewN {w : World} {b o k : Nat} (h : w.cell? ⟨b, o, none⟩ = some (rd w b o)) : (w.drewN k).cell? ⟨b, o, none⟩ = some (rd (w.drewN k) b o) := h
theorem Grown.drewN {a w : World} {k : Nat} (h : Grown a w) : Grown a (w.drewN k) := h
theorem Past.drewN {a w : World} {k : Nat} (h : Past a w) : Past a (w.drewN k) := h
theorem free_drew {w : World} {b : Nat} (h : (∀ o : Nat, w.frozen? ⟨b, o, none⟩ = false)) : (∀ o : Nat, w.drew.frozen? ⟨b, o, none⟩ = false) := h
theorem has_of {w : World} {b o : Nat} {v : Value} (h : w.cell? ⟨b, o, none⟩ = some v) : w.cell? ⟨b, o, none⟩ = some (rd w b o) := by simp [rd, h]
theorem has_box {w : World} {b o : Nat} {cs : Array Value} (h : ∀ o : Nat, w.cell? ⟨b, o, none⟩ = cs[o]?) (ho : o < cs.size) : w.cell? ⟨b, o, none⟩ = some (rd w b o) := has_of ((h o).trans (Array.getElem?_eq_getElem ho))
theorem has_grown {w w' : World} {b o : Nat} (g : Grown w w') (h : w.cell? ⟨b, o, none⟩ = some (rd w b o)) (hb : b < w.heap.size) : w'.cell? ⟨b, o, none⟩ = some (rd w' b o) := has_of ((grown_cell (p := ⟨b, o, none⟩) g hb).trans h)
theorem has_drew {w : World} {b o : Nat} (h : w.cell? ⟨b, o, none⟩ = some (rd w b o)) : w.drew.cell? ⟨b, o, none⟩ = some (rd w.drew b o) := h
theorem has_set {w : World} {b o : Nat} {p : Addr} {x : Value} (h : w.cell? ⟨b, o, none⟩ = some (rd w b o)) : (w.setCell p x).cell? ⟨b, o, none⟩ = some (rd (w.setCell p x) b o) := by
  obtain ⟨v, hv⟩ := cell?_setCell_some (p := p) (x := x) h
  exact has_of hv
theorem box_set {w : World} {b : Nat} {cs : Array Value} {p : Addr} {x : Value} (h : ∀ o : Nat, w.cell? ⟨b, o, none⟩ = cs[o]?) (hb : p.block ≠ b) : ∀ o : Nat, (w.setCell p x).cell? ⟨b, o, none⟩ = cs[o]? :=
  fun o => (World.cell?_setCell_other w p ⟨b, o, none⟩ x (fun e => hb (by rw [e]))).trans (h o)
theorem cell_set {w : World} {p q : Addr} {v x : Value} (h : w.cell? q = some v) (hb : p.block ≠ q.block) : (w.setCell p x).cell? q = some v := (World.cell?_setCell_other w p q x (fun e => hb (by rw [e]))).trans h
theorem free_set {w : World} {b : Nat} {p : Addr} {x : Value} (h : (∀ o : Nat, w.frozen? ⟨b, o, none⟩ = false)) : (∀ o : Nat, (w.setCell p x).frozen? ⟨b, o, none⟩ = false) := fun o => (World.frozen?_setCell _ _ _ _).trans (h o)
theorem size_set {w : World} {m : Nat} {p : Addr} {x : Value} (h : m ≤ w.heap.size) : m ≤ (w.setCell p x).heap.size := by simpa [World.setCell] using h
theorem has_alloc {w : World} {b o : Nat} {x : Obj} (h : w.cell? ⟨b, o, none⟩ = some (rd w b o)) (hb : b < w.heap.size) : (w.alloc x).cell? ⟨b, o, none⟩ = some (rd (w.alloc x) b o) := has_of ((World.cell?_alloc_lt w x ⟨b, o, none⟩ hb).trans h)
theorem size_alloc {w : World} {m : Nat} {x : Obj} (h : m ≤ w.heap.size) : m ≤ (w.alloc x).heap.size := by simp; omega
theorem cell_past {w w' : World} {p : Addr} {v : Value} (g : Past w w') (h : w.cell? p = some v) (hb : p.block < w.heap.size) : w'.cell? p = some v := (g.cell hb).trans h
theorem has_past {w w' : World} {b o : Nat} (g : Past w w') (h : w.cell? ⟨b, o, none⟩ = some (rd w b o)) (hb : b < w.heap.size) : w'.cell? ⟨b, o, none⟩ = some (rd w' b o) := has_of ((g.cell (p := ⟨b, o, none⟩) hb).trans h)
theorem free_past {w w' : World} {b : Nat} (g : Past w w') (h : (∀ o : Nat, w.frozen? ⟨b, o, none⟩ = false)) (hb : b < w.heap.size) : (∀ o : Nat, w'.frozen? ⟨b, o, none⟩ = false) := fun o => (g.free (p := ⟨b, o, none⟩) hb).trans (h o)
theorem size_past {w w' : World} {m : Nat} (g : Past w w') (h : m ≤ w.heap.size) : m ≤ w'.heap.size := Nat.le_trans h g.2.2.1
theorem grown_trans' {a b c : World} (k : Grown b c) (h : Grown a b) : Grown a c := grown_trans h k
theorem past_trans {a b c : World} (k : Past b c) (h : Past a b) : Past a c := h.trans k
theorem set_read {w : World} {p : Addr} {v u : Value} (h : (w.setCell p v).cell? p = some u) : u = v := by
  cases e : w.cell? p with
  | none =>
    have : (w.setCell p v).cell? p = none := by
      cases e2 : (w.setCell p v).cell? p with
      | none => rfl
      | some y =>
        exfalso
        unfold World.cell? at e e2
        simp only [World.setCell, Array.getElem?_modify, if_true] at e2
        cases hh : w.heap[p.block]? with
        | none => rw [hh] at e2; simp at e2
        | some o =>
          rw [hh] at e e2
          cases o <;> simp_all
    rw [this] at h; cases h
  | some y =>
    rw [World.cell?_setCell_same (u := y) w p v e] at h
    injection h with h
    exact h.symm
theorem set3 {w : World} {b : Nat} {x y z u0 u1 u2 : Value} (h0 : (((w.setCell ⟨b, 0, none⟩ x).setCell ⟨b, 1, none⟩ y).setCell ⟨b, 2, none⟩ z).cell? ⟨b, 0, none⟩ = some u0) (h1 : (((w.setCell ⟨b, 0, none⟩ x).setCell ⟨b, 1, none⟩ y).setCell ⟨b, 2, none⟩ z).cell? ⟨b, 1, none⟩ = some u1) (h2 : (((w.setCell ⟨b, 0, none⟩ x).setCell ⟨b, 1, none⟩ y).setCell ⟨b, 2, none⟩ z).cell? ⟨b, 2, none⟩ = some u2) :
    (((w.setCell ⟨b, 0, none⟩ x).setCell ⟨b, 1, none⟩ y).setCell ⟨b, 2, none⟩ z).cell? ⟨b, 0, none⟩ = some x ∧ (((w.setCell ⟨b, 0, none⟩ x).setCell ⟨b, 1, none⟩ y).setCell ⟨b, 2, none⟩ z).cell? ⟨b, 1, none⟩ = some y ∧ (((w.setCell ⟨b, 0, none⟩ x).setCell ⟨b, 1, none⟩ y).setCell ⟨b, 2, none⟩ z).cell? ⟨b, 2, none⟩ = some z := by
  have k0 := h0
  have k1 := h1
  rw [World.cell?_setCell_other _ _ _ _ (by simp), World.cell?_setCell_other _ _ _ _ (by simp)] at k0
  rw [World.cell?_setCell_other _ _ _ _ (by simp)] at k1
  have e0 := set_read k0
  have e1 := set_read k1
  have e2 := set_read h2
  subst e0 e1 e2
  exact ⟨h0, h1, h2⟩
theorem opq {P : Program} {c : Code} {Q : Exit → Act → World → Prop} {a : Act} {w : World} (S : World → Prop) (h : S w) (k : ∀ w', S w' → c.wp P Q a w') : c.wp P Q a w := k w h
theorem opql {P : Program} {ops : Array Oper} {l : List Oper} {Q : Exit → Act → World → Prop} {a : Act} {w : World} (S : World → Prop) (h : S w) (k : ∀ w', S w' → wpList P ops Q l a w') : wpList P ops Q l a w := k w h
theorem size_grown {w w' : World} {m : Nat} (g : Grown w w') (h : m ≤ w.heap.size) : m ≤ w'.heap.size := Nat.le_trans h g.2.2
theorem cell_grown {w w' : World} {p : Addr} {v : Value} (g : Grown w w') (h : w.cell? p = some v) (hb : p.block < w.heap.size) : w'.cell? p = some v := (grown_cell g hb).trans h
theorem cell_alloc {w : World} {p : Addr} {v : Value} {x : Obj} (h : w.cell? p = some v) (hb : p.block < w.heap.size) : (w.alloc x).cell? p = some v := (World.cell?_alloc_lt w x p hb).trans h
/-! The same with their small side conditions paid by themselves: what is named in '(exact kKeep)'. -/
section
variable {a b' c w w' : World} {b o m : Nat} {cs : Array Value} {p q : Addr} {x : Obj} {u v : Value} {t : TypeId}
theorem kbS (h : (∀ o : Nat, w.cell? ⟨b, o, none⟩ = cs[o]?)) (hb : p.block ≠ b := by first | (simp; done) | (dsimp only; omega) | (simp; omega)) : (∀ o : Nat, (w.setCell p u).cell? ⟨b, o, none⟩ = cs[o]?) := box_set h hb
theorem kcS (h : w.cell? q = some v) (hb : p.block ≠ q.block := by first | (simp; done) | (dsimp only; omega) | (simp; omega)) : (w.setCell p u).cell? q = some v := cell_set h hb
theorem kgS (h : Grown a w) (hp : a.heap.size ≤ p.block := by first | (simp; done) | (dsimp only; omega) | (simp; omega)) : Grown a (w.setCell p u) := h.setCell hp u
theorem kpS (h : Past a w) (hp : a.heap.size ≤ p.block := by first | (simp; done) | (dsimp only; omega) | (simp; omega)) : Past a (w.setCell p u) := h.setCell hp u
theorem kbN (hb : w.heap.size = b := by first | omega | (simp; done) | (simp; omega)) : ∀ o : Nat, (w.alloc (.cells cs t)).cell? ⟨b, o, none⟩ = cs[o]? := box_new hb
theorem kbO (h : (∀ o : Nat, w.cell? ⟨b, o, none⟩ = cs[o]?)) (hb : b < w.heap.size := by first | omega | (simp; done) | (simp; omega)) : ∀ o : Nat, (w.alloc x).cell? ⟨b, o, none⟩ = cs[o]? := box_old h hb
theorem khA (h : w.cell? ⟨b, o, none⟩ = some (rd w b o)) (hb : b < w.heap.size := by first | omega | (simp; done) | (simp; omega)) : (w.alloc x).cell? ⟨b, o, none⟩ = some (rd (w.alloc x) b o) := has_alloc h hb
theorem kcA (h : w.cell? p = some v) (hb : p.block < w.heap.size := by first | omega | (simp; done) | (simp; omega)) : (w.alloc x).cell? p = some v := cell_alloc h hb
theorem kbG (g : Grown w w' := by assumption) (h : (∀ o : Nat, w.cell? ⟨b, o, none⟩ = cs[o]?) := by assumption) (hb : b < w.heap.size := by first | omega | (dsimp only; omega)) : (∀ o : Nat, w'.cell? ⟨b, o, none⟩ = cs[o]?) := box_grown g h hb
theorem khG (g : Grown w w' := by assumption) (h : w.cell? ⟨b, o, none⟩ = some (rd w b o) := by assumption) (hb : b < w.heap.size := by first | omega | (dsimp only; omega)) : w'.cell? ⟨b, o, none⟩ = some (rd w' b o) := has_grown g h hb
theorem kcG (g : Grown w w' := by assumption) (h : w.cell? p = some v := by assumption) (hb : p.block < w.heap.size := by first | omega | (dsimp only; omega)) : w'.cell? p = some v := cell_grown g h hb
theorem kfG (g : Grown w w' := by assumption) (h : (∀ o : Nat, w.frozen? ⟨b, o, none⟩ = false) := by assumption) : (∀ o : Nat, w'.frozen? ⟨b, o, none⟩ = false) := free_grown g h
theorem ksG (g : Grown w w' := by assumption) (h : m ≤ w.heap.size := by assumption) : m ≤ w'.heap.size := size_grown g h
theorem kgG (g : Grown w w' := by assumption) (h : Grown a w := by assumption) : Grown a w' := grown_trans h g
theorem kbP (g : Past w w' := by assumption) (h : (∀ o : Nat, w.cell? ⟨b, o, none⟩ = cs[o]?) := by assumption) (hb : b < w.heap.size := by first | omega | (dsimp only; omega)) : (∀ o : Nat, w'.cell? ⟨b, o, none⟩ = cs[o]?) := box_past g h hb
theorem khP (g : Past w w' := by assumption) (h : w.cell? ⟨b, o, none⟩ = some (rd w b o) := by assumption) (hb : b < w.heap.size := by first | omega | (dsimp only; omega)) : w'.cell? ⟨b, o, none⟩ = some (rd w' b o) := has_past g h hb
theorem kcP (g : Past w w' := by assumption) (h : w.cell? p = some v := by assumption) (hb : p.block < w.heap.size := by first | omega | (dsimp only; omega)) : w'.cell? p = some v := cell_past g h hb
theorem kfP (g : Past w w' := by assumption) (h : (∀ o : Nat, w.frozen? ⟨b, o, none⟩ = false) := by assumption) (hb : b < w.heap.size := by first | omega | (dsimp only; omega)) : (∀ o : Nat, w'.frozen? ⟨b, o, none⟩ = false) := free_past g h hb
theorem ksP (g : Past w w' := by assumption) (h : m ≤ w.heap.size := by assumption) : m ≤ w'.heap.size := size_past g h
theorem kpP (g : Past w w' := by assumption) (h : Past a w := by assumption) : Past a w' := h.trans g
theorem kfN (hb : w.heap.size ≤ b := by first | omega | (simp; done) | (simp; omega)) : (∀ o : Nat, w.frozen? ⟨b, o, none⟩ = false) := free_new hb
theorem kLaid {P : Prop} (h : P := by ((repeat' with_reducible apply And.intro) <;> first | assumption | ((repeat (first | exact box_new (by first | omega | (simp; done) | (simp; omega)) | refine box_old ?_ (by first | omega | (simp; done) | (simp; omega)))); done) | ((repeat (first | exact free_new (by first | omega | (simp; done) | (simp; omega)) | refine free_alloc ?_)); done) | ((repeat (first | assumption | refine cell_alloc ?_ (by first | omega | (simp; done) | (simp; omega)))); done) | (go_cell; done) | (go_grown; done) | (simp; done) | (simp; omega))) : P := h
theorem kKeep {P : Prop} (h : P := by (((try dsimp only); (try go_split_ands); (repeat' with_reducible apply And.intro)) <;> ((repeat (first | (with_reducible (first | assumption | refine kbS ?_ | refine has_set ?_ | refine kcS ?_ | refine free_set ?_ | refine size_set ?_ | refine kgS ?_ | refine kpS ?_ | refine box_drewN ?_ | refine has_drewN ?_ | refine cell_drewN ?_ | refine free_drewN ?_ | refine size_drewN ?_ | refine Grown.drewN ?_ | refine Past.drewN ?_ | refine box_drew ?_ | refine has_drew ?_ | refine cell_drew ?_ | refine free_drew ?_ | refine size_drew ?_ | refine Grown.drew ?_ | refine Past.drew ?_ | exact kbN | refine kbO ?_ | refine khA ?_ | refine kcA ?_ | refine free_alloc ?_ | exact ksA | refine Grown.alloc ?_ _ _ | refine Past.alloc ?_ _ | exact kbG | exact khG | exact kcG | exact ksG | exact kfG | exact kgG | exact kbP | exact kfP | exact khP | exact kcP | exact ksP | exact kpP | exact kfN | refine Grown.past ?_ | exact Grown.refl _ | exact Past.refl _)) | omega)); done))) : P := h
theorem kKeepS {P : Prop} (h : P := by (((try dsimp only); (try go_split_ands); (repeat' with_reducible apply And.intro)) <;> ((repeat (first | (with_reducible (first | assumption | refine kbS ?_ | refine free_set ?_ | refine kgS ?_ | refine kpS ?_ | refine kbO ?_ | refine free_alloc ?_ | exact kbN | exact ksA | refine Grown.alloc ?_ _ _ | refine Past.alloc ?_ _ | exact kbG | exact ksG | exact kfG | exact kgG | exact kbP | exact kfP | exact ksP | exact kpP | exact kfN | refine Grown.past ?_ | exact Grown.refl _ | exact Past.refl _)) | (simp only [World.size_setCell]; omega) | omega)); done))) : P := h
theorem ksA (h : m ≤ (w.alloc x).heap.size := by simp only [World.size_alloc]; omega) : m ≤ (w.alloc x).heap.size := h
end
end Go.Proofs.Ytlpcppdpodedmaa
