/- graph: the small functions behind the makers and the counters. -/
import Derived.Test.YtgbedoffgahhaaaG1
import Derived.Deep.QuietTactic
import Derived.BigQuiet
import Derived.Deep.DeepCutAuto
namespace Go.Proofs.Ytgbedoffgahhaaa
open Go.ChangeShapes Go.WideShapes Go.ChangeAt Go.RowKit

theorem outChans_any (n : NodeD) (vi vw vb : Value) (h w c : Int) (W : World) :
    Calls Try.prog 68 #[.agg #[.int .i64 n.op, vi, .int .i64 n.k, .int .i64 n.stride, .int .i64 n.pad, .int .i64 n.out, .int .i64 n.mul, .int .i64 n.shift, .int .i64 n.zero, .int .i64 n.th, .int .i64 n.tw, .int .i64 n.tc, vw, vb], .agg #[.int .i64 h, .int .i64 w, .int .i64 c]] W fun e w' => e = .returned (.int .i64 n.out) ∧ Grown W w' := by
  go_enter Try.func68, Try.ntmps68
  go_wp2
  go_ret
  exact ⟨rfl, by go_grown⟩

theorem sameChans_any (n : NodeD) (vi vw vb : Value) (h w c : Int) (W : World) :
    Calls Try.prog 71 #[.agg #[.int .i64 n.op, vi, .int .i64 n.k, .int .i64 n.stride, .int .i64 n.pad, .int .i64 n.out, .int .i64 n.mul, .int .i64 n.shift, .int .i64 n.zero, .int .i64 n.th, .int .i64 n.tw, .int .i64 n.tc, vw, vb], .agg #[.int .i64 h, .int .i64 w, .int .i64 c]] W fun e w' => e = .returned (.int .i64 c) ∧ Grown W w' := by
  go_enter Try.func71, Try.ntmps71
  go_wp2
  go_ret
  exact ⟨rfl, by go_grown⟩

theorem flatWindow_any (n : NodeD) (vi vw vb : Value) (h w c : Int) (W : World) (k1 : 1 ≤ n.k) (k2 : n.k ≤ 3) :
    Calls Try.prog 72 #[.agg #[.int .i64 n.op, vi, .int .i64 n.k, .int .i64 n.stride, .int .i64 n.pad, .int .i64 n.out, .int .i64 n.mul, .int .i64 n.shift, .int .i64 n.zero, .int .i64 n.th, .int .i64 n.tw, .int .i64 n.tc, vw, vb], .agg #[.int .i64 h, .int .i64 w, .int .i64 c]] W fun e w' => e = .returned (.int .i64 (n.k * n.k)) ∧ Grown W w' := by
  have m := mul_bd k1 k2 k1 k2
  obtain ⟨m1, m2⟩ := m
  go_enter Try.func72, Try.ntmps72
  go_wp2
  go_ret
  exact ⟨rfl, by go_grown⟩

theorem everything_any (n : NodeD) (vi vw vb : Value) (h w c q : Int) (W : World) (hq : Hid (q = sizeI h w c)) :
    Calls Try.prog 74 #[.agg #[.int .i64 n.op, vi, .int .i64 n.k, .int .i64 n.stride, .int .i64 n.pad, .int .i64 n.out, .int .i64 n.mul, .int .i64 n.shift, .int .i64 n.zero, .int .i64 n.th, .int .i64 n.tw, .int .i64 n.tc, vw, vb], .agg #[.int .i64 h, .int .i64 w, .int .i64 c]] W fun e w' => e = .returned (.int .i64 q) ∧ Grown W w' := by
  go_enter Try.func74, Try.ntmps74
  go_wp2_with fail
  refine (size_any h w c q _ hq).mono ?_; rintro e w1 ⟨rfl, g⟩
  go_wp2_with fail
  go_ret
  exact ⟨rfl, grown_trans (by go_grown) g⟩

theorem box_new {w : World} {cs : Array Value} {t : TypeId} {b : Nat} (hb : w.heap.size = b) : ∀ o : Nat, (w.alloc (.cells cs t)).cell? ⟨b, o, none⟩ = cs[o]? := by
  intro o
  subst hb
  unfold World.cell?
  simp only [heap_alloc_new w]
  rfl
theorem box_old {w : World} {b : Nat} {cs : Array Value} {x : Obj} (h : ∀ o : Nat, w.cell? ⟨b, o, none⟩ = cs[o]?) (hb : b < w.heap.size) : ∀ o : Nat, (w.alloc x).cell? ⟨b, o, none⟩ = cs[o]? :=
  fun o => (World.cell?_alloc_lt w x ⟨b, o, none⟩ hb).trans (h o)
theorem box_grown {w w' : World} {b : Nat} {cs : Array Value} (g : Grown w w') (h : ∀ o : Nat, w.cell? ⟨b, o, none⟩ = cs[o]?) (hb : b < w.heap.size) : ∀ o : Nat, w'.cell? ⟨b, o, none⟩ = cs[o]? :=
  fun o => (grown_cell (p := ⟨b, o, none⟩) g hb).trans (h o)
theorem box_past {w w' : World} {b : Nat} {cs : Array Value} (g : Past w w') (h : ∀ o : Nat, w.cell? ⟨b, o, none⟩ = cs[o]?) (hb : b < w.heap.size) : ∀ o : Nat, w'.cell? ⟨b, o, none⟩ = cs[o]? :=
  fun o => (g.cell (p := ⟨b, o, none⟩) hb).trans (h o)

theorem box_drew {w : World} {b : Nat} {cs : Array Value} (h : ∀ o : Nat, w.cell? ⟨b, o, none⟩ = cs[o]?) : ∀ o : Nat, w.drew.cell? ⟨b, o, none⟩ = cs[o]? := h
theorem size_drew {w : World} {m : Nat} (h : m ≤ w.heap.size) : m ≤ w.drew.heap.size := h
theorem cell_drew {w : World} {p : Addr} {v : Value} (h : w.cell? p = some v) : w.drew.cell? p = some v := h
theorem free_new {w : World} {b : Nat} (hb : w.heap.size ≤ b) : (∀ o : Nat, w.frozen? ⟨b, o, none⟩ = false) := by
  intro o
  unfold World.frozen?
  rw [Array.getElem?_eq_none (by exact hb)]
theorem free_alloc {w : World} {b : Nat} {cs : Array Value} {t : TypeId} (h : (∀ o : Nat, w.frozen? ⟨b, o, none⟩ = false)) : (∀ o : Nat, (w.alloc (.cells cs t)).frozen? ⟨b, o, none⟩ = false) := fun o => (frozen?_alloc_cells w cs t ⟨b, o, none⟩).trans (h o)
theorem free_grown {w w' : World} {b : Nat} (g : Grown w w') (h : (∀ o : Nat, w.frozen? ⟨b, o, none⟩ = false)) : (∀ o : Nat, w'.frozen? ⟨b, o, none⟩ = false) := fun o => (g.2.1 ⟨b, o, none⟩).trans (h o)
/-- What a cell holds (a name for it). -/
def rd (w : World) (b o : Nat) : Value := (w.cell? ⟨b, o, none⟩).getD undef
theorem box_drewN {w : World} {b k : Nat} {cs : Array Value} (h : ∀ o : Nat, w.cell? ⟨b, o, none⟩ = cs[o]?) : ∀ o : Nat, (w.drewN k).cell? ⟨b, o, none⟩ = cs[o]? := h
theorem cell_drewN {w : World} {p : Addr} {k : Nat} {v : Value} (h : w.cell? p = some v) : (w.drewN k).cell? p = some v := h
theorem size_drewN {w : World} {m k : Nat} (h : m ≤ w.heap.size) : m ≤ (w.drewN k).heap.size := h
theorem free_drewN {w : World} {b k : Nat} (h : (∀ o : Nat, w.frozen? ⟨b, o, none⟩ = false)) : (∀ o : Nat, (w.drewN k).frozen? ⟨b, o, none⟩ = false) := h
theorem has_drewN {w : World} {b o k : Nat} (h : w.cell? ⟨b, o, none⟩ = some (rd w b o)) : (w.drewN k).cell? ⟨b, o, none⟩ = some (rd (w.drewN k) b o) := h
theorem Grown.drewN {a w : World} {k : Nat} (h : Grown a w) : Grown a (w.drewN k) := h
theorem Past.drewN {a w : World} {k : Nat} (h : Past a w) : Past a (w.drewN k) := h
theorem free_drew {w : World} {b : Nat} (h : (∀ o : Nat, w.frozen? ⟨b, o, none⟩ = false)) : (∀ o : Nat, w.drew.frozen? ⟨b, o, none⟩ = false) := h
theorem has_of {w : World} {b o : Nat} {v : Value} (h : w.cell? ⟨b, o, none⟩ = some v) : w.cell? ⟨b, o, none⟩ = some (rd w b o) := by simp [rd, h]
theorem has_box {w : World} {b o : Nat} {cs : Array Value} (h : ∀ o : Nat, w.cell? ⟨b, o, none⟩ = cs[o]?) (ho : o < cs.size) : w.cell? ⟨b, o, none⟩ = some (rd w b o) := has_of ((h o).trans (Array.getElem?_eq_getElem ho))
theorem has_grown {w w' : World} {b o : Nat} (g : Grown w w') (h : w.cell? ⟨b, o, none⟩ = some (rd w b o)) (hb : b < w.heap.size) : w'.cell? ⟨b, o, none⟩ = some (rd w' b o) := has_of ((grown_cell (p := ⟨b, o, none⟩) g hb).trans h)
theorem has_drew {w : World} {b o : Nat} (h : w.cell? ⟨b, o, none⟩ = some (rd w b o)) : w.drew.cell? ⟨b, o, none⟩ = some (rd w.drew b o) := h
theorem has_set {w : World} {b o : Nat} {p : Addr} {x : Value} (h : w.cell? ⟨b, o, none⟩ = some (rd w b o)) : (w.setCell p x).cell? ⟨b, o, none⟩ = some (rd (w.setCell p x) b o) := by
  obtain ⟨v, hv⟩ := cell?_setCell_some (p := p) (x := x) h
  exact has_of hv
theorem box_set {w : World} {b : Nat} {cs : Array Value} {p : Addr} {x : Value} (h : ∀ o : Nat, w.cell? ⟨b, o, none⟩ = cs[o]?) (hb : p.block ≠ b) : ∀ o : Nat, (w.setCell p x).cell? ⟨b, o, none⟩ = cs[o]? :=
  fun o => (World.cell?_setCell_other w p ⟨b, o, none⟩ x (fun e => hb (by rw [e]))).trans (h o)
theorem cell_set {w : World} {p q : Addr} {v x : Value} (h : w.cell? q = some v) (hb : p.block ≠ q.block) : (w.setCell p x).cell? q = some v := (World.cell?_setCell_other w p q x (fun e => hb (by rw [e]))).trans h
theorem free_set {w : World} {b : Nat} {p : Addr} {x : Value} (h : (∀ o : Nat, w.frozen? ⟨b, o, none⟩ = false)) : (∀ o : Nat, (w.setCell p x).frozen? ⟨b, o, none⟩ = false) := fun o => (World.frozen?_setCell _ _ _ _).trans (h o)
theorem size_set {w : World} {m : Nat} {p : Addr} {x : Value} (h : m ≤ w.heap.size) : m ≤ (w.setCell p x).heap.size := by simpa [World.setCell] using h
theorem has_alloc {w : World} {b o : Nat} {x : Obj} (h : w.cell? ⟨b, o, none⟩ = some (rd w b o)) (hb : b < w.heap.size) : (w.alloc x).cell? ⟨b, o, none⟩ = some (rd (w.alloc x) b o) := has_of ((World.cell?_alloc_lt w x ⟨b, o, none⟩ hb).trans h)
theorem size_alloc {w : World} {m : Nat} {x : Obj} (h : m ≤ w.heap.size) : m ≤ (w.alloc x).heap.size := by simp; omega
theorem cell_past {w w' : World} {p : Addr} {v : Value} (g : Past w w') (h : w.cell? p = some v) (hb : p.block < w.heap.size) : w'.cell? p = some v := (g.cell hb).trans h
theorem has_past {w w' : World} {b o : Nat} (g : Past w w') (h : w.cell? ⟨b, o, none⟩ = some (rd w b o)) (hb : b < w.heap.size) : w'.cell? ⟨b, o, none⟩ = some (rd w' b o) := has_of ((g.cell (p := ⟨b, o, none⟩) hb).trans h)
theorem free_past {w w' : World} {b : Nat} (g : Past w w') (h : (∀ o : Nat, w.frozen? ⟨b, o, none⟩ = false)) (hb : b < w.heap.size) : (∀ o : Nat, w'.frozen? ⟨b, o, none⟩ = false) := fun o => (g.free (p := ⟨b, o, none⟩) hb).trans (h o)
theorem size_past {w w' : World} {m : Nat} (g : Past w w') (h : m ≤ w.heap.size) : m ≤ w'.heap.size := Nat.le_trans h g.2.2.1
theorem grown_trans' {a b c : World} (k : Grown b c) (h : Grown a b) : Grown a c := grown_trans h k
theorem past_trans {a b c : World} (k : Past b c) (h : Past a b) : Past a c := h.trans k
theorem set_read {w : World} {p : Addr} {v u : Value} (h : (w.setCell p v).cell? p = some u) : u = v := by
  cases e : w.cell? p with
  | none =>
    have : (w.setCell p v).cell? p = none := by
      cases e2 : (w.setCell p v).cell? p with
      | none => rfl
      | some y =>
        exfalso
        unfold World.cell? at e e2
        simp only [World.setCell, Array.getElem?_modify, if_true] at e2
        cases hh : w.heap[p.block]? with
        | none => rw [hh] at e2; simp at e2
        | some o =>
          rw [hh] at e e2
          cases o <;> simp_all
    rw [this] at h; cases h
  | some y =>
    rw [World.cell?_setCell_same (u := y) w p v e] at h
    injection h with h
    exact h.symm
theorem set3 {w : World} {b : Nat} {x y z u0 u1 u2 : Value} (h0 : (((w.setCell ⟨b, 0, none⟩ x).setCell ⟨b, 1, none⟩ y).setCell ⟨b, 2, none⟩ z).cell? ⟨b, 0, none⟩ = some u0) (h1 : (((w.setCell ⟨b, 0, none⟩ x).setCell ⟨b, 1, none⟩ y).setCell ⟨b, 2, none⟩ z).cell? ⟨b, 1, none⟩ = some u1) (h2 : (((w.setCell ⟨b, 0, none⟩ x).setCell ⟨b, 1, none⟩ y).setCell ⟨b, 2, none⟩ z).cell? ⟨b, 2, none⟩ = some u2) :
    (((w.setCell ⟨b, 0, none⟩ x).setCell ⟨b, 1, none⟩ y).setCell ⟨b, 2, none⟩ z).cell? ⟨b, 0, none⟩ = some x ∧ (((w.setCell ⟨b, 0, none⟩ x).setCell ⟨b, 1, none⟩ y).setCell ⟨b, 2, none⟩ z).cell? ⟨b, 1, none⟩ = some y ∧ (((w.setCell ⟨b, 0, none⟩ x).setCell ⟨b, 1, none⟩ y).setCell ⟨b, 2, none⟩ z).cell? ⟨b, 2, none⟩ = some z := by
  have k0 := h0
  have k1 := h1
  rw [World.cell?_setCell_other _ _ _ _ (by simp), World.cell?_setCell_other _ _ _ _ (by simp)] at k0
  rw [World.cell?_setCell_other _ _ _ _ (by simp)] at k1
  have e0 := set_read k0
  have e1 := set_read k1
  have e2 := set_read h2
  subst e0 e1 e2
  exact ⟨h0, h1, h2⟩
theorem opq {P : Program} {c : Code} {Q : Exit → Act → World → Prop} {a : Act} {w : World} (S : World → Prop) (h : S w) (k : ∀ w', S w' → c.wp P Q a w') : c.wp P Q a w := k w h
theorem opql {P : Program} {ops : Array Oper} {l : List Oper} {Q : Exit → Act → World → Prop} {a : Act} {w : World} (S : World → Prop) (h : S w) (k : ∀ w', S w' → wpList P ops Q l a w') : wpList P ops Q l a w := k w h

theorem size_grown {w w' : World} {m : Nat} (g : Grown w w') (h : m ≤ w.heap.size) : m ≤ w'.heap.size := Nat.le_trans h g.2.2
theorem cell_grown {w w' : World} {p : Addr} {v : Value} (g : Grown w w') (h : w.cell? p = some v) (hb : p.block < w.heap.size) : w'.cell? p = some v := (grown_cell g hb).trans h
theorem cell_alloc {w : World} {p : Addr} {v : Value} {x : Obj} (h : w.cell? p = some v) (hb : p.block < w.heap.size) : (w.alloc x).cell? p = some v := (World.cell?_alloc_lt w x p hb).trans h

/-! The same with their small side conditions paid by themselves: what is named in '(exact kKeep)'. -/
section
variable {a b' c w w' : World} {b o m : Nat} {cs : Array Value} {p q : Addr} {x : Obj} {u v : Value} {t : TypeId}
theorem kbS (h : (∀ o : Nat, w.cell? ⟨b, o, none⟩ = cs[o]?)) (hb : p.block ≠ b := by first | (simp; done) | (dsimp only; omega) | (simp; omega)) : (∀ o : Nat, (w.setCell p u).cell? ⟨b, o, none⟩ = cs[o]?) := box_set h hb
theorem kcS (h : w.cell? q = some v) (hb : p.block ≠ q.block := by first | (simp; done) | (dsimp only; omega) | (simp; omega)) : (w.setCell p u).cell? q = some v := cell_set h hb
theorem kgS (h : Grown a w) (hp : a.heap.size ≤ p.block := by first | (simp; done) | (dsimp only; omega) | (simp; omega)) : Grown a (w.setCell p u) := h.setCell hp u
theorem kpS (h : Past a w) (hp : a.heap.size ≤ p.block := by first | (simp; done) | (dsimp only; omega) | (simp; omega)) : Past a (w.setCell p u) := h.setCell hp u
theorem kbN (hb : w.heap.size = b := by first | omega | (simp; done) | (simp; omega)) : ∀ o : Nat, (w.alloc (.cells cs t)).cell? ⟨b, o, none⟩ = cs[o]? := box_new hb
theorem kbO (h : (∀ o : Nat, w.cell? ⟨b, o, none⟩ = cs[o]?)) (hb : b < w.heap.size := by first | omega | (simp; done) | (simp; omega)) : ∀ o : Nat, (w.alloc x).cell? ⟨b, o, none⟩ = cs[o]? := box_old h hb
theorem khA (h : w.cell? ⟨b, o, none⟩ = some (rd w b o)) (hb : b < w.heap.size := by first | omega | (simp; done) | (simp; omega)) : (w.alloc x).cell? ⟨b, o, none⟩ = some (rd (w.alloc x) b o) := has_alloc h hb
theorem kcA (h : w.cell? p = some v) (hb : p.block < w.heap.size := by first | omega | (simp; done) | (simp; omega)) : (w.alloc x).cell? p = some v := cell_alloc h hb
theorem kbG (g : Grown w w' := by assumption) (h : (∀ o : Nat, w.cell? ⟨b, o, none⟩ = cs[o]?) := by assumption) (hb : b < w.heap.size := by first | omega | (dsimp only; omega)) : (∀ o : Nat, w'.cell? ⟨b, o, none⟩ = cs[o]?) := box_grown g h hb
theorem khG (g : Grown w w' := by assumption) (h : w.cell? ⟨b, o, none⟩ = some (rd w b o) := by assumption) (hb : b < w.heap.size := by first | omega | (dsimp only; omega)) : w'.cell? ⟨b, o, none⟩ = some (rd w' b o) := has_grown g h hb
theorem kcG (g : Grown w w' := by assumption) (h : w.cell? p = some v := by assumption) (hb : p.block < w.heap.size := by first | omega | (dsimp only; omega)) : w'.cell? p = some v := cell_grown g h hb
theorem kfG (g : Grown w w' := by assumption) (h : (∀ o : Nat, w.frozen? ⟨b, o, none⟩ = false) := by assumption) : (∀ o : Nat, w'.frozen? ⟨b, o, none⟩ = false) := free_grown g h
theorem ksG (g : Grown w w' := by assumption) (h : m ≤ w.heap.size := by assumption) : m ≤ w'.heap.size := size_grown g h
theorem kgG (g : Grown w w' := by assumption) (h : Grown a w := by assumption) : Grown a w' := grown_trans h g
theorem kbP (g : Past w w' := by assumption) (h : (∀ o : Nat, w.cell? ⟨b, o, none⟩ = cs[o]?) := by assumption) (hb : b < w.heap.size := by first | omega | (dsimp only; omega)) : (∀ o : Nat, w'.cell? ⟨b, o, none⟩ = cs[o]?) := box_past g h hb
theorem khP (g : Past w w' := by assumption) (h : w.cell? ⟨b, o, none⟩ = some (rd w b o) := by assumption) (hb : b < w.heap.size := by first | omega | (dsimp only; omega)) : w'.cell? ⟨b, o, none⟩ = some (rd w' b o) := has_past g h hb
theorem kcP (g : Past w w' := by assumption) (h : w.cell? p = some v := by assumption) (hb : p.block < w.heap.size := by first | omega | (dsimp only; omega)) : w'.cell? p = some v := cell_past g h hb
theorem kfP (g : Past w w' := by assumption) (h : (∀ o : Nat, w.frozen? ⟨b, o, none⟩ = false) := by assumption) (hb : b < w.heap.size := by first | omega | (dsimp only; omega)) : (∀ o : Nat, w'.frozen? ⟨b, o, none⟩ = false) := free_past g h hb
theorem ksP (g : Past w w' := by assumption) (h : m ≤ w.heap.size := by assumption) : m ≤ w'.heap.size := size_past g h
theorem kpP (g : Past w w' := by assumption) (h : Past a w := by assumption) : Past a w' := h.trans g
theorem kfN (hb : w.heap.size ≤ b := by first | omega | (simp; done) | (simp; omega)) : (∀ o : Nat, w.frozen? ⟨b, o, none⟩ = false) := free_new hb
theorem kLaid {P : Prop} (h : P := by ((repeat' with_reducible apply And.intro) <;> first | assumption | ((repeat (first | exact box_new (by first | omega | (simp; done) | (simp; omega)) | refine box_old ?_ (by first | omega | (simp; done) | (simp; omega)))); done) | ((repeat (first | exact free_new (by first | omega | (simp; done) | (simp; omega)) | refine free_alloc ?_)); done) | ((repeat (first | assumption | refine cell_alloc ?_ (by first | omega | (simp; done) | (simp; omega)))); done) | (go_cell; done) | (go_grown; done) | (simp; done) | (simp; omega))) : P := h
theorem kKeep {P : Prop} (h : P := by (((try dsimp only); (try go_split_ands); (repeat' with_reducible apply And.intro)) <;> ((repeat (first | (with_reducible (first | assumption | refine kbS ?_ | refine has_set ?_ | refine kcS ?_ | refine free_set ?_ | refine size_set ?_ | refine kgS ?_ | refine kpS ?_ | refine box_drewN ?_ | refine has_drewN ?_ | refine cell_drewN ?_ | refine free_drewN ?_ | refine size_drewN ?_ | refine Grown.drewN ?_ | refine Past.drewN ?_ | refine box_drew ?_ | refine has_drew ?_ | refine cell_drew ?_ | refine free_drew ?_ | refine size_drew ?_ | refine Grown.drew ?_ | refine Past.drew ?_ | exact kbN | refine kbO ?_ | refine khA ?_ | refine kcA ?_ | refine free_alloc ?_ | exact ksA | refine Grown.alloc ?_ _ _ | refine Past.alloc ?_ _ | exact kbG | exact khG | exact kcG | exact ksG | exact kfG | exact kgG | exact kbP | exact kfP | exact khP | exact kcP | exact ksP | exact kpP | exact kfN | refine Grown.past ?_ | exact Grown.refl _ | exact Past.refl _)) | omega)); done))) : P := h
theorem kKeepS {P : Prop} (h : P := by (((try dsimp only); (try go_split_ands); (repeat' with_reducible apply And.intro)) <;> ((repeat (first | (with_reducible (first | assumption | refine kbS ?_ | refine free_set ?_ | refine kgS ?_ | refine kpS ?_ | refine kbO ?_ | refine free_alloc ?_ | exact kbN | exact ksA | refine Grown.alloc ?_ _ _ | refine Past.alloc ?_ _ | exact kbG | exact ksG | exact kfG | exact kgG | exact kbP | exact kfP | exact ksP | exact kpP | exact kfN | refine Grown.past ?_ | exact Grown.refl _ | exact Past.refl _)) | (simp only [World.size_setCell]; omega) | omega)); done))) : P := h
theorem ksA (h : m ≤ (w.alloc x).heap.size := by simp only [World.size_alloc]; omega) : m ≤ (w.alloc x).heap.size := h
end

theorem deepWindow_any (n : NodeD) (vi vw vb : Value) (h w c : Int) (W : World) (k1 : 1 ≤ n.k) (k2 : n.k ≤ 3) (c1 : 1 ≤ c) (c2 : c ≤ 8) :
    Calls Try.prog 70 #[.agg #[.int .i64 n.op, vi, .int .i64 n.k, .int .i64 n.stride, .int .i64 n.pad, .int .i64 n.out, .int .i64 n.mul, .int .i64 n.shift, .int .i64 n.zero, .int .i64 n.th, .int .i64 n.tw, .int .i64 n.tc, vw, vb], .agg #[.int .i64 h, .int .i64 w, .int .i64 c]] W fun e w' => e = .returned (.int .i64 (n.k * n.k * c)) ∧ Grown W w' := by
  have m := mul_bd k1 k2 k1 k2
  have m' := mul_bd m.1 m.2 c1 c2
  obtain ⟨m1, m2⟩ := m
  obtain ⟨m3, m4⟩ := m'
  have e1 : IntKind.i64.wrap (n.k * n.k * c) = n.k * n.k * c := IntWalk.i64_in _ (by omega)
  go_enter Try.func70, Try.ntmps70
  go_wp2_with fail
  refine opq (fun w' => (∀ o : Nat, w'.cell? ⟨W.heap.size, o, none⟩ = (#[.int .i64 n.op, vi, .int .i64 n.k, .int .i64 n.stride, .int .i64 n.pad, .int .i64 n.out, .int .i64 n.mul, .int .i64 n.shift, .int .i64 n.zero, .int .i64 n.th, .int .i64 n.tw, .int .i64 n.tc, vw, vb] : Array Value)[o]?) ∧ (∀ o : Nat, w'.cell? ⟨W.heap.size + 1, o, none⟩ = (#[.int .i64 h, .int .i64 w, .int .i64 c] : Array Value)[o]?) ∧ Grown W w' ∧ W.heap.size + 2 ≤ w'.heap.size) kLaid ?_
  rintro W1 ⟨b1, b2, g1, z1⟩
  go_region_held3 (fun w' => (∀ o : Nat, w'.cell? ⟨W.heap.size, o, none⟩ = (#[.int .i64 n.op, vi, .int .i64 n.k, .int .i64 n.stride, .int .i64 n.pad, .int .i64 n.out, .int .i64 n.mul, .int .i64 n.shift, .int .i64 n.zero, .int .i64 n.th, .int .i64 n.tw, .int .i64 n.tc, vw, vb] : Array Value)[o]?) ∧ (∀ o : Nat, w'.cell? ⟨W.heap.size + 1, o, none⟩ = (#[.int .i64 h, .int .i64 w, .int .i64 c] : Array Value)[o]?) ∧ Grown W w' ∧ W.heap.size + 2 ≤ w'.heap.size) (exact kKeep)
    (first | (go_at_call 72; refine (flatWindow_any n vi vw vb h w c _ k1 k2).mono ?_; rintro e w1 ⟨rfl, g⟩))
  all_goals
    go_wp2_with fail
    go_ret
    exact ⟨rfl, (by (try go_split_ands); assumption)⟩
end Go.Proofs.Ytgbedoffgahhaaa
