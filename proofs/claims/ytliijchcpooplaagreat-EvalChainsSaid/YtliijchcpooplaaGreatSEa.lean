/- eval: rows of numbers in memory; what a graph means, as plain data. -/
import Derived.Test.YtliijchcpooplaaGreatSMKV1
import Derived.Test.YtliijchcpooplaaGreatSMKV2
import Derived.Test.YtliijchcpooplaaGreatSMKWe
import Derived.Test.YtliijchcpooplaaGreatSMV3
import Derived.Test.YtliijchcpooplaaGreatSMV4
namespace Go.Proofs.YtliijchcpooplaaGreat
open Go.ChangeShapes Go.WideShapes Go.ChangeAt Go.RowKit
set_option maxRecDepth 20000
set_option linter.unusedVariables false

theorem own_ne {w : World} {b b' e e' size size' n n' : Nat} {v v' : Value} {xs xs' : List Value} (h : w.ownsRow b e size v n xs) (k : w.ownsRow b' e' size' v' n' xs') (he : e ≠ e') : v.ownBlock = none ∨ v.ownBlock ≠ v'.ownBlock := by
  rcases h.2 with ⟨rfl, _⟩ | ⟨g, cap, cur, rfl, _, hg, _⟩
  · exact .inl rfl
  · refine .inr fun e1 => ?_
    rcases k.2 with ⟨rfl, _⟩ | ⟨g', cap', cur', rfl, _, hg', _⟩
    · simp [Value.ownBlock] at e1
    · simp only [Value.ownBlock, Option.some.injEq] at e1
      subst e1
      rw [hg] at hg'
      simp only [Option.some.injEq, Obj.cells.injEq] at hg'
      exact he hg'.2.1
/-! ### A slice of slices: its cells; rows of bytes under them. -/
def nilS : Value := .slice none 0 0
def HasCells (w : World) (v : Value) (us : List Value) : Prop :=
  ∃ (A : Option Addr) (cap : Nat), v = .slice A us.length cap ∧ us.length ≤ cap ∧ cap ≤ maxLen ∧ (A = none → cap = 0) ∧
    (0 < us.length → ∃ b off, A = some ⟨b, off, none⟩ ∧ b < w.heap.size ∧ ∀ i, i < us.length → w.cell? ⟨b, off + i, none⟩ = some (us.getD i nilS))
theorem HasCells.grow {w w' : World} {v : Value} {us : List Value} (h : HasCells w v us) (g : Past w w') : HasCells w' v us := by
  obtain ⟨A, cap, h1, h2, h3, h4, h6⟩ := h
  refine ⟨A, cap, h1, h2, h3, h4, fun hp => ?_⟩
  obtain ⟨b, off, e, hb, hc⟩ := h6 hp
  exact ⟨b, off, e, Nat.lt_of_lt_of_le hb g.2.2.1, fun i hi => (g.cell hb).trans (hc i hi)⟩
def OwnCells (w : World) (base : Nat) (v : Value) (us : List Value) : Prop := w.ownsRow base 27 1 v us.length us
theorem OwnCells.has {w : World} {base : Nat} {v : Value} {us : List Value} (h : OwnCells w base v us) : HasCells w v us := by
  obtain ⟨hl, h⟩ := h
  rcases h with ⟨rfl, h0⟩ | ⟨b, cap, cur, rfl, hb, hg, hn, hm, hs, ht⟩
  · have : us = [] := List.eq_nil_of_length_eq_zero h0
    subst this
    exact ⟨none, 0, rfl, Nat.le_refl _, Nat.zero_le _, fun _ => rfl, by simp⟩
  · refine ⟨some ⟨b, 0, none⟩, cap, rfl, hn, hm, (fun h => by cases h), fun hp => ⟨b, 0, rfl, (Array.getElem?_eq_some_iff.1 hg).1, fun i hi => ?_⟩⟩
    have key : w.cell? ⟨b, 0 + i, none⟩ = us[i]? := by
      rw [← ht, List.getElem?_take_of_lt (by omega)]
      simp [World.cell?, hg]
    rw [key]
    simp [List.getD, hi]
/-- Rows of bytes, whosever. -/
def AreNums (w : World) (us : List Value) (xs : List (List Int)) : Prop := us.length = xs.length ∧ ∀ i, i < xs.length → IsNums .i8 w (us.getD i nilS) (xs.getD i [])
/-- Rows of bytes that a call owns. -/
def AreOwn (w : World) (base : Nat) (us : List Value) (xs : List (List Int)) : Prop := us.length = xs.length ∧ ∀ i, i < xs.length → Own8 w base (us.getD i nilS) (xs.getD i [])
def Bytes (xs : List Int) : Prop := ∀ x ∈ xs, -128 ≤ x ∧ x ≤ 127
def AllBytes (xs : List (List Int)) : Prop := ∀ i, i < xs.length → Bytes (xs.getD i [])
theorem AreNums.grow {w w' : World} {us : List Value} {xs : List (List Int)} (h : AreNums w us xs) (g : Past w w') : AreNums w' us xs := ⟨h.1, fun i hi => (h.2 i hi).grow g⟩
theorem AreOwn.past {w w' : World} {base : Nat} {us : List Value} {xs : List (List Int)} (h : AreOwn w base us xs) (g : Past w w') : AreOwn w' base us xs := ⟨h.1, fun i hi => (h.2 i hi).past g⟩
theorem AreOwn.more {w : World} {b b' : Nat} {us : List Value} {xs : List (List Int)} (h : AreOwn w b us xs) (hb : b' ≤ b) : AreOwn w b' us xs := ⟨h.1, fun i hi => own8_base (h.2 i hi) hb⟩
theorem AreOwn.nums {w : World} {base : Nat} {us : List Value} {xs : List (List Int)} (h : AreOwn w base us xs) (hb : AllBytes xs) : AreNums w us xs := ⟨h.1, fun i hi => (h.2 i hi).nums (hb i hi)⟩
theorem AreOwn.grow {w w' : World} {base b : Nat} {us us' : List Value} {xs : List (List Int)} {v : Value} {n : Nat} (h : AreOwn w base us xs) (ho : w.ownsRow b 27 1 v n us') (g : w.grownBy w' v.ownBlock) : AreOwn w' base us xs :=
  ⟨h.1, fun i hi => World.ownsRow.kept (h.2 i hi) g (own_ne (h.2 i hi) ho (by decide))⟩
theorem getD_snoc {α : Type} (l : List α) (x d : α) (i : Nat) (hi : i < l.length + 1) : (l ++ [x]).getD i d = if i < l.length then l.getD i d else x := by
  by_cases c : i < l.length
  · rw [if_pos c]; simp [List.getD, List.getElem?_append_left c]
  · obtain rfl : i = l.length := by omega
    rw [if_neg c]; simp [List.getD]
theorem AreOwn.snoc {w : World} {base : Nat} {us : List Value} {xs : List (List Int)} {u : Value} {x : List Int} (h : AreOwn w base us xs) (k : Own8 w base u x) : AreOwn w base (us ++ [u]) (xs ++ [x]) := by
  refine ⟨by simp [h.1], fun i hi => ?_⟩
  simp only [List.length_append, List.length_cons, List.length_nil] at hi
  rw [getD_snoc _ _ _ _ (by rw [h.1]; omega), getD_snoc _ _ _ _ (by omega), h.1]
  by_cases c : i < xs.length
  · rw [if_pos c, if_pos c]; exact h.2 i c
  · rw [if_neg c, if_neg c]; exact k
theorem AreOwn.nil (w : World) (base : Nat) : AreOwn w base [] [] := ⟨rfl, fun i hi => absurd hi (by simp)⟩
def SlicesU (us : List Value) : Prop := ∀ u ∈ us, ∃ A l c, u = .slice A l c
theorem SlicesU.one {us : List Value} (h : SlicesU us) : ∀ u ∈ us, u.oneCell' = true := fun u hu => by
  obtain ⟨A, l, c, rfl⟩ := h u hu
  rfl
theorem AreNums.slices {w : World} {us : List Value} {xs : List (List Int)} (h : AreNums w us xs) : SlicesU us := by
  intro u hu
  obtain ⟨i, hi, rfl⟩ := List.getElem_of_mem hu
  obtain ⟨A, c, e, _⟩ := h.2 i (by rw [← h.1]; exact hi)
  have : us.getD i nilS = us[i] := by simp [List.getD, hi]
  rw [← this, e]
  exact ⟨_, _, _, rfl⟩
theorem AreNums.one {w : World} {us : List Value} {xs : List (List Int)} (h : AreNums w us xs) : ∀ u ∈ us, u.oneCell' = true := h.slices.one
theorem AreNums.bytes {w : World} {us : List Value} {xs : List (List Int)} (h : AreNums w us xs) : AllBytes xs := by
  intro i hi x hx
  obtain ⟨A, c, _, _, _, _, wf, _⟩ := h.2 i hi
  have := wf x hx
  simp [Lit.wf, IntKind.min, IntKind.max, IntKind.bits, IntKind.signed] at this
  omega
/-- A slice of slices of bytes, whosever. -/
def IsRows (w : World) (v : Value) (xs : List (List Int)) : Prop := ∃ us, HasCells w v us ∧ AreNums w us xs
/-- A slice of slices of bytes that a call owns, both. -/
def OwnRows (w : World) (base : Nat) (v : Value) (xs : List (List Int)) : Prop := ∃ us, OwnCells w base v us ∧ AreOwn w base us xs
theorem IsRows.grow {w w' : World} {v : Value} {xs : List (List Int)} (h : IsRows w v xs) (g : Past w w') : IsRows w' v xs := by
  obtain ⟨us, h1, h2⟩ := h
  exact ⟨us, h1.grow g, h2.grow g⟩
theorem OwnCells.past {w w' : World} {base : Nat} {v : Value} {us : List Value} (h : OwnCells w base v us) (g : Past w w') : OwnCells w' base v us := own_past' h g
theorem OwnRows.past {w w' : World} {base : Nat} {v : Value} {xs : List (List Int)} (h : OwnRows w base v xs) (g : Past w w') : OwnRows w' base v xs := by
  obtain ⟨us, h1, h2⟩ := h
  exact ⟨us, h1.past g, h2.past g⟩
theorem OwnRows.more {w : World} {b b' : Nat} {v : Value} {xs : List (List Int)} (h : OwnRows w b v xs) (hb : b' ≤ b) : OwnRows w b' v xs := by
  obtain ⟨us, h1, h2⟩ := h
  exact ⟨us, own_more h1 hb, h2.more hb⟩
theorem OwnRows.is {w : World} {base : Nat} {v : Value} {xs : List (List Int)} (h : OwnRows w base v xs) (hb : AllBytes xs) : IsRows w v xs := by
  obtain ⟨us, h1, h2⟩ := h
  exact ⟨us, h1.has, h2.nums hb⟩
theorem OwnRows.nil (w : World) (base : Nat) : OwnRows w base (.slice none 0 0) [] := ⟨[], World.ownsRow_nil _ _ _ _, AreOwn.nil _ _⟩
/-! ### What nodes make, one by one. -/
theorem namedL_app {l r : List ValD} {ns : List Int} (h : namedP l ns) : namedL (l ++ r) ns = namedL l ns := by
  unfold namedL
  refine List.map_congr_left fun i hi => ?_
  obtain ⟨j, hj, rfl⟩ := List.getElem_of_mem hi
  have := h j hj
  have e : ns.getD j 0 = ns[j] := by simp [List.getD, hj]
  rw [e] at this
  exact getD_app_left (by omega)
theorem goS_steps (ns : List NodeD) : ∀ (l r : List ValD), goS ns l = (0, r) → ∀ k, k < ns.length →
    namedP (r.take (l.length + k)) (ns.getD k default).ins ∧ valueE (ns.getD k default) (namedL r (ns.getD k default).ins) = 0 ∧ r.getD (l.length + k) default = valueV (ns.getD k default) (namedL r (ns.getD k default).ins) := by
  induction ns with
  | nil => intro l r _ k hk; simp at hk
  | cons n ns ih =>
    intro l r h k hk
    by_cases hp : namedP l n.ins
    · by_cases he : valueE n (namedL l n.ins) = 0
      · rw [goS_ok hp he] at h
        obtain ⟨m, hm, _⟩ := goS_spec ns _ _ h
        have e1 : namedL r n.ins = namedL l n.ins := by
          rw [hm, List.append_assoc]; exact namedL_app hp
        cases k with
        | zero =>
          simp only [List.getD_cons_zero, Nat.add_zero]
          refine ⟨?_, by rw [e1]; exact he, ?_⟩
          · have : r.take l.length = l := by rw [hm, List.append_assoc]; simp
            rw [this]; exact hp
          · rw [e1, hm]; exact getD_app_at
        | succ k =>
          have := ih _ _ h k (by simpa using hk)
          simp only [List.length_append, List.length_cons, List.length_nil] at this
          rw [show l.length + (0 + 1) + k = l.length + (k + 1) by omega] at this
          simp only [List.getD_cons_succ]
          exact this
      · rw [goS_err hp he] at h
        simp only [Prod.mk.injEq] at h
        exact absurd h.1 he
    · rw [goS_no hp] at h
      simp at h
def ZV : ViewD := ⟨⟨0, 0, 0, 0⟩, 0, 0, []⟩
def vwOf (v : ValD) (xs : List Int) : ViewD := ⟨v, 0, v.h, xs⟩
def vwB (vs : List ValD) (ds : List (List Int)) : ViewD := if vs.length = 2 then vwOf (vs.getD 1 default) (ds.getD 1 []) else ZV
/-- The numbers of all rows of a node. -/
noncomputable def kernL (n : NodeD) (vs : List ValD) (ds : List (List Int)) : List Int :=
  allL n (vwOf (vs.getD 0 default) (ds.getD 0 [])) (vwB vs ds) (madeS n vs) ((madeS n vs).2.1.toNat * (madeS n vs).2.2.toNat) ((madeS n vs).1.toNat * ((madeS n vs).2.1.toNat * (madeS n vs).2.2.toNat))
/-- Numbers that fit a value. -/
def Fits (v : ValD) (xs : List Int) : Prop := (xs.length : Int) = sizeI v.h v.w v.c ∧ Bytes xs
theorem allB {n : NodeD} {vs : List ValD} {a b : ViewD} {m : Int × Int × Int} (h : MakeOk n vs a b m) (hw : ∀ k, -128 ≤ n.ws.getD k 0 ∧ n.ws.getD k 0 ≤ 127) : ∀ x ∈ allL n a b m (m.2.1.toNat * m.2.2.toNat) (m.1.toNat * (m.2.1.toNat * m.2.2.toNat)), -128 ≤ x ∧ x ≤ 127 := by
  intro q hq
  obtain ⟨i, hi, rfl⟩ := List.getElem_of_mem hq
  have hi' := hi
  rw [allL_len] at hi'
  obtain ⟨y, x, c, hy, hx, hc, rfl⟩ := place_of hi'
  have e := allL_at n a b m rfl hy hx hc
  have e2 : (allL n a b m (m.2.1.toNat * m.2.2.toNat) (m.1.toNat * (m.2.1.toNat * m.2.2.toNat)))[(y * m.2.1.toNat + x) * m.2.2.toNat + c] = numD n a b m y x c := by
    rw [← e]
    simp [List.getD, List.getElem?_eq_getElem hi]
  rw [e2]
  exact numD_bd h hw (by omega) (by omega) (by omega) (by omega) _
theorem sizeN {h w c : Int} (k : mayS h w c) : sizeI h w c = ((h.toNat * (w.toNat * c.toNat) : Nat) : Int) := by
  unfold sizeI
  rw [if_pos k]
  obtain ⟨h1, h2, h3, h4, h5, h6⟩ := k
  rw [Int.natCast_mul, Int.natCast_mul, Int.toNat_of_nonneg (by omega), Int.toNat_of_nonneg (by omega), Int.toNat_of_nonneg (by omega), Int.mul_assoc]
theorem make_ok {n : NodeD} {vs : List ValD} {ds : List (List Int)} (h : valueE n vs = 0) (hf : ∀ j, j < vs.length → Fits (vs.getD j default) (ds.getD j [])) (hz : ∀ j, j < vs.length → -128 ≤ (vs.getD j default).z ∧ (vs.getD j default).z ≤ 127) :
    MakeOk n vs (vwOf (vs.getD 0 default) (ds.getD 0 [])) (vwB vs ds) (madeS n vs) := by
  have hm := (value_parts h).2.1
  have full : ∀ j, j < vs.length → FullV (vwOf (vs.getD j default) (ds.getD j [])) := fun j hj => ⟨hm j hj, rfl, rfl, hz j hj, (hf j hj).1, (hf j hj).2⟩
  rcases vals_len h with ⟨ho, hl⟩ | ⟨ho, hl⟩
  · refine ⟨h, rfl, full 0 (by omega), rfl, fun _ => ?_⟩
    unfold vwB
    rw [if_pos hl]
    exact ⟨full 1 (by omega), rfl⟩
  · exact ⟨h, rfl, full 0 (by omega), rfl, fun f => absurd f ho⟩
theorem kern_fits {n : NodeD} {vs : List ValD} {ds : List (List Int)} (h : valueE n vs = 0) (hf : ∀ j, j < vs.length → Fits (vs.getD j default) (ds.getD j [])) (hz : ∀ j, j < vs.length → -128 ≤ (vs.getD j default).z ∧ (vs.getD j default).z ≤ 127) (hw : Bytes n.ws) :
    Fits (valueV n vs) (kernL n vs ds) := by
  have mk := make_ok h hf hz
  refine ⟨?_, ?_⟩
  · unfold kernL
    rw [allL_len, valueV_mk h]
    exact (sizeN mk.m16).symm
  · refine fun x hx => allB mk (fun k => ?_) x hx
    by_cases c : k < n.ws.length
    · have : n.ws.getD k 0 = n.ws[k] := by simp [List.getD, c]
      rw [this]; exact hw _ (List.getElem_mem _)
    · have : n.ws.getD k 0 = 0 := by simp [List.getD, Nat.le_of_not_lt c]
      rw [this]; omega
def namedR (ds : List (List Int)) (ns : List Int) : List (List Int) := ns.map fun i => ds.getD i.toNat []
/-- All values' numbers, node by node. -/
noncomputable def goE (V : List ValD) : List NodeD → List (List Int) → List (List Int)
  | [], ds => ds
  | n :: ns, ds => goE V ns (ds ++ [kernL n (namedL V n.ins) (namedR ds n.ins)])
noncomputable def evalL (g : GraphD) (ins : List (List Int)) : List (List Int) := goE (valuesL g) g.nodes ins
def fitsP (vs : List ValD) (xs : List (List Int)) : Prop := xs.length = vs.length ∧ ∀ j, j < vs.length → ((xs.getD j []).length : Int) = sizeI (vs.getD j default).h (vs.getD j default).w (vs.getD j default).c
/-- What node k of a graph that may be is made of. -/
structure NodeOk (g : GraphD) (k : Nat) : Prop where
  named : namedP ((valuesL g).take (g.ins.length + k)) (g.nodes.getD k default).ins
  value : valueE (g.nodes.getD k default) (namedL (valuesL g) (g.nodes.getD k default).ins) = 0
  made : (valuesL g).getD (g.ins.length + k) default = valueV (g.nodes.getD k default) (namedL (valuesL g) (g.nodes.getD k default).ins)
theorem node_ok {g : GraphD} (h : valuesE g = 0) {k : Nat} (hk : k < g.nodes.length) : NodeOk g k := by
  obtain ⟨_, h1, _, _⟩ := values_ok h
  obtain ⟨a, b, c⟩ := goS_steps _ _ _ h1 k hk
  exact ⟨a, b, c⟩
theorem ins_ok {g : GraphD} (h : valuesE g = 0) {j : Nat} (hj : j < g.ins.length) : (valuesL g).getD j default = g.ins.getD j default := by
  obtain ⟨_, h1, _, _⟩ := values_ok h
  obtain ⟨m, hm, _⟩ := goS_spec _ _ _ h1
  rw [hm]; exact getD_app_left hj
theorem zeros_ok {g : GraphD} (h : valuesE g = 0) {j : Nat} (hj : j < (valuesL g).length) : -128 ≤ ((valuesL g).getD j default).z ∧ ((valuesL g).getD j default).z ≤ 127 := by
  obtain ⟨hl, _, hz⟩ := makes_facts h
  by_cases c : j < g.ins.length
  · rw [ins_ok h c]; exact (begins_ok (values_ok h).1).2.2 j c
  · rw [hz j (by omega) hj]
    have ok := node_ok h (k := j - g.ins.length) (by omega)
    exact (value_parts ok.value).1.2.2.2.1.2.2
theorem named_get {V : List ValD} {ns : List Int} {j : Nat} (hj : j < ns.length) : (namedL V ns).getD j default = V.getD (ns.getD j 0).toNat default := by
  unfold namedL; simp [List.getD, hj]
theorem namedR_get {ds : List (List Int)} {ns : List Int} {j : Nat} (hj : j < ns.length) : (namedR ds ns).getD j [] = ds.getD (ns.getD j 0).toNat [] := by
  unfold namedR; simp [List.getD, hj]
theorem namedL_len (V : List ValD) (ns : List Int) : (namedL V ns).length = ns.length := by simp [namedL]
theorem namedR_len (ds : List (List Int)) (ns : List Int) : (namedR ds ns).length = ns.length := by simp [namedR]
/-- Numbers for the first k values. -/
def FitsTo (V : List ValD) (k : Nat) (ds : List (List Int)) : Prop := ds.length = k ∧ ∀ j, j < k → Fits (V.getD j default) (ds.getD j [])
theorem FitsTo.bytes {V : List ValD} {k : Nat} {ds : List (List Int)} (h : FitsTo V k ds) : AllBytes ds := fun i hi => (h.2 i (by rw [← h.1]; exact hi)).2
theorem node_at {g : GraphD} {k : Nat} (ok : NodeOk g k) (hk : k < g.nodes.length) (hl : (valuesL g).length = g.ins.length + g.nodes.length) {j : Nat} (hj : j < (g.nodes.getD k default).ins.length) : 0 ≤ (g.nodes.getD k default).ins.getD j 0 ∧ (g.nodes.getD k default).ins.getD j 0 < ((g.ins.length + k : Nat) : Int) := by
  have := ok.named j hj
  rw [List.length_take] at this
  omega
theorem node_fits {g : GraphD} (h : valuesE g = 0) {k : Nat} (hk : k < g.nodes.length) {ds : List (List Int)} (hd : FitsTo (valuesL g) (g.ins.length + k) ds) :
    (∀ j, j < (namedL (valuesL g) (g.nodes.getD k default).ins).length → Fits ((namedL (valuesL g) (g.nodes.getD k default).ins).getD j default) ((namedR ds (g.nodes.getD k default).ins).getD j [])) ∧
    (∀ j, j < (namedL (valuesL g) (g.nodes.getD k default).ins).length → -128 ≤ ((namedL (valuesL g) (g.nodes.getD k default).ins).getD j default).z ∧ ((namedL (valuesL g) (g.nodes.getD k default).ins).getD j default).z ≤ 127) := by
  have ok := node_ok h hk
  obtain ⟨hl, _, _⟩ := makes_facts h
  constructor
  · intro j hj
    rw [namedL_len] at hj
    rw [named_get hj, namedR_get hj]
    have := node_at ok hk hl hj
    exact hd.2 _ (by omega)
  · intro j hj
    rw [namedL_len] at hj
    rw [named_get hj]
    have := node_at ok hk hl hj
    exact zeros_ok h (by omega)
theorem step_fits {g : GraphD} (h : valuesE g = 0) {k : Nat} (hk : k < g.nodes.length) {ds : List (List Int)} (hd : FitsTo (valuesL g) (g.ins.length + k) ds) (hw : Bytes (g.nodes.getD k default).ws) :
    FitsTo (valuesL g) (g.ins.length + (k + 1)) (ds ++ [kernL (g.nodes.getD k default) (namedL (valuesL g) (g.nodes.getD k default).ins) (namedR ds (g.nodes.getD k default).ins)]) := by
  have ok := node_ok h hk
  obtain ⟨f1, f2⟩ := node_fits h hk hd
  refine ⟨by simp [hd.1]; omega, fun j hj => ?_⟩
  rw [getD_snoc _ _ _ _ (by rw [hd.1]; omega), hd.1]
  by_cases c : j < g.ins.length + k
  · rw [if_pos c]; exact hd.2 j c
  · obtain rfl : j = g.ins.length + k := by omega
    rw [if_neg c, ok.made]
    exact kern_fits ok.value f1 f2 hw
theorem ins_fits {g : GraphD} (h : valuesE g = 0) {ins : List (List Int)} (hf : fitsP g.ins ins) (hb : AllBytes ins) : FitsTo (valuesL g) (g.ins.length + 0) ins := by
  refine ⟨hf.1, fun j hj => ?_⟩
  rw [ins_ok h (by omega)]
  exact ⟨hf.2 j (by omega), hb j (by rw [hf.1]; omega)⟩
end Go.Proofs.YtliijchcpooplaaGreat
