/- kern's rows, number by number. eval: rows of numbers in memory; what a graph means, as plain data. eval: fits, named, copies; slices.Clone and slices.EqualFunc over them. -/
import Derived.Test.YtliijchcpooplaaGreatMLde
import Derived.Test.YtliijchcpooplaaGreatMV4
import Derived.Test.YtliijchcpooplaaGreatMKV1
import Derived.Test.YtliijchcpooplaaGreatMKV2
import Derived.Test.YtliijchcpooplaaGreatMKWe
namespace Go.Proofs.YtliijchcpooplaaGreat
open Go.ChangeShapes Go.WideShapes Go.ChangeAt Go.RowKit
set_option maxRecDepth 20000
set_option linter.unusedVariables false

theorem list_ext {xs ys : List Int} (hl : xs.length = ys.length) (h : ∀ i, i < xs.length → xs.getD i 0 = ys.getD i 0) : xs = ys := by
  refine List.ext_getElem hl (fun i h1 h2 => ?_)
  have := h i h1
  simpa [List.getD, h1, h2] using this

theorem place_lt {H W C y x c : Nat} (hy : y < H) (hx : x < W) (hc : c < C) : (y * W + x) * C + c < H * (W * C) := by
  have h1 : (y * W + x + 1) * C ≤ (H * W) * C := Nat.mul_le_mul_right C (by
    have : (y + 1) * W ≤ H * W := Nat.mul_le_mul_right W hy
    rw [Nat.add_mul, Nat.one_mul] at this
    omega)
  rw [Nat.add_mul, Nat.one_mul] at h1
  rw [← Nat.mul_assoc]
  omega
theorem place_of {H W C i : Nat} (hi : i < H * (W * C)) : ∃ y x c, y < H ∧ x < W ∧ c < C ∧ i = (y * W + x) * C + c := by
  have c0 : 0 < C := by rcases Nat.eq_zero_or_pos C with e | e
                        · subst e; simp at hi
                        · exact e
  have w0 : 0 < W := by rcases Nat.eq_zero_or_pos W with e | e
                        · subst e; simp at hi
                        · exact e
  refine ⟨i / C / W, i / C % W, i % C, ?_, Nat.mod_lt _ w0, Nat.mod_lt _ c0, ?_⟩
  · rw [Nat.div_div_eq_div_mul, Nat.mul_comm C W]
    exact Nat.div_lt_of_lt_mul (by rw [Nat.mul_comm]; exact hi)
  · have e1 := Nat.div_add_mod i C
    have e2 := Nat.div_add_mod (i / C) W
    rw [Nat.mul_comm W] at e2
    rw [e2, Nat.mul_comm]
    exact e1.symm

theorem allL_at (n : NodeD) (a b : ViewD) (m : Int × Int × Int) {H W C y x c : Nat} (hC : m.2.2.toNat = C) (hy : y < H) (hx : x < W) (hc : c < C) :
    (allL n a b m (W * C) (H * (W * C))).getD ((y * W + x) * C + c) 0 = numD n a b m y x c := by
  have hlt := place_lt hy hx hc
  have hr : x * C + c < W * C := by
    have : (x + 1) * C ≤ W * C := Nat.mul_le_mul_right C hx
    rw [Nat.add_mul, Nat.one_mul] at this
    omega
  have e : (y * W + x) * C + c = (W * C) * y + (x * C + c) := by
    rw [Nat.add_mul, Nat.add_assoc, Nat.mul_assoc, Nat.mul_comm y]
  have key : (allL n a b m (W * C) (H * (W * C))).getD ((y * W + x) * C + c) 0 = allF n a b m (W * C) ((y * W + x) * C + c) := by
    unfold allL
    simp [List.getD, hlt]
  rw [key]
  unfold allF
  rw [e, Nat.mul_add_div (by omega), Nat.div_eq_of_lt hr, Nat.add_zero, Nat.mul_add_mod, Nat.mod_eq_of_lt hr, ← hC]
  exact rowF_at n a b m y x c (by rw [hC]; exact hc)

/-- A list of a shape's length is all rows of a node, if it is number by number. -/
theorem allL_is (n : NodeD) (a b : ViewD) (m : Int × Int × Int) {H W C : Nat} (hC : m.2.2.toNat = C) {xs : List Int} (hl : xs.length = H * (W * C))
    (h : ∀ y x c : Nat, y < H → x < W → c < C → numD n a b m y x c = xs.getD ((y * W + x) * C + c) 0) : allL n a b m (W * C) (H * (W * C)) = xs := by
  refine list_ext (by rw [allL_len, hl]) (fun i hi => ?_)
  rw [allL_len] at hi
  obtain ⟨y, x, c, hy, hx, hc, rfl⟩ := place_of hi
  rw [allL_at n a b m hC hy hx hc]
  exact h y x c hy hx hc
theorem allL_same (n n' : NodeD) (a b a' b' : ViewD) (m : Int × Int × Int) (r k : Nat) (h : ∀ y x c : Int, numD n a b m y x c = numD n' a' b' m y x c) : allL n a b m r k = allL n' a' b' m r k := by
  unfold allL
  refine List.map_congr_left (fun i _ => ?_)
  unfold allF rowF
  exact h _ _ _

/-- A whole view of a value. -/
def viewOf (v : ValD) (xs : List Int) : ViewD := ⟨v, 0, v.h, xs⟩
theorem viewOf_full {v : ValD} {xs : List Int} (hm : mayS v.h v.w v.c) (hz : -128 ≤ v.z ∧ v.z ≤ 127) (hl : (xs.length : Int) = sizeI v.h v.w v.c) (hx : ∀ x ∈ xs, -128 ≤ x ∧ x ≤ 127) : FullV (viewOf v xs) := ⟨hm, rfl, rfl, hz, hl, hx⟩
theorem atD_in {v : ValD} {xs : List Int} (hm : mayS v.h v.w v.c) {H W C : Nat} (hH : v.h = H) (hW : v.w = W) (hC : v.c = C) {y x c : Nat} (hy : y < H) (hx : x < W) (hc : c < C) : atD (viewOf v xs) y x c = xs.getD ((y * W + x) * C + c) 0 := by
  unfold atD
  rw [if_pos ⟨hm, by omega, by show (y : Int) < v.h; omega, by omega, by show (x : Int) < v.w; omega, by omega, by show (c : Int) < v.c; omega⟩]
  congr 1
  unfold placeD
  show (((y : Int) * v.w + x) * v.c + c - 0 * (v.w * v.c)).toNat = _
  rw [Int.zero_mul, Int.sub_zero, hW, hC]
  have e : ((y : Int) * (W : Int) + x) * (C : Int) + c = (((y * W + x) * C + c : Nat) : Int) := by simp
  rw [e, Int.toNat_natCast]
theorem atD_z {v : ValD} {k : Nat} {y x c : Int} : atD (viewOf v (List.replicate k v.z)) y x c = v.z ∨ atD (viewOf v (List.replicate k v.z)) y x c = (List.replicate k v.z).getD (placeD (viewOf v (List.replicate k v.z)) y x c).toNat 0 := by
  unfold atD
  split
  · exact Or.inr rfl
  · exact Or.inl rfl
theorem atD_nought {v : ValD} {k : Nat} (hm : mayS v.h v.w v.c) (hz : -128 ≤ v.z ∧ v.z ≤ 127) (hk : (k : Int) = sizeI v.h v.w v.c) (y x c : Int) : atD (viewOf v (List.replicate k v.z)) y x c = v.z := by
  have full : FullV (viewOf v (List.replicate k v.z)) := viewOf_full hm hz (by simpa using hk) (fun x hx => by rw [List.eq_of_mem_replicate hx]; exact hz)
  unfold atD
  split
  · rename_i hi
    obtain ⟨p0, p1⟩ := full.all y x c hi
    have l : (placeD (viewOf v (List.replicate k v.z)) y x c).toNat < k := by
      have : ((viewOf v (List.replicate k v.z)).xs.length : Int) = k := by simp [viewOf]
      omega
    show (List.replicate k v.z).getD _ 0 = v.z
    simp [List.getD, l]
  · rfl
theorem size_nat {v : ValD} (hm : mayS v.h v.w v.c) : ∃ H W C : Nat, v.h = H ∧ v.w = W ∧ v.c = C ∧ sizeI v.h v.w v.c = ((H * (W * C) : Nat) : Int) ∧ H ≤ 16 ∧ W ≤ 16 ∧ C ≤ 8 ∧ 1 ≤ H ∧ 1 ≤ W ∧ 1 ≤ C := by
  obtain ⟨h1, h2, w1, w2, c1, c2⟩ := id hm
  refine ⟨v.h.toNat, v.w.toNat, v.c.toNat, by omega, by omega, by omega, ?_, by omega, by omega, by omega, by omega, by omega, by omega⟩
  unfold sizeI
  rw [if_pos hm, ← Nat.mul_assoc, Int.natCast_mul, Int.natCast_mul, Int.toNat_of_nonneg (by omega), Int.toNat_of_nonneg (by omega), Int.toNat_of_nonneg (by omega)]

theorem fillF_bd {ls : List Int} (h : ∀ x ∈ ls, -128 ≤ x ∧ x ≤ 127) (i : Nat) : -128 ≤ fillF ls i ∧ fillF ls i ≤ 127 := by
  unfold fillF
  split
  · exact getD_i8 h _
  · decide
theorem fillL_bd {ls : List Int} (h : ∀ x ∈ ls, -128 ≤ x ∧ x ≤ 127) (k : Nat) : ∀ x ∈ fillL ls k, -128 ≤ x ∧ x ≤ 127 := by
  intro x hx
  unfold fillL at hx
  obtain ⟨i, _, rfl⟩ := List.mem_map.1 hx
  exact fillF_bd h i
theorem nums_bd8 {w : World} {v : Value} {xs : List Int} (h : IsNums .i8 w v xs) : ∀ x ∈ xs, -128 ≤ x ∧ x ≤ 127 := by
  intro x hx
  obtain ⟨_, _, _, _, _, _, wf, _⟩ := h
  have := wf x hx
  simpa [Lit.wf, IntKind.min, IntKind.max, IntKind.bits, IntKind.signed] using this
theorem held_in {x : Int} (h : -128 ≤ x ∧ x ≤ 127) : fx.held (-128) 127 x = x := by unfold fx.held; omega
theorem scaleD_one {acc z : Int} (ha : -255 ≤ acc ∧ acc ≤ 255) (hz : -128 ≤ z ∧ z ≤ 127) : scaleD acc 1 0 z = fx.held (-128) 127 (z + acc) := by
  unfold scaleD
  have e1 : fx.held 1 32767 1 = 1 := by decide
  have e2 : fx.held 0 31 0 = 0 := by decide
  have e3 : fx.held (-2147483648) 2147483647 acc = acc := by unfold fx.held; omega
  rw [held_in hz, e1, e2, e3, Int.mul_one]
  have e4 : fx.rd acc (2 ^ (0 : Int).toNat) = acc := by
    have := fx.rd_mul acc 1 (by decide)
    simpa using this
  rw [e4]
theorem rd_zero {d : Int} (hd : 1 ≤ d) : fx.rd 0 d = 0 := by
  have := fx.rd_mul 0 d (by omega)
  simpa using this
theorem two_pow_pos (k : Nat) : (1 : Int) ≤ 2 ^ k := by
  have : (0 : Int) < 2 ^ k := Int.pow_pos (by decide)
  omega
theorem scaleD_nought {mul shift z : Int} (hz : -128 ≤ z ∧ z ≤ 127) : scaleD 0 mul shift z = z := by
  unfold scaleD
  have e3 : fx.held (-2147483648) 2147483647 0 = 0 := by decide
  rw [held_in hz, e3, Int.zero_mul, rd_zero (two_pow_pos _), Int.add_zero, held_in hz]
end Go.Proofs.YtliijchcpooplaaGreat
namespace Go.Proofs.YtliijchcpooplaaGreat
open Go.ChangeShapes Go.WideShapes Go.ChangeAt Go.RowKit
set_option maxRecDepth 20000
set_option linter.unusedVariables false

theorem own_ne {w : World} {b b' e e' size size' n n' : Nat} {v v' : Value} {xs xs' : List Value} (h : w.ownsRow b e size v n xs) (k : w.ownsRow b' e' size' v' n' xs') (he : e ≠ e') : v.ownBlock = none ∨ v.ownBlock ≠ v'.ownBlock := by
  rcases h.2 with ⟨rfl, _⟩ | ⟨g, cap, cur, rfl, _, hg, _⟩
  · exact .inl rfl
  · refine .inr fun e1 => ?_
    rcases k.2 with ⟨rfl, _⟩ | ⟨g', cap', cur', rfl, _, hg', _⟩
    · simp [Value.ownBlock] at e1
    · simp only [Value.ownBlock, Option.some.injEq] at e1
      subst e1
      rw [hg] at hg'
      simp only [Option.some.injEq, Obj.cells.injEq] at hg'
      exact he hg'.2.1

/-! ### A slice of slices: its cells; rows of bytes under them. -/
def nilS : Value := .slice none 0 0
def HasCells (w : World) (v : Value) (us : List Value) : Prop :=
  ∃ (A : Option Addr) (cap : Nat), v = .slice A us.length cap ∧ us.length ≤ cap ∧ cap ≤ maxLen ∧ (A = none → cap = 0) ∧
    (0 < us.length → ∃ b off, A = some ⟨b, off, none⟩ ∧ b < w.heap.size ∧ ∀ i, i < us.length → w.cell? ⟨b, off + i, none⟩ = some (us.getD i nilS))
theorem HasCells.grow {w w' : World} {v : Value} {us : List Value} (h : HasCells w v us) (g : Past w w') : HasCells w' v us := by
  obtain ⟨A, cap, h1, h2, h3, h4, h6⟩ := h
  refine ⟨A, cap, h1, h2, h3, h4, fun hp => ?_⟩
  obtain ⟨b, off, e, hb, hc⟩ := h6 hp
  exact ⟨b, off, e, Nat.lt_of_lt_of_le hb g.2.2.1, fun i hi => (g.cell hb).trans (hc i hi)⟩
def OwnCells (w : World) (base : Nat) (v : Value) (us : List Value) : Prop := w.ownsRow base 27 1 v us.length us
theorem OwnCells.has {w : World} {base : Nat} {v : Value} {us : List Value} (h : OwnCells w base v us) : HasCells w v us := by
  obtain ⟨hl, h⟩ := h
  rcases h with ⟨rfl, h0⟩ | ⟨b, cap, cur, rfl, hb, hg, hn, hm, hs, ht⟩
  · have : us = [] := List.eq_nil_of_length_eq_zero h0
    subst this
    exact ⟨none, 0, rfl, Nat.le_refl _, Nat.zero_le _, fun _ => rfl, by simp⟩
  · refine ⟨some ⟨b, 0, none⟩, cap, rfl, hn, hm, (fun h => by cases h), fun hp => ⟨b, 0, rfl, (Array.getElem?_eq_some_iff.1 hg).1, fun i hi => ?_⟩⟩
    have key : w.cell? ⟨b, 0 + i, none⟩ = us[i]? := by
      rw [← ht, List.getElem?_take_of_lt (by omega)]
      simp [World.cell?, hg]
    rw [key]
    simp [List.getD, hi]
/-- Rows of bytes, whosever. -/
def AreNums (w : World) (us : List Value) (xs : List (List Int)) : Prop := us.length = xs.length ∧ ∀ i, i < xs.length → IsNums .i8 w (us.getD i nilS) (xs.getD i [])
/-- Rows of bytes that a call owns. -/
def AreOwn (w : World) (base : Nat) (us : List Value) (xs : List (List Int)) : Prop := us.length = xs.length ∧ ∀ i, i < xs.length → Own8 w base (us.getD i nilS) (xs.getD i [])
def Bytes (xs : List Int) : Prop := ∀ x ∈ xs, -128 ≤ x ∧ x ≤ 127
def AllBytes (xs : List (List Int)) : Prop := ∀ i, i < xs.length → Bytes (xs.getD i [])
theorem AreNums.grow {w w' : World} {us : List Value} {xs : List (List Int)} (h : AreNums w us xs) (g : Past w w') : AreNums w' us xs := ⟨h.1, fun i hi => (h.2 i hi).grow g⟩
theorem AreOwn.past {w w' : World} {base : Nat} {us : List Value} {xs : List (List Int)} (h : AreOwn w base us xs) (g : Past w w') : AreOwn w' base us xs := ⟨h.1, fun i hi => (h.2 i hi).past g⟩
theorem AreOwn.more {w : World} {b b' : Nat} {us : List Value} {xs : List (List Int)} (h : AreOwn w b us xs) (hb : b' ≤ b) : AreOwn w b' us xs := ⟨h.1, fun i hi => own8_base (h.2 i hi) hb⟩
theorem AreOwn.nums {w : World} {base : Nat} {us : List Value} {xs : List (List Int)} (h : AreOwn w base us xs) (hb : AllBytes xs) : AreNums w us xs := ⟨h.1, fun i hi => (h.2 i hi).nums (hb i hi)⟩
theorem AreOwn.grow {w w' : World} {base b : Nat} {us us' : List Value} {xs : List (List Int)} {v : Value} {n : Nat} (h : AreOwn w base us xs) (ho : w.ownsRow b 27 1 v n us') (g : w.grownBy w' v.ownBlock) : AreOwn w' base us xs :=
  ⟨h.1, fun i hi => World.ownsRow.kept (h.2 i hi) g (own_ne (h.2 i hi) ho (by decide))⟩
theorem getD_snoc {α : Type} (l : List α) (x d : α) (i : Nat) (hi : i < l.length + 1) : (l ++ [x]).getD i d = if i < l.length then l.getD i d else x := by
  by_cases c : i < l.length
  · rw [if_pos c]; simp [List.getD, List.getElem?_append_left c]
  · obtain rfl : i = l.length := by omega
    rw [if_neg c]; simp [List.getD]
theorem AreOwn.snoc {w : World} {base : Nat} {us : List Value} {xs : List (List Int)} {u : Value} {x : List Int} (h : AreOwn w base us xs) (k : Own8 w base u x) : AreOwn w base (us ++ [u]) (xs ++ [x]) := by
  refine ⟨by simp [h.1], fun i hi => ?_⟩
  simp only [List.length_append, List.length_cons, List.length_nil] at hi
  rw [getD_snoc _ _ _ _ (by rw [h.1]; omega), getD_snoc _ _ _ _ (by omega), h.1]
  by_cases c : i < xs.length
  · rw [if_pos c, if_pos c]; exact h.2 i c
  · rw [if_neg c, if_neg c]; exact k
theorem AreOwn.nil (w : World) (base : Nat) : AreOwn w base [] [] := ⟨rfl, fun i hi => absurd hi (by simp)⟩
def SlicesU (us : List Value) : Prop := ∀ u ∈ us, ∃ A l c, u = .slice A l c
theorem SlicesU.one {us : List Value} (h : SlicesU us) : ∀ u ∈ us, u.oneCell' = true := fun u hu => by
  obtain ⟨A, l, c, rfl⟩ := h u hu
  rfl
theorem AreNums.slices {w : World} {us : List Value} {xs : List (List Int)} (h : AreNums w us xs) : SlicesU us := by
  intro u hu
  obtain ⟨i, hi, rfl⟩ := List.getElem_of_mem hu
  obtain ⟨A, c, e, _⟩ := h.2 i (by rw [← h.1]; exact hi)
  have : us.getD i nilS = us[i] := by simp [List.getD, hi]
  rw [← this, e]
  exact ⟨_, _, _, rfl⟩
theorem AreNums.one {w : World} {us : List Value} {xs : List (List Int)} (h : AreNums w us xs) : ∀ u ∈ us, u.oneCell' = true := h.slices.one
theorem AreNums.bytes {w : World} {us : List Value} {xs : List (List Int)} (h : AreNums w us xs) : AllBytes xs := by
  intro i hi x hx
  obtain ⟨A, c, _, _, _, _, wf, _⟩ := h.2 i hi
  have := wf x hx
  simp [Lit.wf, IntKind.min, IntKind.max, IntKind.bits, IntKind.signed] at this
  omega

/-- A slice of slices of bytes, whosever. -/
def IsRows (w : World) (v : Value) (xs : List (List Int)) : Prop := ∃ us, HasCells w v us ∧ AreNums w us xs
/-- A slice of slices of bytes that a call owns, both. -/
def OwnRows (w : World) (base : Nat) (v : Value) (xs : List (List Int)) : Prop := ∃ us, OwnCells w base v us ∧ AreOwn w base us xs
theorem IsRows.grow {w w' : World} {v : Value} {xs : List (List Int)} (h : IsRows w v xs) (g : Past w w') : IsRows w' v xs := by
  obtain ⟨us, h1, h2⟩ := h
  exact ⟨us, h1.grow g, h2.grow g⟩
theorem OwnCells.past {w w' : World} {base : Nat} {v : Value} {us : List Value} (h : OwnCells w base v us) (g : Past w w') : OwnCells w' base v us := own_past' h g
theorem OwnRows.past {w w' : World} {base : Nat} {v : Value} {xs : List (List Int)} (h : OwnRows w base v xs) (g : Past w w') : OwnRows w' base v xs := by
  obtain ⟨us, h1, h2⟩ := h
  exact ⟨us, h1.past g, h2.past g⟩
theorem OwnRows.more {w : World} {b b' : Nat} {v : Value} {xs : List (List Int)} (h : OwnRows w b v xs) (hb : b' ≤ b) : OwnRows w b' v xs := by
  obtain ⟨us, h1, h2⟩ := h
  exact ⟨us, own_more h1 hb, h2.more hb⟩
theorem OwnRows.is {w : World} {base : Nat} {v : Value} {xs : List (List Int)} (h : OwnRows w base v xs) (hb : AllBytes xs) : IsRows w v xs := by
  obtain ⟨us, h1, h2⟩ := h
  exact ⟨us, h1.has, h2.nums hb⟩
theorem OwnRows.nil (w : World) (base : Nat) : OwnRows w base (.slice none 0 0) [] := ⟨[], World.ownsRow_nil _ _ _ _, AreOwn.nil _ _⟩

/-! ### What nodes make, one by one. -/
theorem namedL_app {l r : List ValD} {ns : List Int} (h : namedP l ns) : namedL (l ++ r) ns = namedL l ns := by
  unfold namedL
  refine List.map_congr_left fun i hi => ?_
  obtain ⟨j, hj, rfl⟩ := List.getElem_of_mem hi
  have := h j hj
  have e : ns.getD j 0 = ns[j] := by simp [List.getD, hj]
  rw [e] at this
  exact getD_app_left (by omega)
theorem goS_steps (ns : List NodeD) : ∀ (l r : List ValD), goS ns l = (0, r) → ∀ k, k < ns.length →
    namedP (r.take (l.length + k)) (ns.getD k default).ins ∧ valueE (ns.getD k default) (namedL r (ns.getD k default).ins) = 0 ∧ r.getD (l.length + k) default = valueV (ns.getD k default) (namedL r (ns.getD k default).ins) := by
  induction ns with
  | nil => intro l r _ k hk; simp at hk
  | cons n ns ih =>
    intro l r h k hk
    by_cases hp : namedP l n.ins
    · by_cases he : valueE n (namedL l n.ins) = 0
      · rw [goS_ok hp he] at h
        obtain ⟨m, hm, _⟩ := goS_spec ns _ _ h
        have e1 : namedL r n.ins = namedL l n.ins := by
          rw [hm, List.append_assoc]; exact namedL_app hp
        cases k with
        | zero =>
          simp only [List.getD_cons_zero, Nat.add_zero]
          refine ⟨?_, by rw [e1]; exact he, ?_⟩
          · have : r.take l.length = l := by rw [hm, List.append_assoc]; simp
            rw [this]; exact hp
          · rw [e1, hm]; exact getD_app_at
        | succ k =>
          have := ih _ _ h k (by simpa using hk)
          simp only [List.length_append, List.length_cons, List.length_nil] at this
          rw [show l.length + (0 + 1) + k = l.length + (k + 1) by omega] at this
          simp only [List.getD_cons_succ]
          exact this
      · rw [goS_err hp he] at h
        simp only [Prod.mk.injEq] at h
        exact absurd h.1 he
    · rw [goS_no hp] at h
      simp at h

def ZV : ViewD := ⟨⟨0, 0, 0, 0⟩, 0, 0, []⟩
def vwOf (v : ValD) (xs : List Int) : ViewD := ⟨v, 0, v.h, xs⟩
def vwB (vs : List ValD) (ds : List (List Int)) : ViewD := if vs.length = 2 then vwOf (vs.getD 1 default) (ds.getD 1 []) else ZV
/-- The numbers of all rows of a node. -/
noncomputable def kernL (n : NodeD) (vs : List ValD) (ds : List (List Int)) : List Int :=
  allL n (vwOf (vs.getD 0 default) (ds.getD 0 [])) (vwB vs ds) (madeS n vs) ((madeS n vs).2.1.toNat * (madeS n vs).2.2.toNat) ((madeS n vs).1.toNat * ((madeS n vs).2.1.toNat * (madeS n vs).2.2.toNat))
/-- Numbers that fit a value. -/
def Fits (v : ValD) (xs : List Int) : Prop := (xs.length : Int) = sizeI v.h v.w v.c ∧ Bytes xs
theorem allB {n : NodeD} {vs : List ValD} {a b : ViewD} {m : Int × Int × Int} (h : MakeOk n vs a b m) (hw : ∀ k, -128 ≤ n.ws.getD k 0 ∧ n.ws.getD k 0 ≤ 127) : ∀ x ∈ allL n a b m (m.2.1.toNat * m.2.2.toNat) (m.1.toNat * (m.2.1.toNat * m.2.2.toNat)), -128 ≤ x ∧ x ≤ 127 := by
  intro q hq
  obtain ⟨i, hi, rfl⟩ := List.getElem_of_mem hq
  have hi' := hi
  rw [allL_len] at hi'
  obtain ⟨y, x, c, hy, hx, hc, rfl⟩ := place_of hi'
  have e := allL_at n a b m rfl hy hx hc
  have e2 : (allL n a b m (m.2.1.toNat * m.2.2.toNat) (m.1.toNat * (m.2.1.toNat * m.2.2.toNat)))[(y * m.2.1.toNat + x) * m.2.2.toNat + c] = numD n a b m y x c := by
    rw [← e]
    simp [List.getD, List.getElem?_eq_getElem hi]
  rw [e2]
  exact numD_bd h hw (by omega) (by omega) (by omega) (by omega) _
theorem sizeN {h w c : Int} (k : mayS h w c) : sizeI h w c = ((h.toNat * (w.toNat * c.toNat) : Nat) : Int) := by
  unfold sizeI
  rw [if_pos k]
  obtain ⟨h1, h2, h3, h4, h5, h6⟩ := k
  rw [Int.natCast_mul, Int.natCast_mul, Int.toNat_of_nonneg (by omega), Int.toNat_of_nonneg (by omega), Int.toNat_of_nonneg (by omega), Int.mul_assoc]
theorem make_ok {n : NodeD} {vs : List ValD} {ds : List (List Int)} (h : valueE n vs = 0) (hf : ∀ j, j < vs.length → Fits (vs.getD j default) (ds.getD j [])) (hz : ∀ j, j < vs.length → -128 ≤ (vs.getD j default).z ∧ (vs.getD j default).z ≤ 127) :
    MakeOk n vs (vwOf (vs.getD 0 default) (ds.getD 0 [])) (vwB vs ds) (madeS n vs) := by
  have hm := (value_parts h).2.1
  have full : ∀ j, j < vs.length → FullV (vwOf (vs.getD j default) (ds.getD j [])) := fun j hj => ⟨hm j hj, rfl, rfl, hz j hj, (hf j hj).1, (hf j hj).2⟩
  rcases vals_len h with ⟨ho, hl⟩ | ⟨ho, hl⟩
  · refine ⟨h, rfl, full 0 (by omega), rfl, fun _ => ?_⟩
    unfold vwB
    rw [if_pos hl]
    exact ⟨full 1 (by omega), rfl⟩
  · exact ⟨h, rfl, full 0 (by omega), rfl, fun f => absurd f ho⟩
theorem kern_fits {n : NodeD} {vs : List ValD} {ds : List (List Int)} (h : valueE n vs = 0) (hf : ∀ j, j < vs.length → Fits (vs.getD j default) (ds.getD j [])) (hz : ∀ j, j < vs.length → -128 ≤ (vs.getD j default).z ∧ (vs.getD j default).z ≤ 127) (hw : Bytes n.ws) :
    Fits (valueV n vs) (kernL n vs ds) := by
  have mk := make_ok h hf hz
  refine ⟨?_, ?_⟩
  · unfold kernL
    rw [allL_len, valueV_mk h]
    exact (sizeN mk.m16).symm
  · refine fun x hx => allB mk (fun k => ?_) x hx
    by_cases c : k < n.ws.length
    · have : n.ws.getD k 0 = n.ws[k] := by simp [List.getD, c]
      rw [this]; exact hw _ (List.getElem_mem _)
    · have : n.ws.getD k 0 = 0 := by simp [List.getD, Nat.le_of_not_lt c]
      rw [this]; omega

def namedR (ds : List (List Int)) (ns : List Int) : List (List Int) := ns.map fun i => ds.getD i.toNat []
/-- All values' numbers, node by node. -/
noncomputable def goE (V : List ValD) : List NodeD → List (List Int) → List (List Int)
  | [], ds => ds
  | n :: ns, ds => goE V ns (ds ++ [kernL n (namedL V n.ins) (namedR ds n.ins)])
noncomputable def evalL (g : GraphD) (ins : List (List Int)) : List (List Int) := goE (valuesL g) g.nodes ins
def fitsP (vs : List ValD) (xs : List (List Int)) : Prop := xs.length = vs.length ∧ ∀ j, j < vs.length → ((xs.getD j []).length : Int) = sizeI (vs.getD j default).h (vs.getD j default).w (vs.getD j default).c
open Classical in
noncomputable def evalE (g : GraphD) (ins : List (List Int)) : Int := if valuesE g ≠ 0 then valuesE g else if fitsP g.ins ins then 0 else 1

/-- What node k of a graph that may be is made of. -/
structure NodeOk (g : GraphD) (k : Nat) : Prop where
  named : namedP ((valuesL g).take (g.ins.length + k)) (g.nodes.getD k default).ins
  value : valueE (g.nodes.getD k default) (namedL (valuesL g) (g.nodes.getD k default).ins) = 0
  made : (valuesL g).getD (g.ins.length + k) default = valueV (g.nodes.getD k default) (namedL (valuesL g) (g.nodes.getD k default).ins)
theorem node_ok {g : GraphD} (h : valuesE g = 0) {k : Nat} (hk : k < g.nodes.length) : NodeOk g k := by
  obtain ⟨_, h1, _, _⟩ := values_ok h
  obtain ⟨a, b, c⟩ := goS_steps _ _ _ h1 k hk
  exact ⟨a, b, c⟩
theorem ins_ok {g : GraphD} (h : valuesE g = 0) {j : Nat} (hj : j < g.ins.length) : (valuesL g).getD j default = g.ins.getD j default := by
  obtain ⟨_, h1, _, _⟩ := values_ok h
  obtain ⟨m, hm, _⟩ := goS_spec _ _ _ h1
  rw [hm]; exact getD_app_left hj
theorem zeros_ok {g : GraphD} (h : valuesE g = 0) {j : Nat} (hj : j < (valuesL g).length) : -128 ≤ ((valuesL g).getD j default).z ∧ ((valuesL g).getD j default).z ≤ 127 := by
  obtain ⟨hl, _, hz⟩ := makes_facts h
  by_cases c : j < g.ins.length
  · rw [ins_ok h c]; exact (begins_ok (values_ok h).1).2.2 j c
  · rw [hz j (by omega) hj]
    have ok := node_ok h (k := j - g.ins.length) (by omega)
    exact (value_parts ok.value).1.2.2.2.1.2.2
theorem named_get {V : List ValD} {ns : List Int} {j : Nat} (hj : j < ns.length) : (namedL V ns).getD j default = V.getD (ns.getD j 0).toNat default := by
  unfold namedL; simp [List.getD, hj]
theorem namedR_get {ds : List (List Int)} {ns : List Int} {j : Nat} (hj : j < ns.length) : (namedR ds ns).getD j [] = ds.getD (ns.getD j 0).toNat [] := by
  unfold namedR; simp [List.getD, hj]
theorem namedL_len (V : List ValD) (ns : List Int) : (namedL V ns).length = ns.length := by simp [namedL]
theorem namedR_len (ds : List (List Int)) (ns : List Int) : (namedR ds ns).length = ns.length := by simp [namedR]
/-- Numbers for the first k values. -/
def FitsTo (V : List ValD) (k : Nat) (ds : List (List Int)) : Prop := ds.length = k ∧ ∀ j, j < k → Fits (V.getD j default) (ds.getD j [])
theorem FitsTo.bytes {V : List ValD} {k : Nat} {ds : List (List Int)} (h : FitsTo V k ds) : AllBytes ds := fun i hi => (h.2 i (by rw [← h.1]; exact hi)).2
theorem node_at {g : GraphD} {k : Nat} (ok : NodeOk g k) (hk : k < g.nodes.length) (hl : (valuesL g).length = g.ins.length + g.nodes.length) {j : Nat} (hj : j < (g.nodes.getD k default).ins.length) : 0 ≤ (g.nodes.getD k default).ins.getD j 0 ∧ (g.nodes.getD k default).ins.getD j 0 < ((g.ins.length + k : Nat) : Int) := by
  have := ok.named j hj
  rw [List.length_take] at this
  omega
theorem node_fits {g : GraphD} (h : valuesE g = 0) {k : Nat} (hk : k < g.nodes.length) {ds : List (List Int)} (hd : FitsTo (valuesL g) (g.ins.length + k) ds) :
    (∀ j, j < (namedL (valuesL g) (g.nodes.getD k default).ins).length → Fits ((namedL (valuesL g) (g.nodes.getD k default).ins).getD j default) ((namedR ds (g.nodes.getD k default).ins).getD j [])) ∧
    (∀ j, j < (namedL (valuesL g) (g.nodes.getD k default).ins).length → -128 ≤ ((namedL (valuesL g) (g.nodes.getD k default).ins).getD j default).z ∧ ((namedL (valuesL g) (g.nodes.getD k default).ins).getD j default).z ≤ 127) := by
  have ok := node_ok h hk
  obtain ⟨hl, _, _⟩ := makes_facts h
  constructor
  · intro j hj
    rw [namedL_len] at hj
    rw [named_get hj, namedR_get hj]
    have := node_at ok hk hl hj
    exact hd.2 _ (by omega)
  · intro j hj
    rw [namedL_len] at hj
    rw [named_get hj]
    have := node_at ok hk hl hj
    exact zeros_ok h (by omega)
theorem step_fits {g : GraphD} (h : valuesE g = 0) {k : Nat} (hk : k < g.nodes.length) {ds : List (List Int)} (hd : FitsTo (valuesL g) (g.ins.length + k) ds) (hw : Bytes (g.nodes.getD k default).ws) :
    FitsTo (valuesL g) (g.ins.length + (k + 1)) (ds ++ [kernL (g.nodes.getD k default) (namedL (valuesL g) (g.nodes.getD k default).ins) (namedR ds (g.nodes.getD k default).ins)]) := by
  have ok := node_ok h hk
  obtain ⟨f1, f2⟩ := node_fits h hk hd
  refine ⟨by simp [hd.1]; omega, fun j hj => ?_⟩
  rw [getD_snoc _ _ _ _ (by rw [hd.1]; omega), hd.1]
  by_cases c : j < g.ins.length + k
  · rw [if_pos c]; exact hd.2 j c
  · obtain rfl : j = g.ins.length + k := by omega
    rw [if_neg c, ok.made]
    exact kern_fits ok.value f1 f2 hw
theorem ins_fits {g : GraphD} (h : valuesE g = 0) {ins : List (List Int)} (hf : fitsP g.ins ins) (hb : AllBytes ins) : FitsTo (valuesL g) (g.ins.length + 0) ins := by
  refine ⟨hf.1, fun j hj => ?_⟩
  rw [ins_ok h (by omega)]
  exact ⟨hf.2 j (by omega), hb j (by rw [hf.1]; omega)⟩
end Go.Proofs.YtliijchcpooplaaGreat
namespace Go.Proofs.YtliijchcpooplaaGreat
open Go.ChangeShapes Go.WideShapes Go.ChangeAt Go.RowKit
set_option maxRecDepth 20000
set_option linter.unusedVariables false

theorem infoS8 : (Tryz.prog.info? 27).map (fun i => (i.zero, i.size, i.bytes)) = some (some (.slice none 0 0), 1, 24) := by kernel_rfl

set_option maxHeartbeats 1000000 in
theorem clone8 (v : Value) (xs : List Int) (W : World) (h : IsNums .i8 W v xs) (h0 : 0 < xs.length) (h1 : xs.length ≤ 100000) :
    Calls Tryz.prog 29 #[v] W fun e w' => ∃ u, e = .returned u ∧ Own8 w' W.heap.size u xs ∧ Past W w' := by
  have hK := h
  obtain ⟨A, cap, rfl, hc, hm, _, _, h6⟩ := h
  obtain ⟨b, off, rfl, hbb, hx⟩ := h6 h0
  obtain ⟨i0, hi0, hz0, hz1, hz2⟩ := info_parts infoI8
  have I1 := Lib.hid hi0
  have I2 := Lib.hid hz0
  have I3 := Lib.hid hz1
  have I4 := Lib.hid hz2
  have HK := Lib.hid (hK.grow ((Past.refl W).alloc (.cells #[] 35)))
  have OW := Lib.hid (own8_new (w := W) (base := W.heap.size) (Nat.le_refl _))
  have eN := fun (w : World) => Lib.run_eql_slice_some_nil (P := Tryz.prog) w (t := 27) ⟨b, off, none⟩ xs.length cap Tryz.underlying27
  clear hi0 hz0 hz1 hz2 hx hK h6
  go_enter Tryz.func29, Tryz.ntmps29
  go_wp2_with (at_builtin; refine wpList_append_own _ rfl (.tmp 5) (.tmp 6) 27 rfl W.heap.size 35 i0 _ 1 1 Tryz.underlying27 I1.out I2.out I3.out I4.out rfl (by decide) _ 0 [] rfl OW.out ⟨b, off, none⟩ xs.length cap (xs.map (Value.int .i8)) rfl (by simp) (nums_cells HK.out) (ints_oneCell _ _) ?c4 ?c5 ?c6 ?_)
  case c4 => unfold maxLen; omega
  case c5 => omega
  case c6 => simp
  intro v4 w4 hown4 hgrow _
  have hp4 : Past W w4 := ((Past.refl W).alloc _).grownBy hgrow (fun j hj => by simp [Value.ownBlock] at hj; omega)
  have ho4 : Own8 w4 W.heap.size v4 xs := by
    unfold Own8
    simpa using hown4
  clear hown4 hgrow
  go_wp2_with fail
  go_ret
  exact ⟨_, rfl, ho4, hp4⟩

theorem fits_any (v : ValD) (u : Value) (xs : List Int) (t : Bool) (w : World) (hu : IsNums .i8 w u xs) (ht : t = decide ((xs.length : Int) = sizeI v.h v.w v.c)) :
    Calls Tryz.prog 25 #[.agg #[.int .i64 v.h, .int .i64 v.w, .int .i64 v.c, .int .i64 v.z], u] w fun e w' => e = .returned (.bool t) ∧ Grown w w' := by
  obtain ⟨A, cap, rfl, _⟩ := hu
  obtain ⟨q, hq⟩ : ∃ q, q = sizeI v.h v.w v.c := ⟨_, rfl⟩
  have e1 : (((xs.length : Int)) == q) = t := by rw [ht, ← hq]; simp [BEq.beq]
  have HQ := Lib.hid hq
  clear ht hq
  go_enter Tryz.func25, Tryz.ntmps25
  go_upto_region 1 with fail
  refine opq (fun w' => (∀ o : Nat, w'.cell? ⟨w.heap.size, o, none⟩ = (#[.int .i64 v.h, .int .i64 v.w, .int .i64 v.c, .int .i64 v.z] : Array Value)[o]?) ∧ Grown w w' ∧ w.heap.size + 1 ≤ w'.heap.size) kKeep ?_
  rintro w1 ⟨b1, g1, z1⟩
  go_wp2_with fail
  refine (size_any v.h v.w v.c q _ HQ).mono ?_
  rintro e w2 ⟨rfl, g2⟩
  have g3 := grown_trans g1 g2
  clear b1 g1 g2 z1
  go_wp2_with fail
  go_ret
  exact ⟨rfl, g3⟩

set_option maxHeartbeats 4000000 in
theorem equalF_any (lv iv : Value) (vs : List ValD) (us : List Value) (ins : List (List Int)) (t : Bool) (W : World) (hl : IsVals W lv vs) (hi : HasCells W iv us) (hn : AreNums W us ins) (ht : t = true ↔ fitsP vs ins) :
    Calls Tryz.prog 24 #[lv, iv, .func (.func 25) #[] #[]] W fun e w' => e = .returned (.bool t) ∧ Past W w' := by
  have hE : ∀ (xs : Array Value) (w : World), (callFunc 25 xs).run Tryz.prog w = .ok (.enter 25 xs) w := fun xs w => by kernel_rfl
  obtain ⟨A, ca, rfl, a1, a2, _, a4, a5⟩ := hl
  obtain ⟨B, cb, rfl, b1, b2, _, b5⟩ := hi
  have hm1 : vs.length ≤ 9223372036854775807 := by unfold maxLen at a2; omega
  have hm2 : us.length ≤ 9223372036854775807 := by unfold maxLen at b2; omega
  have A5 := Lib.hid a5
  have B5 := Lib.hid b5
  have HN := Lib.hid hn
  have HT := Lib.hid ht
  have HL := Lib.hid hn.1
  clear a1 a2 a4 a5 b1 b2 b5 hn ht
  by_cases hll : us.length = vs.length
  · rw [hll]
    have HLL := Lib.hid hll
    clear hll
    have d1 : (((vs.length : Nat) : Int) != ((vs.length : Nat) : Int)) = false := by simp
    go_enter Tryz.func24, Tryz.ntmps24
    go_wp2_with fail
    go_loopw [6, 7, 8, 9, 17] (fun s _ _ _ i wr => ∃ k : Nat, k ≤ vs.length ∧ i = .int .i64 k ∧ s = .bool false ∧ Hid (∀ j, j < k → ((ins.getD j []).length : Int) = sizeI (vs.getD j default).h (vs.getD j default).w (vs.getD j default).c) ∧ Past W wr) (fun _ _ _ _ i _ => vs.length - (intOf i).toNat)
    case atStart => exact ⟨0, by omega, rfl, rfl, Lib.hid (fun j h => by omega), Past.refl _⟩
    case round =>
      obtain ⟨k, hk, rfl, rfl, hx, hp⟩ := hrel
      by_cases l : k < vs.length
      · obtain ⟨p, o, rfl, hpb, hc⟩ := A5.out (by omega)
        obtain ⟨p', o', rfl, hpb', hc'⟩ := B5.out (by rw [HLL.out]; omega)
        obtain ⟨y0, y1, y2, y3⟩ := (hc k l).grow hpb hp
        have c0 := (hp.cell (p := ⟨p', o' + k, none⟩) hpb').trans (hc' k (by rw [HLL.out]; omega))
        have NU := (HN.out.2 k (by rw [← HL.out, HLL.out]; omega)).grow hp
        obtain ⟨u, hu⟩ : ∃ u, us.getD k nilS = u := ⟨_, rfl⟩
        obtain ⟨x, hx0⟩ : ∃ x, ins.getD k [] = x := ⟨_, rfl⟩
        obtain ⟨y, hy⟩ : ∃ y, vs.getD k default = y := ⟨_, rfl⟩
        rw [hu] at c0 NU
        rw [hx0] at NU
        rw [hy] at y0 y1 y2 y3
        obtain ⟨Au, cu, rfl, _⟩ := id NU
        obtain ⟨s, hs⟩ : ∃ s, s = decide ((x.length : Int) = sizeI y.h y.w y.c) := ⟨_, rfl⟩
        have FA := Lib.hid (fun (w : World) (g : Past wr w) => fits_any y (.slice Au x.length cu) x s w (NU.grow g) hs)
        have HX := Lib.hid hx0
        have HY := Lib.hid hy
        have HS := Lib.hid hs
        have i1 : (0 : Int) ≤ (k : Int) := by omega
        have i3 : (k : Int) < (vs.length : Int) := by omega
        have hpb2 : p' < wr.heap.size := by have := hp.2.2.1; omega
        clear hc hc' hu hx0 hy hs NU
        rcases Bool.eq_false_or_eq_true s with hsb | hsb
        · go_upto_region 6 with fail
          refine opq (fun w' => (∀ o : Nat, w'.cell? ⟨wr.heap.size, o, none⟩ = (#[.int .i64 y.h, .int .i64 y.w, .int .i64 y.c, .int .i64 y.z] : Array Value)[o]?) ∧ w'.cell? ⟨p', o' + k, none⟩ = some (.slice Au x.length cu) ∧ Past wr w' ∧ wr.heap.size + 1 ≤ w'.heap.size) ?_ ?_
          · (exact kKeep)
          rintro w1 ⟨b1, c1, g1, z1⟩
          have hp1 := hp.trans g1
          clear y0 y1 y2 y3 c0
          go_wp2_with fail
          refine (FA.out _ g1).mono ?_
          rintro e w2 ⟨rfl, g2⟩
          have hp2 := hp1.trans (Grown.past g2)
          subst hsb
          clear b1 c1 g1 z1 g2 hp1
          go_wp2_with fail
          go_roundw
          case rel => exact ⟨k + 1, by omega, by go_num, rfl, Lib.hid (fun j hj => by
            by_cases c : j = k
            · subst c
              rw [HX.out, HY.out]
              exact of_decide_eq_true HS.out.symm
            · exact hx.out j (by omega)), hp2⟩
          case measure => simp [intOf]; omega
        · go_upto_region 6 with fail
          refine opq (fun w' => (∀ o : Nat, w'.cell? ⟨wr.heap.size, o, none⟩ = (#[.int .i64 y.h, .int .i64 y.w, .int .i64 y.c, .int .i64 y.z] : Array Value)[o]?) ∧ w'.cell? ⟨p', o' + k, none⟩ = some (.slice Au x.length cu) ∧ Past wr w' ∧ wr.heap.size + 1 ≤ w'.heap.size) ?_ ?_
          · (exact kKeep)
          rintro w1 ⟨b1, c1, g1, z1⟩
          have hp1 := hp.trans g1
          clear y0 y1 y2 y3 c0
          go_wp2_with fail
          refine (FA.out _ g1).mono ?_
          rintro e w2 ⟨rfl, g2⟩
          have hp2 := hp1.trans (Grown.past g2)
          subst hsb
          have hf : t = false := by
            rcases Bool.eq_false_or_eq_true t with h | h
            · have := (HT.out.1 h).2 k l
              rw [HX.out, HY.out] at this
              exact absurd this (of_decide_eq_false HS.out.symm)
            · exact h
          subst hf
          clear b1 c1 g1 z1 g2 hp1
          go_wp2_with fail
          go_ret
          exact ⟨rfl, hp2⟩
      · obtain rfl : k = vs.length := by omega
        have hf : t = true := HT.out.2 ⟨by rw [← HL.out]; exact HLL.out, hx.out⟩
        subst hf
        have d2 : decide ((vs.length : Int) < (vs.length : Int)) = false := by simp
        clear hx
        go_wp2_with fail
        go_ret
        exact ⟨rfl, hp⟩
  · have hf : t = false := by
      rcases Bool.eq_false_or_eq_true t with h | h
      · exact absurd ((HL.out).trans (HT.out.1 h).1) hll
      · exact h
    subst hf
    have d1 : (((vs.length : Nat) : Int) != ((us.length : Nat) : Int)) = true := by simp; omega
    go_enter Tryz.func24, Tryz.ntmps24
    go_wp2_with fail
    go_ret
    exact ⟨rfl, Past.refl _⟩

def namedU (us : List Value) (ns : List Int) : List Value := ns.map fun i => us.getD i.toNat nilS
theorem namedU_take (us : List Value) (ns : List Int) (k : Nat) (h : k < ns.length) : namedU us (ns.take (k + 1)) = namedU us (ns.take k) ++ [us.getD (ns.getD k 0).toNat nilS] := by
  unfold namedU
  rw [List.take_succ_eq_append_getElem h, List.map_append]
  simp [List.getD, h]
def inP (n : Nat) (ns : List Int) : Prop := ∀ j, j < ns.length → 0 ≤ ns.getD j 0 ∧ ns.getD j 0 < (n : Int)
theorem namedU_nums {w : World} {us : List Value} {xs : List (List Int)} {ns : List Int} (h : AreNums w us xs) (hi : inP us.length ns) : AreNums w (namedU us ns) (namedR xs ns) := by
  refine ⟨by simp [namedU, namedR], fun i hl => ?_⟩
  rw [namedR_len] at hl
  rw [namedR_get hl]
  have e : (namedU us ns).getD i nilS = us.getD (ns.getD i 0).toNat nilS := by unfold namedU; simp [List.getD, hl]
  rw [e]
  have := hi i hl
  exact h.2 _ (by rw [← h.1]; omega)

set_option maxHeartbeats 2000000 in
theorem named8_any (lv nv : Value) (us : List Value) (ns : List Int) (W : World) (hl : HasCells W lv us) (h1 : SlicesU us) (hn : IsNums .i64 W nv ns) (hi : inP us.length ns) (hb : ns.length ≤ 1000) :
    Calls Tryz.prog 18 #[lv, nv] W fun e w' => ∃ v, e = .returned v ∧ OwnCells w' W.heap.size v (namedU us ns) ∧ Past W w' := by
  obtain ⟨A, ca, rfl, a1, a2, _, a5⟩ := hl
  obtain ⟨B, cb, rfl, b1, b2, _, _, b5⟩ := hn
  have hm1 : us.length ≤ 9223372036854775807 := by unfold maxLen at a2; omega
  have hm2 : ns.length ≤ 9223372036854775807 := by omega
  obtain ⟨i0, hi0, hz0, hz1, hz2⟩ := info_parts infoS8
  have A5 := Lib.hid a5
  have B5 := Lib.hid b5
  have H1 := Lib.hid h1
  have HI := Lib.hid hi
  have I1 := Lib.hid hi0
  have I2 := Lib.hid hz0
  have I3 := Lib.hid hz1
  have I4 := Lib.hid hz2
  clear a1 a2 a5 b1 b2 b5 hi0 hz0 hz1 hz2 h1 hi
  go_enter Tryz.func18, Tryz.ntmps18
  go_wp2_with fail
  go_loopw [5, 10] (fun v i wr => ∃ k : Nat, k ≤ ns.length ∧ i = .int .i64 k ∧ Hid (OwnCells wr W.heap.size v (namedU us (ns.take k))) ∧ Past W wr) (fun _ i _ => ns.length - (intOf i).toNat)
  case atStart => exact ⟨0, by omega, rfl, Lib.hid (World.ownsRow_nil _ _ _ _), Past.refl _⟩
  case round =>
    obtain ⟨k, hk, rfl, hown, hp⟩ := hrel
    by_cases h : k < ns.length
    · obtain ⟨b, off, rfl, hbb, hc⟩ := B5.out (by omega)
      have c0 := (hp.cell (p := ⟨b, off + k, none⟩) hbb).trans (hc k h)
      obtain ⟨x0, x1⟩ := HI.out k h
      obtain ⟨x, hx⟩ : ∃ x, ns.getD k 0 = x := ⟨_, rfl⟩
      rw [hx] at c0 x0 x1
      obtain ⟨m, rfl⟩ : ∃ m : Nat, x = m := ⟨x.toNat, by omega⟩
      have HX := Lib.hid hx
      have x2 : m < us.length := by omega
      obtain ⟨b', off', rfl, hbb', hc'⟩ := A5.out (by omega)
      have c1 := (hp.cell (p := ⟨b', off' + m, none⟩) hbb').trans (hc' m x2)
      obtain ⟨y, hy⟩ : ∃ y, us.getD m nilS = y := ⟨_, rfl⟩
      obtain ⟨Ay, ly, cy, rfl⟩ := H1.out y (by rw [← hy]; simp [List.getD, x2])
      rw [hy] at c1
      have HY := Lib.hid hy
      have HP := Lib.hid hp
      have lk : (namedU us (ns.take k)).length = k := by simp [namedU]; omega
      have LK := Lib.hid lk
      have HLT := Lib.hid (World.ownsRow.lt hown.out)
      have hsz : W.heap.size ≤ wr.heap.size := hp.2.2.1
      clear hc hc' hx hy lk hp
      go_wp2_with (at_builtin; refine wpList_append_own _ rfl (.tmp 14) (.tmp 19) 30 rfl W.heap.size 27 i0 _ 1 24 Tryz.underlying30 I1.out I2.out I3.out I4.out rfl (by decide) _ _ _ rfl (World.ownsRow.alloc hown.out _) ⟨wr.heap.size, 0, none⟩ 1 1 [.slice Ay ly cy] rfl rfl (fun j u hu => cells_new1 wr _ 27 j u hu) (fun u hu => by simp only [List.mem_singleton] at hu; subst hu; rfl) ?c4 ?c5 ?c6 ?_)
      case c4 => rw [LK.out]; unfold maxLen; omega
      case c5 => rw [LK.out]; omega
      case c6 => simp; omega
      intro v4 w4 hown4 hgrow _
      have hp4 : Past W w4 := (HP.out.alloc _).grownBy hgrow (fun j hj => (HLT.out j hj).1)
      have ho4 : Hid (OwnCells w4 W.heap.size v4 (namedU us (ns.take (k + 1)))) := Lib.hid (by
        unfold OwnCells
        rw [namedU_take us ns k h, HX.out]
        simp only [Int.toNat_natCast, HY.out, List.length_append, List.length_cons, List.length_nil]
        exact hown4)
      clear hown4 hgrow
      go_wp2_with fail
      go_roundw
      case rel => exact ⟨k + 1, by omega, by go_num, ho4, hp4⟩
      case measure => simp [intOf]; omega
    · have e : ns.take k = ns := List.take_of_length_le (by omega)
      rw [e] at hown
      clear e
      go_wp2_with fail
      go_ret
      exact ⟨_, rfl, hown.out, hp⟩

set_option maxHeartbeats 2000000 in
theorem namedV_any (lv nv : Value) (l : List ValD) (ns : List Int) (W : World) (hl : IsVals W lv l) (hn : IsNums .i64 W nv ns) (hi : inP l.length ns) (hb : ns.length ≤ 1000) :
    Calls Tryz.prog 27 #[lv, nv] W fun e w' => ∃ v, e = .returned v ∧ IsVals w' v (namedL l ns) ∧ Past W w' := by
  obtain ⟨A, ca, rfl, a1, a2, _, a4, a5⟩ := hl
  obtain ⟨B, cb, rfl, b1, b2, _, _, b5⟩ := hn
  have hm1 : l.length ≤ 9223372036854775807 := by unfold maxLen at a2; omega
  have hm2 : ns.length ≤ 9223372036854775807 := by omega
  obtain ⟨i0, hi0, hz0, hz1, hz2⟩ := info_parts info32
  have A4 := Lib.hid a4
  have A5 := Lib.hid a5
  have B5 := Lib.hid b5
  have HI := Lib.hid hi
  have I1 := Lib.hid hi0
  have I2 := Lib.hid hz0
  have I3 := Lib.hid hz1
  have I4 := Lib.hid hz2
  clear a1 a2 a4 a5 b1 b2 b5 hi0 hz0 hz1 hz2 hi
  go_enter Tryz.func27, Tryz.ntmps27
  go_wp2_with fail
  go_loopw [5, 10] (fun v i wr => ∃ k : Nat, k ≤ ns.length ∧ i = .int .i64 k ∧ Hid (OwnVals wr W.heap.size v (namedL l (ns.take k))) ∧ Past W wr) (fun _ i _ => ns.length - (intOf i).toNat)
  case atStart => exact ⟨0, by omega, rfl, Lib.hid ⟨by simp [namedL, valsCells], .inl ⟨rfl, by simp [namedL]⟩⟩, Past.refl _⟩
  case round =>
    obtain ⟨k, hk, rfl, hown, hp⟩ := hrel
    by_cases h : k < ns.length
    · obtain ⟨b, off, rfl, hbb, hc⟩ := B5.out (by omega)
      have c0 := (hp.cell (p := ⟨b, off + k, none⟩) hbb).trans (hc k h)
      obtain ⟨x0, x1⟩ := HI.out k h
      obtain ⟨x, hx⟩ : ∃ x, ns.getD k 0 = x := ⟨_, rfl⟩
      rw [hx] at c0 x0 x1
      obtain ⟨m, rfl⟩ : ∃ m : Nat, x = m := ⟨x.toNat, by omega⟩
      have HX := Lib.hid hx
      have x2 : m < l.length := by omega
      obtain ⟨b', off', rfl, hbb', hc'⟩ := A5.out (by omega)
      obtain ⟨y0, y1, y2, y3⟩ := (hc' m x2).grow hbb' hp
      obtain ⟨y, hy⟩ : ∃ y, l.getD m default = y := ⟨_, rfl⟩
      rw [hy] at y0 y1 y2 y3
      have HY := Lib.hid hy
      have HP := Lib.hid hp
      have lk : (namedL l (ns.take k)).length = k := by simp [namedL]; omega
      have LK := Lib.hid lk
      have HLT := Lib.hid (World.ownsRow.lt hown.out)
      have hsz : W.heap.size ≤ wr.heap.size := hp.2.2.1
      clear hc hc' hx hy lk hp
      go_wp2_with (at_builtin; refine wpList_append_own _ rfl (.tmp 14) (.tmp 19) 22 rfl W.heap.size 47 i0 _ 4 32 Tryz.underlying22 I1.out I2.out I3.out I4.out rfl (by decide) _ _ _ rfl (World.ownsRow.alloc hown.out _) ⟨wr.heap.size, 0, none⟩ 1 1 (valCells y) rfl rfl (fun j u hu => cells_new' wr _ 47 j u hu) (val_one y) ?c4 ?c5 ?c6 ?_)
      case c4 => rw [LK.out]; unfold maxLen; omega
      case c5 => rw [LK.out]; omega
      case c6 => simp; omega
      intro v4 w4 hown4 hgrow _
      have hp4 : Past W w4 := (HP.out.alloc _).grownBy hgrow (fun j hj => (HLT.out j hj).1)
      have ho4 : Hid (OwnVals w4 W.heap.size v4 (namedL l (ns.take (k + 1)))) := Lib.hid (by
        unfold OwnVals
        rw [namedL_take l ns k h, valsCells_snoc, HX.out]
        simp only [Int.toNat_natCast, HY.out, List.length_append, List.length_cons, List.length_nil]
        exact hown4)
      clear hown4 hgrow
      go_wp2_with fail
      go_roundw
      case rel => exact ⟨k + 1, by omega, by go_num, ho4, hp4⟩
      case measure => simp [intOf]; omega
    · have e : ns.take k = ns := List.take_of_length_le (by omega)
      rw [e] at hown
      have WF : Hid (∀ x ∈ namedL l ns, ValWf x) := Lib.hid (fun x hx => by
        simp only [namedL, List.mem_map] at hx
        obtain ⟨i, hi, rfl⟩ := hx
        obtain ⟨j, hj, rfl⟩ := List.getElem_of_mem hi
        have := HI.out j hj
        simp only [List.getD, hj, List.getElem?_eq_getElem, Option.getD_some] at this
        have hl : ns[j].toNat < l.length := by omega
        have : l.getD ns[j].toNat default = l[ns[j].toNat] := by simp [List.getD, hl]
        rw [this]
        exact A4.out _ (List.getElem_mem _))
      clear e
      go_wp2_with fail
      go_ret
      exact ⟨_, rfl, vals_of_own hown.out WF.out, hp⟩

set_option maxHeartbeats 2000000 in
theorem copies_any (iv : Value) (us : List Value) (xs : List (List Int)) (W : World) (hi : HasCells W iv us) (hn : AreNums W us xs) (h0 : ∀ j, j < xs.length → 0 < (xs.getD j []).length ∧ (xs.getD j []).length ≤ 100000) (hb : xs.length ≤ 1000) :
    Calls Tryz.prog 17 #[iv] W fun e w' => ∃ v, e = .returned v ∧ OwnRows w' W.heap.size v xs ∧ Past W w' := by
  obtain ⟨B, cb, rfl, b1, b2, _, b5⟩ := hi
  have hm2 : us.length ≤ 9223372036854775807 := by unfold maxLen at b2; omega
  obtain ⟨i0, hi0, hz0, hz1, hz2⟩ := info_parts infoS8
  have B5 := Lib.hid b5
  have HN := Lib.hid hn
  have HL := Lib.hid hn.1
  have H0 := Lib.hid h0
  have I1 := Lib.hid hi0
  have I2 := Lib.hid hz0
  have I3 := Lib.hid hz1
  have I4 := Lib.hid hz2
  have hul : us.length ≤ 1000 := by rw [hn.1]; exact hb
  clear b1 b2 b5 hn h0 hi0 hz0 hz1 hz2
  go_enter Tryz.func17, Tryz.ntmps17
  go_wp2_with fail
  go_loopw [3, 8] (fun v i wr => ∃ (k : Nat) (ws : List Value), k ≤ us.length ∧ i = .int .i64 k ∧ Hid (OwnCells wr W.heap.size v ws) ∧ Hid (AreOwn wr W.heap.size ws (xs.take k)) ∧ ws.length = k ∧ Past W wr) (fun _ i _ => us.length - (intOf i).toNat)
  case atStart => exact ⟨0, [], by omega, rfl, Lib.hid (World.ownsRow_nil _ _ _ _), Lib.hid (AreOwn.nil _ _), rfl, Past.refl _⟩
  case round =>
    obtain ⟨k, ws, hk, rfl, hown, hare, hwl, hp⟩ := hrel
    by_cases h : k < us.length
    · obtain ⟨b, off, rfl, hbb, hc⟩ := B5.out (by omega)
      have c0 := (hp.cell (p := ⟨b, off + k, none⟩) hbb).trans (hc k h)
      have hkx : k < xs.length := by rw [← HL.out]; exact h
      have NU := (HN.out.2 k hkx).grow hp
      have LU := H0.out k hkx
      obtain ⟨u, hu⟩ : ∃ u, us.getD k nilS = u := ⟨_, rfl⟩
      obtain ⟨x, hx0⟩ : ∃ x, xs.getD k [] = x := ⟨_, rfl⟩
      rw [hu] at c0 NU
      rw [hx0] at NU LU
      have CL := Lib.hid (clone8 u x wr NU LU.1 LU.2)
      obtain ⟨Au, cu, rfl, _⟩ := id NU
      have HX : Hid (xs.take (k + 1) = xs.take k ++ [x]) := Lib.hid (by
        rw [List.take_succ_eq_append_getElem hkx]
        congr 1
        rw [← hx0]; simp [List.getD, hkx])
      have i1 : (0 : Int) ≤ (k : Int) := by omega
      clear hc hu hx0 NU LU hkx
      go_wp2_with fail
      refine CL.out.mono ?_
      rintro e w2 ⟨u2, rfl, own2, p2⟩
      obtain ⟨A2, c2, rfl, _⟩ := own_slice' own2
      have OW2 := Lib.hid own2
      have hown2 := Lib.hid (hown.out.past p2)
      have hare2 := Lib.hid (hare.out.past p2)
      have hp2 := hp.trans p2
      have HLT := Lib.hid (World.ownsRow.lt hown2.out)
      have hsz : W.heap.size ≤ wr.heap.size := hp.2.2.1
      clear own2 hown hare p2 c0 CL hp
      go_wp2_with (at_builtin; refine wpList_append_own _ rfl (.tmp 12) (.tmp 15) 30 rfl W.heap.size 27 i0 _ 1 24 Tryz.underlying30 I1.out I2.out I3.out I4.out rfl (by decide) _ _ _ rfl (World.ownsRow.alloc hown2.out _) ⟨w2.heap.size, 0, none⟩ 1 1 [.slice A2 x.length c2] rfl rfl (fun j u hu => cells_new1 w2 _ 27 j u hu) (fun u hu => by simp only [List.mem_singleton] at hu; subst hu; rfl) ?c4 ?c5 ?c6 ?_)
      case c4 => unfold maxLen; omega
      case c5 => omega
      case c6 => have := hp2.2.2.1; simp; omega
      intro v4 w4 hown4 hgrow _
      have hp4 : Past W w4 := (hp2.alloc _).grownBy hgrow (fun j hj => (HLT.out j hj).1)
      have ho4 : Hid (OwnCells w4 W.heap.size v4 (ws ++ [.slice A2 x.length c2])) := Lib.hid (by
        unfold OwnCells
        simp only [List.length_append, List.length_cons, List.length_nil]
        rw [hwl]
        exact hown4)
      have OA : Own8 (w2.alloc (.cells #[.slice A2 x.length c2] 27)) W.heap.size (.slice A2 x.length c2) x := own8_base (World.ownsRow.alloc OW2.out _) hsz
      have ha4 : Hid (AreOwn w4 W.heap.size (ws ++ [.slice A2 x.length c2]) (xs.take (k + 1))) := Lib.hid (by
        rw [HX.out]
        exact (AreOwn.snoc (hare2.out.past ((Past.refl _).alloc _)) OA).grow (World.ownsRow.alloc hown2.out _) hgrow)
      clear hown4 hgrow OA OW2 hown2 hare2 hp2 HX HLT
      go_wp2_with fail
      go_roundw
      case rel => exact ⟨k + 1, ws ++ [.slice A2 x.length c2], by omega, by go_num, ho4, ha4, by simp [hwl], hp4⟩
      case measure => simp [intOf]; omega
    · have e : xs.take k = xs := List.take_of_length_le (by rw [← HL.out]; omega)
      rw [e] at hare
      clear e
      go_wp2_with fail
      go_ret
      exact ⟨_, rfl, ⟨ws, hown.out, hare.out⟩, hp⟩
end Go.Proofs.YtliijchcpooplaaGreat
