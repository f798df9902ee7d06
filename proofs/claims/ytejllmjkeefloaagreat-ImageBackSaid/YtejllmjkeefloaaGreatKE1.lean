/- slices.Equal at four types. quiltlaw04's less: a graph of at most 6 values, 14 nodes, 6 that come out. Rows of bytes: appends of bytes, slices of them; wide, as a table. -/
import Derived.Test.YtejllmjkeefloaaGreatKSh1A
import Derived.Test.YtejllmjkeefloaaGreatKL0
import Derived.Test.YtejllmjkeefloaaGreatKN17
import Derived.Test.YtejllmjkeefloaaGreatKI13
import Derived.Test.YtejllmjkeefloaaGreatKV2
namespace Go.Proofs.YtejllmjkeefloaaGreat
open Go.ChangeShapes Go.WideShapes Go.ChangeAt Go.RowKit
set_option maxRecDepth 20000
set_option linter.unusedVariables false

set_option maxHeartbeats 1000000 in
theorem equal_ints (w : World) (v u : Value) (xs ys : List Int) (t : Bool) (hv : IsNums .i64 w v xs) (hu : IsNums .i64 w u ys) (ht : Hid (t = true ↔ xs = ys)) :
    Calls Tryz.prog 26 #[v, u] w fun e w' => e = .returned (.bool t) ∧ Grown w w' := by
  obtain ⟨A, c1, rfl, a1, a2, a3, a4, a5⟩ := hv
  obtain ⟨B, c2, rfl, b1, b2, b3, b4, b5⟩ := hu
  have hm : maxLen ≤ 9223372036854775807 := by decide
  have hl1 : xs.length ≤ 9223372036854775807 := by omega
  have hl2 : ys.length ≤ 9223372036854775807 := by omega
  clear hm a2 b2
  by_cases hl : xs.length = ys.length
  · have HE := Lib.hid (getD_ext hl)
    have e0 : ((xs.length : Int) == (ys.length : Int)) = true := by simp only [beq_iff_eq]; omega
    have e9 : ((xs.length : Int) != (ys.length : Int)) = false := by simp [bne, e0]
    go_enter Tryz.func26, Tryz.ntmps26
    go_wp2_with fail
    go_loopw [5, 13] (fun _ i wr => ∃ k : Nat, k ≤ xs.length ∧ i = .int .i64 k ∧ Hid (∀ j, j < k → xs.getD j 0 = ys.getD j 0) ∧ Grown w wr) (fun _ i _ => xs.length - (intOf i).toNat)
    case atStart => exact ⟨0, by omega, rfl, Lib.hid (fun j h => by omega), Grown.refl _⟩
    case round =>
      obtain ⟨k, hk, rfl, hx, hg⟩ := hrel
      by_cases l : k < xs.length
      · obtain ⟨p, o, rfl, hp, hc⟩ := a5 (by omega)
        obtain ⟨p', o', rfl, hp', hc'⟩ := b5 (by omega)
        have x1 := (grown_cell hg (p := ⟨p, o + k, none⟩) hp).trans (hc k l)
        have x2 := (grown_cell hg (p := ⟨p', o' + k, none⟩) hp').trans (hc' k (by omega))
        obtain ⟨x, hxx⟩ : ∃ x, xs.getD k 0 = x := ⟨_, rfl⟩
        obtain ⟨y, hyy⟩ : ∃ y, ys.getD k 0 = y := ⟨_, rfl⟩
        rw [hxx] at x1
        rw [hyy] at x2
        have i1 : (0 : Int) ≤ (k : Int) := by omega
        have i2 : (k : Int) < (xs.length : Int) := by omega
        have i3 : (k : Int) < (ys.length : Int) := by omega
        by_cases q : x = y
        · have E : Hid (∀ j, j < k + 1 → xs.getD j 0 = ys.getD j 0) := Lib.hid (fun j h => by
            by_cases c : j = k
            · subst c; rw [hxx, hyy, q]
            · exact hx.out j (by omega))
          clear hc hc' hxx hyy
          subst q
          go_wp2_with fail
          go_region
          go_wp2_with fail
          go_roundw
          case rel => exact ⟨k + 1, by omega, by go_num, E, hg.drew⟩
          case measure => simp [intOf]; omega
        · have T : t = false := by
            cases t with
            | false => rfl
            | true => exact absurd (by rw [← hxx, ← hyy]; exact (HE.out.1 (ht.out.1 rfl)) k l) q
          subst T
          have e1 : (x == y) = false := by simpa using q
          have e2 : (x != y) = true := by simp [bne, e1]
          clear hc hc' hxx hyy
          go_wp2_with fail
          go_region
          go_wp2_with fail
          go_ret
          exact ⟨rfl, hg.drew⟩
      · have T : t = true := ht.out.2 (HE.out.2 (fun j h => hx.out j (by omega)))
        subst T
        go_wp2_with fail
        go_ret
        exact ⟨rfl, hg⟩
  · have T : t = false := by
      cases t with
      | false => rfl
      | true => exact absurd (congrArg List.length (ht.out.1 rfl)) hl
    subst T
    have e0 : ((xs.length : Int) == (ys.length : Int)) = false := by simp only [beq_eq_false_iff_ne, ne_eq]; omega
    have e9 : ((xs.length : Int) != (ys.length : Int)) = true := by simp [bne, e0]
    go_enter Tryz.func26, Tryz.ntmps26
    go_wp2_with fail
    go_ret
    exact ⟨rfl, Grown.refl _⟩
set_option maxHeartbeats 1000000 in
theorem equal_i8 (w : World) (v u : Value) (xs ys : List Int) (t : Bool) (hv : IsNums .i8 w v xs) (hu : IsNums .i8 w u ys) (ht : Hid (t = true ↔ xs = ys)) :
    Calls Tryz.prog 86 #[v, u] w fun e w' => e = .returned (.bool t) ∧ Grown w w' := by
  obtain ⟨A, c1, rfl, a1, a2, a3, a4, a5⟩ := hv
  obtain ⟨B, c2, rfl, b1, b2, b3, b4, b5⟩ := hu
  have hm : maxLen ≤ 9223372036854775807 := by decide
  have hl1 : xs.length ≤ 9223372036854775807 := by omega
  have hl2 : ys.length ≤ 9223372036854775807 := by omega
  clear hm a2 b2
  by_cases hl : xs.length = ys.length
  · have HE := Lib.hid (getD_ext hl)
    have e0 : ((xs.length : Int) == (ys.length : Int)) = true := by simp only [beq_iff_eq]; omega
    have e9 : ((xs.length : Int) != (ys.length : Int)) = false := by simp [bne, e0]
    go_enter Tryz.func86, Tryz.ntmps86
    go_wp2_with fail
    go_loopw [5, 13] (fun _ i wr => ∃ k : Nat, k ≤ xs.length ∧ i = .int .i64 k ∧ Hid (∀ j, j < k → xs.getD j 0 = ys.getD j 0) ∧ Grown w wr) (fun _ i _ => xs.length - (intOf i).toNat)
    case atStart => exact ⟨0, by omega, rfl, Lib.hid (fun j h => by omega), Grown.refl _⟩
    case round =>
      obtain ⟨k, hk, rfl, hx, hg⟩ := hrel
      by_cases l : k < xs.length
      · obtain ⟨p, o, rfl, hp, hc⟩ := a5 (by omega)
        obtain ⟨p', o', rfl, hp', hc'⟩ := b5 (by omega)
        have x1 := (grown_cell hg (p := ⟨p, o + k, none⟩) hp).trans (hc k l)
        have x2 := (grown_cell hg (p := ⟨p', o' + k, none⟩) hp').trans (hc' k (by omega))
        obtain ⟨x, hxx⟩ : ∃ x, xs.getD k 0 = x := ⟨_, rfl⟩
        obtain ⟨y, hyy⟩ : ∃ y, ys.getD k 0 = y := ⟨_, rfl⟩
        rw [hxx] at x1
        rw [hyy] at x2
        have i1 : (0 : Int) ≤ (k : Int) := by omega
        have i2 : (k : Int) < (xs.length : Int) := by omega
        have i3 : (k : Int) < (ys.length : Int) := by omega
        by_cases q : x = y
        · have E : Hid (∀ j, j < k + 1 → xs.getD j 0 = ys.getD j 0) := Lib.hid (fun j h => by
            by_cases c : j = k
            · subst c; rw [hxx, hyy, q]
            · exact hx.out j (by omega))
          clear hc hc' hxx hyy
          subst q
          go_wp2_with fail
          go_region
          go_wp2_with fail
          go_roundw
          case rel => exact ⟨k + 1, by omega, by go_num, E, hg.drew⟩
          case measure => simp [intOf]; omega
        · have T : t = false := by
            cases t with
            | false => rfl
            | true => exact absurd (by rw [← hxx, ← hyy]; exact (HE.out.1 (ht.out.1 rfl)) k l) q
          subst T
          have e1 : (x == y) = false := by simpa using q
          have e2 : (x != y) = true := by simp [bne, e1]
          clear hc hc' hxx hyy
          go_wp2_with fail
          go_region
          go_wp2_with fail
          go_ret
          exact ⟨rfl, hg.drew⟩
      · have T : t = true := ht.out.2 (HE.out.2 (fun j h => hx.out j (by omega)))
        subst T
        go_wp2_with fail
        go_ret
        exact ⟨rfl, hg⟩
  · have T : t = false := by
      cases t with
      | false => rfl
      | true => exact absurd (congrArg List.length (ht.out.1 rfl)) hl
    subst T
    have e0 : ((xs.length : Int) == (ys.length : Int)) = false := by simp only [beq_eq_false_iff_ne, ne_eq]; omega
    have e9 : ((xs.length : Int) != (ys.length : Int)) = true := by simp [bne, e0]
    go_enter Tryz.func86, Tryz.ntmps86
    go_wp2_with fail
    go_ret
    exact ⟨rfl, Grown.refl _⟩
set_option maxHeartbeats 1000000 in
theorem equal_i32 (w : World) (v u : Value) (xs ys : List Int) (t : Bool) (hv : IsNums .i32 w v xs) (hu : IsNums .i32 w u ys) (ht : Hid (t = true ↔ xs = ys)) :
    Calls Tryz.prog 87 #[v, u] w fun e w' => e = .returned (.bool t) ∧ Grown w w' := by
  obtain ⟨A, c1, rfl, a1, a2, a3, a4, a5⟩ := hv
  obtain ⟨B, c2, rfl, b1, b2, b3, b4, b5⟩ := hu
  have hm : maxLen ≤ 9223372036854775807 := by decide
  have hl1 : xs.length ≤ 9223372036854775807 := by omega
  have hl2 : ys.length ≤ 9223372036854775807 := by omega
  clear hm a2 b2
  by_cases hl : xs.length = ys.length
  · have HE := Lib.hid (getD_ext hl)
    have e0 : ((xs.length : Int) == (ys.length : Int)) = true := by simp only [beq_iff_eq]; omega
    have e9 : ((xs.length : Int) != (ys.length : Int)) = false := by simp [bne, e0]
    go_enter Tryz.func87, Tryz.ntmps87
    go_wp2_with fail
    go_loopw [5, 13] (fun _ i wr => ∃ k : Nat, k ≤ xs.length ∧ i = .int .i64 k ∧ Hid (∀ j, j < k → xs.getD j 0 = ys.getD j 0) ∧ Grown w wr) (fun _ i _ => xs.length - (intOf i).toNat)
    case atStart => exact ⟨0, by omega, rfl, Lib.hid (fun j h => by omega), Grown.refl _⟩
    case round =>
      obtain ⟨k, hk, rfl, hx, hg⟩ := hrel
      by_cases l : k < xs.length
      · obtain ⟨p, o, rfl, hp, hc⟩ := a5 (by omega)
        obtain ⟨p', o', rfl, hp', hc'⟩ := b5 (by omega)
        have x1 := (grown_cell hg (p := ⟨p, o + k, none⟩) hp).trans (hc k l)
        have x2 := (grown_cell hg (p := ⟨p', o' + k, none⟩) hp').trans (hc' k (by omega))
        obtain ⟨x, hxx⟩ : ∃ x, xs.getD k 0 = x := ⟨_, rfl⟩
        obtain ⟨y, hyy⟩ : ∃ y, ys.getD k 0 = y := ⟨_, rfl⟩
        rw [hxx] at x1
        rw [hyy] at x2
        have i1 : (0 : Int) ≤ (k : Int) := by omega
        have i2 : (k : Int) < (xs.length : Int) := by omega
        have i3 : (k : Int) < (ys.length : Int) := by omega
        by_cases q : x = y
        · have E : Hid (∀ j, j < k + 1 → xs.getD j 0 = ys.getD j 0) := Lib.hid (fun j h => by
            by_cases c : j = k
            · subst c; rw [hxx, hyy, q]
            · exact hx.out j (by omega))
          clear hc hc' hxx hyy
          subst q
          go_wp2_with fail
          go_region
          go_wp2_with fail
          go_roundw
          case rel => exact ⟨k + 1, by omega, by go_num, E, hg.drew⟩
          case measure => simp [intOf]; omega
        · have T : t = false := by
            cases t with
            | false => rfl
            | true => exact absurd (by rw [← hxx, ← hyy]; exact (HE.out.1 (ht.out.1 rfl)) k l) q
          subst T
          have e1 : (x == y) = false := by simpa using q
          have e2 : (x != y) = true := by simp [bne, e1]
          clear hc hc' hxx hyy
          go_wp2_with fail
          go_region
          go_wp2_with fail
          go_ret
          exact ⟨rfl, hg.drew⟩
      · have T : t = true := ht.out.2 (HE.out.2 (fun j h => hx.out j (by omega)))
        subst T
        go_wp2_with fail
        go_ret
        exact ⟨rfl, hg⟩
  · have T : t = false := by
      cases t with
      | false => rfl
      | true => exact absurd (congrArg List.length (ht.out.1 rfl)) hl
    subst T
    have e0 : ((xs.length : Int) == (ys.length : Int)) = false := by simp only [beq_eq_false_iff_ne, ne_eq]; omega
    have e9 : ((xs.length : Int) != (ys.length : Int)) = true := by simp [bne, e0]
    go_enter Tryz.func87, Tryz.ntmps87
    go_wp2_with fail
    go_ret
    exact ⟨rfl, Grown.refl _⟩
end Go.Proofs.YtejllmjkeefloaaGreat
namespace Go.Proofs.YtejllmjkeefloaaGreat
open Go.ChangeShapes Go.WideShapes Go.ChangeAt Go.RowKit
set_option maxRecDepth 20000
set_option linter.unusedVariables false

def fewD (n : NodeD) : NodeD := { n with ins := n.ins.take 20, ws := n.ws.take 5000, bs := n.bs.take 20 }
def lessD (g : GraphD) : GraphD := { ins := g.ins.take 6, nodes := (g.nodes.take 14).map fewD, outs := g.outs.take 6 }
/-- A slice, or its first m. -/
theorem nums_cut' {k : IntKind} {w : World} {A : Option Addr} {len cap : Nat} {xs : List Int} (m : Nat) (h : IsNums k w (.slice A len cap) xs) : IsNums k w (.slice A (xs.take m).length cap) (xs.take m) := by
  obtain ⟨A', cap', e, h2, h3, h4, h5, h6⟩ := h
  simp only [Value.slice.injEq] at e
  obtain ⟨rfl, rfl, rfl⟩ := e
  have hl : (xs.take m).length ≤ xs.length := by simp; omega
  refine ⟨A, cap, rfl, by omega, h3, h4, fun x hx => h5 x (List.mem_of_mem_take hx), fun hp => ?_⟩
  obtain ⟨b, off, rfl, hb, hc⟩ := h6 (by omega)
  refine ⟨b, off, rfl, hb, fun i hi => ?_⟩
  rw [hc i (by omega)]
  have : i < m := by simp at hi; omega
  simp [List.getD, this]
theorem vals_cut' {w : World} {A : Option Addr} {len cap : Nat} {xs : List ValD} (m : Nat) (h : IsVals w (.slice A len cap) xs) : IsVals w (.slice A (xs.take m).length cap) (xs.take m) := by
  obtain ⟨A', cap', e, h2, h3, h4, h5, h6⟩ := h
  simp only [Value.slice.injEq] at e
  obtain ⟨rfl, rfl, rfl⟩ := e
  have hl : (xs.take m).length ≤ xs.length := by simp; omega
  refine ⟨A, cap, rfl, by omega, h3, h4, fun x hx => h5 x (List.mem_of_mem_take hx), fun hp => ?_⟩
  obtain ⟨b, off, rfl, hb, hc⟩ := h6 (by omega)
  refine ⟨b, off, rfl, hb, fun i hi => ?_⟩
  have hm : i < m := by simp at hi; omega
  have e : (xs.take m).getD i default = xs.getD i default := by simp [List.getD, hm]
  rw [e]
  exact hc i (by omega)
/-- Nodes whose slices stand in what was there. -/
def RowsO (w : World) (l : List NodeD) (xs : List Value) : Prop :=
  ∀ j, j < l.length → ∃ vi vw vb, NodeIn w (l.getD j default) vi vw vb ∧ (xs.drop (j * 14)).take 14 = nodeCells (l.getD j default) vi vw vb
theorem RowsO.more {w : World} {l : List NodeD} {n : NodeD} {xs : List Value} {vi vw vb : Value} (h : RowsO w l xs) (hl : xs.length = l.length * 14) (hn : NodeIn w n vi vw vb) : RowsO w (l ++ [n]) (xs ++ nodeCells n vi vw vb) := by
  intro j hj
  simp only [List.length_append, List.length_cons, List.length_nil] at hj
  by_cases c : j < l.length
  · obtain ⟨a1, a2, a3, k1, k2⟩ := h j c
    have e : (l ++ [n]).getD j default = l.getD j default := by simp [List.getD, List.getElem?_append_left c]
    rw [e]
    refine ⟨a1, a2, a3, k1, ?_⟩
    rw [List.drop_append_of_le_length (by omega), List.take_append_of_le_length (by rw [List.length_drop]; omega)]
    exact k2
  · obtain rfl : j = l.length := by omega
    have e : (l ++ [n]).getD l.length default = n := by simp [List.getD]
    rw [e]
    refine ⟨vi, vw, vb, hn, ?_⟩
    rw [← hl, List.drop_left]
    rfl
theorem nodes_of_rowsO {W w : World} {base : Nat} {v : Value} {ns : List NodeD} {xs : List Value} (ho : w.ownsRow base 63 14 v ns.length xs) (hr : RowsO W ns xs) (g : Past W w) (wf : ∀ n ∈ ns, NodeWf n) : IsNodes w v ns := by
  obtain ⟨hl, h⟩ := ho
  rcases h with ⟨rfl, h0⟩ | ⟨b, cap, cur, rfl, hb, hg, hn, hm, hs, ht⟩
  · have : ns = [] := List.eq_nil_of_length_eq_zero h0
    subst this
    exact ⟨none, 0, rfl, Nat.le_refl _, Nat.zero_le _, fun _ => rfl, by simp, by simp⟩
  · refine ⟨some ⟨b, 0, none⟩, cap, rfl, hn, hm, (fun h => by cases h), wf, fun hp => ⟨b, 0, rfl, (Array.getElem?_eq_some_iff.1 hg).1, fun i hi => ?_⟩⟩
    obtain ⟨vi, vw, vb, h1, h2⟩ := hr i hi
    refine ⟨vi, vw, vb, h1.grow g, fun j hj => ?_⟩
    rw [← h2, List.getElem?_take_of_lt hj, List.getElem?_drop, ← ht, List.getElem?_take_of_lt (by omega)]
    simp [World.cell?, hg]
theorem node_cells_one {w : World} {n : NodeD} {vi vw vb : Value} (h : NodeIn w n vi vw vb) : ∀ u ∈ nodeCells n vi vw vb, u.oneCell' = true := by
  obtain ⟨⟨a, b, rfl, _⟩, ⟨c, d, rfl, _⟩, ⟨e, f, rfl, _⟩⟩ := h
  intro u hu
  simp only [nodeCells, List.mem_cons, List.not_mem_nil, or_false] at hu
  rcases hu with rfl | rfl | rfl | rfl | rfl | rfl | rfl | rfl | rfl | rfl | rfl | rfl | rfl | rfl <;> rfl
theorem own_set_ne {w : World} {base e size n Q o : Nat} {u v : Value} {xs : List Value} (h : w.ownsRow base e size v n xs) (hQ : ∀ j, v.ownBlock = some j → j ≠ Q) : (w.setCell ⟨Q, o, none⟩ u).ownsRow base e size v n xs := by
  refine ⟨h.1, ?_⟩
  rcases h.2 with hn | ⟨b, cap, cur, rfl, hb, hg, rest⟩
  · exact Or.inl hn
  · exact Or.inr ⟨b, cap, cur, rfl, hb, (Below.heap_setCell w ⟨Q, o, none⟩ u b (hQ b rfl)).trans hg, rest⟩
theorem few_take (ns : List NodeD) (k : Nat) (h : k < ns.length) : (ns.take (k + 1)).map fewD = (ns.take k).map fewD ++ [fewD (ns.getD k default)] := by
  rw [List.take_succ_eq_append_getElem h, List.map_append]
  simp [List.getD, h]
theorem free_grownBy' {w w' : World} {row : Option Nat} {b : Nat} (g : w.grownBy w' row) (h : (∀ o : Nat, w.frozen? ⟨b, o, none⟩ = false)) (hb : b < w.heap.size) (hr : some b ≠ row) : (∀ o : Nat, w'.frozen? ⟨b, o, none⟩ = false) :=
  fun o => (World.frozen?_of_block (a := ⟨b, o, none⟩) (g.block b hb hr)).trans (h o)
end Go.Proofs.YtejllmjkeefloaaGreat
namespace Go.Proofs.YtejllmjkeefloaaGreat.Q8
open Go.ChangeShapes Go.WideShapes Go.ChangeAt Go.RowKit
set_option maxRecDepth 20000
set_option linter.unusedVariables false
set_option linter.unusedSimpArgs false

/-- A row of bytes that a call owns. -/
def OwnR (w : World) (base : Nat) (v : Value) (xs : List Int) : Prop := w.ownsRow base 5 1 v xs.length (xs.map (Value.int .u8))
theorem OwnR.past {w w' : World} {base : Nat} {v : Value} {l : List Int} (h : OwnR w base v l) (g : Past w w') : OwnR w' base v l := by
  obtain ⟨hl, h⟩ := h
  refine ⟨hl, ?_⟩
  rcases h with ⟨rfl, h0⟩ | ⟨b, cap, cur, rfl, hb, hg, hn, hm, hs, ht⟩
  · exact .inl ⟨rfl, h0⟩
  · exact .inr ⟨b, cap, cur, rfl, hb, (g.2.2.2 b (Array.getElem?_eq_some_iff.1 hg).1).trans hg, hn, hm, hs, ht⟩
theorem wf_u8_of {l : List Int} (h : bytesP l) : ∀ x ∈ l, (Lit.int .u8 x).wf = true := fun x hx => by
  have := h x hx
  simp [Lit.wf, IntKind.min, IntKind.max, IntKind.bits, IntKind.signed]
  omega
theorem OwnR.nums {w : World} {base : Nat} {v : Value} {l : List Int} (h : OwnR w base v l) (hb : bytesP l) : IsNums .u8 w v l := nums_of_ownI (t := 5) h (wf_u8_of hb)
theorem OwnR.lt {w : World} {base : Nat} {v : Value} {l : List Int} (h : OwnR w base v l) {k : Nat} (hk : v.ownBlock = some k) : base ≤ k := (World.ownsRow.lt h k hk).1
theorem ownR_lit (w : World) : OwnR (w.alloc (.cells #[] 5)) w.heap.size (.slice (some ⟨w.heap.size, 0, none⟩) 0 0) [] := World.ownsRow_lit w #[] 0 (Nat.le_refl _) (by decide) rfl
theorem OwnR.alloc {w : World} {base : Nat} {v : Value} {l : List Int} (h : OwnR w base v l) (x : Obj) : OwnR (w.alloc x) base v l := World.ownsRow.alloc h x
theorem nums_form {w : World} {v : Value} {l : List Int} (h : IsNums .u8 w v l) : ∃ A cap, v = .slice A l.length cap ∧ l.length ≤ cap ∧ cap ≤ maxLen ∧ (A = none → cap = 0) := by
  obtain ⟨A, cap, rfl, h2, h3, h4, _⟩ := h
  exact ⟨A, cap, rfl, h2, h3, h4⟩
theorem nums_cut {w : World} {A : Option Addr} {len cap : Nat} {l : List Int} (m : Nat) (hm : m ≤ l.length) (h : IsNums .u8 w (.slice A len cap) l) : IsNums .u8 w (.slice A m cap) (l.take m) := by
  obtain ⟨A', cap', e, h2, h3, h4, h5, h6⟩ := h
  simp only [Value.slice.injEq] at e
  obtain ⟨rfl, rfl, rfl⟩ := e
  have e1 : (l.take m).length = m := by simp; omega
  refine ⟨A, cap, by rw [e1], by omega, h3, h4, fun x hx => h5 x (List.mem_of_mem_take hx), fun hp => ?_⟩
  rw [e1] at hp
  obtain ⟨b, off, rfl, hb, hc⟩ := h6 (by omega)
  refine ⟨b, off, rfl, hb, fun i hi => ?_⟩
  rw [e1] at hi
  rw [hc i (by omega)]
  simp [List.getD, hi]
theorem nums_new' (w : World) (l : List Int) (hp : 0 < l.length) (hb : bytesP l) (hm : l.length ≤ maxLen) : IsNums .u8 (w.alloc (.cells ⟨l.map (Value.int .u8)⟩ 5)) (.slice (some ⟨w.heap.size, 0, none⟩) l.length l.length) l := nums_new .u8 w 5 l hp hm (wf_u8_of hb)
/-- append of a row of bytes to one that the call owns. -/
theorem wpList_append_b {ops : Array Oper} {Q : Exit → Act → World → Prop} {rest : List Oper} {o : Oper} {a : Act} {w : World} (hgd : o.guard = none) (s x : Operand) (ho : o.op = .call { callee := .builtin .append, args := #[s, x], argTypes := #[22, 22] })
    (base : Nat) (v : Value) (xs : List Int) (hs : a.eval s = v) (hown : OwnR w base v xs) (ys : List Int) (A : Option Addr) (n cap : Nat) (hx : a.eval x = .slice A n cap) (hy : IsNums .u8 w (.slice A n cap) ys) (hm : xs.length + ys.length ≤ 1000000) (hbase : base ≤ w.heap.size)
    (h : ∀ v' w', OwnR w' base v' (xs ++ ys) → w.grownBy w' v.ownBlock → wpList Tryz.prog ops Q rest (a.put o.dst v') w') : wpList Tryz.prog ops Q (o :: rest) a w := by
  obtain ⟨i, hi, hz, hsz, hb⟩ := info_parts info8
  obtain ⟨A', cap', e, h2, h3, h4, h5, h6⟩ := hy
  simp only [Value.slice.injEq] at e
  obtain ⟨rfl, rfl, rfl⟩ := e
  by_cases hp : 0 < ys.length
  · obtain ⟨b, off, rfl, hbl, hc⟩ := h6 hp
    refine wpList_append_own _ hgd s x 22 ho base 5 i _ 1 1 Tryz.underlying22 hi hz hsz hb rfl (by decide) v xs.length (xs.map (Value.int .u8)) hs hown ⟨b, off, none⟩ ys.length cap (ys.map (Value.int .u8)) hx (by simp) (fun j u hu => ?_) (by intro u hu; simp only [List.mem_map] at hu; obtain ⟨z, _, rfl⟩ := hu; rfl) (by unfold maxLen; omega) (by omega) hbase ?_
    · rw [add_plain]
      have hj : j < ys.length := by
        by_cases q : j < ys.length
        · exact q
        · rw [List.getElem?_eq_none (by simpa using q)] at hu; cases hu
      rw [hc j hj]
      rw [← hu]
      simp [List.getD, hj]
    · intro v' w' ow g _
      exact h v' w' (by unfold OwnR; simpa using ow) g
  · have e0 : ys = [] := List.eq_nil_of_length_eq_zero (by omega)
    subst e0
    simp only [List.length_nil] at hx h4
    cases A with
    | none =>
      obtain rfl := h4 rfl
      have hr := run_append_owned_none (P := Tryz.prog) w base 22 o.type 5 i 1 Tryz.underlying22 hi v xs.length (xs.map (Value.int .u8)) hown
      refine wpList_plain hgd fun K hK => ?_
      unfold Oper.wp execOp
      simp only [ho, resolve, invoke, builtin, Sem.run_bind, Sem.run_pure, Result.andThen_ok, List.map_toArray, List.map_cons, List.map_nil, hs, hx, hr]
      exact hK _ _ (h v w (by simpa using hown) (World.grownBy.refl _ _))
    | some ad =>
      refine wpList_append_own _ hgd s x 22 ho base 5 i _ 1 1 Tryz.underlying22 hi hz hsz hb rfl (by decide) v xs.length (xs.map (Value.int .u8)) hs hown ad 0 cap [] hx rfl (fun j u hu => by simp at hu) (by simp) (by unfold maxLen; omega) (by omega) hbase ?_
      intro v' w' ow g _
      exact h v' w' (by unfold OwnR; simpa using ow) g
end Go.Proofs.YtejllmjkeefloaaGreat.Q8
