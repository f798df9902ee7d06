/- eval: All of a graph that may not be; Outs. quiltlaw06: the document's example, which heads all statements. What the laws of layer 6 share. append to an owned row: where the new row lies; rows that lie apart; rows of int32. Nodes in memory, cell by cell; a graph with one node more. Rows of one int; nodes appended, be there any or none; three nodes behind others. -/
import Derived.Test.YtliijchcpooplaaGreatSEc
import Derived.Test.YtliijchcpooplaaGreatSEb
import Derived.Test.YtliijchcpooplaaGreatSEg
import Derived.Test.YtliijchcpooplaaGreatSEl
import Derived.Laws.AppendOwn
import Derived.OwnWalk
import Derived.Test.YtliijchcpooplaaGreatSMKV1
import Derived.Test.YtliijchcpooplaaGreatSMG6B
namespace Go.Proofs.YtliijchcpooplaaGreat
open Go.ChangeShapes Go.WideShapes Go.ChangeAt Go.RowKit
set_option maxRecDepth 20000
set_option linter.unusedVariables false

theorem goE_fits {g : GraphD} (h : valuesE g = 0) (hw : ∀ n ∈ g.nodes, Bytes n.ws) : ∀ (m k : Nat) (ds : List (List Int)), k + m = g.nodes.length → FitsTo (valuesL g) (g.ins.length + k) ds → FitsTo (valuesL g) (g.ins.length + g.nodes.length) (goE (valuesL g) (g.nodes.drop k) ds) := by
  intro m
  induction m with
  | zero =>
    intro k ds hk hd
    obtain rfl : k = g.nodes.length := by omega
    rw [List.drop_length]
    exact hd
  | succ m ih =>
    intro k ds hk hd
    have l : k < g.nodes.length := by omega
    rw [drop_cons _ _ l]
    exact ih (k + 1) _ (by omega) (step_fits h l hd (hw _ (by simp [List.getD, l])))
theorem eval_fits {g : GraphD} (h : valuesE g = 0) (hw : ∀ n ∈ g.nodes, Bytes n.ws) {ins : List (List Int)} (hf : fitsP g.ins ins) (hb : AllBytes ins) : FitsTo (valuesL g) (g.ins.length + g.nodes.length) (evalL g ins) := by
  have := goE_fits h hw g.nodes.length 0 ins (by omega) (ins_fits h hf hb)
  rw [List.drop_zero] at this
  exact this
theorem nums_bytes {w : World} {v : Value} {xs : List Int} (h : IsNums .i8 w v xs) : Bytes xs := by
  intro x hx
  obtain ⟨_, _, _, _, _, _, wf, _⟩ := h
  have := wf x hx
  simp [Lit.wf, IntKind.min, IntKind.max, IntKind.bits, IntKind.signed] at this
  omega
theorem graph_bytes {w : World} {gv : Value} {g : GraphD} (h : IsGraph w gv g) : ∀ n ∈ g.nodes, Bytes n.ws := by
  obtain ⟨_, _, _, _, _, hn, _⟩ := h
  intro n hm
  obtain ⟨A, c, _, _, _, _, _, h5⟩ := hn
  obtain ⟨i, hi, rfl⟩ := List.getElem_of_mem hm
  obtain ⟨b, o, _, _, hc⟩ := h5 (by omega)
  obtain ⟨vi, vw, vb, hin, _⟩ := hc i hi
  have := nums_bytes hin.2.1
  have e : g.nodes.getD i default = g.nodes[i] := by simp [List.getD, hi]
  rwa [e] at this
theorem fits_len {g : GraphD} (h : valuesE g = 0) {k : Nat} {ds : List (List Int)} (hk : k ≤ (valuesL g).length) (hd : FitsTo (valuesL g) k ds) {j : Nat} (hj : j < k) : 0 < (ds.getD j []).length ∧ (ds.getD j []).length ≤ 2048 := by
  have hm := (makes_facts h).2.1 j (by omega)
  have := idx_lt_size hm
  have e := (hd.2 j hj).1
  omega
theorem outs_fits {g : GraphD} (h : valuesE g = 0) {ds : List (List Int)} (hd : FitsTo (valuesL g) (g.ins.length + g.nodes.length) ds) : inP (g.ins.length + g.nodes.length) g.outs ∧ ∀ j, j < g.outs.length → 0 < ((namedR ds g.outs).getD j []).length ∧ ((namedR ds g.outs).getD j []).length ≤ 100000 := by
  have hl := (makes_facts h).1
  have ho := (values_ok h).2.2.2
  have hi : inP (g.ins.length + g.nodes.length) g.outs := fun j hj => by have := ho j hj; rw [hl] at this; exact this
  refine ⟨hi, fun j hj => ?_⟩
  rw [namedR_get hj]
  have := hi j hj
  have := fits_len h (by omega) hd (j := (g.outs.getD j 0).toNat) (by omega)
  omega
set_option maxHeartbeats 4000000 in
theorem eouts_ok (g : GraphD) (gv iv : Value) (us : List Value) (ins : List (List Int)) (W : World) (hg : IsGraph W gv g) (hc : Cut g) (hi : HasCells W iv us) (hn : AreNums W us ins) (h0 : valuesE g = 0) (hf : fitsP g.ins ins) :
    Calls Tryz.prog 9 #[gv, iv] W fun e w' => ∃ v, e = .returned (.tuple #[v, .int .i64 0]) ∧ OwnRows w' W.heap.size v (namedR (evalL g ins) g.outs) ∧ Past W w' := by
  have HG := Lib.hid hg
  have FT := Lib.hid (eval_fits h0 (graph_bytes hg) hf hn.bytes)
  obtain ⟨nv1, nv2, nv3, rfl, hi1, hn1, ho1⟩ := hg
  obtain ⟨A1, c1, rfl, _⟩ := hi1
  obtain ⟨A2, c2, rfl, _⟩ := hn1
  have HO := Lib.hid ho1
  obtain ⟨A3, c3, rfl, _⟩ := ho1
  have HC := Lib.hid hc
  have OF := Lib.hid (outs_fits h0 FT.out)
  have AL := Lib.hid (fun w (p : Past W w) => eall_ok g _ iv us ins w (HG.out.grow p) hc (hi.grow p) (hn.grow p) h0 hf)
  have e1 : ((0 : Int) != 0) = false := by decide
  clear hi hn h0 hf hc
  go_enter Tryz.func9, Tryz.ntmps9
  go_upto_region 1 with fail
  refine opq (fun w' => (Bx w' (W.heap.size) #[.slice A1 g.ins.length c1, .slice A2 g.nodes.length c2, .slice A3 g.outs.length c3]) ∧ Past W w' ∧ W.heap.size + 1 ≤ w'.heap.size) kKeep ?_
  rintro w1 ⟨b1, p1, z1⟩
  go_wp2_with fail
  refine (AL.out _ p1).mono ?_
  rintro e w2 ⟨v, rfl, ⟨ws, oc, oa⟩, p2⟩
  have q2 := p1.trans p2
  have b2 := box_past p2 b1 (by omega)
  have AN := Lib.hid (oa.nums FT.out.bytes)
  have HWL : ws.length = g.ins.length + g.nodes.length := oa.1.trans FT.out.1
  have INP : inP ws.length g.outs := by rw [HWL]; exact OF.out.1
  have N8 := Lib.hid (named8_any v _ ws g.outs w2 oc.has AN.out.slices (HO.out.grow q2) INP HC.out.1)
  have NU := Lib.hid (namedU_nums AN.out INP)
  obtain ⟨Av, cv, rfl, _⟩ := own_slice' oc
  clear b1 p1 z1 p2 oc oa INP HWL
  go_wp2_with fail
  refine N8.out.mono ?_
  rintro e w3 ⟨v3, rfl, oc3, p3⟩
  have q3 := q2.trans p3
  have NU3 := Lib.hid (NU.out.grow p3)
  have CP := Lib.hid (copies_any v3 _ _ w3 oc3.has NU3.out (fun j hj => OF.out.2 j (by rw [namedR_len] at hj; exact hj)) (by rw [namedR_len]; exact HC.out.1))
  obtain ⟨Av3, cv3, rfl, _⟩ := own_slice' oc3
  clear b2 oc3 p3 N8 NU
  go_wp2_with fail
  refine CP.out.mono ?_
  rintro e w4 ⟨v4, rfl, o4, p4⟩
  have O4 := Lib.hid (o4.more q3.2.2.1)
  have q4 := q3.trans p4
  clear o4 p4 NU3 CP
  go_wp2_with fail
  go_ret2
  exact ⟨_, rfl, O4.out, q4⟩
end Go.Proofs.YtliijchcpooplaaGreat
namespace Go.Proofs.YtliijchcpooplaaGreat
open Go.ChangeShapes Go.WideShapes Go.ChangeAt Go.RowKit
set_option maxRecDepth 20000
set_option linter.unusedVariables false

def gK : GraphD := ⟨[⟨1, 1, 1, 0⟩], [], [0, 0]⟩
theorem gK_ok : valuesE gK = 0 ∧ valuesL gK = gK.ins := by
  refine values_mk (begins_mk (by decide) (fun j hj => ?_) (fun j hj => ?_)) rfl (by decide) (fun j hj => ?_)
  · obtain rfl : j = 0 := by have : j < 1 := hj; omega
    show mayS 1 1 1
    unfold mayS; omega
  · obtain rfl : j = 0 := by have : j < 1 := hj; omega
    decide
  · have : j < 2 := hj
    rcases (show j = 0 ∨ j = 1 by omega) with rfl | rfl <;> decide
theorem gK_cut : Cut gK := ⟨by decide, fun n hn => by cases hn⟩
theorem gK_fits : fitsP gK.ins [[7]] := by
  refine ⟨rfl, fun j hj => ?_⟩
  obtain rfl : j = 0 := by have : j < 1 := hj; omega
  show (1 : Int) = sizeI 1 1 1
  unfold sizeI mayS
  rw [if_pos (by omega)]
  rfl
theorem nodes_nil (w : World) : IsNodes w (.slice none 0 0) [] := ⟨none, 0, rfl, Nat.le_refl _, Nat.zero_le _, fun _ => rfl, by simp, by simp⟩
theorem nums_lit {k : IntKind} {w : World} {b : Nat} (xs : List Int) (hw : ∀ x ∈ xs, (Lit.int k x).wf = true) (hm : xs.length ≤ maxLen) (h0 : 0 < xs.length) (h : ∀ i : Nat, w.cell? ⟨b, i, none⟩ = (xs.map (Value.int k))[i]?) : IsNums k w (.slice (some ⟨b, 0, none⟩) xs.length xs.length) xs := by
  have c0 := h 0
  rw [List.getElem?_eq_getElem (by simpa using h0)] at c0
  refine ⟨_, _, rfl, Nat.le_refl _, hm, (fun h => by cases h), hw, fun _ => ⟨b, 0, rfl, cell_lt c0, fun i hi => ?_⟩⟩
  rw [Nat.zero_add, h i]
  simp [List.getD, hi]
theorem rows_two {w : World} {v : Value} {x y : Int} (h : IsRows w v [[x], [y]]) : ∃ b o cap b0 o0 c0 b1 o1 c1, v = .slice (some ⟨b, o, none⟩) 2 cap ∧ w.cell? ⟨b, o, none⟩ = some (.slice (some ⟨b0, o0, none⟩) 1 c0) ∧ w.cell? ⟨b, o + 1, none⟩ = some (.slice (some ⟨b1, o1, none⟩) 1 c1) ∧ w.cell? ⟨b0, o0, none⟩ = some (.int .i8 x) ∧ w.cell? ⟨b1, o1, none⟩ = some (.int .i8 y) := by
  obtain ⟨us, ⟨A, cap, rfl, _, _, _, h5⟩, hl, hn⟩ := h
  have l2 : us.length = 2 := hl
  obtain ⟨u0, u1, rfl⟩ := slc_two l2
  obtain ⟨b, o, rfl, hb, hc⟩ := h5 (by simp)
  have e0 := hc 0 (by simp)
  have e1 := hc 1 (by simp)
  have n0 := hn 0 (by simp)
  have n1 := hn 1 (by simp)
  simp only [List.getD_cons_zero, List.getD_cons_succ, Nat.add_zero] at e0 e1 n0 n1
  obtain ⟨A0, c0, rfl, _, _, _, _, k0⟩ := n0
  obtain ⟨A1, c1, rfl, _, _, _, _, k1⟩ := n1
  obtain ⟨b0, o0, rfl, _, q0⟩ := k0 (by simp)
  obtain ⟨b1, o1, rfl, _, q1⟩ := k1 (by simp)
  exact ⟨b, o, cap, b0, o0, c0, b1, o1, c1, rfl, e0, e1, q0 0 (by simp), q1 0 (by simp)⟩
theorem gK_outs : namedR (evalL gK [[7]]) gK.outs = [[7], [7]] := rfl
set_option maxHeartbeats 4000000 in
theorem shown6 (W : World) : Calls Tryz.prog 6 #[] W fun e w' => e = .returned (.bool true) ∧ Past W w' := by
  go_enter Tryz.func6, Tryz.ntmps6
  go_upto_region 2 with fail
  refine opq (fun w' => (Bx w' (W.heap.size) #[.int .i64 1, .int .i64 1, .int .i64 1, .int .i64 0]) ∧ (Bx w' (W.heap.size + 1) #[.int .i64 0, .int .i64 0]) ∧ (Bx w' (W.heap.size + 1 + 1) #[.slice (some ⟨W.heap.size, 0, none⟩) 1 1, .slice none 0 0, .slice (some ⟨W.heap.size + 1, 0, none⟩) 2 2]) ∧ Past W w' ∧ W.heap.size + 3 ≤ w'.heap.size) kKeep ?_
  rintro w1 ⟨b1, b2, b3, p1, z1⟩
  have HGK : Hid (∀ w, Past w1 w → IsGraph w (.agg #[.slice (some ⟨W.heap.size, 0, none⟩) 1 1, .slice none 0 0, .slice (some ⟨W.heap.size + 1, 0, none⟩) 2 2]) gK) := Lib.hid (fun w p => by
    have c1 := box_past p b1 (by omega)
    have c2 := box_past p b2 (by omega)
    have hs : W.heap.size + 3 ≤ w.heap.size := by have := p.2.2.1; omega
    exact ⟨_, _, _, rfl, vals_one (x := ⟨1, 1, 1, 0⟩) (by omega) (by unfold ValWf; decide) ⟨c1 0, c1 1, c1 2, c1 3⟩, nodes_nil _, nums_lit [0, 0] (by decide) (by decide) (by decide) (fun i => (c2 i).trans (by simp))⟩)
  have HRK : Hid (∀ (w : World) (B : Nat), (Bx w B #[.int .i8 7]) → (Bx w (B + 1) #[.slice (some ⟨B, 0, none⟩) 1 1]) → HasCells w (.slice (some ⟨B + 1, 0, none⟩) 1 1) [.slice (some ⟨B, 0, none⟩) 1 1] ∧ AreNums w [.slice (some ⟨B, 0, none⟩) 1 1] [[7]]) := Lib.hid (fun w B c1 c2 => by
    refine ⟨⟨_, _, rfl, Nat.le_refl _, by decide, (fun h => by cases h), fun _ => ⟨B + 1, 0, rfl, cell_lt (c2 0), fun i hi => ?_⟩⟩, rfl, fun i hi => ?_⟩
    · have : i < 1 := hi
      obtain rfl : i = 0 := by omega
      exact c2 0
    · have : i < 1 := hi
      obtain rfl : i = 0 := by omega
      exact nums_lit [7] (by decide) (by decide) (by decide) (fun i => (c1 i).trans (by simp)))
  clear b1 b2
  go_wp2_with fail
  refine (eouts_ok gK _ _ [.slice (some ⟨w1.heap.size, 0, none⟩) 1 1] [[7]] _ (HGK.out _ ?p1) gK_cut (HRK.out _ _ ?p2 ?p3).1 (HRK.out _ _ ?p2 ?p3).2 gK_ok.1 gK_fits).mono ?_
  case p1 => (exact kKeep)
  case p2 => (exact kKeep)
  case p3 => (exact kKeep)
  rintro e w3 ⟨v, rfl, ho, p3⟩
  rw [gK_outs] at ho
  have hr := ho.is (fun i hi x hx => by
    have : i < 2 := hi
    rcases (show i = 0 ∨ i = 1 by omega) with rfl | rfl <;> · simp at hx; omega)
  obtain ⟨b, o, cap, d0, o0, c0, d1, o1, c1, rfl, e0, e1, q0, q1⟩ := rows_two hr
  have pF : Past W w3 := p1.trans (Past.trans kKeep p3)
  clear ho hr p3 b3 p1
  go_wp2_with fail
  go_ret
  exact ⟨rfl, pF⟩
end Go.Proofs.YtliijchcpooplaaGreat
namespace Go.Proofs.YtliijchcpooplaaGreat
open Go.ChangeShapes Go.WideShapes Go.ChangeAt Go.RowKit
set_option maxRecDepth 20000
set_option linter.unusedVariables false

/-- A block that holds no number. -/
def NoInt (w : World) (B : Nat) : Prop := ∀ o k n, w.cell? ⟨B, o, none⟩ ≠ some (.int k n)
theorem noInt_box {w : World} {B : Nat} {a1 a2 a3 : Option Addr} {l1 l2 l3 c1 c2 c3 : Nat} (h : (Bx w B #[.slice a1 l1 c1, .slice a2 l2 c2, .slice a3 l3 c3])) : NoInt w B := by
  intro o k n
  rw [h o]
  match o with
  | 0 => simp
  | 1 => simp
  | 2 => simp
  | o + 3 => simp
/-- All but block B is as it was. -/
def Save (B : Nat) (w w' : World) : Prop := w.heap.size ≤ w'.heap.size ∧ ∀ k, k < w.heap.size → k ≠ B → w'.heap[k]? = w.heap[k]?
theorem Save.refl (B : Nat) (w : World) : Save B w w := ⟨Nat.le_refl _, fun _ _ _ => rfl⟩
theorem Save.set {B : Nat} {w w' : World} (h : Save B w w') (o : Nat) (u : Value) : Save B w (w'.setCell ⟨B, o, none⟩ u) :=
  ⟨by simpa [World.setCell] using h.1, fun k hk hne => (Below.heap_setCell w' ⟨B, o, none⟩ u k hne).trans (h.2 k hk hne)⟩
theorem Save.cell {B : Nat} {w w' : World} (h : Save B w w') {b o : Nat} (hb : b < w.heap.size) (hne : b ≠ B) : w'.cell? ⟨b, o, none⟩ = w.cell? ⟨b, o, none⟩ := World.cell?_of_block (h.2 b hb hne)
theorem nums_save {k : IntKind} {B : Nat} {w w' : World} {v : Value} {xs : List Int} (h : IsNums k w v xs) (hN : NoInt w B) (g : Save B w w') : IsNums k w' v xs := by
  obtain ⟨A, cap, h1, h2, h3, h4, h5, h6⟩ := h
  refine ⟨A, cap, h1, h2, h3, h4, h5, fun hp => ?_⟩
  obtain ⟨b, off, e, hb, hc⟩ := h6 hp
  have hne : b ≠ B := fun e => hN _ _ _ (e ▸ hc 0 hp)
  exact ⟨b, off, e, Nat.lt_of_lt_of_le hb g.1, fun i hi => (g.cell hb hne).trans (hc i hi)⟩
theorem vals_save {B : Nat} {w w' : World} {v : Value} {xs : List ValD} (h : IsVals w v xs) (hN : NoInt w B) (g : Save B w w') : IsVals w' v xs := by
  obtain ⟨A, cap, h1, h2, h3, h4, h5, h6⟩ := h
  refine ⟨A, cap, h1, h2, h3, h4, h5, fun hp => ?_⟩
  obtain ⟨b, off, e, hb, hc⟩ := h6 hp
  have hne : b ≠ B := fun e => hN _ _ _ (e ▸ (hc 0 hp).1)
  exact ⟨b, off, e, Nat.lt_of_lt_of_le hb g.1, fun i hi => ⟨(g.cell hb hne).trans (hc i hi).1, (g.cell hb hne).trans (hc i hi).2.1, (g.cell hb hne).trans (hc i hi).2.2.1, (g.cell hb hne).trans (hc i hi).2.2.2⟩⟩
theorem nodes_save {B : Nat} {w w' : World} {v : Value} {ns : List NodeD} (h : IsNodes w v ns) (hN : NoInt w B) (g : Save B w w') : IsNodes w' v ns := by
  obtain ⟨A, cap, h1, h2, h3, h4, h5, h6⟩ := h
  refine ⟨A, cap, h1, h2, h3, h4, h5, fun hp => ?_⟩
  obtain ⟨b, off, e, hb, hc⟩ := h6 hp
  have hne : b ≠ B := fun e => by
    obtain ⟨vi, vw, vb, _, k⟩ := hc 0 hp
    exact hN _ _ _ (e ▸ k 0 (by omega))
  refine ⟨b, off, e, Nat.lt_of_lt_of_le hb g.1, fun i hi => ?_⟩
  obtain ⟨vi, vw, vb, hin, k⟩ := hc i hi
  exact ⟨vi, vw, vb, ⟨nums_save hin.1 hN g, nums_save hin.2.1 hN g, nums_save hin.2.2 hN g⟩, fun j hj => (g.cell hb hne).trans (k j hj)⟩
theorem cut_lessD (g : GraphD) : Cut (lessD g) := by
  refine ⟨by simp [lessD]; omega, fun n hn => ?_⟩
  simp only [lessD, List.mem_map] at hn
  obtain ⟨m, _, rfl⟩ := hn
  constructor
  · simp [fewD]; omega
  · simp [fewD]; omega
/-! ### What stands behind a node changes nothing ahead of it. -/
theorem namedR_app {l r : List (List Int)} {ns : List Int} (h : inP l.length ns) : namedR (l ++ r) ns = namedR l ns := by
  unfold namedR
  refine List.map_congr_left fun i hi => ?_
  obtain ⟨j, hj, rfl⟩ := List.getElem_of_mem hi
  have := h j hj
  have e : ns.getD j 0 = ns[j] := by simp [List.getD, hj]
  rw [e] at this
  simp [List.getD, List.getElem?_append_left (show ns[j].toNat < l.length by omega)]
theorem goE_len (V : List ValD) (ns : List NodeD) : ∀ ds, (goE V ns ds).length = ds.length + ns.length := by
  induction ns with
  | nil => intro ds; rfl
  | cons n ns ih => intro ds; simp only [goE]; rw [ih]; simp; omega
theorem goE_pre (V : List ValD) (ns : List NodeD) : ∀ ds, ∃ m, goE V ns ds = ds ++ m := by
  induction ns with
  | nil => intro ds; exact ⟨[], by simp [goE]⟩
  | cons n ns ih =>
    intro ds
    obtain ⟨m, hm⟩ := ih (ds ++ [kernL n (namedL V n.ins) (namedR ds n.ins)])
    exact ⟨_, by simp only [goE]; rw [hm, List.append_assoc]⟩
theorem goE_at (V : List ValD) (ns : List NodeD) : ∀ (ds : List (List Int)) (k : Nat), k < ns.length → inP (ds.length + k) (ns.getD k default).ins →
    (goE V ns ds).getD (ds.length + k) [] = kernL (ns.getD k default) (namedL V (ns.getD k default).ins) (namedR (goE V ns ds) (ns.getD k default).ins) := by
  induction ns with
  | nil => intro ds k hk; simp at hk
  | cons n ns ih =>
    intro ds k hk hp
    simp only [goE]
    cases k with
    | zero =>
      simp only [List.getD_cons_zero, Nat.add_zero] at hp ⊢
      obtain ⟨m, hm⟩ := goE_pre V ns (ds ++ [kernL n (namedL V n.ins) (namedR ds n.ins)])
      rw [hm, List.append_assoc, namedR_app hp]
      simp [List.getD]
    | succ k =>
      simp only [List.getD_cons_succ] at hp ⊢
      have := ih (ds ++ [kernL n (namedL V n.ins) (namedR ds n.ins)]) k (by simpa using hk) (by
        simp only [List.length_append, List.length_cons, List.length_nil]
        rw [show ds.length + (0 + 1) + k = ds.length + (k + 1) by omega]
        exact hp)
      simp only [List.length_append, List.length_cons, List.length_nil] at this
      rw [show ds.length + (0 + 1) + k = ds.length + (k + 1) by omega] at this
      exact this
theorem eval_at {g : GraphD} (h : valuesE g = 0) {k : Nat} (hk : k < g.nodes.length) {ins : List (List Int)} (hl : ins.length = g.ins.length) :
    (evalL g ins).getD (g.ins.length + k) [] = kernL (g.nodes.getD k default) (namedL (valuesL g) (g.nodes.getD k default).ins) (namedR (evalL g ins) (g.nodes.getD k default).ins) := by
  have := goE_at (valuesL g) g.nodes ins k hk (fun j hj => by
    rw [hl]
    exact node_at (node_ok h hk) hk (makes_facts h).1 hj)
  rw [hl] at this
  exact this
theorem evalL_len (g : GraphD) {ins : List (List Int)} (hl : ins.length = g.ins.length) : (evalL g ins).length = g.ins.length + g.nodes.length := by unfold evalL; rw [goE_len, hl]
section
variable {H : Type} {enc : TypeId × Value → H} {W : World}
theorem cells40 : Tryz.prog.cellsOf 26 = 3 := by kernel_rfl
theorem cells38 : Tryz.prog.cellsOf 23 = 1 := by kernel_rfl
theorem open_nodes {fuel : Nat} {v : Value} {x : DataW H × List MemPlace} (h : DataW.trod enc Tryz.prog W 0 (fun _ => true) true fuel 23 [v] = some x) : ∃ ns, IsNodes W v ns := by
  obtain ⟨A, len, cap, rfl, hl, hm, hn, hp⟩ := open_rows Tryz.underlying23 cells28 (by omega) h
  by_cases c : 0 < len
  · obtain ⟨b, off, rfl, hb, hx⟩ := hp c
    have each : ∀ i, i < len → ∃ n : NodeD, NodeAt W b (off + i * 14) n ∧ NodeWf n := by
      intro i hi
      obtain ⟨cs, m, y, l, q, hy⟩ := hx i hi
      obtain ⟨d, vi, vw, vb, rfl, hin, wd⟩ := open_node hy
      exact ⟨d, ⟨vi, vw, vb, hin, q⟩, wd⟩
    obtain ⟨ns, hxl, hxs⟩ := choose_below len each
    refine ⟨ns, some ⟨b, off, none⟩, cap, by rw [hxl], by omega, hm, (fun h => by cases h), fun y hy => ?_, fun _ => ⟨b, off, rfl, hb, fun i hi => (hxs i (by omega)).1⟩⟩
    obtain ⟨i, hi, rfl⟩ := List.getElem_of_mem hy
    have := (hxs i (by omega)).2
    simpa [List.getD, List.getElem?_eq_getElem hi] using this
  · obtain rfl : len = 0 := by omega
    exact ⟨[], A, cap, rfl, hl, hm, hn, by simp, by simp⟩
theorem open_graph {r : Reach} {b0 : Nat} {v : Value} {d : DataW H} {p : List MemPlace} (hv : Value.okWide Tryz.prog W r b0 26 v) (h : DataW.Trod enc Tryz.prog W 0 (fun _ => true) true 26 v d p) : ∃ g, IsGraph W v g := by
  obtain ⟨cs, rfl, hsz⟩ := okWide_struct Tryz.underlying26 hv
  rw [cells40] at hsz
  obtain ⟨l⟩ := cs
  obtain ⟨a, b, c, rfl⟩ := three hsz
  obtain ⟨fuel, hf⟩ := h
  have hf' : DataW.trod enc Tryz.prog W 0 (fun _ => true) true fuel 26 [a, b, c] = some (d, p) := hf
  obtain ⟨_, y0, h0⟩ := field Tryz.underlying26 hf' 0 _ rfl
  obtain ⟨_, y1, h1⟩ := field Tryz.underlying26 hf' 1 _ rfl
  simp [cells29] at h0
  simp [cells38] at h1
  obtain ⟨ins, hi⟩ := open_vals h0
  obtain ⟨nodes, hn⟩ := open_nodes h1
  obtain ⟨outs, ho⟩ := field_nums Tryz.underlying26 hf' 2 _ rfl rfl Tryz.underlying24 Tryz.underlying3 cells22 cells3 (c := c) rfl
  exact ⟨⟨ins, nodes, outs⟩, a, b, c, rfl, hi, hn, ho⟩
end
theorem open_i8 {H : Type} {enc : TypeId × Value → H} {W : World} {r : Reach} {b0 : Nat} {v : Value} {d : DataW H} {p : List MemPlace} (hv : Value.okWide Tryz.prog W r b0 27 v) (h : DataW.Trod enc Tryz.prog W 0 (fun _ => true) true 27 v d p) : ∃ xs, IsNums .i8 W v xs := by
  obtain ⟨a, l, c, rfl⟩ := okWide_slice Tryz.underlying27 hv
  obtain ⟨fuel, hf⟩ := h
  exact open_nums (k := .i8) Tryz.underlying27 Tryz.underlying35 cellsI8 hf
theorem HasCells.form {w : World} {v : Value} {us : List Value} (h : HasCells w v us) (h0 : 0 < us.length) : ∃ b off cap, v = .slice (some ⟨b, off, none⟩) us.length cap ∧ us.length ≤ cap ∧ cap ≤ maxLen ∧ b < w.heap.size ∧ ∀ i, i < us.length → w.cell? ⟨b, off + i, none⟩ = some (us.getD i nilS) := by
  obtain ⟨A, cap, e, h1, h2, _, h6⟩ := h
  obtain ⟨b, off, rfl, hb, hc⟩ := h6 h0
  exact ⟨b, off, cap, e, h1, h2, hb, hc⟩
end Go.Proofs.YtliijchcpooplaaGreat
namespace Go.Proofs.YtliijchcpooplaaGreat
open Go.ChangeShapes Go.WideShapes Go.ChangeAt Go.RowKit
set_option maxRecDepth 20000
set_option linter.unusedVariables false

/-- Behind an append the row lies where it lay, or in a new block. -/
theorem run_append_apart {P : Program} (w : World) (base : Nat) (t ty e : TypeId) (i : TypeInfo) (z : Value) (size bytes : Nat) (ht : P.underlying t = some (.slice e)) (hi : P.info? e = some i) (hz : i.zero = some z)
    (hsize : i.size = size) (hby : i.bytes = bytes) (hzs : z.cells.size = size) (hsz : 0 < size)
    (v : Value) (n : Nat) (xs : List Value) (hown : w.ownsRow base e size v n xs)
    (a : Addr) (m c : Nat) (news : List Value) (hl : news.length = m * size) (hnews : ∀ j u, news[j]? = some u → w.cell? (a.add j) = some u) (h1 : ∀ u ∈ news, u.oneCell' = true)
    (h63 : n + m ≤ maxLen) (hbytes : (n + m) * bytes ≤ 140737488355328) (hbase : base ≤ w.heap.size) (hm : 0 < m) :
    ∃ v' w', (Builtin.append_ #[t, t] ty #[v, .slice (some a) m c]).run P w = .ok v' w' ∧ w'.ownsRow base e size v' (n + m) (xs ++ news) ∧ w.grownBy w' v.ownBlock ∧
      (v'.ownBlock = v.ownBlock ∨ v'.ownBlock = some w.heap.size) := by
  obtain ⟨v', w', hr, h2, h3, _⟩ := run_append_own (P := P) w base t ty e i z size bytes ht hi hz hsize hby hzs hsz v n xs hown a m c news hl hnews h1 h63 hbytes hbase
  refine ⟨v', w', hr, h2, h3, ?_⟩
  subst hsize
  subst hby
  have hsmall : n + m ≤ 9223372036854775807 := by simp only [maxLen] at h63; omega
  rcases hown.2 with ⟨rfl, rfl⟩ | ⟨g, cap, cur, rfl, hbg, hg, hnc, hcm, hcs, htake⟩
  · have hr2 := run_append_nil (P := P) w t ty e i z ht hi hz a m c news hl hnews hm (by omega) (by have hb := hbytes; simp only [Nat.zero_add] at hb; omega)
    rw [hr2] at hr
    injection hr with e1 e2
    subst e1
    exact .inr rfl
  · by_cases hroom : n + m ≤ cap
    · have hfit : n * i.size + news.length ≤ cur.size := by rw [hl, hcs, ← Nat.add_mul]; exact Nat.mul_le_mul_right _ hroom
      have hr2 := run_append_room (P := P) w t ty e i ht hi g n cap cur hg a m c news hl hnews h1 hroom hfit
      rw [hr2] at hr
      injection hr with e1 e2
      subst e1
      exact .inl rfl
    · have holds : ∀ j u, xs[j]? = some u → w.cell? ((⟨g, 0, none⟩ : Addr).add j) = some u := hown.cells (g := g) rfl
      have hr2 := run_append_grow (P := P) w t ty e i z ht hi hz ⟨g, 0, none⟩ n cap xs hown.1 holds a m c news hl hnews (by omega) (by omega) (growslice_fits (by omega) hbytes)
      rw [hr2] at hr
      injection hr with e1 e2
      subst e1
      exact .inr rfl
theorem wp_append_apart {P : Program} (w : World) {o : Oper} {a : Act} {K : Act → World → Prop} {Q : Exit → Act → World → Prop} (s x : Operand) (t : TypeId)
    (ho : o.op = .call { callee := .builtin .append, args := #[s, x], argTypes := #[t, t] })
    (base : Nat) (e : TypeId) (i : TypeInfo) (z : Value) (size bytes : Nat) (ht : P.underlying t = some (.slice e)) (hi : P.info? e = some i) (hz : i.zero = some z)
    (hsize : i.size = size) (hby : i.bytes = bytes) (hzs : z.cells.size = size) (hsz : 0 < size)
    (v : Value) (n : Nat) (xs : List Value) (hs : a.eval s = v) (hown : w.ownsRow base e size v n xs)
    (ad : Addr) (m c : Nat) (news : List Value) (hx : a.eval x = .slice (some ad) m c) (hl : news.length = m * size) (hnews : ∀ j u, news[j]? = some u → w.cell? (ad.add j) = some u) (h1 : ∀ u ∈ news, u.oneCell' = true)
    (h63 : n + m ≤ maxLen) (hbytes : (n + m) * bytes ≤ 140737488355328) (hbase : base ≤ w.heap.size) (hm : 0 < m)
    (h : ∀ v' w', w'.ownsRow base e size v' (n + m) (xs ++ news) → w.grownBy w' v.ownBlock → (v'.ownBlock = v.ownBlock ∨ v'.ownBlock = some w.heap.size) → K (a.put o.dst v') w') : o.wp P a w K Q := by
  obtain ⟨v', w', hr, h2, h3, h4⟩ := run_append_apart (P := P) w base t o.type e i z size bytes ht hi hz hsize hby hzs hsz v n xs hown ad m c news hl hnews h1 h63 hbytes hbase hm
  unfold Oper.wp execOp
  simp only [ho, resolve, invoke, builtin, Sem.run_bind, Sem.run_pure, Result.andThen_ok, List.map_toArray, List.map_cons, List.map_nil, hs, hx, hr]
  exact h v' w' h2 h3 h4
theorem wpList_append_apart {P : Program} (w : World) {ops : Array Oper} {rest : List Oper} {o : Oper} {a : Act} {Q : Exit → Act → World → Prop} (hgd : o.guard = none) (s x : Operand) (t : TypeId)
    (ho : o.op = .call { callee := .builtin .append, args := #[s, x], argTypes := #[t, t] })
    (base : Nat) (e : TypeId) (i : TypeInfo) (z : Value) (size bytes : Nat) (ht : P.underlying t = some (.slice e)) (hi : P.info? e = some i) (hz : i.zero = some z)
    (hsize : i.size = size) (hby : i.bytes = bytes) (hzs : z.cells.size = size) (hsz : 0 < size)
    (v : Value) (n : Nat) (xs : List Value) (hs : a.eval s = v) (hown : w.ownsRow base e size v n xs)
    (ad : Addr) (m c : Nat) (news : List Value) (hx : a.eval x = .slice (some ad) m c) (hl : news.length = m * size) (hnews : ∀ j u, news[j]? = some u → w.cell? (ad.add j) = some u) (h1 : ∀ u ∈ news, u.oneCell' = true)
    (h63 : n + m ≤ maxLen) (hbytes : (n + m) * bytes ≤ 140737488355328) (hbase : base ≤ w.heap.size) (hm : 0 < m)
    (h : ∀ v' w', w'.ownsRow base e size v' (n + m) (xs ++ news) → w.grownBy w' v.ownBlock → (v'.ownBlock = v.ownBlock ∨ v'.ownBlock = some w.heap.size) → wpList P ops Q rest (a.put o.dst v') w') : wpList P ops Q (o :: rest) a w :=
  wpList_plain hgd fun _ hK => wp_append_apart w s x t ho base e i z size bytes ht hi hz hsize hby hzs hsz v n xs hs hown ad m c news hx hl hnews h1 h63 hbytes hbase hm fun v' w' h2 h3 h4 => hK _ _ (h v' w' h2 h3 h4)
/-- Two rows that lie apart. -/
def Apart (u v : Value) : Prop := ∀ k, u.ownBlock = some k → v.ownBlock ≠ some k
theorem Apart.turn {u v : Value} (h : Apart u v) : Apart v u := fun k hv hu => h k hu hv
theorem Apart.nil (v : Value) : Apart (.slice none 0 0) v := fun k h => by simp [Value.ownBlock] at h
theorem Apart.row {u v : Value} (h : Apart u v) : u.ownBlock = none ∨ u.ownBlock ≠ v.ownBlock := by
  rcases e : u.ownBlock with _ | k
  · exact .inl rfl
  · exact .inr (fun c => h k e c.symm)
/-- A row of int32 that a call owns. -/
def Own32 (w : World) (base : Nat) (v : Value) (xs : List Int) : Prop := w.ownsRow base 21 1 v xs.length (xs.map (Value.int .i32))
theorem Own32.past {w w' : World} {base : Nat} {v : Value} {xs : List Int} (h : Own32 w base v xs) (g : Past w w') : Own32 w' base v xs := by
  obtain ⟨hl, h⟩ := h
  refine ⟨hl, ?_⟩
  rcases h with ⟨rfl, h0⟩ | ⟨b, cap, cur, rfl, hb, hg, hn, hm, hs, ht⟩
  · exact .inl ⟨rfl, h0⟩
  · exact .inr ⟨b, cap, cur, rfl, hb, (g.2.2.2 b (Array.getElem?_eq_some_iff.1 hg).1).trans hg, hn, hm, hs, ht⟩
theorem Own32.nums {w : World} {base : Nat} {v : Value} {xs : List Int} (ho : Own32 w base v xs) (wf : ∀ x ∈ xs, -2147483648 ≤ x ∧ x ≤ 2147483647) : IsNums .i32 w v xs := by
  obtain ⟨hl, h⟩ := ho
  have wf' : ∀ x ∈ xs, (Lit.int .i32 x).wf = true := fun x hx => by have := wf x hx; simp [Lit.wf, IntKind.min, IntKind.max, IntKind.bits, IntKind.signed]; omega
  rcases h with ⟨rfl, h0⟩ | ⟨b, cap, cur, rfl, hb, hg, hn, hm, hs, ht⟩
  · have : xs = [] := List.eq_nil_of_length_eq_zero h0
    subst this
    exact ⟨none, 0, rfl, Nat.le_refl _, Nat.zero_le _, fun _ => rfl, by simp, by simp⟩
  · refine ⟨some ⟨b, 0, none⟩, cap, rfl, hn, hm, (fun h => by cases h), wf', fun hp => ⟨b, 0, rfl, (Array.getElem?_eq_some_iff.1 hg).1, fun i hi => ?_⟩⟩
    have key : w.cell? ⟨b, 0 + i, none⟩ = (xs.map (Value.int .i32))[i]? := by
      rw [← ht, List.getElem?_take_of_lt (by omega)]
      simp [World.cell?, hg]
    rw [key]
    simp [List.getD, hi]
theorem Own32.form {w : World} {base : Nat} {v : Value} {xs : List Int} (h : Own32 w base v xs) : ∃ A c, v = .slice A xs.length c := by
  obtain ⟨hl, h⟩ := h
  rcases h with ⟨rfl, h0⟩ | ⟨g, cap, cur, rfl, _⟩
  · exact ⟨none, 0, by rw [h0]⟩
  · exact ⟨_, _, rfl⟩
theorem Own32.lt {w : World} {base : Nat} {v : Value} {xs : List Int} (h : Own32 w base v xs) : ∀ k, v.ownBlock = some k → base ≤ k ∧ k < w.heap.size := World.ownsRow.lt h
end Go.Proofs.YtliijchcpooplaaGreat
namespace Go.Proofs.YtliijchcpooplaaGreat
open Go.ChangeShapes Go.WideShapes Go.ChangeAt Go.RowKit
set_option maxRecDepth 20000
set_option linter.unusedVariables false

theorem RowsO.nil (w : World) : RowsO w [] [] := fun j hj => by simp at hj
theorem RowsO.grow {w w' : World} {l : List NodeD} {xs : List Value} (h : RowsO w l xs) (g : Past w w') : RowsO w' l xs := by
  intro j hj
  obtain ⟨vi, vw, vb, h1, h2⟩ := h j hj
  exact ⟨vi, vw, vb, h1.grow g, h2⟩
/-! ### Facts of a row of nodes that grows, and of boxes beside it. -/
def RowF (w : World) (B N : Nat) (v : Value) (xs : List Value) : Prop := w.ownsRow B 44 14 v N xs
def BoxF (w : World) (B : Nat) (v : Value) (N : Nat) (cs : Array Value) : Prop := ∃ b, v = .slice (some ⟨b, 0, none⟩) N N ∧ B ≤ b ∧ b < w.heap.size ∧ (Bx w b cs)
theorem RowF.alloc {w : World} {B N : Nat} {v : Value} {xs : List Value} (h : RowF w B N v xs) (o : Obj) : RowF (w.alloc o) B N v xs := World.ownsRow.alloc h o
theorem RowF.set {w : World} {B N Q o : Nat} {u v : Value} {xs : List Value} (h : RowF w B N v xs) (hQ : Q < B) : RowF (w.setCell ⟨Q, o, none⟩ u) B N v xs := own_set h hQ
theorem RowF.grow {w w' : World} {B N : Nat} {v : Value} {xs : List Value} {row : Option Nat} (h : RowF w B N v xs) (g : w.grownBy w' row) (hne : v.ownBlock ≠ row) : RowF w' B N v xs := World.ownsRow.kept h g (.inr hne)
theorem BoxF.alloc {w : World} {B N : Nat} {v : Value} {cs : Array Value} (h : BoxF w B v N cs) (o : Obj) : BoxF (w.alloc o) B v N cs := by
  obtain ⟨b, e, hb, hl, hc⟩ := h
  exact ⟨b, e, hb, by simp; omega, box_old hc hl⟩
theorem BoxF.set {w : World} {B N Q o : Nat} {u v : Value} {cs : Array Value} (h : BoxF w B v N cs) (hQ : Q < B) : BoxF (w.setCell ⟨Q, o, none⟩ u) B v N cs := by
  obtain ⟨b, e, hb, hl, hc⟩ := h
  exact ⟨b, e, hb, by simpa [World.setCell] using hl, box_set hc (by simp only; omega)⟩
theorem BoxF.grow {w w' : World} {B N : Nat} {v : Value} {cs : Array Value} {row : Option Nat} (h : BoxF w B v N cs) (g : w.grownBy w' row) (hne : ∀ b, v = .slice (some ⟨b, 0, none⟩) N N → some b ≠ row) : BoxF w' B v N cs := by
  obtain ⟨b, e, hb, hl, hc⟩ := h
  exact ⟨b, e, hb, Nat.lt_of_lt_of_le hl g.size, box_grownBy g hc hl (hne b e)⟩
theorem BoxF.cells {w : World} {B N : Nat} {v : Value} {cs : Array Value} {b : Nat} (h : BoxF w B v N cs) (e : v = .slice (some ⟨b, 0, none⟩) N N) : (Bx w b cs) := by
  obtain ⟨b', e', _, _, hc⟩ := h
  rw [e] at e'
  simp only [Value.slice.injEq, Option.some.injEq, Addr.mk.injEq, and_true] at e'
  obtain ⟨rfl, _⟩ := e'
  exact hc
end Go.Proofs.YtliijchcpooplaaGreat
namespace Go.Proofs.YtliijchcpooplaaGreat
open Go.ChangeShapes Go.WideShapes Go.ChangeAt Go.RowKit
set_option maxRecDepth 20000
set_option linter.unusedVariables false

theorem box_setOther' {w : World} {b Q q : Nat} {u : Value} {cs : Array Value} (h : (Bx w b cs)) (hne : Q ≠ b) : (Bx (w.setCell ⟨Q, q, none⟩ u) b cs) := box_set h hne
/-- A row of one int. -/
def RowI (w : World) (B : Nat) (v : Value) (x : Int) : Prop := w.ownsRow B 3 1 v 1 [.int .i64 x]
theorem RowI.alloc {w : World} {B : Nat} {v : Value} {x : Int} (h : RowI w B v x) (o : Obj) : RowI (w.alloc o) B v x := World.ownsRow.alloc h o
theorem RowI.set {w : World} {B Q o : Nat} {u v : Value} {x : Int} (h : RowI w B v x) (hQ : Q < B) : RowI (w.setCell ⟨Q, o, none⟩ u) B v x := own_set h hQ
theorem RowI.grow {w w' : World} {B B' N : Nat} {v v0 : Value} {x : Int} {xs : List Value} (h : RowI w B v x) (k : RowF w B' N v0 xs) (g : w.grownBy w' v0.ownBlock) : RowI w' B v x := World.ownsRow.kept h g (own_ne h k (by decide))
theorem RowI.new {w : World} {B : Nat} (hb : B ≤ w.heap.size) (x : Int) : RowI (w.alloc (.cells #[.int .i64 x] 3)) B (.slice (some ⟨w.heap.size, 0, none⟩) 1 1) x := World.ownsRow_lit w #[.int .i64 x] 1 hb (by decide) rfl
theorem RowI.nums {w : World} {B : Nat} {v : Value} {x : Int} (h : RowI w B v x) (wf : (Lit.int .i64 x).wf = true) : IsNums .i64 w v [x] := by
  obtain ⟨hl, h⟩ := h
  rcases h with ⟨rfl, h0⟩ | ⟨b, cap, cur, rfl, hb, hg, hn, hm, hs, ht⟩
  · cases h0
  · refine ⟨some ⟨b, 0, none⟩, cap, rfl, hn, hm, (fun h => by cases h), fun y hy => by simp at hy; subst hy; exact wf, fun hp => ⟨b, 0, rfl, (Array.getElem?_eq_some_iff.1 hg).1, fun i hi => ?_⟩⟩
    obtain rfl : i = 0 := by have : i < 1 := hi; omega
    have key : w.cell? ⟨b, 0 + 0, none⟩ = ([Value.int .i64 x] : List Value)[0]? := by
      rw [← ht, List.getElem?_take_of_lt (by omega)]
      simp [World.cell?, hg]
    rw [key]
    rfl
theorem RowI.one {w : World} {B : Nat} {v : Value} {x : Int} (h : RowI w B v x) : v.oneCell' = true := by
  obtain ⟨A, c, rfl, _⟩ := own_slice' h
  rfl
/-- What lies where a slice of nodes begins: nothing, or its cells. -/
def SrcN (w : World) (A : Option Addr) (cap : Nat) (xs : List Value) : Prop := (A = none ∧ cap = 0 ∧ xs = []) ∨ ∃ ad, A = some ad ∧ ∀ j u, xs[j]? = some u → ad.block < w.heap.size ∧ w.cell? (ad.add j) = some u
theorem SrcN.grow {w w' : World} {A : Option Addr} {cap : Nat} {xs : List Value} (h : SrcN w A cap xs) (g : Past w w') (hp : ∀ ad, A = some ad → ad.spot = none) : SrcN w' A cap xs := by
  rcases h with h | ⟨ad, e, h⟩
  · exact .inl h
  · refine .inr ⟨ad, e, fun j u hu => ?_⟩
    obtain ⟨hb, hc⟩ := h j u hu
    refine ⟨Nat.lt_of_lt_of_le hb g.2.2.1, ?_⟩
    obtain ⟨b, o, p⟩ := ad
    obtain rfl : p = none := hp _ e
    rw [add_plain] at hc ⊢
    exact (g.cell (p := ⟨b, o + j, none⟩) hb).trans hc
end Go.Proofs.YtliijchcpooplaaGreat
