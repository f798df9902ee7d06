/- eval: All of a graph that may not be; Outs. The reference of layer 6: Filled, and Same of equal rows. quiltlaw06: the document's example, which heads all statements. -/
import Derived.Test.YtliijchcpooplaaGreatOEc
import Derived.Test.YtliijchcpooplaaGreatOEb
import Derived.Test.YtliijchcpooplaaGreatOMFxMath
import Derived.Test.YtliijchcpooplaaGreatOEg
import Derived.Test.YtliijchcpooplaaGreatOEl
namespace Go.Proofs.YtliijchcpooplaaGreat
open Go.ChangeShapes Go.WideShapes Go.ChangeAt Go.RowKit
set_option maxRecDepth 20000
set_option linter.unusedVariables false
theorem goE_fits {g : GraphD} (h : valuesE g = 0) (hw : ∀ n ∈ g.nodes, Bytes n.ws) : ∀ (m k : Nat) (ds : List (List Int)), k + m = g.nodes.length -> FitsTo (valuesL g) (g.ins.length + k) ds -> FitsTo (valuesL g) (g.ins.length + g.nodes.length) (goE (valuesL g) (g.nodes.drop k) ds) := by
  intro m
  induction m with
  | zero =>
    intro k ds hk hd
    obtain rfl : k = g.nodes.length := by omega
    rw [List.drop_length]
    exact hd
  | succ m ih =>
    intro k ds hk hd
    have l : k < g.nodes.length := by omega
    rw [drop_cons _ _ l]
    exact ih (k + 1) _ (by omega) (step_fits h l hd (hw _ (by simp [List.getD, l])))
theorem eval_fits {g : GraphD} (h : valuesE g = 0) (hw : ∀ n ∈ g.nodes, Bytes n.ws) {ins : List (List Int)} (hf : fitsP g.ins ins) (hb : AllBytes ins) : FitsTo (valuesL g) (g.ins.length + g.nodes.length) (evalL g ins) := by
  have := goE_fits h hw g.nodes.length 0 ins (by omega) (ins_fits h hf hb)
  rw [List.drop_zero] at this
  exact this
theorem nums_bytes {w : World} {v : Value} {xs : List Int} (h : IsNums .i8 w v xs) : Bytes xs := by
  intro x hx
  obtain ⟨_, _, _, _, _, _, wf, _⟩ := h
  have := wf x hx
  simp [Lit.wf, IntKind.min, IntKind.max, IntKind.bits, IntKind.signed] at this
  omega
theorem graph_bytes {w : World} {gv : Value} {g : GraphD} (h : IsGraph w gv g) : ∀ n ∈ g.nodes, Bytes n.ws := by
  obtain ⟨_, _, _, _, _, hn, _⟩ := h
  intro n hm
  obtain ⟨A, c, _, _, _, _, _, h5⟩ := hn
  obtain ⟨i, hi, rfl⟩ := List.getElem_of_mem hm
  obtain ⟨b, o, _, _, hc⟩ := h5 (by omega)
  obtain ⟨vi, vw, vb, hin, _⟩ := hc i hi
  have := nums_bytes hin.2.1
  have e : g.nodes.getD i default = g.nodes[i] := by simp [List.getD, hi]
  rwa [e] at this
theorem fits_len {g : GraphD} (h : valuesE g = 0) {k : Nat} {ds : List (List Int)} (hk : k <= (valuesL g).length) (hd : FitsTo (valuesL g) k ds) {j : Nat} (hj : j < k) : 0 < (ds.getD j []).length /\ (ds.getD j []).length <= 2048 := by
  have hm := (makes_facts h).2.1 j (by omega)
  have := idx_lt_size hm
  have e := (hd.2 j hj).1
  omega
theorem outs_fits {g : GraphD} (h : valuesE g = 0) {ds : List (List Int)} (hd : FitsTo (valuesL g) (g.ins.length + g.nodes.length) ds) : inP (g.ins.length + g.nodes.length) g.outs /\ ∀ j, j < g.outs.length -> 0 < ((namedR ds g.outs).getD j []).length /\ ((namedR ds g.outs).getD j []).length <= 100000 := by
  have hl := (makes_facts h).1
  have ho := (values_ok h).2.2.2
  have hi : inP (g.ins.length + g.nodes.length) g.outs := fun j hj => by have := ho j hj; rw [hl] at this; exact this
  refine ⟨hi, fun j hj => ?_⟩
  rw [namedR_get hj]
  have := hi j hj
  have := fits_len h (by omega) hd (j := (g.outs.getD j 0).toNat) (by omega)
  omega
set_option maxHeartbeats 4000000 in
theorem eall_no (g : GraphD) (gv iv : Value) (W : World) (q : Int) (hg : IsGraph W gv g) (hc : Cut g) (hq : valuesE g = q) (h0 : q ≠ 0) :
    Calls Tryz.prog 13 #[gv, iv] W fun e w' => e = .returned (.tuple #[.slice none 0 0, .int .i64 q]) /\ Past W w' := by
  have HG := Lib.hid hg
  obtain ⟨nv1, nv2, nv3, rfl, hi1, hn1, ho1⟩ := hg
  obtain ⟨A1, c1, rfl, _⟩ := hi1
  obtain ⟨A2, c2, rfl, _⟩ := hn1
  obtain ⟨A3, c3, rfl, _⟩ := ho1
  have HC := Lib.hid hc
  have HQ := Lib.hid hq
  have e1 : (q != 0) = true := by simpa using h0
  have VG : Hid (∀ w, Past W w -> Calls Tryz.prog 23 #[.agg #[.slice A1 g.ins.length c1, .slice A2 g.nodes.length c2, .slice A3 g.outs.length c3]] w fun e w' => ∃ v, e = .returned (.tuple #[v, .int .i64 q]) /\ IsVals w' v (valuesL g) /\ Past w w') := Lib.hid (fun w p => by
    have := values_any g _ w (HG.out.grow p) HC.out
    unfold ValuesPost at this
    rw [HQ.out] at this
    exact this)
  clear hq hc h0
  go_enter Tryz.func13, Tryz.ntmps13
  go_upto_region 1 with fail
  refine opq (fun w' => (Bx w' (W.heap.size) #[.slice A1 g.ins.length c1, .slice A2 g.nodes.length c2, .slice A3 g.outs.length c3]) /\ Past W w' /\ W.heap.size + 1 <= w'.heap.size) kKeep ?_
  rintro w1 ⟨b1, p1, z1⟩
  go_wp2_with fail
  refine (VG.out _ p1).mono ?_
  rintro e w2 ⟨v, rfl, hv, p2⟩
  have q2 := p1.trans p2
  obtain ⟨Av, cv, rfl, _⟩ := hv
  clear b1 p1 z1 p2
  go_wp2_with fail
  go_ret2
  exact ⟨rfl, q2⟩
set_option maxHeartbeats 4000000 in
theorem eouts_no (g : GraphD) (gv iv : Value) (W : World) (q : Int) (hg : IsGraph W gv g) (hc : Cut g) (hq : valuesE g = q) (h0 : q ≠ 0) :
    Calls Tryz.prog 9 #[gv, iv] W fun e w' => e = .returned (.tuple #[.slice none 0 0, .int .i64 q]) /\ Past W w' := by
  have HG := Lib.hid hg
  obtain ⟨nv1, nv2, nv3, rfl, hi1, hn1, ho1⟩ := hg
  obtain ⟨A1, c1, rfl, _⟩ := hi1
  obtain ⟨A2, c2, rfl, _⟩ := hn1
  obtain ⟨A3, c3, rfl, _⟩ := ho1
  have e1 : (q != 0) = true := by simpa using h0
  have VG := Lib.hid (fun w (p : Past W w) => eall_no g _ iv w q (HG.out.grow p) hc hq h0)
  clear hq hc h0
  go_enter Tryz.func9, Tryz.ntmps9
  go_upto_region 1 with fail
  refine opq (fun w' => (Bx w' (W.heap.size) #[.slice A1 g.ins.length c1, .slice A2 g.nodes.length c2, .slice A3 g.outs.length c3]) /\ Past W w' /\ W.heap.size + 1 <= w'.heap.size) kKeep ?_
  rintro w1 ⟨b1, p1, z1⟩
  go_wp2_with fail
  refine (VG.out _ p1).mono ?_
  rintro e w2 ⟨rfl, p2⟩
  have q2 := p1.trans p2
  clear b1 p1 z1 p2
  go_wp2_with fail
  go_ret2
  exact ⟨rfl, q2⟩
set_option maxHeartbeats 4000000 in
theorem eouts_ok (g : GraphD) (gv iv : Value) (us : List Value) (ins : List (List Int)) (W : World) (hg : IsGraph W gv g) (hc : Cut g) (hi : HasCells W iv us) (hn : AreNums W us ins) (h0 : valuesE g = 0) (hf : fitsP g.ins ins) :
    Calls Tryz.prog 9 #[gv, iv] W fun e w' => ∃ v, e = .returned (.tuple #[v, .int .i64 0]) /\ OwnRows w' W.heap.size v (namedR (evalL g ins) g.outs) /\ Past W w' := by
  have HG := Lib.hid hg
  have FT := Lib.hid (eval_fits h0 (graph_bytes hg) hf hn.bytes)
  obtain ⟨nv1, nv2, nv3, rfl, hi1, hn1, ho1⟩ := hg
  obtain ⟨A1, c1, rfl, _⟩ := hi1
  obtain ⟨A2, c2, rfl, _⟩ := hn1
  have HO := Lib.hid ho1
  obtain ⟨A3, c3, rfl, _⟩ := ho1
  have HC := Lib.hid hc
  have OF := Lib.hid (outs_fits h0 FT.out)
  have AL := Lib.hid (fun w (p : Past W w) => eall_ok g _ iv us ins w (HG.out.grow p) hc (hi.grow p) (hn.grow p) h0 hf)
  have e1 : ((0 : Int) != 0) = false := by decide
  clear hi hn h0 hf hc
  go_enter Tryz.func9, Tryz.ntmps9
  go_upto_region 1 with fail
  refine opq (fun w' => (Bx w' (W.heap.size) #[.slice A1 g.ins.length c1, .slice A2 g.nodes.length c2, .slice A3 g.outs.length c3]) /\ Past W w' /\ W.heap.size + 1 <= w'.heap.size) kKeep ?_
  rintro w1 ⟨b1, p1, z1⟩
  go_wp2_with fail
  refine (AL.out _ p1).mono ?_
  rintro e w2 ⟨v, rfl, ⟨ws, oc, oa⟩, p2⟩
  have q2 := p1.trans p2
  have b2 := box_past p2 b1 (by omega)
  have AN := Lib.hid (oa.nums FT.out.bytes)
  have HWL : ws.length = g.ins.length + g.nodes.length := oa.1.trans FT.out.1
  have INP : inP ws.length g.outs := by rw [HWL]; exact OF.out.1
  have N8 := Lib.hid (named8_any v _ ws g.outs w2 oc.has AN.out.slices (HO.out.grow q2) INP HC.out.1)
  have NU := Lib.hid (namedU_nums AN.out INP)
  obtain ⟨Av, cv, rfl, _⟩ := own_slice' oc
  clear b1 p1 z1 p2 oc oa INP HWL
  go_wp2_with fail
  refine N8.out.mono ?_
  rintro e w3 ⟨v3, rfl, oc3, p3⟩
  have q3 := q2.trans p3
  have NU3 := Lib.hid (NU.out.grow p3)
  have CP := Lib.hid (copies_any v3 _ _ w3 oc3.has NU3.out (fun j hj => OF.out.2 j (by rw [namedR_len] at hj; exact hj)) (by rw [namedR_len]; exact HC.out.1))
  obtain ⟨Av3, cv3, rfl, _⟩ := own_slice' oc3
  clear b2 oc3 p3 N8 NU
  go_wp2_with fail
  refine CP.out.mono ?_
  rintro e w4 ⟨v4, rfl, o4, p4⟩
  have O4 := Lib.hid (o4.more q3.2.2.1)
  have q4 := q3.trans p4
  clear o4 p4 NU3 CP
  go_wp2_with fail
  go_ret2
  exact ⟨_, rfl, O4.out, q4⟩
noncomputable def szV (v : ValD) : Nat := (sizeI v.h v.w v.c).toNat
noncomputable def atN (vs : List ValD) : Nat -> Nat
  | 0 => 0
  | k + 1 => atN vs k + szV (vs.getD k default)
def rowFill (ls : List Int) (at_ n : Nat) : List Int := (List.range n).map fun k => fillF ls (at_ + k)
noncomputable def filledL (ls : List Int) (vs : List ValD) (k : Nat) : List (List Int) := (List.range k).map fun j => rowFill ls (atN vs j) (szV (vs.getD j default))
theorem rowFill_succ (ls : List Int) (a n : Nat) : rowFill ls a (n + 1) = rowFill ls a n ++ [fillF ls (a + n)] := by unfold rowFill; rw [List.range_succ, List.map_append]; rfl
theorem rowFill_len (ls : List Int) (a n : Nat) : (rowFill ls a n).length = n := by simp [rowFill]
theorem filledL_succ (ls : List Int) (vs : List ValD) (k : Nat) : filledL ls vs (k + 1) = filledL ls vs k ++ [rowFill ls (atN vs k) (szV (vs.getD k default))] := by unfold filledL; rw [List.range_succ, List.map_append]; rfl
theorem filledL_len (ls : List Int) (vs : List ValD) (k : Nat) : (filledL ls vs k).length = k := by simp [filledL]
theorem filledL_get (ls : List Int) (vs : List ValD) {k j : Nat} (h : j < k) : (filledL ls vs k).getD j [] = rowFill ls (atN vs j) (szV (vs.getD j default)) := by unfold filledL; simp [List.getD, h]
theorem szV_bd (v : ValD) : szV v <= 2048 := by
  unfold szV
  by_cases k : mayS v.h v.w v.c
  . have := (idx_lt_size k).2; omega
  . unfold sizeI; rw [if_neg k]; decide
theorem atN_bd (vs : List ValD) (k : Nat) : atN vs k <= 2048 * k := by
  induction k with
  | zero => exact Nat.le_refl _
  | succ k ih => have := szV_bd (vs.getD k default); simp only [atN]; omega
theorem fillF_bd' {ls : List Int} (h : Bytes ls) (i : Nat) : -128 <= fillF ls i /\ fillF ls i <= 127 := by
  unfold fillF
  split
  . rename_i h0
    have hi : i % ls.length < ls.length := Nat.mod_lt _ h0
    have e : ls.getD (i % ls.length) 0 = ls[i % ls.length] := by simp [List.getD, hi]
    rw [e]; exact h _ (List.getElem_mem _)
  . omega
theorem filled_bytes {ls : List Int} (h : Bytes ls) (vs : List ValD) (k : Nat) : AllBytes (filledL ls vs k) := by
  intro i hi x hx
  rw [filledL_len] at hi
  rw [filledL_get _ _ hi] at hx
  unfold rowFill at hx
  obtain ⟨j, _, rfl⟩ := List.mem_map.1 hx
  exact fillF_bd' h _
theorem filled_fits (ls : List Int) (vs : List ValD) : fitsP vs (filledL ls vs vs.length) := by
  refine ⟨filledL_len _ _ _, fun j hj => ?_⟩
  rw [filledL_get _ _ hj, rowFill_len]
  have := size_nn (vs.getD j default).h (vs.getD j default).w (vs.getD j default).c
  unfold szV
  omega
theorem ownRows_new {w : World} {base : Nat} (hb : base <= w.heap.size) : OwnCells (w.alloc (.cells #[] 27)) base (.slice (some ⟨w.heap.size, 0, none⟩) 0 0) [] := World.ownsRow_lit w #[] 0 hb (by decide) (by simp)
set_option maxHeartbeats 8000000 in
theorem filled_rows (g : GraphD) (gv lv : Value) (ls : List Int) (W : World) (hg : IsGraph W gv g) (hl : IsNums .i8 W lv ls) (hb : g.ins.length <= 1000) :
    Calls Tryz.prog 8 #[gv, lv] W fun e w' => ∃ v, e = .returned v /\ OwnRows w' W.heap.size v (filledL ls g.ins g.ins.length) /\ Past W w' := by
  obtain ⟨nv1, nv2, nv3, rfl, hi, hn, ho⟩ := hg
  obtain ⟨A1, c1, rfl, i1, i2, _, iw, i5⟩ := hi
  obtain ⟨A2, c2, rfl, n1, n2, _, _, _⟩ := hn
  obtain ⟨A3, c3, rfl, o1, o2, _, _, _⟩ := ho
  have HLS := Lib.hid hl
  obtain ⟨A4, c4, rfl, l1, l2, _, _, l6⟩ := hl
  have m4 : ls.length <= 9223372036854775807 := by unfold maxLen at l2; omega
  have L6 := Lib.hid l6
  have I5 := Lib.hid i5
  obtain ⟨i0, hi0, hz0, hz1, hz2⟩ := info_parts infoS8
  have I1 := Lib.hid hi0
  have I2 := Lib.hid hz0
  have I3 := Lib.hid hz1
  have I4 := Lib.hid hz2
  obtain ⟨j0, hj0, hy0, hy1, hy2⟩ := info_parts infoI8
  have J1 := Lib.hid hj0
  have J2 := Lib.hid hy0
  have J3 := Lib.hid hy1
  have J4 := Lib.hid hy2
  clear hi0 hz0 hz1 hz2 hj0 hy0 hy1 hy2 i1 i2 n1 n2 o1 o2 iw i5 l1 l2 l6
  go_enter Tryz.func8, Tryz.ntmps8
  go_upto_region 2 with fail
  refine opq (fun w' => (Bx w' (W.heap.size) #[.slice A1 g.ins.length c1, .slice A2 g.nodes.length c2, .slice A3 g.outs.length c3]) /\ OwnCells w' (W.heap.size + 1) (.slice (some ⟨W.heap.size + 1, 0, none⟩) 0 0) [] /\ Past W w' /\ W.heap.size + 2 <= w'.heap.size) ?_ ?_
  . refine ⟨?_, ?_, ?_, ?_⟩
    . (exact kKeep)
    . have := ownRows_new (w := (W.alloc (.cells #[.slice A1 g.ins.length c1, .slice A2 g.nodes.length c2, .slice A3 g.outs.length c3] 26))) (base := W.heap.size + 1) (by simp)
      simpa using this
    . (exact kKeep)
    . (exact kKeep)
  rintro w1 ⟨b1, own1, p1, z1⟩
  have OWN1 := Lib.hid own1
  clear own1
  go_wp2_with fail
  go_loopw [5, 6, 7] (fun v a i wr => ∃ (k : Nat) (ws : List Value), k <= g.ins.length /\ i = .int .i64 k /\ a = .int .i64 (atN g.ins k) /\ Hid (OwnCells wr (W.heap.size + 1) v ws) /\ Hid (AreOwn wr (W.heap.size + 1) ws (filledL ls g.ins k)) /\ ws.length = k /\ (Bx wr (W.heap.size) #[.slice A1 g.ins.length c1, .slice A2 g.nodes.length c2, .slice A3 g.outs.length c3]) /\ Past W wr /\ W.heap.size + 2 <= wr.heap.size) (fun _ _ i _ => g.ins.length - (intOf i).toNat)
  case atStart => exact ⟨0, [], by omega, rfl, rfl, OWN1, Lib.hid (AreOwn.nil _ _), rfl, b1, p1, z1⟩
  case round =>
    clear OWN1 b1 p1 z1
    obtain ⟨k, ws, hk, rfl, rfl, own, are, hwl, br, pr, zr⟩ := hrel
    by_cases h : k < g.ins.length
    . obtain ⟨ib, io, rfl, hib, hic⟩ := I5.out (by omega)
      obtain ⟨y, hy⟩ : ∃ y, g.ins.getD k default = y := ⟨_, rfl⟩
      have VA := hic k h
      rw [hy] at VA
      have VAT := Lib.hid (fun w (p : Past W w) => ValAt.grow VA hib p)
      have HY := Lib.hid hy
      obtain ⟨N, hN⟩ : ∃ N, szV y = N := ⟨_, rfl⟩
      have hq : (N : Int) = sizeI y.h y.w y.c := by
        have := size_nn y.h y.w y.c
        unfold szV at hN; omega
      have HQ := Lib.hid hq
      have HN2 : N <= 2048 := by rw [<- hN]; exact szV_bd y
      have HAT := Lib.hid (atN_bd g.ins k)
      obtain ⟨T, hT⟩ : ∃ T, atN g.ins k = T := ⟨_, rfl⟩
      have hTb : T <= 2048 * k := by rw [<- hT]; exact HAT.out
      have HT := Lib.hid hT
      have HNN := Lib.hid hN
      have hibr : ib < wr.heap.size := by have := pr.2.2.1; omega
      have i1 : (0 : Int) <= (k : Int) := by omega
      have i2 : (k : Int) < (g.ins.length : Int) := by omega
      obtain ⟨w8, hw8⟩ : ∃ w8, w8 = wr := ⟨_, rfl⟩
      subst hw8
      rw [hT]
      clear hic hy VA hq hN hT
      go_upto_region 7 with fail
      refine opq (fun w' => Own8 w' w8.heap.size (.slice (some ⟨w8.heap.size, 0, none⟩) 0 0) [] /\ Past w8 w') ⟨own8_new (Nat.le_refl _), (Past.refl _).alloc _⟩ ?_
      rintro w2 ⟨own2, p2⟩
      have OWN2 := Lib.hid own2
      clear own2
      go_wp2_with fail
      go_loopw [6, 8, 9] (fun a v i wr => ∃ j : Nat, j <= N /\ i = .int .i64 j /\ a = .int .i64 ((T + j : Nat) : Int) /\ Hid (Own8 wr w8.heap.size v (rowFill ls T j)) /\ Past w8 wr) (fun _ _ i _ => N - (intOf i).toNat)
      case atStart => exact ⟨0, by omega, rfl, rfl, OWN2, p2⟩
      case round =>
        clear OWN2 p2
        obtain ⟨j, hj, rfl, rfl, own2, p2⟩ := hrel
        have pW := pr.trans p2
        obtain ⟨y0, y1, y2, y3⟩ := VAT.out _ pW
        have bq := box_past p2 br (by omega)
        go_wp2_with fail
        refine (rsize_any y.h y.w y.c N _ HQ).mono ?_
        rintro e w3 ⟨rfl, g3⟩
        have p3 := p2.trans (Grown.past g3)
        have pW3 := pr.trans p3
        have OWN3 := Lib.hid (own2.out.past (Grown.past g3))
        have HLT := Lib.hid (OWN3.out.lt)
        have s3 : w8.heap.size <= w3.heap.size := p3.2.2.1
        clear y0 y1 y2 y3 bq own2 p2 pW g3
        by_cases hjl : j < N
        . have d1 : decide ((j : Int) < (N : Int)) = true := by simp; omega
          have HR := Lib.hid (rowFill_succ ls T j)
          have LR : (rowFill ls T j).length = j := rowFill_len _ _ _
          have HLR := Lib.hid LR
          obtain ⟨Z, hZ⟩ : ∃ Z : Nat, T + j = Z := ⟨_, rfl⟩
          have HZ := Lib.hid hZ
          have Z2 : Z <= 2048 * 1001 := by omega
          have P3 := Lib.hid p3
          rw [hZ]
          clear LR
          by_cases hl0 : 0 < ls.length
          . obtain ⟨lb, lo, rfl, hlb, hlc⟩ := L6.out hl0
            have hm : Z % ls.length < ls.length := Nat.mod_lt _ hl0
            obtain ⟨m, hm2⟩ : ∃ m, Z % ls.length = m := ⟨_, rfl⟩
            rw [hm2] at hm
            have c0 := (pW3.cell (p := ⟨lb, lo + m, none⟩) hlb).trans (hlc m hm)
            obtain ⟨x, hx⟩ : ∃ x, ls.getD m 0 = x := ⟨_, rfl⟩
            rw [hx] at c0
            have HF : Hid (fillF ls Z = x) := Lib.hid (by unfold fillF; rw [if_pos hl0, hm2]; exact hx)
            have d2 : decide ((0 : Int) < (ls.length : Int)) = true := decide_eq_true (by omega)
            have em : (Z : Int) % (ls.length : Int) = (m : Int) := by rw [<- hm2, Int.natCast_emod]
            have et : Int.tmod (Z : Int) (ls.length : Int) = (m : Int) := by rw [Int.tmod_eq_emod_of_nonneg (by omega)]; exact em
            have i3 : (0 : Int) <= (m : Int) := by omega
            have i4 : (m : Int) < (ls.length : Int) := by omega
            have i5 : ((ls.length : Int) == 0) = false := by rw [beq_eq_false_iff_ne]; omega
            clear hm2 hx hlc hZ
            go_wp2_with (at_builtin; refine wpList_append_own _ rfl (.tmp 43) (.tmp 45) 27 rfl w8.heap.size 35 j0 _ 1 1 Tryz.underlying27 J1.out J2.out J3.out J4.out rfl (by decide) _ _ _ rfl (World.ownsRow.alloc OWN3.out _) ⟨w3.heap.size, 0, none⟩ 1 1 [.int .i8 x] rfl rfl (fun j u hu => cells_new1 w3 _ 35 j u hu) (by intro u hu; simp at hu; subst hu; rfl) ?c4 ?c5 ?c6 ?_)
            case c4 => rw [HLR.out]; unfold maxLen; omega
            case c5 => rw [HLR.out]; omega
            case c6 => simp; omega
            intro v4 w4 hown4 hgrow _
            have ho4 := Lib.hid (own8_add hown4)
            have P4 := (P3.out.alloc (.cells #[.int .i8 x] 35)).grownBy hgrow (fun j hj => (HLT.out j hj).1)
            clear hown4 hgrow OWN3 P3 p3 pW3 HLT
            go_wp2_with fail
            go_roundw
            case rel => exact ⟨j + 1, by omega, by go_num, by rw [<- Nat.add_assoc, HZ.out]; go_num, Lib.hid (by rw [HR.out, HZ.out, HF.out]; exact ho4.out), P4⟩
            case measure => simp [intOf]; omega
          . have HF : Hid (fillF ls Z = 0) := Lib.hid (by unfold fillF; rw [if_neg hl0])
            have d2 : decide ((0 : Int) < (ls.length : Int)) = false := decide_eq_false (by omega)
            clear hZ
            go_wp2_with (at_builtin; refine wpList_append_own _ rfl (.tmp 43) (.tmp 45) 27 rfl w8.heap.size 35 j0 _ 1 1 Tryz.underlying27 J1.out J2.out J3.out J4.out rfl (by decide) _ _ _ rfl (World.ownsRow.alloc OWN3.out _) ⟨w3.heap.size, 0, none⟩ 1 1 [.int .i8 0] rfl rfl (fun j u hu => cells_new1 w3 _ 35 j u hu) (by intro u hu; simp at hu; subst hu; rfl) ?c4 ?c5 ?c6 ?_)
            case c4 => rw [HLR.out]; unfold maxLen; omega
            case c5 => rw [HLR.out]; omega
            case c6 => simp; omega
            intro v4 w4 hown4 hgrow _
            have ho4 := Lib.hid (own8_add hown4)
            have P4 := (P3.out.alloc (.cells #[.int .i8 0] 35)).grownBy hgrow (fun j hj => (HLT.out j hj).1)
            clear hown4 hgrow OWN3 P3 p3 pW3 HLT
            go_wp2_with fail
            go_roundw
            case rel => exact ⟨j + 1, by omega, by go_num, by rw [<- Nat.add_assoc, HZ.out]; go_num, Lib.hid (by rw [HR.out, HZ.out, HF.out]; exact ho4.out), P4⟩
            case measure => simp [intOf]; omega
        . obtain rfl : j = N := by omega
          have d1 : decide ((j : Int) < (j : Int)) = false := by simp
          have RS := Lib.hid (filledL_succ ls g.ins k)
          have OUT3 := Lib.hid (own.out.past p3)
          have ARE3 := Lib.hid (are.out.past p3)
          have OLT := Lib.hid (World.ownsRow.lt OUT3.out)
          have LRW : (rowFill ls T j).length = j := rowFill_len _ _ _
          obtain ⟨A5, c5, rfl, _⟩ := own_slice' OWN3.out
          have b3 := box_past p3 br (by omega)
          have PW3 := Lib.hid pW3
          have s3' : W.heap.size + 2 <= w3.heap.size := by omega
          obtain ⟨LL, hLL⟩ : ∃ n, (rowFill ls T j).length = n := ⟨_, rfl⟩
          rw [hLL] at OWN3 ⊢
          have sN := HNN.out
          have e9 : atN g.ins (k + 1) = T + j := by show atN g.ins k + szV (g.ins.getD k default) = T + j; rw [HT.out, HY.out, HNN.out]
          have E9 := Lib.hid e9
          have RS : Hid (filledL ls g.ins (k + 1) = filledL ls g.ins k ++ [rowFill ls T j]) := Lib.hid (by rw [filledL_succ, HT.out, HY.out, HNN.out])
          clear LRW p3 br pr own are d1 sN e9
          go_wp2_with (at_builtin; refine wpList_append_own _ rfl (.tmp 47) (.tmp 49) 30 rfl (W.heap.size + 1) 27 i0 _ 1 24 Tryz.underlying30 I1.out I2.out I3.out I4.out rfl (by decide) _ _ _ rfl (World.ownsRow.alloc OUT3.out _) ⟨w3.heap.size, 0, none⟩ 1 1 [.slice A5 LL c5] rfl rfl (fun j u hu => cells_new1 w3 _ 27 j u hu) (fun u hu => by simp only [List.mem_singleton] at hu; subst hu; rfl) ?c4 ?c5 ?c6 ?_)
          case c4 => unfold maxLen; omega
          case c5 => omega
          case c6 => simp; omega
          intro v4 w4 hown4 hgrow _
          have P4 := (PW3.out.alloc (.cells #[.slice A5 LL c5] 27)).grownBy hgrow (fun j hj => by have := (OLT.out j hj).1; omega)
          have b4 := box_grownBy hgrow (box_old (x := .cells #[.slice A5 LL c5] 27) b3 (by omega)) (by simp; omega) (fun e => by have := (OLT.out _ e.symm).1; omega)
          have oc4 : Hid (OwnCells w4 (W.heap.size + 1) v4 (ws ++ [.slice A5 LL c5])) := Lib.hid (by
            unfold OwnCells
            simp only [List.length_append, List.length_cons, List.length_nil]
            rw [hwl]
            exact hown4)
          have OAx : Own8 (w3.alloc (.cells #[.slice A5 LL c5] 27)) (W.heap.size + 1) (.slice A5 LL c5) (rowFill ls T j) := own8_base (World.ownsRow.alloc OWN3.out _) (by omega)
          have oa4 : Hid (AreOwn w4 (W.heap.size + 1) (ws ++ [.slice A5 LL c5]) (filledL ls g.ins (k + 1))) := Lib.hid (by
            rw [RS.out]
            exact (AreOwn.snoc (ARE3.out.past ((Past.refl _).alloc _)) OAx).grow (World.ownsRow.alloc OUT3.out _) hgrow)
          have z4 : W.heap.size + 2 <= w4.heap.size := by have := hgrow.size; simp at this; omega
          clear hown4 hgrow OAx OUT3 ARE3 OLT b3 PW3 OWN3
          go_wp2_with fail
          go_roundw
          case rel => exact ⟨k + 1, _, by omega, by go_num, by rw [E9.out, Int.natCast_add], oc4, oa4, by simp [hwl], b4, P4, z4⟩
          case measure => simp [intOf]; omega
    . obtain rfl : k = g.ins.length := by omega
      have d1 : decide ((g.ins.length : Int) < (g.ins.length : Int)) = false := by simp
      obtain ⟨A5, c5, rfl, _⟩ := own_slice' own.out
      go_wp2_with fail
      go_ret
      exact ⟨_, rfl, ⟨ws, own_more own.out (by omega), are.out.more (by omega)⟩, pr⟩
set_option maxHeartbeats 4000000 in
theorem same6_eq (av bv : Value) (xs : List (List Int)) (W : World) (ha : IsRows W av xs) (hb : IsRows W bv xs) :
    Calls Tryz.prog 10 #[av, bv] W fun e w' => e = .returned (.bool true) /\ Past W w' := by
  obtain ⟨us, ha1, ha2⟩ := ha
  obtain ⟨us', hb1, hb2⟩ := hb
  obtain ⟨A, ca, rfl, a1, a2, _, a5⟩ := ha1
  obtain ⟨B, cb, rfl, b1, b2, _, b5⟩ := hb1
  have hm1 : us.length <= 9223372036854775807 := by unfold maxLen at a2; omega
  have A5 := Lib.hid a5
  have B5 := Lib.hid b5
  have HA := Lib.hid ha2
  have HB := Lib.hid hb2
  have e1 : us'.length = us.length := hb2.1.trans ha2.1.symm
  have HL := Lib.hid ha2.1
  obtain ⟨M, hM⟩ : ∃ M, us.length = M := ⟨_, rfl⟩
  have HM := Lib.hid hM
  have HM' := Lib.hid (e1.trans hM)
  rw [e1, hM]
  rw [hM] at hm1
  clear a1 a2 a5 b1 b2 b5 ha2 hb2 e1 hM
  go_enter Tryz.func10, Tryz.ntmps10
  go_wp2_with fail
  go_loopw [5] (fun i wr => ∃ k : Nat, k <= M /\ i = .int .i64 k /\ Past W wr) (fun i _ => M - (intOf i).toNat)
  case atStart => exact ⟨0, by omega, rfl, Past.refl _⟩
  case round =>
    obtain ⟨k, hk, rfl, p⟩ := hrel
    by_cases h : k < M
    . obtain ⟨b, o, rfl, hbl, hc⟩ := A5.out (by rw [HM.out]; omega)
      obtain ⟨b', o', rfl, hbl', hc'⟩ := B5.out (by rw [HM'.out]; omega)
      have c0 := (p.cell (p := ⟨b, o + k, none⟩) hbl).trans (hc k (by rw [HM.out]; exact h))
      have c1 := (p.cell (p := ⟨b', o' + k, none⟩) hbl').trans (hc' k (by rw [HM'.out]; exact h))
      have hkx : k < xs.length := by rw [<- HL.out, HM.out]; exact h
      have N0 := (HA.out.2 k hkx).grow p
      have N1 := (HB.out.2 k hkx).grow p
      obtain ⟨u, hu⟩ : ∃ u, us.getD k nilS = u := ⟨_, rfl⟩
      obtain ⟨u', hu'⟩ : ∃ u', us'.getD k nilS = u' := ⟨_, rfl⟩
      obtain ⟨x, hx⟩ : ∃ x, xs.getD k [] = x := ⟨_, rfl⟩
      rw [hu] at c0 N0
      rw [hu'] at c1 N1
      rw [hx] at N0 N1
      have SE := Lib.hid (fun (w : World) (q : Past wr w) => same_eq u u' x w (N0.grow q) (N1.grow q))
      obtain ⟨Au, cu, rfl, _⟩ := N0
      obtain ⟨Au', cu', rfl, _⟩ := N1
      have i1 : (0 : Int) <= (k : Int) := by omega
      have i2 : (k : Int) < (M : Int) := by omega
      have hbb1 : b < wr.heap.size := by have := p.2.2.1; omega
      have hbb2 : b' < wr.heap.size := by have := p.2.2.1; omega
      have d1 : decide ((k : Int) < (M : Int)) = true := by simp; omega
      have g0 := Past.refl wr
      clear hc hc' hkx hu hu' hx
      go_upto_region 6 with fail
      refine wp_region_fill (fun w' => w'.cell? ⟨b, o + k, none⟩ = some (.slice Au x.length cu) /\ w'.cell? ⟨b', o' + k, none⟩ = some (.slice Au' x.length cu') /\ Past wr w' /\ b + 1 <= w'.heap.size /\ b' + 1 <= w'.heap.size) [(18, ?va18), (19, ?va19), (20, ?va20), (21, ?va21), (22, ?va22), (23, ?va23), (24, ?va24), (25, ?va25), (26, ?va26), (6, ?va6)] [18, 19, 20, 21, 22, 23, 24, 25, 26, 6] (by kernel_rfl) (by kernel_rfl) rfl (by kernel_rfl) ⟨c0, c1, g0, hbb1, hbb2⟩ (fun w h => h) ?alla ?fina
      case alla =>
        simp only [fillA, Act.put, fU1, fU2, fU3]
        iterate 10 (refine owes_cons (fun w hw K hK => ?_) ?_; focus ((have hS := Lib.hid hw); go_split_ands; go_simp; (try simp only [Act.put, List.setIfInBounds_toArray, List.set_cons_zero, List.set_cons_succ]); first | exact hK _ hS.out | (((go_at_call 15; with_reducible refine (SE.out _ (by assumption)).mono ?_; rintro e w1 ⟨rfl, g1⟩; replace g1 := Grown.past g1)); refine hK _ ?_; (exact kKeep))))
        exact True.intro
      case fina =>
        rintro w9 ⟨_, _, g9, _, _⟩
        simp only [fillA, Act.put, fU1, fU2, fU3]
        have p9 := p.trans g9
        clear c0 c1 g0 p
        go_wp2_with fail
        go_roundw
        case rel => exact ⟨k + 1, by omega, by go_num, p9⟩
        case measure => simp [intOf]; omega
    . obtain rfl : k = M := by omega
      have d1 : decide ((k : Int) < (k : Int)) = false := by simp
      go_wp2_with fail
      go_ret
      exact ⟨rfl, p⟩
def gK : GraphD := ⟨[⟨1, 1, 1, 0⟩], [], [0, 0]⟩
theorem gK_ok : valuesE gK = 0 /\ valuesL gK = gK.ins := by
  refine values_mk (begins_mk (by decide) (fun j hj => ?_) (fun j hj => ?_)) rfl (by decide) (fun j hj => ?_)
  . obtain rfl : j = 0 := by have : j < 1 := hj; omega
    show mayS 1 1 1
    unfold mayS; omega
  . obtain rfl : j = 0 := by have : j < 1 := hj; omega
    decide
  . have : j < 2 := hj
    rcases (show j = 0 ∨ j = 1 by omega) with rfl | rfl <;> decide
theorem gK_cut : Cut gK := ⟨by decide, fun n hn => by cases hn⟩
theorem gK_fits : fitsP gK.ins [[7]] := by
  refine ⟨rfl, fun j hj => ?_⟩
  obtain rfl : j = 0 := by have : j < 1 := hj; omega
  show (1 : Int) = sizeI 1 1 1
  unfold sizeI mayS
  rw [if_pos (by omega)]
  rfl
theorem nodes_nil (w : World) : IsNodes w (.slice none 0 0) [] := ⟨none, 0, rfl, Nat.le_refl _, Nat.zero_le _, fun _ => rfl, by simp, by simp⟩
theorem nums_lit {k : IntKind} {w : World} {b : Nat} (xs : List Int) (hw : ∀ x ∈ xs, (Lit.int k x).wf = true) (hm : xs.length <= maxLen) (h0 : 0 < xs.length) (h : ∀ i : Nat, w.cell? ⟨b, i, none⟩ = (xs.map (Value.int k))[i]?) : IsNums k w (.slice (some ⟨b, 0, none⟩) xs.length xs.length) xs := by
  have c0 := h 0
  rw [List.getElem?_eq_getElem (by simpa using h0)] at c0
  refine ⟨_, _, rfl, Nat.le_refl _, hm, (fun h => by cases h), hw, fun _ => ⟨b, 0, rfl, cell_lt c0, fun i hi => ?_⟩⟩
  rw [Nat.zero_add, h i]
  simp [List.getD, hi]
theorem rows_two {w : World} {v : Value} {x y : Int} (h : IsRows w v [[x], [y]]) : ∃ b o cap b0 o0 c0 b1 o1 c1, v = .slice (some ⟨b, o, none⟩) 2 cap /\ w.cell? ⟨b, o, none⟩ = some (.slice (some ⟨b0, o0, none⟩) 1 c0) /\ w.cell? ⟨b, o + 1, none⟩ = some (.slice (some ⟨b1, o1, none⟩) 1 c1) /\ w.cell? ⟨b0, o0, none⟩ = some (.int .i8 x) /\ w.cell? ⟨b1, o1, none⟩ = some (.int .i8 y) := by
  obtain ⟨us, ⟨A, cap, rfl, _, _, _, h5⟩, hl, hn⟩ := h
  have l2 : us.length = 2 := hl
  obtain ⟨u0, u1, rfl⟩ := slc_two l2
  obtain ⟨b, o, rfl, hb, hc⟩ := h5 (by simp)
  have e0 := hc 0 (by simp)
  have e1 := hc 1 (by simp)
  have n0 := hn 0 (by simp)
  have n1 := hn 1 (by simp)
  simp only [List.getD_cons_zero, List.getD_cons_succ, Nat.add_zero] at e0 e1 n0 n1
  obtain ⟨A0, c0, rfl, _, _, _, _, k0⟩ := n0
  obtain ⟨A1, c1, rfl, _, _, _, _, k1⟩ := n1
  obtain ⟨b0, o0, rfl, _, q0⟩ := k0 (by simp)
  obtain ⟨b1, o1, rfl, _, q1⟩ := k1 (by simp)
  exact ⟨b, o, cap, b0, o0, c0, b1, o1, c1, rfl, e0, e1, q0 0 (by simp), q1 0 (by simp)⟩
theorem gK_outs : namedR (evalL gK [[7]]) gK.outs = [[7], [7]] := rfl
set_option maxHeartbeats 4000000 in
theorem shown6 (W : World) : Calls Tryz.prog 6 #[] W fun e w' => e = .returned (.bool true) /\ Past W w' := by
  go_enter Tryz.func6, Tryz.ntmps6
  go_upto_region 2 with fail
  refine opq (fun w' => (Bx w' (W.heap.size) #[.int .i64 1, .int .i64 1, .int .i64 1, .int .i64 0]) /\ (Bx w' (W.heap.size + 1) #[.int .i64 0, .int .i64 0]) /\ (Bx w' (W.heap.size + 1 + 1) #[.slice (some ⟨W.heap.size, 0, none⟩) 1 1, .slice none 0 0, .slice (some ⟨W.heap.size + 1, 0, none⟩) 2 2]) /\ Past W w' /\ W.heap.size + 3 <= w'.heap.size) kKeep ?_
  rintro w1 ⟨b1, b2, b3, p1, z1⟩
  have HGK : Hid (∀ w, Past w1 w -> IsGraph w (.agg #[.slice (some ⟨W.heap.size, 0, none⟩) 1 1, .slice none 0 0, .slice (some ⟨W.heap.size + 1, 0, none⟩) 2 2]) gK) := Lib.hid (fun w p => by
    have c1 := box_past p b1 (by omega)
    have c2 := box_past p b2 (by omega)
    have hs : W.heap.size + 3 <= w.heap.size := by have := p.2.2.1; omega
    exact ⟨_, _, _, rfl, vals_one (x := ⟨1, 1, 1, 0⟩) (by omega) (by unfold ValWf; decide) ⟨c1 0, c1 1, c1 2, c1 3⟩, nodes_nil _, nums_lit [0, 0] (by decide) (by decide) (by decide) (fun i => (c2 i).trans (by simp))⟩)
  have HRK : Hid (∀ (w : World) (B : Nat), (Bx w B #[.int .i8 7]) -> (Bx w (B + 1) #[.slice (some ⟨B, 0, none⟩) 1 1]) -> HasCells w (.slice (some ⟨B + 1, 0, none⟩) 1 1) [.slice (some ⟨B, 0, none⟩) 1 1] /\ AreNums w [.slice (some ⟨B, 0, none⟩) 1 1] [[7]]) := Lib.hid (fun w B c1 c2 => by
    refine ⟨⟨_, _, rfl, Nat.le_refl _, by decide, (fun h => by cases h), fun _ => ⟨B + 1, 0, rfl, cell_lt (c2 0), fun i hi => ?_⟩⟩, rfl, fun i hi => ?_⟩
    . have : i < 1 := hi
      obtain rfl : i = 0 := by omega
      exact c2 0
    . have : i < 1 := hi
      obtain rfl : i = 0 := by omega
      exact nums_lit [7] (by decide) (by decide) (by decide) (fun i => (c1 i).trans (by simp)))
  clear b1 b2
  go_wp2_with fail
  refine (eouts_ok gK _ _ [.slice (some ⟨w1.heap.size, 0, none⟩) 1 1] [[7]] _ (HGK.out _ ?p1) gK_cut (HRK.out _ _ ?p2 ?p3).1 (HRK.out _ _ ?p2 ?p3).2 gK_ok.1 gK_fits).mono ?_
  case p1 => (exact kKeep)
  case p2 => (exact kKeep)
  case p3 => (exact kKeep)
  rintro e w3 ⟨v, rfl, ho, p3⟩
  rw [gK_outs] at ho
  have hr := ho.is (fun i hi x hx => by
    have : i < 2 := hi
    rcases (show i = 0 ∨ i = 1 by omega) with rfl | rfl <;> · simp at hx; omega)
  obtain ⟨b, o, cap, d0, o0, c0, d1, o1, c1, rfl, e0, e1, q0, q1⟩ := rows_two hr
  have pF : Past W w3 := p1.trans (Past.trans kKeep p3)
  clear ho hr p3 b3 p1
  go_wp2_with fail
  go_ret
  exact ⟨rfl, pF⟩
end Go.Proofs.YtliijchcpooplaaGreat
