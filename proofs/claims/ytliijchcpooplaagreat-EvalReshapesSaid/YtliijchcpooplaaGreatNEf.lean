/- The reference of layer 6: Filled, and Same of equal rows. The reference of layer 3: Values: OK just where the graph may be, and then its values. quiltlaw06: the document's example, which heads all statements. What the laws of layer 6 share. -/
import Derived.Test.YtliijchcpooplaaGreatNMLfe
import Derived.Test.YtliijchcpooplaaGreatMR2
import Derived.Test.YtliijchcpooplaaGreatMR3D
import Derived.Test.YtliijchcpooplaaGreatNMFixP
import Derived.Test.YtliijchcpooplaaGreatNEl
namespace Go.Proofs.YtliijchcpooplaaGreat
open Go.ChangeShapes Go.WideShapes Go.ChangeAt Go.RowKit
set_option maxRecDepth 20000
set_option linter.unusedVariables false

noncomputable def szV (v : ValD) : Nat := (sizeI v.h v.w v.c).toNat
noncomputable def atN (vs : List ValD) : Nat → Nat
  | 0 => 0
  | k + 1 => atN vs k + szV (vs.getD k default)
/-- Numbers of given ones, from one on, again and again. -/
def rowFill (ls : List Int) (at_ n : Nat) : List Int := (List.range n).map fun k => fillF ls (at_ + k)
noncomputable def filledL (ls : List Int) (vs : List ValD) (k : Nat) : List (List Int) := (List.range k).map fun j => rowFill ls (atN vs j) (szV (vs.getD j default))
theorem rowFill_succ (ls : List Int) (a n : Nat) : rowFill ls a (n + 1) = rowFill ls a n ++ [fillF ls (a + n)] := by unfold rowFill; rw [List.range_succ, List.map_append]; rfl
theorem rowFill_len (ls : List Int) (a n : Nat) : (rowFill ls a n).length = n := by simp [rowFill]
theorem filledL_succ (ls : List Int) (vs : List ValD) (k : Nat) : filledL ls vs (k + 1) = filledL ls vs k ++ [rowFill ls (atN vs k) (szV (vs.getD k default))] := by unfold filledL; rw [List.range_succ, List.map_append]; rfl
theorem filledL_len (ls : List Int) (vs : List ValD) (k : Nat) : (filledL ls vs k).length = k := by simp [filledL]
theorem filledL_get (ls : List Int) (vs : List ValD) {k j : Nat} (h : j < k) : (filledL ls vs k).getD j [] = rowFill ls (atN vs j) (szV (vs.getD j default)) := by unfold filledL; simp [List.getD, h]
theorem szV_bd (v : ValD) : szV v ≤ 2048 := by
  unfold szV
  by_cases k : mayS v.h v.w v.c
  · have := (idx_lt_size k).2; omega
  · unfold sizeI; rw [if_neg k]; decide
theorem atN_bd (vs : List ValD) (k : Nat) : atN vs k ≤ 2048 * k := by
  induction k with
  | zero => exact Nat.le_refl _
  | succ k ih => have := szV_bd (vs.getD k default); simp only [atN]; omega
theorem fillF_bd' {ls : List Int} (h : Bytes ls) (i : Nat) : -128 ≤ fillF ls i ∧ fillF ls i ≤ 127 := by
  unfold fillF
  split
  · rename_i h0
    have hi : i % ls.length < ls.length := Nat.mod_lt _ h0
    have e : ls.getD (i % ls.length) 0 = ls[i % ls.length] := by simp [List.getD, hi]
    rw [e]; exact h _ (List.getElem_mem _)
  · omega
theorem filled_bytes {ls : List Int} (h : Bytes ls) (vs : List ValD) (k : Nat) : AllBytes (filledL ls vs k) := by
  intro i hi x hx
  rw [filledL_len] at hi
  rw [filledL_get _ _ hi] at hx
  unfold rowFill at hx
  obtain ⟨j, _, rfl⟩ := List.mem_map.1 hx
  exact fillF_bd' h _
theorem filled_fits (ls : List Int) (vs : List ValD) : fitsP vs (filledL ls vs vs.length) := by
  refine ⟨filledL_len _ _ _, fun j hj => ?_⟩
  rw [filledL_get _ _ hj, rowFill_len]
  have := size_nn (vs.getD j default).h (vs.getD j default).w (vs.getD j default).c
  unfold szV
  omega

theorem ownRows_new {w : World} {base : Nat} (hb : base ≤ w.heap.size) : OwnCells (w.alloc (.cells #[] 27)) base (.slice (some ⟨w.heap.size, 0, none⟩) 0 0) [] := World.ownsRow_lit w #[] 0 hb (by decide) (by simp)

set_option maxHeartbeats 8000000 in
theorem filled_rows (g : GraphD) (gv lv : Value) (ls : List Int) (W : World) (hg : IsGraph W gv g) (hl : IsNums .i8 W lv ls) (hb : g.ins.length ≤ 1000) :
    Calls Tryz.prog 8 #[gv, lv] W fun e w' => ∃ v, e = .returned v ∧ OwnRows w' W.heap.size v (filledL ls g.ins g.ins.length) ∧ Past W w' := by
  obtain ⟨nv1, nv2, nv3, rfl, hi, hn, ho⟩ := hg
  obtain ⟨A1, c1, rfl, i1, i2, _, iw, i5⟩ := hi
  obtain ⟨A2, c2, rfl, n1, n2, _, _, _⟩ := hn
  obtain ⟨A3, c3, rfl, o1, o2, _, _, _⟩ := ho
  have HLS := Lib.hid hl
  obtain ⟨A4, c4, rfl, l1, l2, _, _, l6⟩ := hl
  have m4 : ls.length ≤ 9223372036854775807 := by unfold maxLen at l2; omega
  have L6 := Lib.hid l6
  have I5 := Lib.hid i5
  obtain ⟨i0, hi0, hz0, hz1, hz2⟩ := info_parts infoS8
  have I1 := Lib.hid hi0
  have I2 := Lib.hid hz0
  have I3 := Lib.hid hz1
  have I4 := Lib.hid hz2
  obtain ⟨j0, hj0, hy0, hy1, hy2⟩ := info_parts infoI8
  have J1 := Lib.hid hj0
  have J2 := Lib.hid hy0
  have J3 := Lib.hid hy1
  have J4 := Lib.hid hy2
  clear hi0 hz0 hz1 hz2 hj0 hy0 hy1 hy2 i1 i2 n1 n2 o1 o2 iw i5 l1 l2 l6
  go_enter Tryz.func8, Tryz.ntmps8
  go_upto_region 2 with fail
  refine opq (fun w' => (∀ o : Nat, w'.cell? ⟨W.heap.size, o, none⟩ = (#[.slice A1 g.ins.length c1, .slice A2 g.nodes.length c2, .slice A3 g.outs.length c3] : Array Value)[o]?) ∧ OwnCells w' (W.heap.size + 1) (.slice (some ⟨W.heap.size + 1, 0, none⟩) 0 0) [] ∧ Past W w' ∧ W.heap.size + 2 ≤ w'.heap.size) ?_ ?_
  · refine ⟨?_, ?_, ?_, ?_⟩
    · (exact kKeep)
    · have := ownRows_new (w := (W.alloc (.cells #[.slice A1 g.ins.length c1, .slice A2 g.nodes.length c2, .slice A3 g.outs.length c3] 26))) (base := W.heap.size + 1) (by simp)
      simpa using this
    · (exact kKeep)
    · (exact kKeep)
  rintro w1 ⟨b1, own1, p1, z1⟩
  have OWN1 := Lib.hid own1
  clear own1
  go_wp2_with fail
  go_loopw [5, 6, 7] (fun v a i wr => ∃ (k : Nat) (ws : List Value), k ≤ g.ins.length ∧ i = .int .i64 k ∧ a = .int .i64 (atN g.ins k) ∧ Hid (OwnCells wr (W.heap.size + 1) v ws) ∧ Hid (AreOwn wr (W.heap.size + 1) ws (filledL ls g.ins k)) ∧ ws.length = k ∧ (∀ o : Nat, wr.cell? ⟨W.heap.size, o, none⟩ = (#[.slice A1 g.ins.length c1, .slice A2 g.nodes.length c2, .slice A3 g.outs.length c3] : Array Value)[o]?) ∧ Past W wr ∧ W.heap.size + 2 ≤ wr.heap.size) (fun _ _ i _ => g.ins.length - (intOf i).toNat)
  case atStart => exact ⟨0, [], by omega, rfl, rfl, OWN1, Lib.hid (AreOwn.nil _ _), rfl, b1, p1, z1⟩
  case round =>
    clear OWN1 b1 p1 z1
    obtain ⟨k, ws, hk, rfl, rfl, own, are, hwl, br, pr, zr⟩ := hrel
    by_cases h : k < g.ins.length
    · obtain ⟨ib, io, rfl, hib, hic⟩ := I5.out (by omega)
      obtain ⟨y, hy⟩ : ∃ y, g.ins.getD k default = y := ⟨_, rfl⟩
      have VA := hic k h
      rw [hy] at VA
      have VAT := Lib.hid (fun w (p : Past W w) => ValAt.grow VA hib p)
      have HY := Lib.hid hy
      obtain ⟨N, hN⟩ : ∃ N, szV y = N := ⟨_, rfl⟩
      have hq : (N : Int) = sizeI y.h y.w y.c := by
        have := size_nn y.h y.w y.c
        unfold szV at hN; omega
      have HQ := Lib.hid hq
      have HN2 : N ≤ 2048 := by rw [← hN]; exact szV_bd y
      have HAT := Lib.hid (atN_bd g.ins k)
      obtain ⟨T, hT⟩ : ∃ T, atN g.ins k = T := ⟨_, rfl⟩
      have hTb : T ≤ 2048 * k := by rw [← hT]; exact HAT.out
      have HT := Lib.hid hT
      have HNN := Lib.hid hN
      have hibr : ib < wr.heap.size := by have := pr.2.2.1; omega
      have i1 : (0 : Int) ≤ (k : Int) := by omega
      have i2 : (k : Int) < (g.ins.length : Int) := by omega
      obtain ⟨w8, hw8⟩ : ∃ w8, w8 = wr := ⟨_, rfl⟩
      subst hw8
      rw [hT]
      clear hic hy VA hq hN hT
      go_upto_region 7 with fail
      refine opq (fun w' => Own8 w' w8.heap.size (.slice (some ⟨w8.heap.size, 0, none⟩) 0 0) [] ∧ Past w8 w') ⟨own8_new (Nat.le_refl _), (Past.refl _).alloc _⟩ ?_
      rintro w2 ⟨own2, p2⟩
      have OWN2 := Lib.hid own2
      clear own2
      go_wp2_with fail
      go_loopw [6, 8, 9] (fun a v i wr => ∃ j : Nat, j ≤ N ∧ i = .int .i64 j ∧ a = .int .i64 ((T + j : Nat) : Int) ∧ Hid (Own8 wr w8.heap.size v (rowFill ls T j)) ∧ Past w8 wr) (fun _ _ i _ => N - (intOf i).toNat)
      case atStart => exact ⟨0, by omega, rfl, rfl, OWN2, p2⟩
      case round =>
        clear OWN2 p2
        obtain ⟨j, hj, rfl, rfl, own2, p2⟩ := hrel
        have pW := pr.trans p2
        obtain ⟨y0, y1, y2, y3⟩ := VAT.out _ pW
        have bq := box_past p2 br (by omega)
        go_wp2_with fail
        refine (rsize_any y.h y.w y.c N _ HQ).mono ?_
        rintro e w3 ⟨rfl, g3⟩
        have p3 := p2.trans (Grown.past g3)
        have pW3 := pr.trans p3
        have OWN3 := Lib.hid (own2.out.past (Grown.past g3))
        have HLT := Lib.hid (OWN3.out.lt)
        have s3 : w8.heap.size ≤ w3.heap.size := p3.2.2.1
        clear y0 y1 y2 y3 bq own2 p2 pW g3
        by_cases hjl : j < N
        · have d1 : decide ((j : Int) < (N : Int)) = true := by simp; omega
          have HR := Lib.hid (rowFill_succ ls T j)
          have LR : (rowFill ls T j).length = j := rowFill_len _ _ _
          have HLR := Lib.hid LR
          obtain ⟨Z, hZ⟩ : ∃ Z : Nat, T + j = Z := ⟨_, rfl⟩
          have HZ := Lib.hid hZ
          have Z2 : Z ≤ 2048 * 1001 := by omega
          have P3 := Lib.hid p3
          rw [hZ]
          clear LR
          by_cases hl0 : 0 < ls.length
          · obtain ⟨lb, lo, rfl, hlb, hlc⟩ := L6.out hl0
            have hm : Z % ls.length < ls.length := Nat.mod_lt _ hl0
            obtain ⟨m, hm2⟩ : ∃ m, Z % ls.length = m := ⟨_, rfl⟩
            rw [hm2] at hm
            have c0 := (pW3.cell (p := ⟨lb, lo + m, none⟩) hlb).trans (hlc m hm)
            obtain ⟨x, hx⟩ : ∃ x, ls.getD m 0 = x := ⟨_, rfl⟩
            rw [hx] at c0
            have HF : Hid (fillF ls Z = x) := Lib.hid (by unfold fillF; rw [if_pos hl0, hm2]; exact hx)
            have d2 : decide ((0 : Int) < (ls.length : Int)) = true := decide_eq_true (by omega)
            have em : (Z : Int) % (ls.length : Int) = (m : Int) := by rw [← hm2, Int.natCast_emod]
            have et : Int.tmod (Z : Int) (ls.length : Int) = (m : Int) := by rw [Int.tmod_eq_emod_of_nonneg (by omega)]; exact em
            have i3 : (0 : Int) ≤ (m : Int) := by omega
            have i4 : (m : Int) < (ls.length : Int) := by omega
            have i5 : ((ls.length : Int) == 0) = false := by rw [beq_eq_false_iff_ne]; omega
            clear hm2 hx hlc hZ
            go_wp2_with (at_builtin; refine wpList_append_own _ rfl (.tmp 43) (.tmp 45) 27 rfl w8.heap.size 35 j0 _ 1 1 Tryz.underlying27 J1.out J2.out J3.out J4.out rfl (by decide) _ _ _ rfl (World.ownsRow.alloc OWN3.out _) ⟨w3.heap.size, 0, none⟩ 1 1 [.int .i8 x] rfl rfl (fun j u hu => cells_new1 w3 _ 35 j u hu) (by intro u hu; simp at hu; subst hu; rfl) ?c4 ?c5 ?c6 ?_)
            case c4 => rw [HLR.out]; unfold maxLen; omega
            case c5 => rw [HLR.out]; omega
            case c6 => simp; omega
            intro v4 w4 hown4 hgrow _
            have ho4 := Lib.hid (own8_add hown4)
            have P4 := (P3.out.alloc (.cells #[.int .i8 x] 35)).grownBy hgrow (fun j hj => (HLT.out j hj).1)
            clear hown4 hgrow OWN3 P3 p3 pW3 HLT
            go_wp2_with fail
            go_roundw
            case rel => exact ⟨j + 1, by omega, by go_num, by rw [← Nat.add_assoc, HZ.out]; go_num, Lib.hid (by rw [HR.out, HZ.out, HF.out]; exact ho4.out), P4⟩
            case measure => simp [intOf]; omega
          · have HF : Hid (fillF ls Z = 0) := Lib.hid (by unfold fillF; rw [if_neg hl0])
            have d2 : decide ((0 : Int) < (ls.length : Int)) = false := decide_eq_false (by omega)
            clear hZ
            go_wp2_with (at_builtin; refine wpList_append_own _ rfl (.tmp 43) (.tmp 45) 27 rfl w8.heap.size 35 j0 _ 1 1 Tryz.underlying27 J1.out J2.out J3.out J4.out rfl (by decide) _ _ _ rfl (World.ownsRow.alloc OWN3.out _) ⟨w3.heap.size, 0, none⟩ 1 1 [.int .i8 0] rfl rfl (fun j u hu => cells_new1 w3 _ 35 j u hu) (by intro u hu; simp at hu; subst hu; rfl) ?c4 ?c5 ?c6 ?_)
            case c4 => rw [HLR.out]; unfold maxLen; omega
            case c5 => rw [HLR.out]; omega
            case c6 => simp; omega
            intro v4 w4 hown4 hgrow _
            have ho4 := Lib.hid (own8_add hown4)
            have P4 := (P3.out.alloc (.cells #[.int .i8 0] 35)).grownBy hgrow (fun j hj => (HLT.out j hj).1)
            clear hown4 hgrow OWN3 P3 p3 pW3 HLT
            go_wp2_with fail
            go_roundw
            case rel => exact ⟨j + 1, by omega, by go_num, by rw [← Nat.add_assoc, HZ.out]; go_num, Lib.hid (by rw [HR.out, HZ.out, HF.out]; exact ho4.out), P4⟩
            case measure => simp [intOf]; omega
        · obtain rfl : j = N := by omega
          have d1 : decide ((j : Int) < (j : Int)) = false := by simp
          have RS := Lib.hid (filledL_succ ls g.ins k)
          have OUT3 := Lib.hid (own.out.past p3)
          have ARE3 := Lib.hid (are.out.past p3)
          have OLT := Lib.hid (World.ownsRow.lt OUT3.out)
          have LRW : (rowFill ls T j).length = j := rowFill_len _ _ _
          obtain ⟨A5, c5, rfl, _⟩ := own_slice' OWN3.out
          have b3 := box_past p3 br (by omega)
          have PW3 := Lib.hid pW3
          have s3' : W.heap.size + 2 ≤ w3.heap.size := by omega
          obtain ⟨LL, hLL⟩ : ∃ n, (rowFill ls T j).length = n := ⟨_, rfl⟩
          rw [hLL] at OWN3 ⊢
          have sN := HNN.out
          have e9 : atN g.ins (k + 1) = T + j := by show atN g.ins k + szV (g.ins.getD k default) = T + j; rw [HT.out, HY.out, HNN.out]
          have E9 := Lib.hid e9
          have RS : Hid (filledL ls g.ins (k + 1) = filledL ls g.ins k ++ [rowFill ls T j]) := Lib.hid (by rw [filledL_succ, HT.out, HY.out, HNN.out])
          clear LRW p3 br pr own are d1 sN e9
          go_wp2_with (at_builtin; refine wpList_append_own _ rfl (.tmp 47) (.tmp 49) 30 rfl (W.heap.size + 1) 27 i0 _ 1 24 Tryz.underlying30 I1.out I2.out I3.out I4.out rfl (by decide) _ _ _ rfl (World.ownsRow.alloc OUT3.out _) ⟨w3.heap.size, 0, none⟩ 1 1 [.slice A5 LL c5] rfl rfl (fun j u hu => cells_new1 w3 _ 27 j u hu) (fun u hu => by simp only [List.mem_singleton] at hu; subst hu; rfl) ?c4 ?c5 ?c6 ?_)
          case c4 => unfold maxLen; omega
          case c5 => omega
          case c6 => simp; omega
          intro v4 w4 hown4 hgrow _
          have P4 := (PW3.out.alloc (.cells #[.slice A5 LL c5] 27)).grownBy hgrow (fun j hj => by have := (OLT.out j hj).1; omega)
          have b4 := box_grownBy hgrow (box_old (x := .cells #[.slice A5 LL c5] 27) b3 (by omega)) (by simp; omega) (fun e => by have := (OLT.out _ e.symm).1; omega)
          have oc4 : Hid (OwnCells w4 (W.heap.size + 1) v4 (ws ++ [.slice A5 LL c5])) := Lib.hid (by
            unfold OwnCells
            simp only [List.length_append, List.length_cons, List.length_nil]
            rw [hwl]
            exact hown4)
          have OAx : Own8 (w3.alloc (.cells #[.slice A5 LL c5] 27)) (W.heap.size + 1) (.slice A5 LL c5) (rowFill ls T j) := own8_base (World.ownsRow.alloc OWN3.out _) (by omega)
          have oa4 : Hid (AreOwn w4 (W.heap.size + 1) (ws ++ [.slice A5 LL c5]) (filledL ls g.ins (k + 1))) := Lib.hid (by
            rw [RS.out]
            exact (AreOwn.snoc (ARE3.out.past ((Past.refl _).alloc _)) OAx).grow (World.ownsRow.alloc OUT3.out _) hgrow)
          have z4 : W.heap.size + 2 ≤ w4.heap.size := by have := hgrow.size; simp at this; omega
          clear hown4 hgrow OAx OUT3 ARE3 OLT b3 PW3 OWN3
          go_wp2_with fail
          go_roundw
          case rel => exact ⟨k + 1, _, by omega, by go_num, by rw [E9.out, Int.natCast_add], oc4, oa4, by simp [hwl], b4, P4, z4⟩
          case measure => simp [intOf]; omega
    · obtain rfl : k = g.ins.length := by omega
      have d1 : decide ((g.ins.length : Int) < (g.ins.length : Int)) = false := by simp
      obtain ⟨A5, c5, rfl, _⟩ := own_slice' own.out
      go_wp2_with fail
      go_ret
      exact ⟨_, rfl, ⟨ws, own_more own.out (by omega), are.out.more (by omega)⟩, pr⟩

set_option maxHeartbeats 4000000 in
theorem same6_eq (av bv : Value) (xs : List (List Int)) (W : World) (ha : IsRows W av xs) (hb : IsRows W bv xs) :
    Calls Tryz.prog 10 #[av, bv] W fun e w' => e = .returned (.bool true) ∧ Past W w' := by
  obtain ⟨us, ha1, ha2⟩ := ha
  obtain ⟨us', hb1, hb2⟩ := hb
  obtain ⟨A, ca, rfl, a1, a2, _, a5⟩ := ha1
  obtain ⟨B, cb, rfl, b1, b2, _, b5⟩ := hb1
  have hm1 : us.length ≤ 9223372036854775807 := by unfold maxLen at a2; omega
  have A5 := Lib.hid a5
  have B5 := Lib.hid b5
  have HA := Lib.hid ha2
  have HB := Lib.hid hb2
  have e1 : us'.length = us.length := hb2.1.trans ha2.1.symm
  have HL := Lib.hid ha2.1
  obtain ⟨M, hM⟩ : ∃ M, us.length = M := ⟨_, rfl⟩
  have HM := Lib.hid hM
  have HM' := Lib.hid (e1.trans hM)
  rw [e1, hM]
  rw [hM] at hm1
  clear a1 a2 a5 b1 b2 b5 ha2 hb2 e1 hM
  go_enter Tryz.func10, Tryz.ntmps10
  go_wp2_with fail
  go_loopw [5] (fun i wr => ∃ k : Nat, k ≤ M ∧ i = .int .i64 k ∧ Past W wr) (fun i _ => M - (intOf i).toNat)
  case atStart => exact ⟨0, by omega, rfl, Past.refl _⟩
  case round =>
    obtain ⟨k, hk, rfl, p⟩ := hrel
    by_cases h : k < M
    · obtain ⟨b, o, rfl, hbl, hc⟩ := A5.out (by rw [HM.out]; omega)
      obtain ⟨b', o', rfl, hbl', hc'⟩ := B5.out (by rw [HM'.out]; omega)
      have c0 := (p.cell (p := ⟨b, o + k, none⟩) hbl).trans (hc k (by rw [HM.out]; exact h))
      have c1 := (p.cell (p := ⟨b', o' + k, none⟩) hbl').trans (hc' k (by rw [HM'.out]; exact h))
      have hkx : k < xs.length := by rw [← HL.out, HM.out]; exact h
      have N0 := (HA.out.2 k hkx).grow p
      have N1 := (HB.out.2 k hkx).grow p
      obtain ⟨u, hu⟩ : ∃ u, us.getD k nilS = u := ⟨_, rfl⟩
      obtain ⟨u', hu'⟩ : ∃ u', us'.getD k nilS = u' := ⟨_, rfl⟩
      obtain ⟨x, hx⟩ : ∃ x, xs.getD k [] = x := ⟨_, rfl⟩
      rw [hu] at c0 N0
      rw [hu'] at c1 N1
      rw [hx] at N0 N1
      have SE := Lib.hid (fun (w : World) (q : Past wr w) => same_eq u u' x w (N0.grow q) (N1.grow q))
      obtain ⟨Au, cu, rfl, _⟩ := N0
      obtain ⟨Au', cu', rfl, _⟩ := N1
      have i1 : (0 : Int) ≤ (k : Int) := by omega
      have i2 : (k : Int) < (M : Int) := by omega
      have hbb1 : b < wr.heap.size := by have := p.2.2.1; omega
      have hbb2 : b' < wr.heap.size := by have := p.2.2.1; omega
      have d1 : decide ((k : Int) < (M : Int)) = true := by simp; omega
      have g0 := Past.refl wr
      clear hc hc' hkx hu hu' hx
      go_upto_region 6 with fail
      refine wp_region_fill (fun w' => w'.cell? ⟨b, o + k, none⟩ = some (.slice Au x.length cu) ∧ w'.cell? ⟨b', o' + k, none⟩ = some (.slice Au' x.length cu') ∧ Past wr w' ∧ b + 1 ≤ w'.heap.size ∧ b' + 1 ≤ w'.heap.size) [(18, ?va18), (19, ?va19), (20, ?va20), (21, ?va21), (22, ?va22), (23, ?va23), (24, ?va24), (25, ?va25), (26, ?va26), (6, ?va6)] [18, 19, 20, 21, 22, 23, 24, 25, 26, 6] (by kernel_rfl) (by kernel_rfl) rfl (by kernel_rfl) ⟨c0, c1, g0, hbb1, hbb2⟩ (fun w h => h) ?alla ?fina
      case alla =>
        simp only [fillA, Act.put, List.setIfInBounds_toArray, List.set_cons_zero, List.set_cons_succ]
        iterate 10 (refine owes_cons (fun w hw K hK => ?_) ?_; focus ((have hS := Lib.hid hw); go_split_ands; go_simp; (try simp only [Act.put, List.setIfInBounds_toArray, List.set_cons_zero, List.set_cons_succ]); first | exact hK _ hS.out | (((go_at_call 15; with_reducible refine (SE.out _ (by assumption)).mono ?_; rintro e w1 ⟨rfl, g1⟩; replace g1 := Grown.past g1)); refine hK _ ?_; (exact kKeep))))
        exact True.intro
      case fina =>
        rintro w9 ⟨_, _, g9, _, _⟩
        simp only [fillA, Act.put, List.setIfInBounds_toArray, List.set_cons_zero, List.set_cons_succ]
        have p9 := p.trans g9
        clear c0 c1 g0 p
        go_wp2_with fail
        go_roundw
        case rel => exact ⟨k + 1, by omega, by go_num, p9⟩
        case measure => simp [intOf]; omega
    · obtain rfl : k = M := by omega
      have d1 : decide ((k : Int) < (k : Int)) = false := by simp
      go_wp2_with fail
      go_ret
      exact ⟨rfl, p⟩
end Go.Proofs.YtliijchcpooplaaGreat
namespace Go.Proofs.YtliijchcpooplaaGreat
open Go.ChangeShapes Go.WideShapes Go.ChangeAt Go.RowKit
set_option maxRecDepth 20000
set_option linter.unusedVariables false

theorem ownVals_new {w : World} {base : Nat} (hb : base ≤ w.heap.size) : OwnVals (w.alloc (.cells #[] 47)) base (.slice (some ⟨w.heap.size, 0, none⟩) 0 0) [] := World.ownsRow_lit w #[] 0 hb (by decide) (by simp)

/-- What the reference answers: its error is known as OK or not alone. -/
def RValuesPost (g : GraphD) (W : World) (e : Ending) (w' : World) : Prop := ∃ v q, e = .returned (.tuple #[v, .int .i64 q]) ∧ (q = 0 ↔ valuesE g = 0) ∧ (valuesE g = 0 → IsVals w' v (valuesL g)) ∧ Past W w'
theorem rvalues_bad {g : GraphD} {W w' : World} {q : Int} (h : valuesE g ≠ 0) (h0 : q ≠ 0) (p : Past W w') : RValuesPost g W (.returned (.tuple #[.slice none 0 0, .int .i64 q])) w' := ⟨_, _, rfl, ⟨fun f => absurd f h0, fun f => absurd f h⟩, fun f => absurd f h, p⟩
theorem values_begin {g : GraphD} (h : beginsE g ≠ 0) : valuesE g ≠ 0 := by unfold valuesE; rw [if_pos h]; exact h
theorem values_goS {g : GraphD} (h : (goS g.nodes g.ins).1 ≠ 0) : valuesE g ≠ 0 := by
  by_cases b : beginsE g = 0
  · unfold valuesE; rw [if_neg (fun f => f b), if_pos h]; exact h
  · exact values_begin b
theorem values_mk {g : GraphD} {l : List ValD} (b : beginsE g = 0) (h : goS g.nodes g.ins = (0, l)) (hw : sumW g.nodes ≤ 4096) (ho : namedP l g.outs) : valuesE g = 0 ∧ valuesL g = l := by
  have e : valuesE g = 0 := by unfold valuesE; rw [if_neg (fun f => f b), if_neg (by rw [h]; simp), if_neg (by omega), h, if_neg (fun f => f ho)]
  exact ⟨e, by unfold valuesL; rw [if_pos e, h]⟩
theorem begins_bad {g : GraphD} (h : ¬ ((1 ≤ g.ins.length ∧ g.ins.length ≤ 4 ∧ g.nodes.length ≤ 12 ∧ 1 ≤ g.outs.length ∧ g.outs.length ≤ 4) ∧ (∀ j, j < g.ins.length → mayV (g.ins.getD j default)) ∧ (∀ j, j < g.ins.length → -128 ≤ (g.ins.getD j default).z ∧ (g.ins.getD j default).z ≤ 127))) : valuesE g ≠ 0 := values_begin (fun f => h (begins_ok f))

set_option maxHeartbeats 8000000 in
theorem rvalues_any (g : GraphD) (gv : Value) (W : World) (hg : IsGraph W gv g) (hc : Cut g) : Calls Tryz.prog 12 #[gv] W (RValuesPost g W) := by
  obtain ⟨nv1, nv2, nv3, rfl, hi, hn, ho⟩ := hg
  obtain ⟨A1, c1, rfl, i1, i2, _, iw, i5⟩ := hi
  obtain ⟨A2, c2, rfl, n1, n2, _, nw, n5⟩ := hn
  obtain ⟨A3, c3, rfl, o1, o2, _, ow, o5⟩ := ho
  have m1 : g.ins.length ≤ 9223372036854775807 := by unfold maxLen at i2; omega
  have m2 : g.nodes.length ≤ 9223372036854775807 := by unfold maxLen at n2; omega
  have m3 : g.outs.length ≤ 9223372036854775807 := by unfold maxLen at o2; omega
  have IW := Lib.hid iw
  have I5 := Lib.hid i5
  have N5 := Lib.hid n5
  have NW := Lib.hid nw
  have O5 := Lib.hid o5
  have HC := Lib.hid hc
  obtain ⟨i0, hi0, hz0, hz1, hz2⟩ := info_parts info32
  have I1 := Lib.hid hi0
  have I2 := Lib.hid hz0
  have I3 := Lib.hid hz1
  have I4 := Lib.hid hz2
  clear hi0 hz0 hz1 hz2 i1 i2 n1 n2 o1 o2 iw i5 nw n5 ow o5 hc
  go_enter Tryz.func12, Tryz.ntmps12
  go_upto_region 1 with fail
  refine opq (fun w' => (∀ o : Nat, w'.cell? ⟨W.heap.size, o, none⟩ = (#[.slice A1 g.ins.length c1, .slice A2 g.nodes.length c2, .slice A3 g.outs.length c3] : Array Value)[o]?) ∧ Past W w' ∧ W.heap.size + 1 ≤ w'.heap.size) kKeep ?_
  rintro w1 ⟨b1, p1, z1⟩
  by_cases k1 : 4 < g.ins.length
  · have HB := Lib.hid (begins_bad (g := g) (fun f => by omega))
    have d1 : decide ((4 : Int) < (g.ins.length : Int)) = true := by simp; omega
    go_wp2_with fail
    go_ret2
    exact rvalues_bad HB.out (by decide) p1
  have d1 : decide ((4 : Int) < (g.ins.length : Int)) = false := by simp; omega
  by_cases k2 : 12 < g.nodes.length
  · have HB := Lib.hid (begins_bad (g := g) (fun f => by omega))
    have d2 : decide ((12 : Int) < (g.nodes.length : Int)) = true := by simp; omega
    go_wp2_with fail
    go_ret2
    exact rvalues_bad HB.out (by decide) p1
  have d2 : decide ((12 : Int) < (g.nodes.length : Int)) = false := by simp; omega
  by_cases k3 : 4 < g.outs.length
  · have HB := Lib.hid (begins_bad (g := g) (fun f => by omega))
    have d3 : decide ((4 : Int) < (g.outs.length : Int)) = true := by simp; omega
    go_wp2_with fail
    go_ret2
    exact rvalues_bad HB.out (by decide) p1
  have d3 : decide ((4 : Int) < (g.outs.length : Int)) = false := by simp; omega
  by_cases k4 : g.ins.length = 0
  · have HB := Lib.hid (begins_bad (g := g) (fun f => by omega))
    have d4 : ((g.ins.length : Int) == 0) = true := beq_iff_eq.2 (by omega)
    go_wp2_with fail
    go_ret2
    exact rvalues_bad HB.out (by decide) p1
  have d4 : ((g.ins.length : Int) == 0) = false := beq_eq_false_iff_ne.2 (by omega)
  by_cases k5 : g.outs.length = 0
  · have HB := Lib.hid (begins_bad (g := g) (fun f => by omega))
    have d5 : ((g.outs.length : Int) == 0) = true := beq_iff_eq.2 (by omega)
    go_wp2_with fail
    go_ret2
    exact rvalues_bad HB.out (by decide) p1
  have d5 : ((g.outs.length : Int) == 0) = false := beq_eq_false_iff_ne.2 (by omega)
  go_upto_region 6 with fail
  refine opq (fun w' => OwnVals w' w1.heap.size (.slice (some ⟨w1.heap.size, 0, none⟩) 0 0) [] ∧ Past w1 w') ⟨ownVals_new (Nat.le_refl _), (Past.refl _).alloc _⟩ ?_
  rintro w2 ⟨own2, p2⟩
  have OWN2 := Lib.hid own2
  clear own2 d1 d2 d3 d4 d5
  go_wp2_with fail
  go_loopw [4, 5] (fun v i wr => ∃ k : Nat, k ≤ g.ins.length ∧ i = .int .i64 k ∧ Hid (OwnVals wr w1.heap.size v (g.ins.take k)) ∧ Hid (∀ j, j < k → mayV (g.ins.getD j default) ∧ (-128 ≤ (g.ins.getD j default).z ∧ (g.ins.getD j default).z ≤ 127)) ∧ Past w1 wr) (fun _ i _ => g.ins.length - (intOf i).toNat)
  case atStart => exact ⟨0, by omega, rfl, OWN2, Lib.hid (fun j hj => by omega), p2⟩
  case round =>
    clear OWN2 p2
    obtain ⟨k, hk, rfl, own, hall, pr⟩ := hrel
    have br := box_past pr b1 (by omega)
    by_cases h : k < g.ins.length
    · obtain ⟨ib, io, rfl, hib, hic⟩ := I5.out (by omega)
      obtain ⟨y0, y1, y2, y3⟩ := (hic k h).grow hib (p1.trans pr)
      obtain ⟨y, hy⟩ : ∃ y, g.ins.getD k default = y := ⟨_, rfl⟩
      rw [hy] at y0 y1 y2 y3
      have HY := Lib.hid hy
      have i1 : (0 : Int) ≤ (k : Int) := by omega
      have i2 : (k : Int) < (g.ins.length : Int) := by omega
      clear hic hy
      by_cases hm : mayS y.h y.w y.c
      · go_wp2_with fail
        refine (rmay_yes y.h y.w y.c _ hm).mono ?_
        rintro e w3 ⟨rfl, g3⟩
        have HM := Lib.hid hm
        have p3 := Grown.past g3
        have pr3 := pr.trans p3
        have OWN3 := Lib.hid (show OwnVals w3 w1.heap.size u4 (g.ins.take k) from own_past' own.out p3)
        have br3 := box_past pr3 b1 (by omega)
        have hib3 : ib < wr.heap.size := by have := (p1.trans pr).2.2.1; omega
        obtain ⟨y0', y1', y2', y3'⟩ := ValAt.grow (w := wr) (w' := w3) ⟨y0, y1, y2, y3⟩ hib3 p3
        clear y0 y1 y2 y3 br own pr g3 p3 hm
        by_cases hz : -128 ≤ y.z ∧ y.z ≤ 127
        · have RI := Lib.hid (fun (w : World) => rin_any y.z (-128) 127 true w (Lib.hid ⟨fun _ => hz, fun _ => rfl⟩))
          go_wp2_with fail
          refine (RI.out _).mono ?_
          rintro e w4 ⟨rfl, g4⟩
          have p4 := Grown.past g4
          have pr4 := pr3.trans p4
          have OWN4 := Lib.hid (show OwnVals w4 w1.heap.size u4 (g.ins.take k) from own_past' OWN3.out p4)
          have br4 := box_past pr4 b1 (by omega)
          have hib4 : ib < w3.heap.size := by have := pr3.2.2.1; have := p1.2.2.1; omega
          obtain ⟨y0, y1, y2, y3⟩ := ValAt.grow (w := w3) (w' := w4) ⟨y0', y1', y2', y3'⟩ hib4 p4
          have HLT := Lib.hid (World.ownsRow.lt OWN4.out)
          have HZ := Lib.hid hz
          have lk : (g.ins.take k).length = k := by simp; omega
          have LK := Lib.hid lk
          have HT : Hid (g.ins.take (k + 1) = g.ins.take k ++ [y]) := Lib.hid (by
            rw [List.take_succ_eq_append_getElem h]
            congr 1
            rw [← HY.out]; simp [List.getD, h])
          have s4 : w1.heap.size ≤ w4.heap.size := pr4.2.2.1
          have PR4 := Lib.hid pr4
          clear y0' y1' y2' y3' OWN3 br3 pr3 g4 p4 hz RI lk pr4
          go_wp2_with (at_builtin; refine wpList_append_own _ rfl (.tmp 64) (.tmp 70) 22 rfl w1.heap.size 47 i0 _ 4 32 Tryz.underlying22 I1.out I2.out I3.out I4.out rfl (by decide) _ _ _ rfl (World.ownsRow.alloc OWN4.out _) ⟨w4.heap.size, 0, none⟩ 1 1 (valCells y) rfl rfl (fun j u hu => cells_new' w4 _ 47 j u hu) (val_one y) ?c4 ?c5 ?c6 ?_)
          case c4 => rw [LK.out]; unfold maxLen; omega
          case c5 => rw [LK.out]; omega
          case c6 => simp; omega
          intro v4 w5 hown5 hgrow _
          have pr5 : Past w1 w5 := (PR4.out.alloc _).grownBy hgrow (fun j hj => (HLT.out j hj).1)
          have OWN5 : Hid (OwnVals w5 w1.heap.size v4 (g.ins.take (k + 1))) := Lib.hid (by
            unfold OwnVals
            rw [HT.out, valsCells_snoc]
            simp only [List.length_append, List.length_cons, List.length_nil]
            rw [LK.out]
            exact hown5)
          clear hown5 hgrow OWN4 br4 y0 y1 y2 y3
          go_wp2_with fail
          go_roundw
          case rel => exact ⟨k + 1, by omega, by go_num, OWN5, Lib.hid (fun j hj => by
            by_cases c : j = k
            · subst c; rw [HY.out]; exact ⟨HM.out, HZ.out⟩
            · exact hall.out j (by omega)), pr5⟩
          case measure => simp [intOf]; omega
        · have RI := Lib.hid (fun (w : World) => rin_any y.z (-128) 127 false w (Lib.hid ⟨fun f => by simp at f, fun f => absurd f hz⟩))
          have HB := Lib.hid (begins_bad (g := g) (fun f => hz (by have := f.2.2 k h; rw [HY.out] at this; exact this)))
          clear hz
          go_wp2_with fail
          refine (RI.out _).mono ?_
          rintro e w4 ⟨rfl, g4⟩
          have pr4 := p1.trans (pr3.trans (Grown.past g4))
          clear OWN3 br3 y0' y1' y2' y3' pr3 g4 RI
          go_wp2_with fail
          go_ret2
          exact rvalues_bad HB.out (by decide) pr4
      · have HB := Lib.hid (begins_bad (g := g) (fun f => hm (by have := f.2.1 k h; rw [HY.out] at this; exact this)))
        go_wp2_with fail
        refine (rmay_no y.h y.w y.c _ hm).mono ?_
        rintro e w3 ⟨rfl, g3⟩
        have pr4 := p1.trans (pr.trans (Grown.past g3))
        clear br y0 y1 y2 y3 pr g3 hm own
        go_wp2_with fail
        go_ret2
        exact rvalues_bad HB.out (by decide) pr4
    · obtain rfl : k = g.ins.length := by omega
      have HBE : Hid (beginsE g = 0) := Lib.hid (begins_mk (by omega) (fun j hj => (hall.out j hj).1) (fun j hj => (hall.out j hj).2))
      have OWNI : Hid (OwnVals wr w1.heap.size u4 g.ins) := Lib.hid (by have := own.out; rw [List.take_length] at this; exact this)
      have d6 : decide ((g.ins.length : Int) < (g.ins.length : Int)) = false := by simp
      obtain ⟨w8, hw8⟩ : ∃ w8, w8 = wr := ⟨_, rfl⟩
      subst hw8
      clear own hall
      go_wp2_with fail
      go_loopw [4, 6, 7] (fun v s i wr => ∃ (k : Nat) (l : List ValD), k ≤ g.nodes.length ∧ i = .int .i64 k ∧ s = .int .i64 (sumW (g.nodes.take k)) ∧ sumW (g.nodes.take k) ≤ 100000 * k ∧ Hid (OwnVals wr w1.heap.size v l) ∧ Hid (∀ x ∈ l, ValWf x) ∧ Hid (goS g.nodes g.ins = goS (g.nodes.drop k) l) ∧ l.length = g.ins.length + k ∧ Past w1 wr) (fun _ _ i _ => g.nodes.length - (intOf i).toNat)
      case atStart => exact ⟨0, g.ins, by omega, rfl, by simp [sumW], by simp [sumW], OWNI, IW, Lib.hid (by simp), by omega, pr⟩
      case round =>
        clear OWNI br pr d6
        obtain ⟨k, l, hk, rfl, rfl, hs, own, wl, hgo, hl, pr⟩ := hrel
        have br := box_past pr b1 (by omega)
        have HL := Lib.hid hl
        clear hl
        by_cases h : k < g.nodes.length
        · obtain ⟨nb, no, rfl, hnb, hnc⟩ := N5.out (by omega)
          obtain ⟨vi, vw, vb, hin, hcell⟩ := (hnc k h).grow hnb (p1.trans pr)
          obtain ⟨n, hnk⟩ : ∃ n, g.nodes.getD k default = n := ⟨_, rfl⟩
          rw [hnk] at hin hcell
          have mem : n ∈ g.nodes := by rw [← hnk]; simp [List.getD, h]
          have IN := Lib.hid hin
          obtain ⟨Ai, ci, rfl, f1, f2, _, _, f7⟩ := hin.1
          obtain ⟨Aw, cw, rfl, f3, f4, _, _, _⟩ := hin.2.1
          obtain ⟨Ab, cb, rfl, f5, f6, _, _, _⟩ := hin.2.2
          have x0 := hcell 0 (by omega)
          have x1 := hcell 1 (by omega)
          have x2 := hcell 2 (by omega)
          have x3 := hcell 3 (by omega)
          have x4 := hcell 4 (by omega)
          have x5 := hcell 5 (by omega)
          have x6 := hcell 6 (by omega)
          have x7 := hcell 7 (by omega)
          have x8 := hcell 8 (by omega)
          have x9 := hcell 9 (by omega)
          have x10 := hcell 10 (by omega)
          have x11 := hcell 11 (by omega)
          have x12 := hcell 12 (by omega)
          have x13 := hcell 13 (by omega)
          simp only [nodeCells, List.getElem?_cons_zero, List.getElem?_cons_succ, Nat.add_zero] at x0 x1 x2 x3 x4 x5 x6 x7 x8 x9 x10 x11 x12 x13
          have NK := Lib.hid hnk
          have MEM := Lib.hid mem
          have F7 := Lib.hid f7
          have HCN := HC.out.2 n mem
          have lw : n.ws.length ≤ 100000 := HCN.2
          have li : n.ins.length ≤ 1000 := HCN.1
          have i1 : (0 : Int) ≤ (k : Int) := by omega
          have i2 : (k : Int) < (g.nodes.length : Int) := by omega
          obtain ⟨P8, hP⟩ : ∃ P8, wr.heap.size = P8 := ⟨_, rfl⟩
          have q8 : w1.heap.size ≤ P8 := by rw [← hP]; exact pr.2.2.1
          have hso := own_slice' own.out
          obtain ⟨Av, cv, rfl, hv1, hv2⟩ := hso
          have OWNR := Lib.hid own.out
          have GO : Hid (goS g.nodes g.ins = goS (n :: g.nodes.drop (k + 1)) l) := Lib.hid (by rw [hgo.out, drop_cons _ _ h, NK.out])
          have SB := Lib.hid (sumW_take g.nodes k h)
          have l100 : l.length ≤ 1000 := by have := HL.out; omega
          clear hin hnk mem hcell hnc f1 f2 f3 f4 f5 f6 f7 HCN own hgo
          go_upto_region 20 with fail
          refine opq (fun w' => (∀ o : Nat, w'.cell? ⟨P8, o, none⟩ = (#[.int .i64 n.op, (.slice Ai n.ins.length ci), .int .i64 n.k, .int .i64 n.stride, .int .i64 n.pad, .int .i64 n.out, .int .i64 n.mul, .int .i64 n.shift, .int .i64 n.zero, .int .i64 n.th, .int .i64 n.tw, .int .i64 n.tc, (.slice Aw n.ws.length cw), (.slice Ab n.bs.length cb)] : Array Value)[o]?) ∧ OwnVals w' (P8 + 1) (.slice (some ⟨P8 + 1, 0, none⟩) 0 0) [] ∧ Past wr w' ∧ P8 + 1 ≤ w'.heap.size) ?_ ?_
          · subst hP
            refine ⟨?_, ?_, ?_, ?_⟩
            · (exact kKeep)
            · have := ownVals_new (w := (wr.alloc (.cells #[.int .i64 n.op, (.slice Ai n.ins.length ci), .int .i64 n.k, .int .i64 n.stride, .int .i64 n.pad, .int .i64 n.out, .int .i64 n.mul, .int .i64 n.shift, .int .i64 n.zero, .int .i64 n.th, .int .i64 n.tw, .int .i64 n.tc, (.slice Aw n.ws.length cw), (.slice Ab n.bs.length cb)] 44))) (base := wr.heap.size + 1) (by simp)
              simpa using this
            · (exact kKeep)
            · (exact kKeep)
          rintro w4 ⟨b4, own4, p4, s4⟩
          have OWN4 := Lib.hid own4
          have HWO := Lib.hid hP
          clear x0 x1 x2 x3 x4 x5 x6 x7 x8 x9 x10 x11 x12 x13 own4 hP br
          have br4 := box_past (pr.trans p4) b1 (by omega)
          go_wp2_with fail
          obtain ⟨wo, hwo⟩ : ∃ wo, wo = wr := ⟨_, rfl⟩
          subst hwo
          go_loopw [9, 10] (fun v i wq => ∃ j : Nat, j ≤ n.ins.length ∧ i = .int .i64 j ∧ Hid (OwnVals wq (P8 + 1) v (namedL l (n.ins.take j))) ∧ Hid (∀ t, t < j → 0 ≤ n.ins.getD t 0 ∧ n.ins.getD t 0 < (l.length : Int)) ∧ (∀ o : Nat, wq.cell? ⟨P8, o, none⟩ = (#[.int .i64 n.op, (.slice Ai n.ins.length ci), .int .i64 n.k, .int .i64 n.stride, .int .i64 n.pad, .int .i64 n.out, .int .i64 n.mul, .int .i64 n.shift, .int .i64 n.zero, .int .i64 n.th, .int .i64 n.tw, .int .i64 n.tc, (.slice Aw n.ws.length cw), (.slice Ab n.bs.length cb)] : Array Value)[o]?) ∧ Past wo wq ∧ P8 + 1 ≤ wq.heap.size) (fun _ i _ => n.ins.length - (intOf i).toNat)
          case atStart => exact ⟨0, by omega, rfl, OWN4, Lib.hid (fun t ht => by omega), b4, p4, s4⟩
          case round =>
            clear OWN4 b4 p4 s4 br4
            obtain ⟨j, hj, rfl, own9, hin9, b8, p9, s9⟩ := hrel
            have br9 := box_past (pr.trans p9) b1 (by omega)
            by_cases hjl : j < n.ins.length
            · obtain ⟨eb, eo, rfl, heb, hec⟩ := F7.out (by omega)
              have c0 := (p9.cell (p := ⟨eb, eo + j, none⟩) heb).trans (hec j hjl)
              obtain ⟨x, hx⟩ : ∃ x, n.ins.getD j 0 = x := ⟨_, rfl⟩
              rw [hx] at c0
              have HX := Lib.hid hx
              have j1 : (0 : Int) ≤ (j : Int) := by omega
              have j2 : (j : Int) < (n.ins.length : Int) := by omega
              have w5 : IntKind.i64.wrap ((l.length : Int) - 1) = (l.length : Int) - 1 := IntWalk.i64_in _ (by omega)
              have hebq : eb < wr.heap.size := by have := p9.2.2.1; omega
              clear hx hec
              by_cases hx : 0 ≤ x ∧ x ≤ (l.length : Int) - 1
              · have RI := Lib.hid (fun (w : World) => rin_any x 0 ((l.length : Int) - 1) true w (Lib.hid ⟨fun _ => hx, fun _ => rfl⟩))
                go_wp2_with fail
                refine (RI.out _).mono ?_
                rintro e wz ⟨rfl, g9⟩
                have pz := Grown.past g9
                have p10 := p9.trans pz
                have bz := box_past pz b8 (by omega)
                have c0z := (pz.cell (p := ⟨eb, eo + j, none⟩) hebq).trans c0
                have ownz := Lib.hid (show OwnVals wz (P8 + 1) u9 (namedL l (n.ins.take j)) from own_past' own9.out pz)
                have LV := vals_of_own (own_past' OWNR.out p10) wl.out
                obtain ⟨m, rfl⟩ : ∃ m : Nat, x = m := ⟨x.toNat, by omega⟩
                have m2 : m < l.length := by omega
                obtain ⟨_, _, el, _, _, _, _, lv5⟩ := LV
                obtain ⟨b', off', e2, hbb', hc'⟩ := lv5 (by omega)
                subst e2
                simp only [Value.slice.injEq, true_and] at el
                obtain ⟨rfl, rfl⟩ := el
                obtain ⟨y0, y1, y2, y3⟩ := hc' m m2
                obtain ⟨y, hy⟩ : ∃ y, l.getD m default = y := ⟨_, rfl⟩
                rw [hy] at y0 y1 y2 y3
                have HY := Lib.hid hy
                have lk : (namedL l (n.ins.take j)).length = j := by simp [namedL]; omega
                have LK := Lib.hid lk
                have HLT := Lib.hid (World.ownsRow.lt ownz.out)
                have P10 := Lib.hid p10
                have sz : P8 + 1 ≤ wz.heap.size := by have := pz.2.2.1; omega
                have k1 : (0 : Int) ≤ (m : Int) := by omega
                have k2 : (m : Int) < (l.length : Int) := by omega
                have HM := Lib.hid hx
                clear c0 hc' lv5 hy lk p10 own9 g9 pz br9 p9 b8 s9 RI hx
                go_wp2_with (at_builtin; refine wpList_append_own _ rfl (.tmp 102) (.tmp 111) 22 rfl (P8 + 1) 47 i0 _ 4 32 Tryz.underlying22 I1.out I2.out I3.out I4.out rfl (by decide) _ _ _ rfl (World.ownsRow.alloc ownz.out _) ⟨wz.heap.size, 0, none⟩ 1 1 (valCells y) rfl rfl (fun j u hu => cells_new' wz _ 47 j u hu) (val_one y) ?c4 ?c5 ?c6 ?_)
                case c4 => rw [LK.out]; unfold maxLen; omega
                case c5 => rw [LK.out]; omega
                case c6 => simp; omega
                intro v4 w5' hown5 hgrow _
                have p11 : Past wo w5' := (P10.out.alloc _).grownBy hgrow (fun j hj => by have := (HLT.out j hj).1; have := HWO.out; omega)
                have b11 := box_grownBy hgrow (box_old (x := .cells (valCells y).toArray 47) bz (by omega)) (by simp; omega) (fun e => by have := (HLT.out _ e.symm).1; omega)
                have OWN5 : Hid (OwnVals w5' (P8 + 1) v4 (namedL l (n.ins.take (j + 1)))) := Lib.hid (by
                  unfold OwnVals
                  rw [namedL_take l n.ins j hjl, valsCells_snoc, HX.out]
                  simp only [Int.toNat_natCast, HY.out, List.length_append, List.length_cons, List.length_nil]
                  rw [LK.out]
                  rw [LK.out] at hown5
                  exact hown5)
                have s11 : P8 + 1 ≤ w5'.heap.size := by have := hgrow.size; simp at this; omega
                clear hown5 hgrow bz c0z ownz y0 y1 y2 y3 P10 HLT
                go_wp2_with fail
                go_roundw
                case rel => exact ⟨j + 1, by omega, by go_num, OWN5, Lib.hid (fun t ht => by
                  by_cases c : t = j
                  · subst c; rw [HX.out]; exact ⟨by omega, by omega⟩
                  · exact hin9.out t (by omega)), b11, p11, s11⟩
                case measure => simp [intOf]; omega
              · have RI := Lib.hid (fun (w : World) => rin_any x 0 ((l.length : Int) - 1) false w (Lib.hid ⟨fun f => by simp at f, fun f => absurd f hx⟩))
                have HB : Hid (valuesE g ≠ 0) := Lib.hid (values_goS (by
                  rw [GO.out, goS_no (fun f => hx (by have := f j hjl; rw [HX.out] at this; omega))]
                  decide))
                clear hx
                go_wp2_with fail
                refine (RI.out _).mono ?_
                rintro e wz ⟨rfl, g9⟩
                have pz := p1.trans (pr.trans (p9.trans (Grown.past g9)))
                clear own9 b8 p9 s9 c0 RI g9 br9
                go_wp2_with fail
                go_ret2
                exact rvalues_bad HB.out (by decide) pz
            · obtain rfl : j = n.ins.length := by omega
              have hd : namedP l n.ins := hin9.out
              have ownl : OwnVals wr (P8 + 1) u9 (namedL l n.ins) := by have := own9.out; rw [List.take_length] at this; exact this
              have WFL : ∀ x ∈ namedL l n.ins, ValWf x := fun x hx => by
                simp only [namedL, List.mem_map] at hx
                obtain ⟨i, hi, rfl⟩ := hx
                obtain ⟨t, ht, rfl⟩ := List.getElem_of_mem hi
                have := hd t ht
                simp only [List.getD, ht, List.getElem?_eq_getElem, Option.getD_some] at this
                have hl : n.ins[t].toNat < l.length := by omega
                have : l.getD n.ins[t].toNat default = l[n.ins[t].toNat] := by simp [List.getD, hl]
                rw [this]
                exact wl.out _ (List.getElem_mem _)
              have LVV := Lib.hid (vals_of_own ownl WFL)
              have NDP := Lib.hid hd
              have VW : ValWf (valueV n (namedL l n.ins)) := valueV_wf (NW.out n MEM.out).2.2.2.2.2.2.2.1
              have VA := fun w (p : Past wr w) => rvalue_any n _ _ _ u9 (namedL l n.ins) w (IN.out.grow (p9.trans p)) (LVV.out.grow p)
              obtain ⟨x, hx⟩ : ∃ x, valueV n (namedL l n.ins) = x := ⟨_, rfl⟩
              obtain ⟨qv, hqv⟩ : ∃ x, valueE n (namedL l n.ins) = x := ⟨_, rfl⟩
              unfold ValuePost at VA
              rw [hx, hqv] at VA
              rw [hx] at VW
              have VA := Lib.hid VA
              have VW := Lib.hid VW
              have HX := Lib.hid hx
              have HQV := Lib.hid hqv
              obtain ⟨A9, c9, rfl, _⟩ := own_slice' ownl
              have d7 : decide ((n.ins.length : Int) < (n.ins.length : Int)) = false := by simp
              clear hx hqv hd ownl WFL own9 hin9
              go_wp2_with (refine wpList_load_box rfl 44 (.tmp 8) rfl P8 #[.int .i64 n.op, (.slice Ai n.ins.length ci), .int .i64 n.k, .int .i64 n.stride, .int .i64 n.pad, .int .i64 n.out, .int .i64 n.mul, .int .i64 n.shift, .int .i64 n.zero, .int .i64 n.th, .int .i64 n.tw, .int .i64 n.tc, (.slice Aw n.ws.length cw), (.slice Ab n.bs.length cb)] rfl b8 Tryz.underlying44 rfl N14 ?_)
              refine (VA.out _ (Past.refl _)).mono ?_
              rintro e w11 ⟨rfl, g11⟩
              have pz := Grown.past g11
              have p12 := p9.trans pz
              have b12 := box_past pz b8 (by omega)
              have s12 : P8 + 1 ≤ w11.heap.size := by have := pz.2.2.1; omega
              have ownO := Lib.hid (show OwnVals w11 w1.heap.size (.slice Av l.length cv) l from own_past' OWNR.out p12)
              clear g11 pz p9 b8 s9 br9 VA LVV
              obtain ⟨P11, hP11⟩ : ∃ P11, w11.heap.size = P11 := ⟨_, rfl⟩
              have P11W := Lib.hid hP11
              go_upto_region 27 with fail
              refine opq (fun w' => (∀ o : Nat, w'.cell? ⟨P8, o, none⟩ = (#[.int .i64 n.op, (.slice Ai n.ins.length ci), .int .i64 n.k, .int .i64 n.stride, .int .i64 n.pad, .int .i64 n.out, .int .i64 n.mul, .int .i64 n.shift, .int .i64 n.zero, .int .i64 n.th, .int .i64 n.tw, .int .i64 n.tc, (.slice Aw n.ws.length cw), (.slice Ab n.bs.length cb)] : Array Value)[o]?) ∧ (∀ o : Nat, w'.cell? ⟨P11, o, none⟩ = (#[.int .i64 x.h, .int .i64 x.w, .int .i64 x.c, .int .i64 x.z] : Array Value)[o]?) ∧ Past w11 w' ∧ P11 + 1 ≤ w'.heap.size) (by subst hP11; (exact kKeep)) ?_
              rintro w13 ⟨b13, v13, p13, s13⟩
              have ownO := Lib.hid (show OwnVals w13 w1.heap.size (.slice Av l.length cv) l from own_past' ownO.out p13)
              have p14 := p12.trans p13
              clear b12 p12 hP11
              by_cases q0 : qv = 0
              · have Q0 := Lib.hid q0
                have d8 : (qv != 0) = false := by simp [q0]
                have HLT := Lib.hid (World.ownsRow.lt ownO.out)
                have P14 := Lib.hid (pr.trans p14)
                have s14 : w1.heap.size ≤ w13.heap.size := (pr.trans p14).2.2.1
                have sw : sumW (g.nodes.take (k + 1)) = sumW (g.nodes.take k) + n.ws.length := by rw [SB.out, NK.out]
                have w6 : IntKind.i64.wrap ((sumW (g.nodes.take k) : Int) + (n.ws.length : Int)) = ((sumW (g.nodes.take (k + 1)) : Nat) : Int) := by
                  rw [sw, Int.natCast_add]
                  exact IntWalk.i64_in _ (by omega)
                have s8 : P8 ≤ P11 := by have := P11W.out; omega
                have s8' : P8 + 1 ≤ P11 := by have := P11W.out; omega
                clear p14 q0 pr p13
                go_wp2_with (at_builtin; refine wpList_append_own _ rfl (.tmp 122) (.tmp 124) 22 rfl w1.heap.size 47 i0 _ 4 32 Tryz.underlying22 I1.out I2.out I3.out I4.out rfl (by decide) _ _ _ rfl (World.ownsRow.alloc ownO.out _) ⟨w13.heap.size, 0, none⟩ 1 1 (valCells x) rfl rfl (fun j u hu => cells_new' w13 _ 47 j u hu) (val_one x) ?c4 ?c5 ?c6 ?_)
                case c4 => unfold maxLen; omega
                case c5 => omega
                case c6 => simp; omega
                intro v4 w14 hown14 hgrow _
                have p15 : Past w1 w14 := (P14.out.alloc _).grownBy hgrow (fun j hj => (HLT.out j hj).1)
                have hne : some P8 ≠ (Value.slice Av l.length cv).ownBlock := fun e => by
                  have h1 := World.ownsRow.lt OWNR.out _ e.symm
                  have h2 := HWO.out
                  omega
                have b15 := box_grownBy hgrow (box_old (x := .cells (valCells x).toArray 47) b13 (by omega)) (by simp; omega) hne
                have OWN14 : Hid (OwnVals w14 w1.heap.size v4 (l ++ [x])) := Lib.hid (by
                  unfold OwnVals
                  rw [valsCells_snoc]
                  simp only [List.length_append, List.length_cons, List.length_nil]
                  exact hown14)
                clear hown14 hgrow b13 v13 ownO P14 HLT hne
                go_wp2_with fail
                go_roundw
                case rel => exact ⟨k + 1, l ++ [x], by omega, by go_num, by go_num, by omega, OWN14, Lib.hid (fun z hz => by
                  rcases List.mem_append.1 hz with hz | hz
                  · exact wl.out z hz
                  · simp only [List.mem_cons, List.not_mem_nil, or_false] at hz; subst hz; exact VW.out), Lib.hid (by
                  rw [GO.out, goS_ok NDP.out (by rw [HQV.out]; exact Q0.out), HX.out]), by have := HL.out; simp; omega, p15⟩
                case measure => simp [intOf]; omega
              · have d8 : (qv != 0) = true := by simpa using q0
                have Q0 := Lib.hid q0
                have HB : Hid (valuesE g ≠ 0) := Lib.hid (values_goS (by
                  rw [GO.out, goS_err NDP.out (by rw [HQV.out]; exact Q0.out)]
                  show valueE n (namedL l n.ins) ≠ 0
                  rw [HQV.out]; exact Q0.out))
                have pz := p1.trans (pr.trans p14)
                clear q0 b13 v13 ownO p14 p13
                go_wp2_with fail
                go_ret2
                exact rvalues_bad HB.out Q0.out pz
        · obtain rfl : k = g.nodes.length := by omega
          have hgo' := hgo.out
          rw [List.drop_length] at hgo'
          rw [List.take_length] at hs
          have GO : Hid (goS g.nodes g.ins = (0, l)) := Lib.hid (by rw [hgo']; rfl)
          have TK : List.take g.nodes.length g.nodes = g.nodes := List.take_length
          have d6 : decide ((g.nodes.length : Int) < (g.nodes.length : Int)) = false := by simp
          rw [TK]
          clear hgo hgo' TK
          obtain ⟨Av, cv, rfl, hv1, hv2⟩ := own_slice' own.out
          have l100 : l.length ≤ 1000 := by have := HL.out; omega
          by_cases hw : 4096 < sumW g.nodes
          · have d7 : decide ((4096 : Int) < (sumW g.nodes : Int)) = true := by simp; omega
            have HB : Hid (valuesE g ≠ 0) := Lib.hid (by
              intro f
              have := (values_ok f).2.2.1
              omega)
            have pz := p1.trans pr
            clear hw
            go_wp2_with fail
            go_ret2
            exact rvalues_bad HB.out (by decide) pz
          · have d7 : decide ((4096 : Int) < (sumW g.nodes : Int)) = false := by simp; omega
            have HW := Lib.hid hw
            clear hw
            obtain ⟨wo, hwo⟩ : ∃ wo, wo = wr := ⟨_, rfl⟩
            subst hwo
            have w5 : IntKind.i64.wrap ((l.length : Int) - 1) = (l.length : Int) - 1 := IntWalk.i64_in _ (by omega)
            go_wp2_with fail
            go_loopw [13] (fun i wq => ∃ j : Nat, j ≤ g.outs.length ∧ i = .int .i64 j ∧ Hid (∀ t, t < j → 0 ≤ g.outs.getD t 0 ∧ g.outs.getD t 0 < (l.length : Int)) ∧ Past wo wq) (fun i _ => g.outs.length - (intOf i).toNat)
            case atStart => exact ⟨0, by omega, rfl, Lib.hid (fun t ht => by omega), Past.refl _⟩
            case round =>
              obtain ⟨j, hj, rfl, hin9, p9⟩ := hrel
              have p10 := pr.trans p9
              have b9 := box_past p10 b1 (by omega)
              by_cases hjl : j < g.outs.length
              · obtain ⟨eb, eo, rfl, heb, hec⟩ := O5.out (by omega)
                have c0 := ((p1.trans p10).cell (p := ⟨eb, eo + j, none⟩) heb).trans (hec j hjl)
                obtain ⟨x, hx⟩ : ∃ x, g.outs.getD j 0 = x := ⟨_, rfl⟩
                rw [hx] at c0
                have HX := Lib.hid hx
                have j1 : (0 : Int) ≤ (j : Int) := by omega
                have j2 : (j : Int) < (g.outs.length : Int) := by omega
                clear hx hec
                by_cases hx : 0 ≤ x ∧ x ≤ (l.length : Int) - 1
                · have RI := Lib.hid (fun (w : World) => rin_any x 0 ((l.length : Int) - 1) true w (Lib.hid ⟨fun _ => hx, fun _ => rfl⟩))
                  go_wp2_with fail
                  refine (RI.out _).mono ?_
                  rintro e wz ⟨rfl, g9⟩
                  have pz := p9.trans (Grown.past g9)
                  clear c0 b9 g9 p9 p10 RI br
                  go_wp2_with fail
                  go_roundw
                  case rel => exact ⟨j + 1, by omega, by go_num, Lib.hid (fun t ht => by
                    by_cases c : t = j
                    · subst c; rw [HX.out]; exact ⟨by omega, by omega⟩
                    · exact hin9.out t (by omega)), pz⟩
                  case measure => simp [intOf]; omega
                · have RI := Lib.hid (fun (w : World) => rin_any x 0 ((l.length : Int) - 1) false w (Lib.hid ⟨fun f => by simp at f, fun f => absurd f hx⟩))
                  have HB : Hid (valuesE g ≠ 0) := Lib.hid (by
                    intro f
                    have h1 := (values_ok f).2.2.2
                    have h2 : valuesL g = l := by unfold valuesL; rw [if_pos f, GO.out]
                    rw [h2] at h1
                    have := h1 j hjl
                    rw [HX.out] at this
                    omega)
                  clear hx
                  go_wp2_with fail
                  refine (RI.out _).mono ?_
                  rintro e wz ⟨rfl, g9⟩
                  have pz := p1.trans (p10.trans (Grown.past g9))
                  clear c0 b9 g9 p9 p10 RI br
                  go_wp2_with fail
                  go_ret2
                  exact rvalues_bad HB.out (by decide) pz
              · obtain rfl : j = g.outs.length := by omega
                have VM := Lib.hid (values_mk HBE.out GO.out (by have := HW.out; omega) hin9.out)
                have d8 : decide ((g.outs.length : Int) < (g.outs.length : Int)) = false := by simp
                have OV := Lib.hid (vals_of_own (own_past' own.out p9) wl.out)
                have pz := p1.trans p10
                clear p9 p10 br
                go_wp2_with fail
                go_ret2
                exact ⟨_, _, rfl, ⟨fun _ => VM.out.1, fun _ => rfl⟩, fun _ => by rw [VM.out.2]; exact OV.out, pz⟩
end Go.Proofs.YtliijchcpooplaaGreat
namespace Go.Proofs.YtliijchcpooplaaGreat
open Go.ChangeShapes Go.WideShapes Go.ChangeAt Go.RowKit
set_option maxRecDepth 20000
set_option linter.unusedVariables false

def gK : GraphD := ⟨[⟨1, 1, 1, 0⟩], [], [0, 0]⟩
theorem gK_ok : valuesE gK = 0 ∧ valuesL gK = gK.ins := by
  refine values_mk (begins_mk (by decide) (fun j hj => ?_) (fun j hj => ?_)) rfl (by decide) (fun j hj => ?_)
  · obtain rfl : j = 0 := by have : j < 1 := hj; omega
    show mayS 1 1 1
    unfold mayS; omega
  · obtain rfl : j = 0 := by have : j < 1 := hj; omega
    decide
  · have : j < 2 := hj
    rcases (show j = 0 ∨ j = 1 by omega) with rfl | rfl <;> decide
theorem gK_cut : Cut gK := ⟨by decide, fun n hn => by cases hn⟩
theorem gK_fits : fitsP gK.ins [[7]] := by
  refine ⟨rfl, fun j hj => ?_⟩
  obtain rfl : j = 0 := by have : j < 1 := hj; omega
  show (1 : Int) = sizeI 1 1 1
  unfold sizeI mayS
  rw [if_pos (by omega)]
  rfl
theorem nodes_nil (w : World) : IsNodes w (.slice none 0 0) [] := ⟨none, 0, rfl, Nat.le_refl _, Nat.zero_le _, fun _ => rfl, by simp, by simp⟩
theorem nums_lit {k : IntKind} {w : World} {b : Nat} (xs : List Int) (hw : ∀ x ∈ xs, (Lit.int k x).wf = true) (hm : xs.length ≤ maxLen) (h0 : 0 < xs.length) (h : ∀ i : Nat, w.cell? ⟨b, i, none⟩ = (xs.map (Value.int k))[i]?) : IsNums k w (.slice (some ⟨b, 0, none⟩) xs.length xs.length) xs := by
  have c0 := h 0
  rw [List.getElem?_eq_getElem (by simpa using h0)] at c0
  refine ⟨_, _, rfl, Nat.le_refl _, hm, (fun h => by cases h), hw, fun _ => ⟨b, 0, rfl, cell_lt c0, fun i hi => ?_⟩⟩
  rw [Nat.zero_add, h i]
  simp [List.getD, hi]

theorem rows_two {w : World} {v : Value} {x y : Int} (h : IsRows w v [[x], [y]]) : ∃ b o cap b0 o0 c0 b1 o1 c1, v = .slice (some ⟨b, o, none⟩) 2 cap ∧ w.cell? ⟨b, o, none⟩ = some (.slice (some ⟨b0, o0, none⟩) 1 c0) ∧ w.cell? ⟨b, o + 1, none⟩ = some (.slice (some ⟨b1, o1, none⟩) 1 c1) ∧ w.cell? ⟨b0, o0, none⟩ = some (.int .i8 x) ∧ w.cell? ⟨b1, o1, none⟩ = some (.int .i8 y) := by
  obtain ⟨us, ⟨A, cap, rfl, _, _, _, h5⟩, hl, hn⟩ := h
  have l2 : us.length = 2 := hl
  obtain ⟨u0, u1, rfl⟩ := slc_two l2
  obtain ⟨b, o, rfl, hb, hc⟩ := h5 (by simp)
  have e0 := hc 0 (by simp)
  have e1 := hc 1 (by simp)
  have n0 := hn 0 (by simp)
  have n1 := hn 1 (by simp)
  simp only [List.getD_cons_zero, List.getD_cons_succ, Nat.add_zero] at e0 e1 n0 n1
  obtain ⟨A0, c0, rfl, _, _, _, _, k0⟩ := n0
  obtain ⟨A1, c1, rfl, _, _, _, _, k1⟩ := n1
  obtain ⟨b0, o0, rfl, _, q0⟩ := k0 (by simp)
  obtain ⟨b1, o1, rfl, _, q1⟩ := k1 (by simp)
  exact ⟨b, o, cap, b0, o0, c0, b1, o1, c1, rfl, e0, e1, q0 0 (by simp), q1 0 (by simp)⟩
theorem gK_outs : namedR (evalL gK [[7]]) gK.outs = [[7], [7]] := rfl

set_option maxHeartbeats 4000000 in
theorem shown6 (W : World) : Calls Tryz.prog 6 #[] W fun e w' => e = .returned (.bool true) ∧ Past W w' := by
  go_enter Tryz.func6, Tryz.ntmps6
  go_upto_region 2 with fail
  refine opq (fun w' => (∀ o : Nat, w'.cell? ⟨W.heap.size, o, none⟩ = (#[.int .i64 1, .int .i64 1, .int .i64 1, .int .i64 0] : Array Value)[o]?) ∧ (∀ o : Nat, w'.cell? ⟨W.heap.size + 1, o, none⟩ = (#[.int .i64 0, .int .i64 0] : Array Value)[o]?) ∧ (∀ o : Nat, w'.cell? ⟨W.heap.size + 1 + 1, o, none⟩ = (#[.slice (some ⟨W.heap.size, 0, none⟩) 1 1, .slice none 0 0, .slice (some ⟨W.heap.size + 1, 0, none⟩) 2 2] : Array Value)[o]?) ∧ Past W w' ∧ W.heap.size + 3 ≤ w'.heap.size) kKeep ?_
  rintro w1 ⟨b1, b2, b3, p1, z1⟩
  have HGK : Hid (∀ w, Past w1 w → IsGraph w (.agg #[.slice (some ⟨W.heap.size, 0, none⟩) 1 1, .slice none 0 0, .slice (some ⟨W.heap.size + 1, 0, none⟩) 2 2]) gK) := Lib.hid (fun w p => by
    have c1 := box_past p b1 (by omega)
    have c2 := box_past p b2 (by omega)
    have hs : W.heap.size + 3 ≤ w.heap.size := by have := p.2.2.1; omega
    exact ⟨_, _, _, rfl, vals_one (x := ⟨1, 1, 1, 0⟩) (by omega) (by unfold ValWf; decide) ⟨c1 0, c1 1, c1 2, c1 3⟩, nodes_nil _, nums_lit [0, 0] (by decide) (by decide) (by decide) (fun i => (c2 i).trans (by simp))⟩)
  have HRK : Hid (∀ (w : World) (B : Nat), (∀ o : Nat, w.cell? ⟨B, o, none⟩ = (#[.int .i8 7] : Array Value)[o]?) → (∀ o : Nat, w.cell? ⟨B + 1, o, none⟩ = (#[.slice (some ⟨B, 0, none⟩) 1 1] : Array Value)[o]?) → HasCells w (.slice (some ⟨B + 1, 0, none⟩) 1 1) [.slice (some ⟨B, 0, none⟩) 1 1] ∧ AreNums w [.slice (some ⟨B, 0, none⟩) 1 1] [[7]]) := Lib.hid (fun w B c1 c2 => by
    refine ⟨⟨_, _, rfl, Nat.le_refl _, by decide, (fun h => by cases h), fun _ => ⟨B + 1, 0, rfl, cell_lt (c2 0), fun i hi => ?_⟩⟩, rfl, fun i hi => ?_⟩
    · have : i < 1 := hi
      obtain rfl : i = 0 := by omega
      exact c2 0
    · have : i < 1 := hi
      obtain rfl : i = 0 := by omega
      exact nums_lit [7] (by decide) (by decide) (by decide) (fun i => (c1 i).trans (by simp)))
  clear b1 b2
  go_wp2_with fail
  refine (eouts_ok gK _ _ [.slice (some ⟨w1.heap.size, 0, none⟩) 1 1] [[7]] _ (HGK.out _ ?p1) gK_cut (HRK.out _ _ ?p2 ?p3).1 (HRK.out _ _ ?p2 ?p3).2 gK_ok.1 gK_fits).mono ?_
  case p1 => (exact kKeep)
  case p2 => (exact kKeep)
  case p3 => (exact kKeep)
  rintro e w3 ⟨v, rfl, ho, p3⟩
  rw [gK_outs] at ho
  have hr := ho.is (fun i hi x hx => by
    have : i < 2 := hi
    rcases (show i = 0 ∨ i = 1 by omega) with rfl | rfl <;> · simp at hx; omega)
  obtain ⟨b, o, cap, d0, o0, c0, d1, o1, c1, rfl, e0, e1, q0, q1⟩ := rows_two hr
  have pF : Past W w3 := p1.trans (Past.trans kKeep p3)
  clear ho hr p3 b3 p1
  go_wp2_with fail
  go_ret
  exact ⟨rfl, pF⟩
end Go.Proofs.YtliijchcpooplaaGreat
namespace Go.Proofs.YtliijchcpooplaaGreat
open Go.ChangeShapes Go.WideShapes Go.ChangeAt Go.RowKit
set_option maxRecDepth 20000
set_option linter.unusedVariables false

/-- A block that holds no number. -/
def NoInt (w : World) (B : Nat) : Prop := ∀ o k n, w.cell? ⟨B, o, none⟩ ≠ some (.int k n)
theorem noInt_box {w : World} {B : Nat} {a1 a2 a3 : Option Addr} {l1 l2 l3 c1 c2 c3 : Nat} (h : (∀ o : Nat, w.cell? ⟨B, o, none⟩ = (#[.slice a1 l1 c1, .slice a2 l2 c2, .slice a3 l3 c3] : Array Value)[o]?)) : NoInt w B := by
  intro o k n
  rw [h o]
  match o with
  | 0 => simp
  | 1 => simp
  | 2 => simp
  | o + 3 => simp
/-- All but block B is as it was. -/
def Save (B : Nat) (w w' : World) : Prop := w.heap.size ≤ w'.heap.size ∧ ∀ k, k < w.heap.size → k ≠ B → w'.heap[k]? = w.heap[k]?
theorem Save.refl (B : Nat) (w : World) : Save B w w := ⟨Nat.le_refl _, fun _ _ _ => rfl⟩
theorem Save.set {B : Nat} {w w' : World} (h : Save B w w') (o : Nat) (u : Value) : Save B w (w'.setCell ⟨B, o, none⟩ u) :=
  ⟨by simpa [World.setCell] using h.1, fun k hk hne => (Below.heap_setCell w' ⟨B, o, none⟩ u k hne).trans (h.2 k hk hne)⟩
theorem Save.cell {B : Nat} {w w' : World} (h : Save B w w') {b o : Nat} (hb : b < w.heap.size) (hne : b ≠ B) : w'.cell? ⟨b, o, none⟩ = w.cell? ⟨b, o, none⟩ := World.cell?_of_block (h.2 b hb hne)
theorem nums_save {k : IntKind} {B : Nat} {w w' : World} {v : Value} {xs : List Int} (h : IsNums k w v xs) (hN : NoInt w B) (g : Save B w w') : IsNums k w' v xs := by
  obtain ⟨A, cap, h1, h2, h3, h4, h5, h6⟩ := h
  refine ⟨A, cap, h1, h2, h3, h4, h5, fun hp => ?_⟩
  obtain ⟨b, off, e, hb, hc⟩ := h6 hp
  have hne : b ≠ B := fun e => hN _ _ _ (e ▸ hc 0 hp)
  exact ⟨b, off, e, Nat.lt_of_lt_of_le hb g.1, fun i hi => (g.cell hb hne).trans (hc i hi)⟩
theorem vals_save {B : Nat} {w w' : World} {v : Value} {xs : List ValD} (h : IsVals w v xs) (hN : NoInt w B) (g : Save B w w') : IsVals w' v xs := by
  obtain ⟨A, cap, h1, h2, h3, h4, h5, h6⟩ := h
  refine ⟨A, cap, h1, h2, h3, h4, h5, fun hp => ?_⟩
  obtain ⟨b, off, e, hb, hc⟩ := h6 hp
  have hne : b ≠ B := fun e => hN _ _ _ (e ▸ (hc 0 hp).1)
  exact ⟨b, off, e, Nat.lt_of_lt_of_le hb g.1, fun i hi => ⟨(g.cell hb hne).trans (hc i hi).1, (g.cell hb hne).trans (hc i hi).2.1, (g.cell hb hne).trans (hc i hi).2.2.1, (g.cell hb hne).trans (hc i hi).2.2.2⟩⟩
theorem nodes_save {B : Nat} {w w' : World} {v : Value} {ns : List NodeD} (h : IsNodes w v ns) (hN : NoInt w B) (g : Save B w w') : IsNodes w' v ns := by
  obtain ⟨A, cap, h1, h2, h3, h4, h5, h6⟩ := h
  refine ⟨A, cap, h1, h2, h3, h4, h5, fun hp => ?_⟩
  obtain ⟨b, off, e, hb, hc⟩ := h6 hp
  have hne : b ≠ B := fun e => by
    obtain ⟨vi, vw, vb, _, k⟩ := hc 0 hp
    exact hN _ _ _ (e ▸ k 0 (by omega))
  refine ⟨b, off, e, Nat.lt_of_lt_of_le hb g.1, fun i hi => ?_⟩
  obtain ⟨vi, vw, vb, hin, k⟩ := hc i hi
  exact ⟨vi, vw, vb, ⟨nums_save hin.1 hN g, nums_save hin.2.1 hN g, nums_save hin.2.2 hN g⟩, fun j hj => (g.cell hb hne).trans (k j hj)⟩
theorem cut_lessD (g : GraphD) : Cut (lessD g) := by
  refine ⟨by simp [lessD]; omega, fun n hn => ?_⟩
  simp only [lessD, List.mem_map] at hn
  obtain ⟨m, _, rfl⟩ := hn
  constructor
  · simp [fewD]; omega
  · simp [fewD]; omega
theorem nodes_cut {w : World} {A : Option Addr} {len cap : Nat} {xs : List NodeD} (m : Nat) (h : IsNodes w (.slice A len cap) xs) (hm : m ≤ xs.length) : IsNodes w (.slice A m cap) (xs.take m) := by
  obtain ⟨A', cap', e, h2, h3, h4, h5, h6⟩ := h
  simp only [Value.slice.injEq] at e
  obtain ⟨rfl, rfl, rfl⟩ := e
  have hl : (xs.take m).length = m := by simp; omega
  refine ⟨A, cap, by rw [hl], by omega, h3, h4, fun x hx => h5 x (List.mem_of_mem_take hx), fun hp => ?_⟩
  obtain ⟨b, off, rfl, hb, hc⟩ := h6 (by omega)
  refine ⟨b, off, rfl, hb, fun i hi => ?_⟩
  have him : i < m := by omega
  have e : (xs.take m).getD i default = xs.getD i default := by simp [List.getD, him]
  rw [e]
  exact hc i (by omega)
theorem rows_cut {w : World} {A : Option Addr} {len cap : Nat} {xs : List (List Int)} (m : Nat) (h : IsRows w (.slice A len cap) xs) (hm : m ≤ xs.length) : IsRows w (.slice A m cap) (xs.take m) := by
  obtain ⟨us, ⟨A', cap', e, h2, h3, h4, h6⟩, hl, hn⟩ := h
  simp only [Value.slice.injEq] at e
  obtain ⟨rfl, rfl, rfl⟩ := e
  have l1 : (us.take m).length = m := by simp; omega
  have l2 : (xs.take m).length = m := by simp; omega
  refine ⟨us.take m, ⟨A, cap, by rw [l1], by omega, h3, h4, fun hp => ?_⟩, by rw [l1, l2], fun i hi => ?_⟩
  · obtain ⟨b, off, rfl, hb, hc⟩ := h6 (by omega)
    refine ⟨b, off, rfl, hb, fun i hi => ?_⟩
    have him : i < m := by omega
    have e : (us.take m).getD i nilS = us.getD i nilS := by simp [List.getD, him]
    rw [e]
    exact hc i (by omega)
  · have him : i < m := by omega
    have e : (us.take m).getD i nilS = us.getD i nilS := by simp [List.getD, him]
    have e2 : (xs.take m).getD i [] = xs.getD i [] := by simp [List.getD, him]
    rw [e, e2]
    exact hn i (by omega)

/-! ### What stands behind a node changes nothing ahead of it. -/
theorem namedR_app {l r : List (List Int)} {ns : List Int} (h : inP l.length ns) : namedR (l ++ r) ns = namedR l ns := by
  unfold namedR
  refine List.map_congr_left fun i hi => ?_
  obtain ⟨j, hj, rfl⟩ := List.getElem_of_mem hi
  have := h j hj
  have e : ns.getD j 0 = ns[j] := by simp [List.getD, hj]
  rw [e] at this
  simp [List.getD, List.getElem?_append_left (show ns[j].toNat < l.length by omega)]
theorem goE_len (V : List ValD) (ns : List NodeD) : ∀ ds, (goE V ns ds).length = ds.length + ns.length := by
  induction ns with
  | nil => intro ds; rfl
  | cons n ns ih => intro ds; simp only [goE]; rw [ih]; simp; omega
theorem goE_pre (V : List ValD) (ns : List NodeD) : ∀ ds, ∃ m, goE V ns ds = ds ++ m := by
  induction ns with
  | nil => intro ds; exact ⟨[], by simp [goE]⟩
  | cons n ns ih =>
    intro ds
    obtain ⟨m, hm⟩ := ih (ds ++ [kernL n (namedL V n.ins) (namedR ds n.ins)])
    exact ⟨_, by simp only [goE]; rw [hm, List.append_assoc]⟩
theorem goE_snoc (V : List ValD) (n : NodeD) (ns : List NodeD) : ∀ ds, goE V (ns ++ [n]) ds = goE V ns ds ++ [kernL n (namedL V n.ins) (namedR (goE V ns ds) n.ins)] := by
  induction ns with
  | nil => intro ds; rfl
  | cons m ns ih => intro ds; simp only [List.cons_append, goE]; exact ih _
theorem goE_congr (V V' : List ValD) (ns : List NodeD) (h : ∀ n ∈ ns, namedL V n.ins = namedL V' n.ins) : ∀ ds, goE V ns ds = goE V' ns ds := by
  induction ns with
  | nil => intro ds; rfl
  | cons n ns ih =>
    intro ds
    simp only [goE]
    rw [h n (by simp)]
    exact ih (fun m hm => h m (by simp [hm])) _
theorem goE_at (V : List ValD) (ns : List NodeD) : ∀ (ds : List (List Int)) (k : Nat), k < ns.length → inP (ds.length + k) (ns.getD k default).ins →
    (goE V ns ds).getD (ds.length + k) [] = kernL (ns.getD k default) (namedL V (ns.getD k default).ins) (namedR (goE V ns ds) (ns.getD k default).ins) := by
  induction ns with
  | nil => intro ds k hk; simp at hk
  | cons n ns ih =>
    intro ds k hk hp
    simp only [goE]
    cases k with
    | zero =>
      simp only [List.getD_cons_zero, Nat.add_zero] at hp ⊢
      obtain ⟨m, hm⟩ := goE_pre V ns (ds ++ [kernL n (namedL V n.ins) (namedR ds n.ins)])
      rw [hm, List.append_assoc, namedR_app hp]
      simp [List.getD]
    | succ k =>
      simp only [List.getD_cons_succ] at hp ⊢
      have := ih (ds ++ [kernL n (namedL V n.ins) (namedR ds n.ins)]) k (by simpa using hk) (by
        simp only [List.length_append, List.length_cons, List.length_nil]
        rw [show ds.length + (0 + 1) + k = ds.length + (k + 1) by omega]
        exact hp)
      simp only [List.length_append, List.length_cons, List.length_nil] at this
      rw [show ds.length + (0 + 1) + k = ds.length + (k + 1) by omega] at this
      exact this
theorem eval_at {g : GraphD} (h : valuesE g = 0) {k : Nat} (hk : k < g.nodes.length) {ins : List (List Int)} (hl : ins.length = g.ins.length) :
    (evalL g ins).getD (g.ins.length + k) [] = kernL (g.nodes.getD k default) (namedL (valuesL g) (g.nodes.getD k default).ins) (namedR (evalL g ins) (g.nodes.getD k default).ins) := by
  have := goE_at (valuesL g) g.nodes ins k hk (fun j hj => by
    rw [hl]
    exact node_at (node_ok h hk) hk (makes_facts h).1 hj)
  rw [hl] at this
  exact this
theorem eval_ins {g : GraphD} {ins : List (List Int)} {j : Nat} (hj : j < ins.length) : (evalL g ins).getD j [] = ins.getD j [] := by
  obtain ⟨m, hm⟩ := goE_pre (valuesL g) g.nodes ins
  unfold evalL
  rw [hm]
  simp [List.getD, List.getElem?_append_left hj]
theorem last_split {ns : List NodeD} (h : 0 < ns.length) : ns = ns.take (ns.length - 1) ++ [ns.getD (ns.length - 1) default] := by
  have hl : ns.length - 1 < ns.length := by omega
  have e : ns.getD (ns.length - 1) default = ns[ns.length - 1] := by simp [List.getD, hl]
  rw [e, ← List.take_succ_eq_append_getElem hl, show ns.length - 1 + 1 = ns.length by omega, List.take_length]
/-- A graph with one node less, of which the first value comes out. -/
def cutD (g : GraphD) : GraphD := ⟨g.ins, g.nodes.take (g.nodes.length - 1), [0]⟩
theorem cut_ok {g : GraphD} (h : valuesE g = 0) (hn : 0 < g.nodes.length) : valuesE (cutD g) = 0 ∧ ∃ x, valuesL g = valuesL (cutD g) ++ [x] := by
  obtain ⟨h1, h2, h3, h4⟩ := values_ok h
  have hb := begins_ok h1
  rw [last_split hn] at h2 h3
  obtain ⟨r', x, e1, e2⟩ := goS_short _ _ _ _ h2
  obtain ⟨m, hm, _⟩ := goS_spec _ _ _ e1
  have := values_mk (g := cutD g) (l := r') (begins_mk ⟨hb.1.1, hb.1.2.1, by simp [cutD]; omega, by simp [cutD], by simp [cutD]⟩ hb.2.1 hb.2.2) e1 (by rw [sumW_app] at h3; simp only [cutD]; omega) (fun j hj => by
    have : j < 1 := hj
    obtain rfl : j = 0 := by omega
    have hl : 0 < r'.length := by rw [hm]; simp; omega
    exact ⟨(show (0 : Int) ≤ 0 by decide), (show (0 : Int) < (r'.length : Int) by omega)⟩)
  exact ⟨this.1, x, by rw [this.2]; exact e2⟩
theorem cut_eval {g : GraphD} (h : valuesE g = 0) (hn : 0 < g.nodes.length) {ins : List (List Int)} (hl : ins.length = g.ins.length) : evalL (cutD g) ins = (evalL g ins).take (g.ins.length + g.nodes.length - 1) := by
  obtain ⟨h0, x, hx⟩ := cut_ok h hn
  have hc := (makes_facts h0).1
  have cn : (cutD g).nodes.length = g.nodes.length - 1 := by simp [cutD]
  have e1 : goE (valuesL g) (cutD g).nodes ins = evalL (cutD g) ins := by
    refine goE_congr _ _ _ (fun n hm => ?_) ins
    obtain ⟨k, hk, rfl⟩ := List.getElem_of_mem hm
    have ok := node_ok h0 hk
    have e : (cutD g).nodes.getD k default = (cutD g).nodes[k] := by simp [List.getD, hk]
    have hp := ok.named
    rw [e] at hp
    rw [hx]
    exact namedL_app (fun j hj => by
      have := hp j hj
      rw [List.length_take] at this
      omega)
  have e2 : evalL g ins = evalL (cutD g) ins ++ [kernL (g.nodes.getD (g.nodes.length - 1) default) (namedL (valuesL g) (g.nodes.getD (g.nodes.length - 1) default).ins) (namedR (evalL (cutD g) ins) (g.nodes.getD (g.nodes.length - 1) default).ins)] := by
    have : evalL g ins = goE (valuesL g) ((cutD g).nodes ++ [g.nodes.getD (g.nodes.length - 1) default]) ins := by
      unfold evalL
      congr 1
      exact last_split hn
    rw [this, goE_snoc, e1]
  have l1 : (evalL (cutD g) ins).length = g.ins.length + g.nodes.length - 1 := by
    unfold evalL
    rw [goE_len, cn, hl]
    omega
  rw [e2, List.take_append_of_le_length (by omega), List.take_of_length_le (by omega)]
theorem evalL_len (g : GraphD) {ins : List (List Int)} (hl : ins.length = g.ins.length) : (evalL g ins).length = g.ins.length + g.nodes.length := by unfold evalL; rw [goE_len, hl]
section
variable {H : Type} {enc : TypeId × Value → H} {W : World}
theorem cells40 : Tryz.prog.cellsOf 26 = 3 := by kernel_rfl
theorem cells38 : Tryz.prog.cellsOf 23 = 1 := by kernel_rfl
theorem open_nodes {fuel : Nat} {v : Value} {x : DataW H × List MemPlace} (h : DataW.trod enc Tryz.prog W 0 (fun _ => true) true fuel 23 [v] = some x) : ∃ ns, IsNodes W v ns := by
  obtain ⟨A, len, cap, rfl, hl, hm, hn, hp⟩ := open_rows Tryz.underlying23 cells28 (by omega) h
  by_cases c : 0 < len
  · obtain ⟨b, off, rfl, hb, hx⟩ := hp c
    have each : ∀ i, i < len → ∃ n : NodeD, NodeAt W b (off + i * 14) n ∧ NodeWf n := by
      intro i hi
      obtain ⟨cs, m, y, l, q, hy⟩ := hx i hi
      obtain ⟨d, vi, vw, vb, rfl, hin, wd⟩ := open_node hy
      exact ⟨d, ⟨vi, vw, vb, hin, q⟩, wd⟩
    obtain ⟨ns, hxl, hxs⟩ := choose_below len each
    refine ⟨ns, some ⟨b, off, none⟩, cap, by rw [hxl], by omega, hm, (fun h => by cases h), fun y hy => ?_, fun _ => ⟨b, off, rfl, hb, fun i hi => (hxs i (by omega)).1⟩⟩
    obtain ⟨i, hi, rfl⟩ := List.getElem_of_mem hy
    have := (hxs i (by omega)).2
    simpa [List.getD, List.getElem?_eq_getElem hi] using this
  · obtain rfl : len = 0 := by omega
    exact ⟨[], A, cap, rfl, hl, hm, hn, by simp, by simp⟩
theorem open_graph {r : Reach} {b0 : Nat} {v : Value} {d : DataW H} {p : List MemPlace} (hv : Value.okWide Tryz.prog W r b0 26 v) (h : DataW.Trod enc Tryz.prog W 0 (fun _ => true) true 26 v d p) : ∃ g, IsGraph W v g := by
  obtain ⟨cs, rfl, hsz⟩ := okWide_struct Tryz.underlying26 hv
  rw [cells40] at hsz
  obtain ⟨l⟩ := cs
  obtain ⟨a, b, c, rfl⟩ := three hsz
  obtain ⟨fuel, hf⟩ := h
  have hf' : DataW.trod enc Tryz.prog W 0 (fun _ => true) true fuel 26 [a, b, c] = some (d, p) := hf
  obtain ⟨_, y0, h0⟩ := field Tryz.underlying26 hf' 0 _ rfl
  obtain ⟨_, y1, h1⟩ := field Tryz.underlying26 hf' 1 _ rfl
  simp [cells29] at h0
  simp [cells38] at h1
  obtain ⟨ins, hi⟩ := open_vals h0
  obtain ⟨nodes, hn⟩ := open_nodes h1
  obtain ⟨outs, ho⟩ := field_nums Tryz.underlying26 hf' 2 _ rfl rfl Tryz.underlying24 Tryz.underlying3 cells22 cells3 (c := c) rfl
  exact ⟨⟨ins, nodes, outs⟩, a, b, c, rfl, hi, hn, ho⟩
end
theorem open_i8 {H : Type} {enc : TypeId × Value → H} {W : World} {r : Reach} {b0 : Nat} {v : Value} {d : DataW H} {p : List MemPlace} (hv : Value.okWide Tryz.prog W r b0 27 v) (h : DataW.Trod enc Tryz.prog W 0 (fun _ => true) true 27 v d p) : ∃ xs, IsNums .i8 W v xs := by
  obtain ⟨a, l, c, rfl⟩ := okWide_slice Tryz.underlying27 hv
  obtain ⟨fuel, hf⟩ := h
  exact open_nums (k := .i8) Tryz.underlying27 Tryz.underlying35 cellsI8 hf
theorem HasCells.form {w : World} {v : Value} {us : List Value} (h : HasCells w v us) (h0 : 0 < us.length) : ∃ b off cap, v = .slice (some ⟨b, off, none⟩) us.length cap ∧ us.length ≤ cap ∧ cap ≤ maxLen ∧ b < w.heap.size ∧ ∀ i, i < us.length → w.cell? ⟨b, off + i, none⟩ = some (us.getD i nilS) := by
  obtain ⟨A, cap, e, h1, h2, _, h6⟩ := h
  obtain ⟨b, off, rfl, hb, hc⟩ := h6 h0
  exact ⟨b, off, cap, e, h1, h2, hb, hc⟩
end Go.Proofs.YtliijchcpooplaaGreat
