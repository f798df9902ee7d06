/- eval: fits, named, copies; slices.Clone and slices.EqualFunc over them. -/
import Derived.Test.YtliijchcpooplaaGreatOMLde
namespace Go.Proofs.YtliijchcpooplaaGreat
open Go.ChangeShapes Go.WideShapes Go.ChangeAt Go.RowKit
set_option maxRecDepth 20000
set_option linter.unusedVariables false
theorem infoS8 : (Tryz.prog.info? 27).map (fun i => (i.zero, i.size, i.bytes)) = some (some (.slice none 0 0), 1, 24) := by kernel_rfl
set_option maxHeartbeats 1000000 in
theorem clone8 (v : Value) (xs : List Int) (W : World) (h : IsNums .i8 W v xs) (h0 : 0 < xs.length) (h1 : xs.length <= 100000) :
    Calls Tryz.prog 29 #[v] W fun e w' => ∃ u, e = .returned u /\ Own8 w' W.heap.size u xs /\ Past W w' := by
  have hK := h
  obtain ⟨A, cap, rfl, hc, hm, _, _, h6⟩ := h
  obtain ⟨b, off, rfl, hbb, hx⟩ := h6 h0
  obtain ⟨i0, hi0, hz0, hz1, hz2⟩ := info_parts infoI8
  have I1 := Lib.hid hi0
  have I2 := Lib.hid hz0
  have I3 := Lib.hid hz1
  have I4 := Lib.hid hz2
  have HK := Lib.hid (hK.grow ((Past.refl W).alloc (.cells #[] 35)))
  have OW := Lib.hid (own8_new (w := W) (base := W.heap.size) (Nat.le_refl _))
  have eN := fun (w : World) => Lib.run_eql_slice_some_nil (P := Tryz.prog) w (t := 27) ⟨b, off, none⟩ xs.length cap Tryz.underlying27
  clear hi0 hz0 hz1 hz2 hx hK h6
  go_enter Tryz.func29, Tryz.ntmps29
  go_wp2_with (at_builtin; refine wpList_append_own _ rfl (.tmp 5) (.tmp 6) 27 rfl W.heap.size 35 i0 _ 1 1 Tryz.underlying27 I1.out I2.out I3.out I4.out rfl (by decide) _ 0 [] rfl OW.out ⟨b, off, none⟩ xs.length cap (xs.map (Value.int .i8)) rfl (by simp) (nums_cells HK.out) (ints_oneCell _ _) ?c4 ?c5 ?c6 ?_)
  case c4 => unfold maxLen; omega
  case c5 => omega
  case c6 => simp
  intro v4 w4 hown4 hgrow _
  have hp4 : Past W w4 := ((Past.refl W).alloc _).grownBy hgrow (fun j hj => by simp [Value.ownBlock] at hj; omega)
  have ho4 : Own8 w4 W.heap.size v4 xs := by
    unfold Own8
    simpa using hown4
  clear hown4 hgrow
  go_wp2_with fail
  go_ret
  exact ⟨_, rfl, ho4, hp4⟩
theorem fits_any (v : ValD) (u : Value) (xs : List Int) (t : Bool) (w : World) (hu : IsNums .i8 w u xs) (ht : t = decide ((xs.length : Int) = sizeI v.h v.w v.c)) :
    Calls Tryz.prog 25 #[.agg #[.int .i64 v.h, .int .i64 v.w, .int .i64 v.c, .int .i64 v.z], u] w fun e w' => e = .returned (.bool t) /\ Grown w w' := by
  obtain ⟨A, cap, rfl, _⟩ := hu
  obtain ⟨q, hq⟩ : ∃ q, q = sizeI v.h v.w v.c := ⟨_, rfl⟩
  have e1 : (((xs.length : Int)) == q) = t := by rw [ht, <- hq]; simp [BEq.beq]
  have HQ := Lib.hid hq
  clear ht hq
  go_enter Tryz.func25, Tryz.ntmps25
  go_upto_region 1 with fail
  refine opq (fun w' => (Bx w' (w.heap.size) #[.int .i64 v.h, .int .i64 v.w, .int .i64 v.c, .int .i64 v.z]) /\ Grown w w' /\ w.heap.size + 1 <= w'.heap.size) kKeep ?_
  rintro w1 ⟨b1, g1, z1⟩
  go_wp2_with fail
  refine (size_any v.h v.w v.c q _ HQ).mono ?_
  rintro e w2 ⟨rfl, g2⟩
  have g3 := grown_trans g1 g2
  clear b1 g1 g2 z1
  go_wp2_with fail
  go_ret
  exact ⟨rfl, g3⟩
set_option maxHeartbeats 4000000 in
theorem equalF_any (lv iv : Value) (vs : List ValD) (us : List Value) (ins : List (List Int)) (t : Bool) (W : World) (hl : IsVals W lv vs) (hi : HasCells W iv us) (hn : AreNums W us ins) (ht : t = true ↔ fitsP vs ins) :
    Calls Tryz.prog 24 #[lv, iv, .func (.func 25) #[] #[]] W fun e w' => e = .returned (.bool t) /\ Past W w' := by
  have hE : ∀ (xs : Array Value) (w : World), (callFunc 25 xs).run Tryz.prog w = .ok (.enter 25 xs) w := fun xs w => by kernel_rfl
  obtain ⟨A, ca, rfl, a1, a2, _, a4, a5⟩ := hl
  obtain ⟨B, cb, rfl, b1, b2, _, b5⟩ := hi
  have hm1 : vs.length <= 9223372036854775807 := by unfold maxLen at a2; omega
  have hm2 : us.length <= 9223372036854775807 := by unfold maxLen at b2; omega
  have A5 := Lib.hid a5
  have B5 := Lib.hid b5
  have HN := Lib.hid hn
  have HT := Lib.hid ht
  have HL := Lib.hid hn.1
  clear a1 a2 a4 a5 b1 b2 b5 hn ht
  by_cases hll : us.length = vs.length
  . rw [hll]
    have HLL := Lib.hid hll
    clear hll
    have d1 : (((vs.length : Nat) : Int) != ((vs.length : Nat) : Int)) = false := by simp
    go_enter Tryz.func24, Tryz.ntmps24
    go_wp2_with fail
    go_loopw [6, 7, 8, 9, 17] (fun s _ _ _ i wr => ∃ k : Nat, k <= vs.length /\ i = .int .i64 k /\ s = .bool false /\ Hid (∀ j, j < k -> ((ins.getD j []).length : Int) = sizeI (vs.getD j default).h (vs.getD j default).w (vs.getD j default).c) /\ Past W wr) (fun _ _ _ _ i _ => vs.length - (intOf i).toNat)
    case atStart => exact ⟨0, by omega, rfl, rfl, Lib.hid (fun j h => by omega), Past.refl _⟩
    case round =>
      obtain ⟨k, hk, rfl, rfl, hx, hp⟩ := hrel
      by_cases l : k < vs.length
      . obtain ⟨p, o, rfl, hpb, hc⟩ := A5.out (by omega)
        obtain ⟨p', o', rfl, hpb', hc'⟩ := B5.out (by rw [HLL.out]; omega)
        obtain ⟨y0, y1, y2, y3⟩ := (hc k l).grow hpb hp
        have c0 := (hp.cell (p := ⟨p', o' + k, none⟩) hpb').trans (hc' k (by rw [HLL.out]; omega))
        have NU := (HN.out.2 k (by rw [<- HL.out, HLL.out]; omega)).grow hp
        obtain ⟨u, hu⟩ : ∃ u, us.getD k nilS = u := ⟨_, rfl⟩
        obtain ⟨x, hx0⟩ : ∃ x, ins.getD k [] = x := ⟨_, rfl⟩
        obtain ⟨y, hy⟩ : ∃ y, vs.getD k default = y := ⟨_, rfl⟩
        rw [hu] at c0 NU
        rw [hx0] at NU
        rw [hy] at y0 y1 y2 y3
        obtain ⟨Au, cu, rfl, _⟩ := id NU
        obtain ⟨s, hs⟩ : ∃ s, s = decide ((x.length : Int) = sizeI y.h y.w y.c) := ⟨_, rfl⟩
        have FA := Lib.hid (fun (w : World) (g : Past wr w) => fits_any y (.slice Au x.length cu) x s w (NU.grow g) hs)
        have HX := Lib.hid hx0
        have HY := Lib.hid hy
        have HS := Lib.hid hs
        have i1 : (0 : Int) <= (k : Int) := by omega
        have i3 : (k : Int) < (vs.length : Int) := by omega
        have hpb2 : p' < wr.heap.size := by have := hp.2.2.1; omega
        clear hc hc' hu hx0 hy hs NU
        rcases Bool.eq_false_or_eq_true s with hsb | hsb
        . go_upto_region 6 with fail
          refine opq (fun w' => (Bx w' (wr.heap.size) #[.int .i64 y.h, .int .i64 y.w, .int .i64 y.c, .int .i64 y.z]) /\ w'.cell? ⟨p', o' + k, none⟩ = some (.slice Au x.length cu) /\ Past wr w' /\ wr.heap.size + 1 <= w'.heap.size) ?_ ?_
          . (exact kKeep)
          rintro w1 ⟨b1, c1, g1, z1⟩
          have hp1 := hp.trans g1
          clear y0 y1 y2 y3 c0
          go_wp2_with fail
          refine (FA.out _ g1).mono ?_
          rintro e w2 ⟨rfl, g2⟩
          have hp2 := hp1.trans (Grown.past g2)
          subst hsb
          clear b1 c1 g1 z1 g2 hp1
          go_wp2_with fail
          go_roundw
          case rel => exact ⟨k + 1, by omega, by go_num, rfl, Lib.hid (fun j hj => by
            by_cases c : j = k
            . subst c
              rw [HX.out, HY.out]
              exact of_decide_eq_true HS.out.symm
            . exact hx.out j (by omega)), hp2⟩
          case measure => simp [intOf]; omega
        . go_upto_region 6 with fail
          refine opq (fun w' => (Bx w' (wr.heap.size) #[.int .i64 y.h, .int .i64 y.w, .int .i64 y.c, .int .i64 y.z]) /\ w'.cell? ⟨p', o' + k, none⟩ = some (.slice Au x.length cu) /\ Past wr w' /\ wr.heap.size + 1 <= w'.heap.size) ?_ ?_
          . (exact kKeep)
          rintro w1 ⟨b1, c1, g1, z1⟩
          have hp1 := hp.trans g1
          clear y0 y1 y2 y3 c0
          go_wp2_with fail
          refine (FA.out _ g1).mono ?_
          rintro e w2 ⟨rfl, g2⟩
          have hp2 := hp1.trans (Grown.past g2)
          subst hsb
          have hf : t = false := by
            rcases Bool.eq_false_or_eq_true t with h | h
            . have := (HT.out.1 h).2 k l
              rw [HX.out, HY.out] at this
              exact absurd this (of_decide_eq_false HS.out.symm)
            . exact h
          subst hf
          clear b1 c1 g1 z1 g2 hp1
          go_wp2_with fail
          go_ret
          exact ⟨rfl, hp2⟩
      . obtain rfl : k = vs.length := by omega
        have hf : t = true := HT.out.2 ⟨by rw [<- HL.out]; exact HLL.out, hx.out⟩
        subst hf
        have d2 : decide ((vs.length : Int) < (vs.length : Int)) = false := by simp
        clear hx
        go_wp2_with fail
        go_ret
        exact ⟨rfl, hp⟩
  . have hf : t = false := by
      rcases Bool.eq_false_or_eq_true t with h | h
      . exact absurd ((HL.out).trans (HT.out.1 h).1) hll
      . exact h
    subst hf
    have d1 : (((vs.length : Nat) : Int) != ((us.length : Nat) : Int)) = true := by simp; omega
    go_enter Tryz.func24, Tryz.ntmps24
    go_wp2_with fail
    go_ret
    exact ⟨rfl, Past.refl _⟩
def namedU (us : List Value) (ns : List Int) : List Value := ns.map fun i => us.getD i.toNat nilS
theorem namedU_take (us : List Value) (ns : List Int) (k : Nat) (h : k < ns.length) : namedU us (ns.take (k + 1)) = namedU us (ns.take k) ++ [us.getD (ns.getD k 0).toNat nilS] := by
  unfold namedU
  rw [List.take_succ_eq_append_getElem h, List.map_append]
  simp [List.getD, h]
def inP (n : Nat) (ns : List Int) : Prop := ∀ j, j < ns.length -> 0 <= ns.getD j 0 /\ ns.getD j 0 < (n : Int)
theorem namedU_nums {w : World} {us : List Value} {xs : List (List Int)} {ns : List Int} (h : AreNums w us xs) (hi : inP us.length ns) : AreNums w (namedU us ns) (namedR xs ns) := by
  refine ⟨by simp [namedU, namedR], fun i hl => ?_⟩
  rw [namedR_len] at hl
  rw [namedR_get hl]
  have e : (namedU us ns).getD i nilS = us.getD (ns.getD i 0).toNat nilS := by unfold namedU; simp [List.getD, hl]
  rw [e]
  have := hi i hl
  exact h.2 _ (by rw [<- h.1]; omega)
set_option maxHeartbeats 2000000 in
theorem named8_any (lv nv : Value) (us : List Value) (ns : List Int) (W : World) (hl : HasCells W lv us) (h1 : SlicesU us) (hn : IsNums .i64 W nv ns) (hi : inP us.length ns) (hb : ns.length <= 1000) :
    Calls Tryz.prog 18 #[lv, nv] W fun e w' => ∃ v, e = .returned v /\ OwnCells w' W.heap.size v (namedU us ns) /\ Past W w' := by
  obtain ⟨A, ca, rfl, a1, a2, _, a5⟩ := hl
  obtain ⟨B, cb, rfl, b1, b2, _, _, b5⟩ := hn
  have hm1 : us.length <= 9223372036854775807 := by unfold maxLen at a2; omega
  have hm2 : ns.length <= 9223372036854775807 := by omega
  obtain ⟨i0, hi0, hz0, hz1, hz2⟩ := info_parts infoS8
  have A5 := Lib.hid a5
  have B5 := Lib.hid b5
  have H1 := Lib.hid h1
  have HI := Lib.hid hi
  have I1 := Lib.hid hi0
  have I2 := Lib.hid hz0
  have I3 := Lib.hid hz1
  have I4 := Lib.hid hz2
  clear a1 a2 a5 b1 b2 b5 hi0 hz0 hz1 hz2 h1 hi
  go_enter Tryz.func18, Tryz.ntmps18
  go_wp2_with fail
  go_loopw [5, 10] (fun v i wr => ∃ k : Nat, k <= ns.length /\ i = .int .i64 k /\ Hid (OwnCells wr W.heap.size v (namedU us (ns.take k))) /\ Past W wr) (fun _ i _ => ns.length - (intOf i).toNat)
  case atStart => exact ⟨0, by omega, rfl, Lib.hid (World.ownsRow_nil _ _ _ _), Past.refl _⟩
  case round =>
    obtain ⟨k, hk, rfl, hown, hp⟩ := hrel
    by_cases h : k < ns.length
    . obtain ⟨b, off, rfl, hbb, hc⟩ := B5.out (by omega)
      have c0 := (hp.cell (p := ⟨b, off + k, none⟩) hbb).trans (hc k h)
      obtain ⟨x0, x1⟩ := HI.out k h
      obtain ⟨x, hx⟩ : ∃ x, ns.getD k 0 = x := ⟨_, rfl⟩
      rw [hx] at c0 x0 x1
      obtain ⟨m, rfl⟩ : ∃ m : Nat, x = m := ⟨x.toNat, by omega⟩
      have HX := Lib.hid hx
      have x2 : m < us.length := by omega
      obtain ⟨b', off', rfl, hbb', hc'⟩ := A5.out (by omega)
      have c1 := (hp.cell (p := ⟨b', off' + m, none⟩) hbb').trans (hc' m x2)
      obtain ⟨y, hy⟩ : ∃ y, us.getD m nilS = y := ⟨_, rfl⟩
      obtain ⟨Ay, ly, cy, rfl⟩ := H1.out y (by rw [<- hy]; simp [List.getD, x2])
      rw [hy] at c1
      have HY := Lib.hid hy
      have HP := Lib.hid hp
      have lk : (namedU us (ns.take k)).length = k := by simp [namedU]; omega
      have LK := Lib.hid lk
      have HLT := Lib.hid (World.ownsRow.lt hown.out)
      have hsz : W.heap.size <= wr.heap.size := hp.2.2.1
      clear hc hc' hx hy lk hp
      go_wp2_with (at_builtin; refine wpList_append_own _ rfl (.tmp 14) (.tmp 19) 30 rfl W.heap.size 27 i0 _ 1 24 Tryz.underlying30 I1.out I2.out I3.out I4.out rfl (by decide) _ _ _ rfl (World.ownsRow.alloc hown.out _) ⟨wr.heap.size, 0, none⟩ 1 1 [.slice Ay ly cy] rfl rfl (fun j u hu => cells_new1 wr _ 27 j u hu) (fun u hu => by simp only [List.mem_singleton] at hu; subst hu; rfl) ?c4 ?c5 ?c6 ?_)
      case c4 => rw [LK.out]; unfold maxLen; omega
      case c5 => rw [LK.out]; omega
      case c6 => simp; omega
      intro v4 w4 hown4 hgrow _
      have hp4 : Past W w4 := (HP.out.alloc _).grownBy hgrow (fun j hj => (HLT.out j hj).1)
      have ho4 : Hid (OwnCells w4 W.heap.size v4 (namedU us (ns.take (k + 1)))) := Lib.hid (by
        unfold OwnCells
        rw [namedU_take us ns k h, HX.out]
        simp only [Int.toNat_natCast, HY.out, List.length_append, List.length_cons, List.length_nil]
        exact hown4)
      clear hown4 hgrow
      go_wp2_with fail
      go_roundw
      case rel => exact ⟨k + 1, by omega, by go_num, ho4, hp4⟩
      case measure => simp [intOf]; omega
    . have e : ns.take k = ns := List.take_of_length_le (by omega)
      rw [e] at hown
      clear e
      go_wp2_with fail
      go_ret
      exact ⟨_, rfl, hown.out, hp⟩
set_option maxHeartbeats 2000000 in
theorem namedV_any (lv nv : Value) (l : List ValD) (ns : List Int) (W : World) (hl : IsVals W lv l) (hn : IsNums .i64 W nv ns) (hi : inP l.length ns) (hb : ns.length <= 1000) :
    Calls Tryz.prog 27 #[lv, nv] W fun e w' => ∃ v, e = .returned v /\ IsVals w' v (namedL l ns) /\ Past W w' := by
  obtain ⟨A, ca, rfl, a1, a2, _, a4, a5⟩ := hl
  obtain ⟨B, cb, rfl, b1, b2, _, _, b5⟩ := hn
  have hm1 : l.length <= 9223372036854775807 := by unfold maxLen at a2; omega
  have hm2 : ns.length <= 9223372036854775807 := by omega
  obtain ⟨i0, hi0, hz0, hz1, hz2⟩ := info_parts info32
  have A4 := Lib.hid a4
  have A5 := Lib.hid a5
  have B5 := Lib.hid b5
  have HI := Lib.hid hi
  have I1 := Lib.hid hi0
  have I2 := Lib.hid hz0
  have I3 := Lib.hid hz1
  have I4 := Lib.hid hz2
  clear a1 a2 a4 a5 b1 b2 b5 hi0 hz0 hz1 hz2 hi
  go_enter Tryz.func27, Tryz.ntmps27
  go_wp2_with fail
  go_loopw [5, 10] (fun v i wr => ∃ k : Nat, k <= ns.length /\ i = .int .i64 k /\ Hid (OwnVals wr W.heap.size v (namedL l (ns.take k))) /\ Past W wr) (fun _ i _ => ns.length - (intOf i).toNat)
  case atStart => exact ⟨0, by omega, rfl, Lib.hid ⟨by simp [namedL, valsCells], .inl ⟨rfl, by simp [namedL]⟩⟩, Past.refl _⟩
  case round =>
    obtain ⟨k, hk, rfl, hown, hp⟩ := hrel
    by_cases h : k < ns.length
    . obtain ⟨b, off, rfl, hbb, hc⟩ := B5.out (by omega)
      have c0 := (hp.cell (p := ⟨b, off + k, none⟩) hbb).trans (hc k h)
      obtain ⟨x0, x1⟩ := HI.out k h
      obtain ⟨x, hx⟩ : ∃ x, ns.getD k 0 = x := ⟨_, rfl⟩
      rw [hx] at c0 x0 x1
      obtain ⟨m, rfl⟩ : ∃ m : Nat, x = m := ⟨x.toNat, by omega⟩
      have HX := Lib.hid hx
      have x2 : m < l.length := by omega
      obtain ⟨b', off', rfl, hbb', hc'⟩ := A5.out (by omega)
      obtain ⟨y0, y1, y2, y3⟩ := (hc' m x2).grow hbb' hp
      obtain ⟨y, hy⟩ : ∃ y, l.getD m default = y := ⟨_, rfl⟩
      rw [hy] at y0 y1 y2 y3
      have HY := Lib.hid hy
      have HP := Lib.hid hp
      have lk : (namedL l (ns.take k)).length = k := by simp [namedL]; omega
      have LK := Lib.hid lk
      have HLT := Lib.hid (World.ownsRow.lt hown.out)
      have hsz : W.heap.size <= wr.heap.size := hp.2.2.1
      clear hc hc' hx hy lk hp
      go_wp2_with (at_builtin; refine wpList_append_own _ rfl (.tmp 14) (.tmp 19) 22 rfl W.heap.size 47 i0 _ 4 32 Tryz.underlying22 I1.out I2.out I3.out I4.out rfl (by decide) _ _ _ rfl (World.ownsRow.alloc hown.out _) ⟨wr.heap.size, 0, none⟩ 1 1 (valCells y) rfl rfl (fun j u hu => cells_new' wr _ 47 j u hu) (val_one y) ?c4 ?c5 ?c6 ?_)
      case c4 => rw [LK.out]; unfold maxLen; omega
      case c5 => rw [LK.out]; omega
      case c6 => simp; omega
      intro v4 w4 hown4 hgrow _
      have hp4 : Past W w4 := (HP.out.alloc _).grownBy hgrow (fun j hj => (HLT.out j hj).1)
      have ho4 : Hid (OwnVals w4 W.heap.size v4 (namedL l (ns.take (k + 1)))) := Lib.hid (by
        unfold OwnVals
        rw [namedL_take l ns k h, valsCells_snoc, HX.out]
        simp only [Int.toNat_natCast, HY.out, List.length_append, List.length_cons, List.length_nil]
        exact hown4)
      clear hown4 hgrow
      go_wp2_with fail
      go_roundw
      case rel => exact ⟨k + 1, by omega, by go_num, ho4, hp4⟩
      case measure => simp [intOf]; omega
    . have e : ns.take k = ns := List.take_of_length_le (by omega)
      rw [e] at hown
      have WF : Hid (∀ x ∈ namedL l ns, ValWf x) := Lib.hid (fun x hx => by
        simp only [namedL, List.mem_map] at hx
        obtain ⟨i, hi, rfl⟩ := hx
        obtain ⟨j, hj, rfl⟩ := List.getElem_of_mem hi
        have := HI.out j hj
        simp only [List.getD, hj, List.getElem?_eq_getElem, Option.getD_some] at this
        have hl : ns[j].toNat < l.length := by omega
        have : l.getD ns[j].toNat default = l[ns[j].toNat] := by simp [List.getD, hl]
        rw [this]
        exact A4.out _ (List.getElem_mem _))
      clear e
      go_wp2_with fail
      go_ret
      exact ⟨_, rfl, vals_of_own hown.out WF.out, hp⟩
set_option maxHeartbeats 2000000 in
theorem copies_any (iv : Value) (us : List Value) (xs : List (List Int)) (W : World) (hi : HasCells W iv us) (hn : AreNums W us xs) (h0 : ∀ j, j < xs.length -> 0 < (xs.getD j []).length /\ (xs.getD j []).length <= 100000) (hb : xs.length <= 1000) :
    Calls Tryz.prog 17 #[iv] W fun e w' => ∃ v, e = .returned v /\ OwnRows w' W.heap.size v xs /\ Past W w' := by
  obtain ⟨B, cb, rfl, b1, b2, _, b5⟩ := hi
  have hm2 : us.length <= 9223372036854775807 := by unfold maxLen at b2; omega
  obtain ⟨i0, hi0, hz0, hz1, hz2⟩ := info_parts infoS8
  have B5 := Lib.hid b5
  have HN := Lib.hid hn
  have HL := Lib.hid hn.1
  have H0 := Lib.hid h0
  have I1 := Lib.hid hi0
  have I2 := Lib.hid hz0
  have I3 := Lib.hid hz1
  have I4 := Lib.hid hz2
  have hul : us.length <= 1000 := by rw [hn.1]; exact hb
  clear b1 b2 b5 hn h0 hi0 hz0 hz1 hz2
  go_enter Tryz.func17, Tryz.ntmps17
  go_wp2_with fail
  go_loopw [3, 8] (fun v i wr => ∃ (k : Nat) (ws : List Value), k <= us.length /\ i = .int .i64 k /\ Hid (OwnCells wr W.heap.size v ws) /\ Hid (AreOwn wr W.heap.size ws (xs.take k)) /\ ws.length = k /\ Past W wr) (fun _ i _ => us.length - (intOf i).toNat)
  case atStart => exact ⟨0, [], by omega, rfl, Lib.hid (World.ownsRow_nil _ _ _ _), Lib.hid (AreOwn.nil _ _), rfl, Past.refl _⟩
  case round =>
    obtain ⟨k, ws, hk, rfl, hown, hare, hwl, hp⟩ := hrel
    by_cases h : k < us.length
    . obtain ⟨b, off, rfl, hbb, hc⟩ := B5.out (by omega)
      have c0 := (hp.cell (p := ⟨b, off + k, none⟩) hbb).trans (hc k h)
      have hkx : k < xs.length := by rw [<- HL.out]; exact h
      have NU := (HN.out.2 k hkx).grow hp
      have LU := H0.out k hkx
      obtain ⟨u, hu⟩ : ∃ u, us.getD k nilS = u := ⟨_, rfl⟩
      obtain ⟨x, hx0⟩ : ∃ x, xs.getD k [] = x := ⟨_, rfl⟩
      rw [hu] at c0 NU
      rw [hx0] at NU LU
      have CL := Lib.hid (clone8 u x wr NU LU.1 LU.2)
      obtain ⟨Au, cu, rfl, _⟩ := id NU
      have HX : Hid (xs.take (k + 1) = xs.take k ++ [x]) := Lib.hid (by
        rw [List.take_succ_eq_append_getElem hkx]
        congr 1
        rw [<- hx0]; simp [List.getD, hkx])
      have i1 : (0 : Int) <= (k : Int) := by omega
      clear hc hu hx0 NU LU hkx
      go_wp2_with fail
      refine CL.out.mono ?_
      rintro e w2 ⟨u2, rfl, own2, p2⟩
      obtain ⟨A2, c2, rfl, _⟩ := own_slice' own2
      have OW2 := Lib.hid own2
      have hown2 := Lib.hid (hown.out.past p2)
      have hare2 := Lib.hid (hare.out.past p2)
      have hp2 := hp.trans p2
      have HLT := Lib.hid (World.ownsRow.lt hown2.out)
      have hsz : W.heap.size <= wr.heap.size := hp.2.2.1
      clear own2 hown hare p2 c0 CL hp
      go_wp2_with (at_builtin; refine wpList_append_own _ rfl (.tmp 12) (.tmp 15) 30 rfl W.heap.size 27 i0 _ 1 24 Tryz.underlying30 I1.out I2.out I3.out I4.out rfl (by decide) _ _ _ rfl (World.ownsRow.alloc hown2.out _) ⟨w2.heap.size, 0, none⟩ 1 1 [.slice A2 x.length c2] rfl rfl (fun j u hu => cells_new1 w2 _ 27 j u hu) (fun u hu => by simp only [List.mem_singleton] at hu; subst hu; rfl) ?c4 ?c5 ?c6 ?_)
      case c4 => unfold maxLen; omega
      case c5 => omega
      case c6 => have := hp2.2.2.1; simp; omega
      intro v4 w4 hown4 hgrow _
      have hp4 : Past W w4 := (hp2.alloc _).grownBy hgrow (fun j hj => (HLT.out j hj).1)
      have ho4 : Hid (OwnCells w4 W.heap.size v4 (ws ++ [.slice A2 x.length c2])) := Lib.hid (by
        unfold OwnCells
        simp only [List.length_append, List.length_cons, List.length_nil]
        rw [hwl]
        exact hown4)
      have OA : Own8 (w2.alloc (.cells #[.slice A2 x.length c2] 27)) W.heap.size (.slice A2 x.length c2) x := own8_base (World.ownsRow.alloc OW2.out _) hsz
      have ha4 : Hid (AreOwn w4 W.heap.size (ws ++ [.slice A2 x.length c2]) (xs.take (k + 1))) := Lib.hid (by
        rw [HX.out]
        exact (AreOwn.snoc (hare2.out.past ((Past.refl _).alloc _)) OA).grow (World.ownsRow.alloc hown2.out _) hgrow)
      clear hown4 hgrow OA OW2 hown2 hare2 hp2 HX HLT
      go_wp2_with fail
      go_roundw
      case rel => exact ⟨k + 1, ws ++ [.slice A2 x.length c2], by omega, by go_num, ho4, ha4, by simp [hwl], hp4⟩
      case measure => simp [intOf]; omega
    . have e : xs.take k = xs := List.take_of_length_le (by rw [<- HL.out]; omega)
      rw [e] at hare
      clear e
      go_wp2_with fail
      go_ret
      exact ⟨_, rfl, ⟨ws, hown.out, hare.out⟩, hp⟩
end Go.Proofs.YtliijchcpooplaaGreat
