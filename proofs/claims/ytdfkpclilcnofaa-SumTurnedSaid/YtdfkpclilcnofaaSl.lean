/- SumLinear: the walk. -/
import Derived.Test.YtdfkpclilcnofaaSp
import Derived.Test.YtdfkpclilcnofaaFixE
import Derived.Test.YtdfkpclilcnofaaSA
namespace Go.Proofs.Ytdfkpclilcnofaa
open Go.ChangeShapes Go.WideShapes Go.ChangeAt Go.RowKit
set_option maxRecDepth 20000
set_option linter.unusedVariables false
set_option linter.unusedSimpArgs false

/-- Bytes turned by others, as far as both go; the first n of them. -/
def turn (l m : List Nat) : List Nat := List.zipWith (· ^^^ ·) l m
theorem turn_B {l m : List Nat} (h : Bytes l) (k : Bytes m) : Bytes (turn l m) := by
  intro c hc
  obtain ⟨i, hi, rfl⟩ := List.getElem_of_mem hc
  simp only [turn, List.length_zipWith] at hi
  simp only [turn, List.getElem_zipWith]
  exact Nat.xor_lt_two_pow (n := 8) (h _ (List.getElem_mem _)) (k _ (List.getElem_mem _))
theorem turn_more {l m : List Nat} {k : Nat} (hl : k < l.length) (hm : k < m.length) : turn (l.take (k + 1)) (m.take (k + 1)) = turn (l.take k) (m.take k) ++ [l.getD k 0 ^^^ m.getD k 0] := by
  unfold turn
  rw [List.take_succ_eq_append_getElem hl, List.take_succ_eq_append_getElem hm, List.zipWith_append (by simp; omega)]
  simp [List.getD, hl, hm]
theorem turn_len {l m : List Nat} {k : Nat} (hl : k ≤ l.length) (hm : k ≤ m.length) : (turn (l.take k) (m.take k)).length = k := by simp [turn]; omega
/-- How many are not noughts. -/
def manyN (l : List Nat) : Nat := (l.filter (· ≠ 0)).length
theorem many_more {l : List Nat} {k : Nat} (h : k < l.length) : manyN (l.take (k + 1)) = manyN (l.take k) + (if l.getD k 0 = 0 then 0 else 1) := by
  unfold manyN
  rw [List.take_succ_eq_append_getElem h, List.filter_append]
  have e : l.getD k 0 = l[k] := by simp [List.getD, h]
  rw [e]
  by_cases c : l[k] = 0 <;> simp [c]
theorem many_le (l : List Nat) : manyN l ≤ l.length := List.length_filter_le _ _

/-- What a row of one length is turned by turns its sum by the same, whatever it is. -/
theorem sum_turn {l m : List Nat} (h : l.length = m.length) : sumD l ^^^ sumD (turn l m) = crc 0 m := by
  have e := crc_xor 4294967295 0 l m h
  rw [Nat.xor_zero] at e
  unfold sumD turn
  rw [e, xor4, Nat.xor_self, Nat.xor_zero, ← Nat.xor_assoc, Nat.xor_self, Nat.zero_xor]
theorem crc_none {m : List Nat} (h : manyN m = 0) : crc 0 m = 0 := by
  have e : m = List.replicate m.length 0 := by
    apply List.eq_replicate_iff.2
    refine ⟨rfl, fun c hc => ?_⟩
    apply Classical.byContradiction
    intro n
    have : c ∈ m.filter (· ≠ 0) := List.mem_filter.2 ⟨hc, by simpa using n⟩
    rw [List.eq_nil_of_length_eq_zero h] at this
    cases this
  rw [e, crc_noughts, hvs_zero]
theorem crc_one {m : List Nat} (hm : Bytes m) (h : manyN m = 1) : crc 0 m ≠ 0 := by
  intro z
  obtain ⟨p, hp, hn⟩ : ∃ p, p < m.length ∧ m.getD p 0 ≠ 0 := by
    apply Classical.byContradiction
    intro n
    have : m.filter (· ≠ 0) = [] := by
      rw [List.filter_eq_nil_iff]
      intro c hc
      obtain ⟨i, hi, rfl⟩ := List.getElem_of_mem hc
      have : m.getD i 0 = 0 := Classical.byContradiction fun q => n ⟨i, hi, q⟩
      simpa [List.getD, hi] using this
    unfold manyN at h
    rw [this] at h
    cases h
  have e := (List.take_append_drop p m).symm
  rw [List.drop_eq_getElem_cons hp] at e
  have hq : m.getD p 0 = m[p] := by simp [List.getD, hp]
  rw [hq] at hn
  have hc : manyN (m.take p) + manyN (m.drop (p + 1)) = 0 := by
    unfold manyN at h ⊢
    rw [e, List.filter_append, List.filter_cons_of_pos (by simpa using hn), List.length_append, List.length_cons] at h
    omega
  have zero : ∀ l : List Nat, manyN l = 0 → ∀ i, i < l.length → l.getD i 0 = 0 := by
    intro l hl i hi
    apply Classical.byContradiction
    intro n
    have : l[i] ∈ l.filter (· ≠ 0) := List.mem_filter.2 ⟨List.getElem_mem hi, by simpa [List.getD, hi] using n⟩
    rw [List.eq_nil_of_length_eq_zero hl] at this
    cases this
  have all := four_left (f := m) (p := p) hm (fun i hi hpi => by
    rcases hpi with c | c
    · have := zero (m.take p) (by omega) i (by simp; omega)
      simpa [List.getD, c, hi] using this
    · have := zero (m.drop (p + 1)) (by omega) (i - (p + 1)) (by simp; omega)
      have k : p + 1 + (i - (p + 1)) = i := by omega
      simpa [List.getD, k, hi] using this) z p hp
  rw [hq] at all
  exact hn all

theorem nums_at {w : World} {A : Option Addr} {len cap : Nat} {l : List Nat} (h : IsNums .u8 w (.slice A len cap) (ints l)) {i : Nat} (hi : i < l.length) : ∃ b off, A = some ⟨b, off, none⟩ ∧ b < w.heap.size ∧ w.cell? ⟨b, off + i, none⟩ = some (.int .u8 ((l.getD i 0 : Nat) : Int)) := by
  obtain ⟨A', cap', e, h2, h3, h4, h5, h6⟩ := h
  simp only [Value.slice.injEq] at e
  obtain ⟨rfl, rfl, rfl⟩ := e
  obtain ⟨b, off, rfl, hb, hc⟩ := h6 (by rw [ints_len]; omega)
  exact ⟨b, off, rfl, hb, by rw [hc i (by rw [ints_len]; exact hi), ints_at]⟩
theorem nums_at_past {W w : World} {b off : Nat} {v : Value} (p : Past W w) (hb : b < W.heap.size) (h : W.cell? ⟨b, off, none⟩ = some v) : w.cell? ⟨b, off, none⟩ = some v := (p.cell (p := ⟨b, off, none⟩) hb).trans h
theorem OwnS.alloc {w : World} {base : Nat} {v : Value} {l : List Nat} (h : OwnS w base v l) (o : Obj) : OwnS (w.alloc o) base v l := World.ownsRow.alloc h o
theorem OwnS.nil_new {w : World} {base : Nat} (hb : base ≤ w.heap.size) : OwnS (w.alloc (.cells #[] 5)) base (.slice (some ⟨w.heap.size, 0, none⟩) 0 0) [] := World.ownsRow_lit w #[] 0 hb (by decide) (by simp)

theorem cell_new1 (w : World) (l : List Value) (t : TypeId) (j : Nat) (u : Value) (h : l[j]? = some u) : (w.alloc (.cells ⟨l⟩ t)).cell? ((⟨w.heap.size, 0, none⟩ : Addr).add j) = some u := by
  rw [Addr.add_mid]
  have := box_new (w := w) (cs := ⟨l⟩) (t := t) (b := w.heap.size) rfl (0 + j)
  rw [this]
  simpa using h

theorem run_min4 {P : Program} (ts : Array TypeId) (t : TypeId) (k : IntKind) (x y z u m : Int) (h : min (min (min x y) z) u = m) (w : World) : (Builtin.min_ ts t #[.int k x, .int k y, .int k z, .int k u]).run P w = .ok (.int k m) w := by
  subst h
  simp [Builtin.min_, Builtin.min2]
  have e : ∀ a b : Int, (if b < a then b else a) = min a b := fun a b => by omega
  simp only [e]
  omega

set_option maxHeartbeats 8000000 in
theorem linear_walk (W : World) (av : Value) (az : List Int) (ha : IsNums .u8 W av az) (bv : Value) (bz : List Int) (hb : IsNums .u8 W bv bz) (cv : Value) (cz : List Int) (hc : IsNums .u8 W cv cz) : Calls Try.prog 5 #[av, bv, cv] W fun e w' => e = .returned (.bool true) ∧ Past W w' := by
  obtain ⟨xs, rfl, hxs⟩ := nats_of ha
  obtain ⟨ys, rfl, hys⟩ := nats_of hb
  obtain ⟨zs, rfl, hzs⟩ := nats_of hc
  obtain ⟨i0, hi0, hz0, hz1, hz2⟩ := info_parts info8
  have I1 := Lib.hid hi0
  have I2 := Lib.hid hz0
  have I3 := Lib.hid hz1
  have I4 := Lib.hid hz2
  clear hi0 hz0 hz1 hz2
  obtain ⟨A, ca, rfl, a2, a3, a4⟩ := nums_form ha
  obtain ⟨B, cb, rfl, b2, b3, b4⟩ := nums_form hb
  obtain ⟨Z, cc, rfl, c2, c3, c4⟩ := nums_form hc
  have HA := Lib.hid ha
  have HB := Lib.hid hb
  have HC := Lib.hid hc
  have XB := Lib.hid hxs
  have YB := Lib.hid hys
  have ZB := Lib.hid hzs
  obtain ⟨n, hn⟩ : ∃ n, min (min (min xs.length ys.length) zs.length) 300 = n := ⟨_, rfl⟩
  have n1 : n ≤ xs.length := by omega
  have n2 : n ≤ ys.length := by omega
  have n3 : n ≤ zs.length := by omega
  have n4 : n ≤ 300 := by omega
  have HN := Lib.hid hn
  unfold maxLen at a3 b3 c3
  clear ha hb hc hxs hys hzs a4 b4 c4 hn
  go_enter Try.func5, Try.ntmps5
  go_wp2_with fail
  refine (shown_any W).mono ?_
  rintro e w1 ⟨rfl, p1⟩
  have P1 := Lib.hid p1
  clear p1
  have MIN := run_min4 (P := Try.prog) #[3, 3, 3, 3] 3 .i64 (xs.length : Int) (ys.length : Int) (zs.length : Int) 300 (n : Int) (by have := HN.out; omega)
  go_upto_region 3 with fail
  clear MIN
  go_upto_region 7 with fail
  have HA1 := Lib.hid (fun w (p : Past w1 w) => HA.out.grow (P1.out.trans p))
  go_loopw [9, 10, 11, 12] (fun x y mn i wr => ∃ k : Nat, k ≤ n ∧ i = .int .i64 (k : Int) ∧ mn = .int .i64 ((manyN (zs.take k) : Nat) : Int) ∧ Hid (OwnS wr w1.heap.size x (turn (xs.take k) (zs.take k))) ∧ Hid (OwnS wr w1.heap.size y (turn (ys.take k) (zs.take k))) ∧ Hid (Apart y x) ∧ Hid (Past w1 wr)) (fun _ _ _ i _ => n - (intOf i).toNat)
  case atStart =>
    refine ⟨0, by omega, rfl, rfl, Lib.hid ?_, Lib.hid ?_, Lib.hid ?_, Lib.hid (((Past.refl w1).alloc _).alloc _)⟩
    · exact (OwnS.nil_new (Nat.le_refl _)).alloc _
    · have := OwnS.nil_new (w := w1.alloc (.cells #[] 5)) (base := w1.heap.size) (by simp)
      simpa [turn] using this
    · intro j h1 h2
      simp [Value.ownBlock] at h1 h2
      omega
  case round =>
    obtain ⟨k, hk, rfl, rfl, ox, oy, ap, pp⟩ := hrel
    by_cases hkn : k < n
    · obtain ⟨ab, ao, rfl, ha, ca1⟩ := nums_at HA.out (i := k) (by omega)
      obtain ⟨bb, bo, rfl, hb, cb1⟩ := nums_at HB.out (i := k) (by omega)
      obtain ⟨zb, zo, rfl, hz, cz1⟩ := nums_at HC.out (i := k) (by omega)
      have kx : k < xs.length := by omega
      have ky : k < ys.length := by omega
      have kz : k < zs.length := by omega
      have p8 := XB.out.at k
      have r8 := YB.out.at k
      have q8 := ZB.out.at k
      have NXa := Lib.hid (turn_more (l := xs) (m := zs) (k := k) (by omega) (by omega))
      have NXb := Lib.hid (turn_more (l := ys) (m := zs) (k := k) (by omega) (by omega))
      have LTa := Lib.hid (turn_len (l := xs) (m := zs) (k := k) (by omega) (by omega))
      have LTb := Lib.hid (turn_len (l := ys) (m := zs) (k := k) (by omega) (by omega))
      have MN := Lib.hid (many_more (l := zs) (k := k) (by omega))
      obtain ⟨p, hp⟩ : ∃ p, xs.getD k 0 = p := ⟨_, rfl⟩
      obtain ⟨r, hr⟩ : ∃ r, ys.getD k 0 = r := ⟨_, rfl⟩
      obtain ⟨q, hq⟩ : ∃ q, zs.getD k 0 = q := ⟨_, rfl⟩
      rw [hp] at ca1 p8 NXa
      rw [hr] at cb1 r8 NXb
      rw [hq] at cz1 q8 NXa NXb MN
      clear hp hr hq
      have e1 := xor8 (a := p) (b := q) p8 q8
      have e2 := xor8 (a := r) (b := q) r8 q8
      obtain ⟨pq, hpq⟩ : ∃ x, p ^^^ q = x := ⟨_, rfl⟩
      obtain ⟨rq, hrq⟩ : ∃ x, r ^^^ q = x := ⟨_, rfl⟩
      rw [hpq] at e1 NXa
      rw [hrq] at e2 NXb
      clear hpq hrq
      have Ca := Lib.hid (nums_at_past P1.out ha ca1)
      have Cb := Lib.hid (nums_at_past P1.out hb cb1)
      have Cz := Lib.hid (nums_at_past P1.out hz cz1)
      have HLWa := Lib.hid (Nat.lt_of_lt_of_le ha P1.out.2.2.1)
      have HLWb := Lib.hid (Nat.lt_of_lt_of_le hb P1.out.2.2.1)
      have HLWz := Lib.hid (Nat.lt_of_lt_of_le hz P1.out.2.2.1)
      have mb : (manyN (zs.take k) : Nat) ≤ 300 := Nat.le_trans (many_le _) (by simp; omega)
      clear ha hb hz ca1 cb1 cz1
      have cea := nums_at_past pp.out HLWa.out Ca.out
      have cez := nums_at_past pp.out HLWz.out Cz.out
      have lta : ab < wr.heap.size := Nat.lt_of_lt_of_le HLWa.out pp.out.2.2.1
      have ltz : zb < wr.heap.size := Nat.lt_of_lt_of_le HLWz.out pp.out.2.2.1
      have LAa := Lib.hid (And.intro lta ltz)
      clear lta ltz
      go_upto_region 9 with fail
      refine wp_region_lastn 12 _ rfl (by kernel_rfl) (by kernel_rfl) ?za
      case za =>
        simp only [List.take_succ_cons, List.take_zero]
        refine any_mixd [10, 11] (fun w' => w'.cell? ⟨ab, ao + k, none⟩ = some (.int .u8 (p : Int)) ∧ w'.cell? ⟨zb, zo + k, none⟩ = some (.int .u8 (q : Int)) ∧ Past w1 w') [(30, ?va30), (31, ?va31), (32, ?va32), (33, ?va33), (34, ?va34), (35, ?va35), (36, ?va36), (37, ?va37), (38, ?va38), (39, ?va39)] [30, 31, 32, 33, 34, 35, 36, 37, 38, 39] (by kernel_rfl) rfl (by kernel_rfl) ⟨cea, cez, pp.out⟩ (fun w h => h) ?alla ?fina
        case alla =>
          simp only [fillA, Act.put, List.setIfInBounds_toArray, List.set_cons_zero, List.set_cons_succ]
          iterate 12 (first | refine forced rfl ?_ | (refine reads (fun w hw K hK => ?_) ?_; focus ((have hS := Lib.hid hw); go_split_ands; go_simp; (try simp only [Act.put, List.setIfInBounds_toArray, List.set_cons_zero, List.set_cons_succ]); exact hK)))
          exact True.intro
        case fina =>
          simp only [fillA, Act.put, List.setIfInBounds_toArray, List.set_cons_zero, List.set_cons_succ]
          refine mix_at 40 rfl rfl (fun K hK => ?_)
          simp only [Act.put, List.setIfInBounds_toArray, List.set_cons_zero, List.set_cons_succ] at hK
          have pd : Past w1 wr.drew := pp.out
          have pA := pd.alloc (.cells #[.int .u8 (pq : Int)] 5)
          have c3 := nums_at_past ((Past.refl wr.drew).alloc (.cells #[.int .u8 (pq : Int)] 5)) LAa.out.1 (show wr.drew.cell? _ = _ from cea)
          have c4 := nums_at_past ((Past.refl wr.drew).alloc (.cells #[.int .u8 (pq : Int)] 5)) LAa.out.2 (show wr.drew.cell? _ = _ from cez)
          have ox3 := Lib.hid (OwnS.alloc (show OwnS wr.drew _ _ _ from ox.out) (.cells #[.int .u8 (pq : Int)] 5))
          have oy3 := Lib.hid (OwnS.alloc (show OwnS wr.drew _ _ _ from oy.out) (.cells #[.int .u8 (pq : Int)] 5))
          have CX := Lib.hid (cell_new1 wr.drew [.int .u8 (pq : Int)] 5)
          go_simp
          refine hK _ _ ⟨c3, c4, pA⟩ ?_
          (try simp only [Act.put, List.setIfInBounds_toArray, List.set_cons_zero, List.set_cons_succ])
          refine mix_at 41 rfl rfl (fun K hK => ?_)
          simp only [Act.put, List.setIfInBounds_toArray, List.set_cons_zero, List.set_cons_succ] at hK
          refine wp_append_apart _ (.tmp 30) (.tmp 40) 22 rfl w1.heap.size 5 i0 _ 1 1 Try.underlying22 I1.out I2.out I3.out I4.out rfl (by decide) u9 (turn (xs.take k) (zs.take k)).length (cellB (turn (xs.take k) (zs.take k))) rfl ox3.out ⟨wr.drew.heap.size, 0, none⟩ 1 1 [.int .u8 (pq : Int)] rfl rfl (fun j u hu => CX.out j u hu) (cellB_one [pq]) (by rw [LTa.out]; unfold maxLen; omega) (by rw [LTa.out]; omega) pA.2.2.1 (by decide) (fun xa w3 own grw apt => ?_)
          have pB : Past w1 w3 := pA.grownBy grw (fun j hj => (World.ownsRow.lt ox3.out j hj).1)
          have oBa : Hid (OwnS w3 w1.heap.size xa (turn (xs.take (k + 1)) (zs.take (k + 1)))) := Lib.hid (by
            rw [NXa.out]
            unfold OwnS
            rw [List.length_append]
            simpa [cellB] using own)
          have oOa : Hid (OwnS w3 w1.heap.size u10 _) := Lib.hid (World.ownsRow.kept oy3.out grw (ap.out.row))
          have aBa : Hid (Apart u10 xa) := Lib.hid (Apart.moved ap.out apt (fun j hj => (World.ownsRow.lt oy3.out j hj).2))
          have cA := nums_at_past pB HLWa.out Ca.out
          have cB := nums_at_past pB HLWz.out Cz.out
          have PBa := Lib.hid pB
          refine hK xa w3 ⟨cA, cB, pB⟩ ?_
          clear own grw apt pd pA c3 c4 ox3 oy3 CX hK cA cB pB cea cez ox oy
          (try simp only [Act.put, List.setIfInBounds_toArray, List.set_cons_zero, List.set_cons_succ])
          refine mix_nil ?_
          show Oper.wp _ _ _ _ _ _
          go_simp
          have ceb := nums_at_past PBa.out HLWb.out Cb.out
          have cez := nums_at_past PBa.out HLWz.out Cz.out
          have ltb : bb < w3.heap.size := Nat.lt_of_lt_of_le HLWb.out PBa.out.2.2.1
          have ltz : zb < w3.heap.size := Nat.lt_of_lt_of_le HLWz.out PBa.out.2.2.1
          have LAb := Lib.hid (And.intro ltb ltz)
          clear ltb ltz
          go_upto_region 10 with fail
          refine wp_region_lastn 12 _ rfl (by kernel_rfl) (by kernel_rfl) ?zb
          case zb =>
            simp only [List.take_succ_cons, List.take_zero]
            refine any_mixd [10, 11] (fun w' => w'.cell? ⟨bb, bo + k, none⟩ = some (.int .u8 (r : Int)) ∧ w'.cell? ⟨zb, zo + k, none⟩ = some (.int .u8 (q : Int)) ∧ Past w1 w') [(42, ?vb42), (43, ?vb43), (44, ?vb44), (45, ?vb45), (46, ?vb46), (47, ?vb47), (48, ?vb48), (49, ?vb49), (50, ?vb50), (51, ?vb51)] [42, 43, 44, 45, 46, 47, 48, 49, 50, 51] (by kernel_rfl) rfl (by kernel_rfl) ⟨ceb, cez, PBa.out⟩ (fun w h => h) ?allb ?finb
            case allb =>
              simp only [fillA, Act.put, List.setIfInBounds_toArray, List.set_cons_zero, List.set_cons_succ]
              iterate 12 (first | refine forced rfl ?_ | (refine reads (fun w hw K hK => ?_) ?_; focus ((have hS := Lib.hid hw); go_split_ands; go_simp; (try simp only [Act.put, List.setIfInBounds_toArray, List.set_cons_zero, List.set_cons_succ]); exact hK)))
              exact True.intro
            case finb =>
              simp only [fillA, Act.put, List.setIfInBounds_toArray, List.set_cons_zero, List.set_cons_succ]
              refine mix_at 52 rfl rfl (fun K hK => ?_)
              simp only [Act.put, List.setIfInBounds_toArray, List.set_cons_zero, List.set_cons_succ] at hK
              have pd : Past w1 w3.drew := PBa.out
              have pA := pd.alloc (.cells #[.int .u8 (rq : Int)] 5)
              have c3 := nums_at_past ((Past.refl w3.drew).alloc (.cells #[.int .u8 (rq : Int)] 5)) LAb.out.1 (show w3.drew.cell? _ = _ from ceb)
              have c4 := nums_at_past ((Past.refl w3.drew).alloc (.cells #[.int .u8 (rq : Int)] 5)) LAb.out.2 (show w3.drew.cell? _ = _ from cez)
              have ox3 := Lib.hid (OwnS.alloc (show OwnS w3.drew _ _ _ from oOa.out) (.cells #[.int .u8 (rq : Int)] 5))
              have oy3 := Lib.hid (OwnS.alloc (show OwnS w3.drew _ _ _ from oBa.out) (.cells #[.int .u8 (rq : Int)] 5))
              have CX := Lib.hid (cell_new1 w3.drew [.int .u8 (rq : Int)] 5)
              go_simp
              refine hK _ _ ⟨c3, c4, pA⟩ ?_
              (try simp only [Act.put, List.setIfInBounds_toArray, List.set_cons_zero, List.set_cons_succ])
              refine mix_at 53 rfl rfl (fun K hK => ?_)
              simp only [Act.put, List.setIfInBounds_toArray, List.set_cons_zero, List.set_cons_succ] at hK
              refine wp_append_apart _ (.tmp 42) (.tmp 52) 22 rfl w1.heap.size 5 i0 _ 1 1 Try.underlying22 I1.out I2.out I3.out I4.out rfl (by decide) u10 (turn (ys.take k) (zs.take k)).length (cellB (turn (ys.take k) (zs.take k))) rfl ox3.out ⟨w3.drew.heap.size, 0, none⟩ 1 1 [.int .u8 (rq : Int)] rfl rfl (fun j u hu => CX.out j u hu) (cellB_one [rq]) (by rw [LTb.out]; unfold maxLen; omega) (by rw [LTb.out]; omega) pA.2.2.1 (by decide) (fun xb w4 own grw apt => ?_)
              have pB : Past w1 w4 := pA.grownBy grw (fun j hj => (World.ownsRow.lt ox3.out j hj).1)
              have oBb : Hid (OwnS w4 w1.heap.size xb (turn (ys.take (k + 1)) (zs.take (k + 1)))) := Lib.hid (by
                rw [NXb.out]
                unfold OwnS
                rw [List.length_append]
                simpa [cellB] using own)
              have oOb : Hid (OwnS w4 w1.heap.size xa _) := Lib.hid (World.ownsRow.kept oy3.out grw (aBa.out.turn.row))
              have aBb : Hid (Apart xa xb) := Lib.hid (Apart.moved aBa.out.turn apt (fun j hj => (World.ownsRow.lt oy3.out j hj).2))
              have cA := nums_at_past pB HLWb.out Cb.out
              have cB := nums_at_past pB HLWz.out Cz.out
              have PBb := Lib.hid pB
              refine hK xb w4 ⟨cA, cB, pB⟩ ?_
              clear own grw apt pd pA c3 c4 ox3 oy3 CX hK cA cB pB ceb cez oOa oBa
              (try simp only [Act.put, List.setIfInBounds_toArray, List.set_cons_zero, List.set_cons_succ])
              refine mix_nil ?_
              show Oper.wp _ _ _ _ _ _
              go_simp
              have cz4 := nums_at_past PBb.out HLWz.out Cz.out
              by_cases q0 : q = 0
              · have MQ : Hid (manyN (zs.take (k + 1)) = manyN (zs.take k)) := Lib.hid (by rw [MN.out, if_pos q0]; rfl)
                have t0 : (((q : Nat) : Int) != 0) = false := by subst q0; rfl
                clear MN q0
                go_wp2_with fail
                exact ⟨⟨k + 1, by omega, by simp, by rw [MQ.out], oOb, oBb, Lib.hid aBb.out.turn, PBb⟩, by simp [intOf]; omega⟩
              · have MQ : Hid (manyN (zs.take (k + 1)) = manyN (zs.take k) + 1) := Lib.hid (by rw [MN.out, if_neg q0])
                have t0 : (((q : Nat) : Int) != 0) = true := by simpa using q0
                clear MN q0
                go_wp2_with fail
                exact ⟨⟨k + 1, by omega, by simp, by rw [MQ.out]; simp, oOb, oBb, Lib.hid aBb.out.turn, PBb⟩, by simp [intOf]; omega⟩
    · have ek : k = n := by omega
      have OX := Lib.hid (ek ▸ ox.out)
      have OY := Lib.hid (ek ▸ oy.out)
      have EK := Lib.hid ek
      have mb : manyN (zs.take n) ≤ 300 := Nat.le_trans (many_le _) (by simp; omega)
      have e9 : ((manyN (zs.take k) : Nat) : Int) = ((manyN (zs.take n) : Nat) : Int) := by rw [ek]
      rw [e9]
      clear ek e9 ox oy ap
      have lx : (xs.take n).length = n := by simp; omega
      have ly : (ys.take n).length = n := by simp; omega
      have lz : (zs.take n).length = n := by simp; omega
      have bx := XB.out.take n
      have by1 := YB.out.take n
      have bz := ZB.out.take n
      have tx := turn_len (l := xs) (m := zs) (k := n) n1 n3
      have ty := turn_len (l := ys) (m := zs) (k := n) n2 n3
      have PW : Hid (Past W wr) := Lib.hid (P1.out.trans pp.out)
      have F1 := Lib.hid (sum_same (xs.take n) _ wr (nums_cut n n1 (HA.out.grow PW.out)) bx (by omega))
      have F2 := Lib.hid (sum_same (turn (xs.take n) (zs.take n)) _ wr (OX.out.nums (turn_B bx bz)) (turn_B bx bz) (by omega))
      have F3 := Lib.hid (sum_same (ys.take n) _ wr (nums_cut n n2 (HB.out.grow PW.out)) by1 (by omega))
      have F4 := Lib.hid (sum_same (turn (ys.take n) (zs.take n)) _ wr (OY.out.nums (turn_B by1 bz)) (turn_B by1 bz) (by omega))
      obtain ⟨D, hD⟩ : ∃ D, crc 0 (zs.take n) = D := ⟨_, rfl⟩
      have X1 := xor32 (sum_lt bx) (sum_lt (turn_B bx bz))
      have X2 := xor32 (sum_lt by1) (sum_lt (turn_B by1 bz))
      rw [sum_turn (by rw [lx, lz]), hD] at X1
      rw [sum_turn (by rw [ly, lz]), hD] at X2
      have M0 : manyN (zs.take n) = 0 → D = 0 := fun h => by rw [← hD]; exact crc_none h
      have M1 : manyN (zs.take n) = 1 → D ≠ 0 := fun h => by rw [← hD]; exact crc_one bz h
      obtain ⟨A1, hA1⟩ : ∃ x : Int, ((sumD (xs.take n) : Nat) : Int) = x := ⟨_, rfl⟩
      obtain ⟨A2, hA2⟩ : ∃ x : Int, ((sumD (turn (xs.take n) (zs.take n)) : Nat) : Int) = x := ⟨_, rfl⟩
      obtain ⟨A3, hA3⟩ : ∃ x : Int, ((sumD (ys.take n) : Nat) : Int) = x := ⟨_, rfl⟩
      obtain ⟨A4, hA4⟩ : ∃ x : Int, ((sumD (turn (ys.take n) (zs.take n)) : Nat) : Int) = x := ⟨_, rfl⟩
      rw [hA1] at F1 X1
      rw [hA2] at F2 X1
      rw [hA3] at F3 X2
      rw [hA4] at F4 X2
      obtain ⟨M, hM⟩ : ∃ M, manyN (zs.take n) = M := ⟨_, rfl⟩
      rw [hM] at mb M0 M1 ⊢
      clear hA1 hA2 hA3 hA4 hD hM lx ly lz bx by1 bz tx ty OX OY HN hk
      go_wp2_with fail
      refine F1.out.mono ?_
      rintro e w5 ⟨rfl, rfl⟩
      go_wp2_with fail
      refine F2.out.mono ?_
      rintro e w6 ⟨rfl, rfl⟩
      go_wp2_with fail
      refine F3.out.mono ?_
      rintro e w7 ⟨rfl, rfl⟩
      go_wp2_with fail
      refine F4.out.mono ?_
      rintro e w8 ⟨rfl, rfl⟩
      by_cases z0 : M = 0
      · have d0 := M0 z0
        subst z0
        subst d0
        clear M0 M1
        go_wp2_with fail
        go_ret
        exact ⟨rfl, PW.out⟩
      · have t1 : decide (((M : Nat) : Int) > 0) = true := by simp; omega
        have t1' : decide (0 < ((M : Nat) : Int)) = true := by simp; omega
        by_cases z1 : M = 1
        · have d1 := M1 z1
          have t2 : (((D : Nat) : Int) != 0) = true := by simpa using d1
          have t3 : (((D : Nat) : Int) == 0) = false := by simpa using d1
          subst z1
          clear M0 M1 d1
          go_wp2_with fail
          go_ret
          exact ⟨rfl, PW.out⟩
        · have t2 : (((M : Nat) : Int) != 1) = true := by simp; omega
          clear M0 M1
          go_wp2_with fail
          go_ret
          exact ⟨rfl, PW.out⟩
end Go.Proofs.Ytdfkpclilcnofaa
