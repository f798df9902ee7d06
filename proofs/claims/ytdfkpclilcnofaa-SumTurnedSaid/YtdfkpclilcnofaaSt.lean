/- SumTurned: the walk. -/
import Derived.Test.YtdfkpclilcnofaaSp
import Derived.Test.YtdfkpclilcnofaaFixE
import Derived.Test.YtdfkpclilcnofaaSl
namespace Go.Proofs.Ytdfkpclilcnofaa
open Go.ChangeShapes Go.WideShapes Go.ChangeAt Go.RowKit
set_option maxRecDepth 20000
set_option linter.unusedVariables false
set_option linter.unusedSimpArgs false

/-- Bytes with k of them, from place p on, turned by others. -/
def turnAt (l : List Nat) (p : Nat) (by4 : List Nat) : Nat → List Nat
  | 0 => l
  | k + 1 => (turnAt l p by4 k).set (p + k) ((turnAt l p by4 k).getD (p + k) 0 ^^^ by4.getD k 0)
def anyN (by4 : List Nat) : Nat → Bool
  | 0 => false
  | k + 1 => anyN by4 k || (((by4.getD k 0 : Nat) : Int) != 0)
theorem turnAt_len (l : List Nat) (p : Nat) (by4 : List Nat) (k : Nat) : (turnAt l p by4 k).length = l.length := by
  induction k with
  | zero => rfl
  | succ k ih => simp [turnAt, ih]
theorem getD_set (l : List Nat) (j c i : Nat) (h : i < l.length) : (l.set j c).getD i 0 = if j = i then c else l.getD i 0 := by
  rw [List.getD_eq_getElem?_getD, List.getD_eq_getElem?_getD, List.getElem?_set]
  by_cases e : j = i
  · subst e; simp [h]
  · simp [e]
theorem turnAt_at (l : List Nat) (p : Nat) (by4 : List Nat) (k i : Nat) (hi : i < l.length) : (turnAt l p by4 k).getD i 0 = l.getD i 0 ^^^ (if p ≤ i ∧ i < p + k then by4.getD (i - p) 0 else 0) := by
  induction k with
  | zero => rw [if_neg (by omega)]; simp [turnAt]
  | succ k ih =>
    show ((turnAt l p by4 k).set (p + k) _).getD i 0 = _
    rw [getD_set _ _ _ _ (by rw [turnAt_len]; exact hi)]
    by_cases e : p + k = i
    · rw [if_pos e, if_pos (by omega), e, ih, if_neg (by omega), Nat.xor_zero]
      have : i - p = k := by omega
      rw [this]
    · rw [if_neg e, ih]
      by_cases c : p ≤ i ∧ i < p + k
      · rw [if_pos c, if_pos (by omega)]
      · rw [if_neg c, if_neg (by omega)]
theorem turnAt_B {l by4 : List Nat} (p k : Nat) (hl : Bytes l) (hb : Bytes by4) : Bytes (turnAt l p by4 k) := by
  induction k with
  | zero => exact hl
  | succ k ih =>
    intro c hc
    rcases List.mem_or_eq_of_mem_set hc with h | h
    · exact ih c h
    · rw [h]; exact Nat.xor_lt_two_pow (n := 8) (ih.at _) (hb.at _)
theorem anyN_no {by4 : List Nat} {k : Nat} (h : anyN by4 k = false) : ∀ j, j < k → by4.getD j 0 = 0 := by
  induction k with
  | zero => intro j hj; omega
  | succ k ih =>
    simp only [anyN, Bool.or_eq_false_iff] at h
    intro j hj
    by_cases c : j < k
    · exact ih h.1 j c
    · obtain rfl : j = k := by omega
      have := h.2
      simp at this
      simpa using this
theorem anyN_yes {by4 : List Nat} {k : Nat} (h : anyN by4 k = true) : ∃ j, j < k ∧ by4.getD j 0 ≠ 0 := by
  apply Classical.byContradiction
  intro n
  have all : ∀ m, m ≤ k → anyN by4 m = false := by
    intro m
    induction m with
    | zero => intro _; rfl
    | succ m ih =>
      intro hm
      have : by4.getD m 0 = 0 := Classical.byContradiction fun q => n ⟨m, by omega, q⟩
      simp only [anyN, ih (by omega), this]
      rfl
  rw [all k (Nat.le_refl _)] at h
  cases h

/-- What is turned within four bytes is told; what is turned by noughts alone is not. -/
theorem turned_told (l : List Nat) (hl : Bytes l) (p m : Nat) (by4 : List Nat) (hb : Bytes by4) (hm : m ≤ 4) (hp : p + m ≤ (sealD l).length) : openC (turnAt (sealD l) p by4 m) = if anyN by4 m = true then 2 else 0 := by
  have sb := seal_lt hl
  have sl := (sealed_of l hl)
  obtain ⟨s, hs⟩ : ∃ s, sealD l = s := ⟨_, rfl⟩
  rw [hs] at sb sl hp ⊢
  obtain ⟨E, hE⟩ : ∃ E, (List.range s.length).map (fun i => if p ≤ i ∧ i < p + m then by4.getD (i - p) 0 else 0) = E := ⟨_, rfl⟩
  have el : E.length = s.length := by rw [← hE]; simp
  have ea : ∀ i, i < s.length → E.getD i 0 = if p ≤ i ∧ i < p + m then by4.getD (i - p) 0 else 0 := by
    intro i hi
    rw [← hE]
    simp [List.getD, hi]
  have eb : Bytes E := by
    intro c hc
    rw [← hE] at hc
    obtain ⟨i, _, rfl⟩ := List.mem_map.1 hc
    split
    · exact hb.at _
    · decide
  have key : turnAt s p by4 m = List.zipWith (· ^^^ ·) s E := by
    apply List.ext_getElem (by simp [turnAt_len, el])
    intro i h1 h2
    have hi : i < s.length := by rwa [turnAt_len] at h1
    have := turnAt_at s p by4 m i hi
    rw [← ea i hi] at this
    simp only [List.getElem_zipWith]
    simpa [List.getD, h1, hi, el] using this
  have cx := crc_xor 4294967295 0 s E el.symm
  rw [Nat.xor_zero, ← key, sl.2] at cx
  have len : (turnAt s p by4 m).length = s.length := turnAt_len _ _ _ _
  unfold openC
  by_cases t : anyN by4 m = true
  · rw [if_pos t, if_neg]
    rintro ⟨_, h⟩
    rw [h] at cx
    have z : crc 0 E = 0 := by
      have := congrArg (fun x => hvs 32 4294967295 ^^^ x) cx
      simp only [← Nat.xor_assoc, Nat.xor_self, Nat.zero_xor] at this
      exact this.symm
    have all := four_left (f := E) (p := p) eb (fun i hi hq => by rw [ea i (by omega), if_neg (by omega)]) z
    obtain ⟨j, hj, hn⟩ := anyN_yes t
    have := all (p + j) (by omega)
    rw [ea (p + j) (by omega), if_pos (by omega)] at this
    have e : p + j - p = j := by omega
    rw [e] at this
    exact hn this
  · have t' : anyN by4 m = false := by simpa using t
    have no := anyN_no t'
    have z : E = List.replicate E.length 0 := by
      apply List.eq_replicate_iff.2
      refine ⟨rfl, fun c hc => ?_⟩
      rw [← hE] at hc
      obtain ⟨i, hi, rfl⟩ := List.mem_map.1 hc
      split
      · exact no _ (by omega)
      · rfl
    rw [if_neg t, if_pos]
    refine ⟨by rw [len]; exact sl.1, ?_⟩
    rw [cx, z, crc_noughts, hvs_zero, Nat.xor_zero]
theorem openC_short {l : List Nat} (h : l.length < 4) : openC l = 2 := if_neg (by omega)

set_option maxHeartbeats 8000000 in
theorem turned_walk (W : World) (bv : Value) (bz : List Int) (hz : IsNums .u8 W bv bz) (pz : Int) (hpz : (Lit.int .i64 pz).wf = true) (y0 y1 y2 y3 : Int) (f0 : (Lit.int .u8 y0).wf = true) (f1 : (Lit.int .u8 y1).wf = true) (f2 : (Lit.int .u8 y2).wf = true) (f3 : (Lit.int .u8 y3).wf = true) :
    Calls Try.prog 4 #[bv, .int .i64 pz, .agg #[.int .u8 y0, .int .u8 y1, .int .u8 y2, .int .u8 y3]] W fun e w' => e = .returned (.bool true) ∧ Past W w' := by
  obtain ⟨bs, rfl, hb⟩ := nats_of hz
  have H := Lib.hid hz
  have HB := Lib.hid hb
  clear hz hb
  obtain ⟨b0, rfl, g0⟩ : ∃ c : Nat, y0 = (c : Int) ∧ c < 256 := by have := wf_u8 f0; exact ⟨y0.toNat, by omega, by omega⟩
  obtain ⟨b1, rfl, g1⟩ : ∃ c : Nat, y1 = (c : Int) ∧ c < 256 := by have := wf_u8 f1; exact ⟨y1.toNat, by omega, by omega⟩
  obtain ⟨b2, rfl, g2⟩ : ∃ c : Nat, y2 = (c : Int) ∧ c < 256 := by have := wf_u8 f2; exact ⟨y2.toNat, by omega, by omega⟩
  obtain ⟨b3, rfl, g3⟩ : ∃ c : Nat, y3 = (c : Int) ∧ c < 256 := by have := wf_u8 f3; exact ⟨y3.toNat, by omega, by omega⟩
  obtain ⟨pz0, pz1⟩ := wf_bd hpz
  clear hpz f0 f1 f2 f3
  obtain ⟨B4, hB4⟩ : ∃ l, [b0, b1, b2, b3] = l := ⟨_, rfl⟩
  have GB : Hid (Bytes B4) := Lib.hid (by
    rw [← hB4]
    intro c hc
    simp only [List.mem_cons, List.not_mem_nil, or_false] at hc
    omega)
  have CB4 : Hid (∀ i, i < 4 → ([Value.int .u8 (b0 : Int), .int .u8 (b1 : Int), .int .u8 (b2 : Int), .int .u8 (b3 : Int)] : List Value)[i]? = some (.int .u8 ((B4.getD i 0 : Nat) : Int))) := Lib.hid (by
    intro i hi
    rw [← hB4]
    have : i = 0 ∨ i = 1 ∨ i = 2 ∨ i = 3 := by omega
    rcases this with rfl | rfl | rfl | rfl <;> rfl)
  clear hB4
  obtain ⟨i0, hi0, hz0, hz1, hz2⟩ := info_parts info8
  have I1 := Lib.hid hi0
  have I2 := Lib.hid hz0
  have I3 := Lib.hid hz1
  have I4 := Lib.hid hz2
  clear hi0 hz0 hz1 hz2
  go_enter Try.func4, Try.ntmps4
  go_upto_region 1 with fail
  refine opq (fun w' => (∀ o : Nat, w'.cell? ⟨W.heap.size, o, none⟩ = (#[.int .u8 (b0 : Int), .int .u8 (b1 : Int), .int .u8 (b2 : Int), .int .u8 (b3 : Int)] : Array Value)[o]?) ∧ Past W w' ∧ W.heap.size + 1 ≤ w'.heap.size) kKeep ?_
  rintro w0 ⟨bx0, p0, z0⟩
  have BX : Hid (∀ i, i < 4 → w0.cell? ⟨W.heap.size, i, none⟩ = some (.int .u8 ((B4.getD i 0 : Nat) : Int))) := Lib.hid (fun i hi => by
    rw [bx0 i, ← CB4.out i hi, List.getElem?_toArray])
  have P0 := Lib.hid p0
  obtain ⟨Q, hQ⟩ : ∃ Q, W.heap.size = Q := ⟨_, rfl⟩
  rw [hQ] at z0 BX
  simp only [hQ]
  have QQ : Hid (Q < w0.heap.size) := Lib.hid (by omega)
  clear bx0 p0 hQ z0 g0 g1 g2 g3 CB4
  go_wp2_with fail
  refine (shown_any w0).mono ?_
  rintro e w1 ⟨rfl, p1⟩
  have P1 := Lib.hid p1
  have SH := Lib.hid (short_any bs bv w1 (H.out.grow (P0.out.trans p1)))
  clear p1
  go_wp2_with fail
  refine SH.out.mono ?_
  rintro e w2 ⟨b, rfl, hn, rfl⟩
  clear SH
  have hl : (bs.take 2000).length ≤ 2000 := by simp; omega
  have hB := HB.out.take 2000
  obtain ⟨xs, hx⟩ : ∃ xs, bs.take 2000 = xs := ⟨_, rfl⟩
  rw [hx] at hn hl hB
  clear hx
  obtain ⟨A, cap, rfl, h2, h3, h4⟩ := nums_form hn
  have HN := Lib.hid hn
  have XB := Lib.hid hB
  have SB := Lib.hid (seal_lt hB)
  have SL := seal_len xs
  have SC := Lib.hid (seal_any xs _ w2 hn hB (by omega))
  clear hn hB h4
  go_wp2_with fail
  refine SC.out.mono ?_
  rintro e w3 ⟨rfl, r3, p3⟩
  have R3 := Lib.hid r3
  have N3 := Lib.hid (r3.nums SB.out (by rw [SL]; unfold maxLen; omega))
  rw [SL] at N3
  have P3 := Lib.hid p3
  obtain ⟨PB, hPB⟩ : ∃ P, w2.heap.size = P := ⟨_, rfl⟩
  rw [hPB] at R3 N3
  have LP : Hid (w2.heap.size ≤ PB) := Lib.hid (by omega)
  simp only [hPB]
  clear SC r3 p3 hPB
  go_wp2_with (at_builtin; refine wpList_append_src rfl (.tmp 23) (.tmp 24) 22 rfl w3.heap.size 5 i0 _ 1 1 Try.underlying22 I1.out I2.out I3.out I4.out rfl (by decide) _ 0 ([]) rfl (World.ownsRow_lit w3 #[] 0 (Nat.le_refl _) (by decide) rfl) (some ⟨PB, 0, none⟩) (xs.length + 4) ((xs.length + 4)) (cellB (sealD xs)) rfl (by rw [cellB_len, SL, Nat.mul_one]) (src_of (N3.out.grow (Past.alloc (Past.refl w3) _))) (cellB_one _) (by unfold maxLen; omega) (by omega) (by simp) ?_)
  intro v4 w4 own grw
  have O4 : Hid (OwnS w4 w3.heap.size v4 (sealD xs)) := Lib.hid (by unfold OwnS; rw [SL]; simpa using own)
  have T4 : Hid (Past w3 w4) := Lib.hid (((Past.refl w3).alloc _).grownBy grw (fun k hk => by simp [Value.ownBlock] at hk; omega))
  have N4 := Lib.hid (O4.out.nums SB.out)
  clear own grw
  go_wp2_with fail
  refine (open_any (sealD xs) v4 w4 N4.out SB.out (by omega)).mono ?_
  rintro e w5 HO
  obtain ⟨x, rfl, hx, p5⟩ := open_form HO
  rw [openC_seal _ XB.out]
  rw [openL_seal _ XB.out] at hx
  have PX := Lib.hid hx
  have T5 : Hid (Past w3 w5) := Lib.hid (T4.out.trans p5)
  have PS := Lib.hid (N3.out.grow T5.out)
  have PN := Lib.hid (HN.out.grow (P3.out.trans T5.out))
  have PC := nums_cut xs.length (by rw [SL]; omega) PS.out
  rw [show (sealD xs).take xs.length = xs by simp [sealD]] at PC
  have PCC := Lib.hid PC
  have R5 := Lib.hid (R3.out.past T5.out)
  clear HO p5 hx PC N4 O4 R3 T4
  obtain ⟨T1, hT1⟩ : ∃ T, strB xs = T := ⟨_, rfl⟩
  have HT1 := Lib.hid hT1
  have q1 : (T1.toList == T1.toList) = true := by simp
  have q2 : (T1.toList != T1.toList) = false := by simp
  have e4 : IntKind.i64.wrap (((xs.length : Nat) : Int) + 4) = ((xs.length : Nat) : Int) + 4 := IntWalk.i64_in _ (by omega)
  have t4 : (((xs.length : Nat) : Int) + 4 != ((xs.length : Nat) : Int) + 4) = false := by simp
  have hs4 : ((xs.length : Nat) : Int) ≤ ((xs.length : Nat) : Int) + 4 := by omega
  clear hT1
  go_upto_region 5 with fail
  refine wp_region_past w5 [(29, ?va29), (30, ?va30), (31, ?va31), (32, ?va32), (33, ?va33), (34, ?va34), (35, ?va35), (36, ?va36), (37, ?va37), (38, ?va38), (39, ?va39), (40, ?va40), (41, ?va41), (42, ?va42), (43, ?va43), (44, ?va44), (45, ?va45), (46, ?va46), (47, ?va47), (48, ?va48), (49, ?va49), (50, ?va50), (51, ?va51), (52, ?va52), (53, ?va53), (54, ?va54), (55, ?va55)] [] (fun _ _ _ => True) [] [] (fun _ _ _ _ _ _ => trivial) (by kernel_rfl) (by kernel_rfl) (by kernel_rfl) ?da (Past.refl w5) ?ea ?la ?na
  case da =>
    intro q hq
    cases hq
  case ea =>
    simp only [latesV, List.map_cons, List.map_nil, List.cons_append, List.nil_append, List.append_nil, fillA, Act.put, List.setIfInBounds_toArray, List.set_cons_zero, List.set_cons_succ]
    refine early_cons (fun v w hw hd K hK => ?_) ?_
    focus
      go_simp
      (try simp only [Act.put, List.setIfInBounds_toArray, List.set_cons_zero, List.set_cons_succ])
      exact hK
    refine early_cons (fun v w hw hd K hK => ?_) ?_
    focus
      go_simp
      (try simp only [Act.put, List.setIfInBounds_toArray, List.set_cons_zero, List.set_cons_succ])
      exact hK
    refine early_cons (fun v w hw hd K hK => ?_) ?_
    focus
      go_simp
      (try simp only [Act.put, List.setIfInBounds_toArray, List.set_cons_zero, List.set_cons_succ])
      exact hK
    refine early_cons (fun v w hw hd K hK => ?_) ?_
    focus
      go_simp
      (try simp only [Act.put, List.setIfInBounds_toArray, List.set_cons_zero, List.set_cons_succ])
      exact hK
    refine early_cons (fun v w hw hd K hK => ?_) ?_
    focus
      have s1 := str_b (PX.out.grow hw)
      rw [HT1.out] at s1
      go_simp
      (try simp only [Act.put, List.setIfInBounds_toArray, List.set_cons_zero, List.set_cons_succ])
      exact hK
    refine early_cons (fun v w hw hd K hK => ?_) ?_
    focus
      go_simp
      (try simp only [Act.put, List.setIfInBounds_toArray, List.set_cons_zero, List.set_cons_succ])
      exact hK
    refine early_cons (fun v w hw hd K hK => ?_) ?_
    focus
      have s1 := str_b (PN.out.grow hw)
      rw [HT1.out] at s1
      go_simp
      (try simp only [Act.put, List.setIfInBounds_toArray, List.set_cons_zero, List.set_cons_succ])
      exact hK
    refine early_cons (fun v w hw hd K hK => ?_) ?_
    focus
      go_simp
      (try simp only [Act.put, List.setIfInBounds_toArray, List.set_cons_zero, List.set_cons_succ])
      exact hK
    refine early_cons (fun v w hw hd K hK => ?_) ?_
    focus
      go_simp
      (try simp only [Act.put, List.setIfInBounds_toArray, List.set_cons_zero, List.set_cons_succ])
      exact hK
    refine early_cons (fun v w hw hd K hK => ?_) ?_
    focus
      go_simp
      (try simp only [Act.put, List.setIfInBounds_toArray, List.set_cons_zero, List.set_cons_succ])
      exact hK
    refine early_cons (fun v w hw hd K hK => ?_) ?_
    focus
      go_simp
      (try simp only [Act.put, List.setIfInBounds_toArray, List.set_cons_zero, List.set_cons_succ])
      exact hK
    refine early_cons (fun v w hw hd K hK => ?_) ?_
    focus
      go_simp
      (try simp only [Act.put, List.setIfInBounds_toArray, List.set_cons_zero, List.set_cons_succ])
      exact hK
    refine early_cons (fun v w hw hd K hK => ?_) ?_
    focus
      go_simp
      (try simp only [Act.put, List.setIfInBounds_toArray, List.set_cons_zero, List.set_cons_succ])
      exact hK
    refine early_cons (fun v w hw hd K hK => ?_) ?_
    focus
      go_simp
      (try simp only [Act.put, List.setIfInBounds_toArray, List.set_cons_zero, List.set_cons_succ])
      exact hK
    refine early_cons (fun v w hw hd K hK => ?_) ?_
    focus
      go_simp
      (try simp only [Act.put, List.setIfInBounds_toArray, List.set_cons_zero, List.set_cons_succ])
      exact hK
    refine early_cons (fun v w hw hd K hK => ?_) ?_
    focus
      go_simp
      (try simp only [Act.put, List.setIfInBounds_toArray, List.set_cons_zero, List.set_cons_succ])
      exact hK
    refine early_cons (fun v w hw hd K hK => ?_) ?_
    focus
      go_simp
      (try simp only [Act.put, List.setIfInBounds_toArray, List.set_cons_zero, List.set_cons_succ])
      exact hK
    refine early_cons (fun v w hw hd K hK => ?_) ?_
    focus
      go_simp
      (try simp only [Act.put, List.setIfInBounds_toArray, List.set_cons_zero, List.set_cons_succ])
      exact hK
    refine early_cons (fun v w hw hd K hK => ?_) ?_
    focus
      go_simp
      (try simp only [Act.put, List.setIfInBounds_toArray, List.set_cons_zero, List.set_cons_succ])
      exact hK
    refine early_cons (fun v w hw hd K hK => ?_) ?_
    focus
      go_simp
      (try simp only [Act.put, List.setIfInBounds_toArray, List.set_cons_zero, List.set_cons_succ])
      exact hK
    refine early_cons (fun v w hw hd K hK => ?_) ?_
    focus
      go_simp
      (try simp only [Act.put, List.setIfInBounds_toArray, List.set_cons_zero, List.set_cons_succ])
      exact hK
    refine early_cons (fun v w hw hd K hK => ?_) ?_
    focus
      go_simp
      (try simp only [Act.put, List.setIfInBounds_toArray, List.set_cons_zero, List.set_cons_succ])
      exact hK
    refine early_cons (fun v w hw hd K hK => ?_) ?_
    focus
      have s1 := str_b (PCC.out.grow hw)
      rw [HT1.out] at s1
      go_simp
      (try simp only [Act.put, List.setIfInBounds_toArray, List.set_cons_zero, List.set_cons_succ])
      exact hK
    refine early_cons (fun v w hw hd K hK => ?_) ?_
    focus
      go_simp
      (try simp only [Act.put, List.setIfInBounds_toArray, List.set_cons_zero, List.set_cons_succ])
      exact hK
    refine early_cons (fun v w hw hd K hK => ?_) ?_
    focus
      have s1 := str_b (PN.out.grow hw)
      rw [HT1.out] at s1
      go_simp
      (try simp only [Act.put, List.setIfInBounds_toArray, List.set_cons_zero, List.set_cons_succ])
      exact hK
    refine early_cons (fun v w hw hd K hK => ?_) ?_
    focus
      go_simp
      (try simp only [Act.put, List.setIfInBounds_toArray, List.set_cons_zero, List.set_cons_succ])
      exact hK
    refine early_cons (fun v w hw hd K hK => ?_) ?_
    focus
      go_simp
      (try simp only [Act.put, List.setIfInBounds_toArray, List.set_cons_zero, List.set_cons_succ])
      exact hK
    exact True.intro
  case la =>
    simp only [latesV, List.map_cons, List.map_nil, List.cons_append, List.nil_append, List.append_nil, fillA, Act.put, List.setIfInBounds_toArray, List.set_cons_zero, List.set_cons_succ]
    refine lateP_skip rfl ?_
    refine lateP_skip rfl ?_
    refine lateP_skip rfl ?_
    refine lateP_skip rfl ?_
    refine lateP_skip rfl ?_
    refine lateP_skip rfl ?_
    refine lateP_skip rfl ?_
    refine lateP_skip rfl ?_
    refine lateP_skip rfl ?_
    refine lateP_skip rfl ?_
    refine lateP_skip rfl ?_
    refine lateP_skip rfl ?_
    refine lateP_skip rfl ?_
    refine lateP_skip rfl ?_
    refine lateP_skip rfl ?_
    refine lateP_skip rfl ?_
    refine lateP_skip rfl ?_
    refine lateP_skip rfl ?_
    refine lateP_skip rfl ?_
    refine lateP_skip rfl ?_
    refine lateP_skip rfl ?_
    refine lateP_skip rfl ?_
    refine lateP_skip rfl ?_
    refine lateP_skip rfl ?_
    refine lateP_skip rfl ?_
    refine lateP_skip rfl ?_
    refine lateP_skip rfl ?_
    exact True.intro
  case na =>
    intro v w8 hw hd
    simp only [latesV, List.map_cons, List.map_nil, List.cons_append, List.nil_append, List.append_nil, fillA, Act.put, List.setIfInBounds_toArray, List.set_cons_zero, List.set_cons_succ]
    have T8 : Hid (Past w3 w8) := Lib.hid (T5.out.trans hw)
    have R8 := Lib.hid (R5.out.past hw)
    have PW8 : Hid (Past w0 w8) := Lib.hid (P1.out.trans (P3.out.trans T8.out))
    clear hw hd T5 R5 PX PS PN PCC N3 HN HB H
    have hsl : (xs.length : Int) ≤ 2000 := by omega
    by_cases o1 : pz < 0
    · go_wp2_with fail
      go_ret
      exact ⟨rfl, P0.out.trans PW8.out⟩
    by_cases o2 : (xs.length : Int) + 4 ≤ pz
    · go_wp2_with fail
      go_ret
      exact ⟨rfl, P0.out.trans PW8.out⟩
    obtain ⟨p, rfl⟩ : ∃ p : Nat, pz = (p : Int) := ⟨pz.toNat, by omega⟩
    have hp : p < xs.length + 4 := by omega
    clear o1 o2 pz0 pz1
    have tp1 : decide (((p : Nat) : Int) < 0) = false := by simp
    have tp2 : decide (((xs.length : Nat) : Int) + 4 ≤ ((p : Nat) : Int)) = false := by simp; omega
    have NQ : Hid (Q < PB) := Lib.hid (by have h1 := QQ.out; have h2 := P1.out.2.2.1; have h3 := LP.out; show Q < PB; omega)
    have P28 : Hid (Past w2 w8) := Lib.hid (P3.out.trans T8.out)
    go_wp2_with fail
    go_loopw [11, 12] (fun tv i wr => ∃ k : Nat, k ≤ 4 ∧ p + k ≤ xs.length + 4 ∧ i = .int .i64 (k : Int) ∧ tv = .bool (anyN B4 k) ∧ Hid (Row wr PB (turnAt (sealD xs) p B4 k)) ∧ Hid (Past w2 wr)) (fun _ i _ => 4 - (intOf i).toNat)
    case atStart => exact ⟨0, by omega, by omega, rfl, rfl, R8, P28⟩
    case round =>
      clear R8 P28 T8
      obtain ⟨k, hk, hpk, rfl, rfl, rr, pp⟩ := hrel
      by_cases c1 : k < 4 ∧ p + k < xs.length + 4
      · obtain ⟨c1, c2⟩ := c1
        have hr := rr.out
        have hlen : p + k < (turnAt (sealD xs) p B4 k).length := by rw [turnAt_len, SL]; omega
        have cc := hr.cell hlen
        have cf := hr.free (p + k)
        have cd : wr.cell? ⟨Q, k, none⟩ = some (.int .u8 ((B4.getD k 0 : Nat) : Int)) := nums_at_past (P1.out.trans pp.out) QQ.out (BX.out k c1)
        have bc := (turnAt_B p k SB.out GB.out).at (p + k)
        have bd := GB.out.at k
        have e1 := xor8 bc bd
        have EE : Hid (turnAt (sealD xs) p B4 (k + 1) = (turnAt (sealD xs) p B4 k).set (p + k) ((turnAt (sealD xs) p B4 k).getD (p + k) 0 ^^^ B4.getD k 0)) := Lib.hid rfl
        obtain ⟨c, hc⟩ : ∃ c, (turnAt (sealD xs) p B4 k).getD (p + k) 0 = c := ⟨_, rfl⟩
        obtain ⟨d, hd⟩ : ∃ d, B4.getD k 0 = d := ⟨_, rfl⟩
        rw [hc, hd] at e1 EE
        rw [hc] at cc
        rw [hd] at cd bd
        have DD := Lib.hid hd
        obtain ⟨e, he⟩ : ∃ e, c ^^^ d = e := ⟨_, rfl⟩
        rw [he] at e1 EE
        clear hc hd he bc hlen
        have tpk : decide (((p : Nat) : Int) + ((k : Nat) : Int) < ((xs.length : Nat) : Int) + 4) = true := by simp; omega
        have ewk : IntKind.i64.wrap (((p : Nat) : Int) + ((k : Nat) : Int)) = ((p : Nat) : Int) + ((k : Nat) : Int) := IntWalk.i64_in _ (by omega)
        have tb1 : (0 : Int) ≤ ((p : Nat) : Int) + ((k : Nat) : Int) := by omega
        have tb2 : ((p : Nat) : Int) + ((k : Nat) : Int) < ((xs.length : Nat) : Int) + 4 := by omega
        have tb3 : (((p : Nat) : Int) + ((k : Nat) : Int)).toNat = p + k := by omega
        have tb4 : ((k : Nat) : Int) < 4 := by omega
        go_upto_region 13 with fail
        refine wp_region_lastn 15 _ rfl (by kernel_rfl) (by kernel_rfl) ?zs
        case zs =>
          simp only [List.take_succ_cons, List.take_zero]
          refine any_fill (fun w' => w'.cell? ⟨PB, p + k, none⟩ = some (.int .u8 (c : Int)) ∧ w'.cell? ⟨Q, k, none⟩ = some (.int .u8 (d : Int)) ∧ w'.frozen? ⟨PB, p + k, none⟩ = false ∧ Row w' PB (turnAt (sealD xs) p B4 k) ∧ Past w2 w') [(77, ?vs77), (78, ?vs78), (79, ?vs79), (80, ?vs80), (81, ?vs81), (82, ?vs82), (83, ?vs83), (84, ?vs84), (85, ?vs85), (86, ?vs86), (87, ?vs87), (88, ?vs88), (89, ?vs89), (90, ?vs90), (91, ?vs91)] [77, 78, 79, 80, 81, 82, 83, 84, 85, 86, 87, 88, 89, 90, 91] (by kernel_rfl) rfl (by kernel_rfl) ⟨cc, cd, cf, hr, pp.out⟩ (fun w h => h) ?alls ?fins
          case alls =>
            simp only [fillA, Act.put, List.setIfInBounds_toArray, List.set_cons_zero, List.set_cons_succ]
            iterate 15 (refine owes_cons (fun w hw K hK => ?_) ?_; focus ((have hS := Lib.hid hw); go_split_ands; go_simp; (try simp only [Act.put, List.setIfInBounds_toArray, List.set_cons_zero, List.set_cons_succ]); exact hK _ hS.out))
            exact True.intro
          case fins =>
            intro w6 hS6
            have h1 := hS6.1
            have h2' := hS6.2.1
            have h3' := hS6.2.2.1
            have h4' := hS6.2.2.2.1
            have h5' := hS6.2.2.2.2
            clear hS6
            refine then_normal ?_
            simp only [fillA, Act.put, List.setIfInBounds_toArray, List.set_cons_zero, List.set_cons_succ]
            have R9 := Lib.hid (h4'.set (p + k) e)
            rw [← EE.out] at R9
            have PX9 : Hid (Past w2 (w6.setCell ⟨PB, p + k, none⟩ (.int .u8 (e : Int)))) := Lib.hid (h5'.setCell (by have := LP.out; exact this) _)
            have CX9 : (w6.setCell ⟨PB, p + k, none⟩ (.int .u8 (e : Int))).cell? ⟨Q, k, none⟩ = some (.int .u8 (d : Int)) := cell_set h2' (by have := NQ.out; dsimp only; omega)
            have PL : PB < w6.heap.size := h4'.lt
            clear h2' h4' h5'
            go_simp
            obtain ⟨w7, hw7⟩ : ∃ x, w6.setCell ⟨PB, p + k, none⟩ (.int .u8 (e : Int)) = x := ⟨_, rfl⟩
            rw [hw7] at R9 PX9 CX9 ⊢
            clear hw7 h1 h3' PL
            by_cases tk : anyN B4 k = true
            · have tk1 : anyN B4 (k + 1) = true := by simp [anyN, tk]
              have TK1 := Lib.hid tk1
              rw [tk]
              clear tk tk1
              go_wp2_with fail
              exact ⟨⟨k + 1, by omega, by omega, by simp, by rw [TK1.out], R9, PX9⟩, by simp [intOf]; omega⟩
            · have tf : anyN B4 k = false := by simpa using tk
              have tk1 : anyN B4 (k + 1) = (((d : Nat) : Int) != 0) := by
                show (anyN B4 k || (((B4.getD k 0 : Nat) : Int) != 0)) = _
                rw [tf, DD.out, Bool.false_or]
              have TK1 := Lib.hid tk1
              rw [tf]
              clear tk tf tk1
              go_wp2_with fail
              exact ⟨⟨k + 1, by omega, by omega, by simp, by rw [TK1.out], R9, PX9⟩, by simp [intOf]; omega⟩
      · have M : Hid (p + k ≤ (sealD xs).length) := Lib.hid (by rw [SL]; omega)
        have NB := Lib.hid (turnAt_B p k SB.out GB.out)
        have TL : (turnAt (sealD xs) p B4 k).length = xs.length + 4 := by rw [turnAt_len, SL]
        have TO := turned_told xs XB.out p k B4 GB.out hk M.out
        have NS := Lib.hid (rr.out.nums NB.out (by rw [TL]; unfold maxLen; omega))
        rw [TL] at NS
        have N3' := nums_cut 3 (by rw [TL]; omega) NS.out
        obtain ⟨L, hL⟩ : ∃ L, turnAt (sealD xs) p B4 k = L := ⟨_, rfl⟩
        rw [hL] at NB TL TO NS N3'
        have N3 := Lib.hid N3'
        have NC := Lib.hid TO
        have L3 : openC (L.take 3) = 2 := openC_short (by simp; omega)
        have H3 := Lib.hid L3
        have hm3 : ((3 : Int) < ((xs.length : Nat) : Int) + 4) := by omega
        have PW : Hid (Past W wr) := Lib.hid (P0.out.trans (P1.out.trans pp.out))
        clear hL TO N3' M rr L3
        obtain ⟨tt, htt⟩ : ∃ t, anyN B4 k = t := ⟨_, rfl⟩
        rw [htt] at NC ⊢
        clear htt
        obtain ⟨vv, hvv, hnc⟩ : ∃ v : Int, (v == 2) = tt ∧ openC L = v := by
          cases tt
          · exact ⟨0, rfl, by simpa using NC.out⟩
          · exact ⟨2, rfl, by simpa using NC.out⟩
        have NV := Lib.hid hnc
        have htt : (tt == tt) = true := by simp
        clear NC hnc
        by_cases k4 : k = 4
        · subst k4
          go_wp2_with fail
          refine (open_any L _ wr NS.out NB.out (by omega)).mono ?_
          rintro e w9 HO
          obtain ⟨x2, rfl, hx2, p9⟩ := open_form HO
          have N39 := Lib.hid (N3.out.grow p9)
          have P9 := Lib.hid p9
          rw [NV.out]
          clear HO hx2 p9 N3
          go_wp2_with fail
          refine (open_any (L.take 3) _ w9 N39.out (NB.out.take 3) (by simp; omega)).mono ?_
          rintro e w10 HO
          obtain ⟨x3, rfl, hx3, p10⟩ := open_form HO
          have P10 := Lib.hid p10
          rw [H3.out]
          clear HO hx3 p10 N39
          go_wp2_with fail
          go_ret
          exact ⟨rfl, PW.out.trans (P9.out.trans P10.out)⟩
        · have tp9 : decide (((p : Nat) : Int) + ((k : Nat) : Int) < ((xs.length : Nat) : Int) + 4) = false := by simp; omega
          have tk4 : ((k : Nat) : Int) < 4 := by omega
          go_wp2_with fail
          refine (open_any L _ wr NS.out NB.out (by omega)).mono ?_
          rintro e w9 HO
          obtain ⟨x2, rfl, hx2, p9⟩ := open_form HO
          have N39 := Lib.hid (N3.out.grow p9)
          have P9 := Lib.hid p9
          rw [NV.out]
          clear HO hx2 p9 N3
          go_wp2_with fail
          refine (open_any (L.take 3) _ w9 N39.out (NB.out.take 3) (by simp; omega)).mono ?_
          rintro e w10 HO
          obtain ⟨x3, rfl, hx3, p10⟩ := open_form HO
          have P10 := Lib.hid p10
          rw [H3.out]
          clear HO hx3 p10 N39
          go_wp2_with fail
          go_ret
          exact ⟨rfl, PW.out.trans (P9.out.trans P10.out)⟩
end Go.Proofs.Ytdfkpclilcnofaa
