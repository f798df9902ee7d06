/- graph: opOf, 9, 10, 11, 12, no. A region whose order is open and whose operations leave what was there alone: calls that make memory, guarded or not, and those that lean on what they made. The laws of regions, for what stands ahead of a last operation that waits for all others. Bytes as natural numbers; exclusive or at 32 bits; the program's Sum. -/
import Derived.Test.YtejllmjkeefloaaGreatKG6
import Derived.Test.YtejllmjkeefloaaGreatKFixR
import Derived.Test.YtejllmjkeefloaaGreatKSh1A
import Derived.Test.YtejllmjkeefloaaGreatKRead
import Derived.Test.YtejllmjkeefloaaGreatKG5
import Derived.Test.YtejllmjkeefloaaGreatKFixN
namespace Go.Proofs.YtejllmjkeefloaaGreat
open Go.ChangeShapes Go.WideShapes Go.ChangeAt Go.RowKit
set_option maxRecDepth 20000
set_option linter.unusedVariables false

set_option maxHeartbeats 2000000 in
theorem opOf_9 (w : World) : Calls Tryz.prog 99 #[.int .i64 9] w (Made0 ⟨1, 0, 0, 0, 0, 1, 1, 0, 0, false, true⟩ 130 150 (.int .i64 0) w) := by
  go_enter Tryz.func99, Tryz.ntmps99
  go_wp2_with (first | (go_at_call 128; with_reducible refine (always_any _ _).mono ?_; rintro e w1 ⟨rfl, rfl⟩) | (go_at_call 120; with_reducible refine (slid_any _ _).mono ?_; rintro e w1 ⟨rfl, rfl⟩) | (go_at_call 122; with_reducible refine (ofChannels_any _ _).mono ?_; rintro e w1 ⟨rfl, rfl⟩))
  exact bodyPost_ret (by simp [results, Tryz.results99, go_sem]; rfl) rfl ⟨_, rfl, by go_cell, by simp, by go_grown⟩
set_option maxHeartbeats 2000000 in
theorem opOf_10 (w : World) : Calls Tryz.prog 99 #[.int .i64 10] w (Made0 ⟨2, 0, 0, 0, 0, 0, 0, 0, 0, false, true⟩ 131 150 (.int .i64 0) w) := by
  go_enter Tryz.func99, Tryz.ntmps99
  go_wp2_with (first | (go_at_call 128; with_reducible refine (always_any _ _).mono ?_; rintro e w1 ⟨rfl, rfl⟩) | (go_at_call 120; with_reducible refine (slid_any _ _).mono ?_; rintro e w1 ⟨rfl, rfl⟩) | (go_at_call 122; with_reducible refine (ofChannels_any _ _).mono ?_; rintro e w1 ⟨rfl, rfl⟩))
  exact bodyPost_ret (by simp [results, Tryz.results99, go_sem]; rfl) rfl ⟨_, rfl, by go_cell, by simp, by go_grown⟩
set_option maxHeartbeats 2000000 in
theorem opOf_11 (w : World) : Calls Tryz.prog 99 #[.int .i64 11] w (Made0 ⟨1, 0, 0, 0, 0, 0, 0, 0, 0, true, true⟩ 132 150 (.int .i64 0) w) := by
  go_enter Tryz.func99, Tryz.ntmps99
  go_wp2_with (first | (go_at_call 128; with_reducible refine (always_any _ _).mono ?_; rintro e w1 ⟨rfl, rfl⟩) | (go_at_call 120; with_reducible refine (slid_any _ _).mono ?_; rintro e w1 ⟨rfl, rfl⟩) | (go_at_call 122; with_reducible refine (ofChannels_any _ _).mono ?_; rintro e w1 ⟨rfl, rfl⟩))
  exact bodyPost_ret (by simp [results, Tryz.results99, go_sem]; rfl) rfl ⟨_, rfl, by go_cell, by simp, by go_grown⟩
set_option maxHeartbeats 2000000 in
theorem opOf_12 (w : World) : Calls Tryz.prog 99 #[.int .i64 12] w (Made0 ⟨1, 0, 0, 0, 0, 0, 0, 0, 0, false, false⟩ 129 150 (.int .i64 256) w) := by
  go_enter Tryz.func99, Tryz.ntmps99
  go_wp2_with (first | (go_at_call 128; with_reducible refine (always_any _ _).mono ?_; rintro e w1 ⟨rfl, rfl⟩) | (go_at_call 120; with_reducible refine (slid_any _ _).mono ?_; rintro e w1 ⟨rfl, rfl⟩) | (go_at_call 122; with_reducible refine (ofChannels_any _ _).mono ?_; rintro e w1 ⟨rfl, rfl⟩))
  exact bodyPost_ret (by simp [results, Tryz.results99, go_sem]; rfl) rfl ⟨_, rfl, by go_cell, by simp, by go_grown⟩
def NoOp (w : World) (e : Ending) (w' : World) : Prop := e = .returned (.tuple #[opV ⟨0, 0, 0, 0, 0, 0, 0, 0, 0, false, false⟩ .nilFunc .nilFunc, .bool false]) ∧ Grown w w'
set_option maxHeartbeats 2000000 in
theorem opOf_no (o : Int) (w : World) (h : ¬ (1 ≤ o ∧ o ≤ 12)) : Calls Tryz.prog 99 #[.int .i64 o] w (NoOp w) := by
  have b1 : (o == 1) = false := by simp; omega
  have b2 : (o == 2) = false := by simp; omega
  have b3 : (o == 3) = false := by simp; omega
  have b4 : (o == 4) = false := by simp; omega
  have b5 : (o == 5) = false := by simp; omega
  have b6 : (o == 6) = false := by simp; omega
  have b7 : (o == 7) = false := by simp; omega
  have b8 : (o == 8) = false := by simp; omega
  have b9 : (o == 9) = false := by simp; omega
  have b10 : (o == 10) = false := by simp; omega
  have b11 : (o == 11) = false := by simp; omega
  have b12 : (o == 12) = false := by simp; omega
  clear h
  go_enter Tryz.func99, Tryz.ntmps99
  go_wp2_with fail
  exact bodyPost_ret (by simp [results, Tryz.results99, go_sem]; rfl) rfl ⟨rfl, by go_grown⟩
end Go.Proofs.YtejllmjkeefloaaGreat
namespace Go.Proofs.YtejllmjkeefloaaGreat
open Go

/-- What a late one owes: it is done; it leaves what was there alone, and its own fact holds. -/
def LateP (P : Program) (ops : Array Oper) (W : World) (F : (Nat → Value) → Act) (J : Nat → Value → World → Prop) (deps : List (Nat × List Nat)) (late : List Nat) : Nat → List Oper → Prop
  | _, [] => True
  | k, o :: l => (late.contains k = false ∨ ∀ v w, Past W w → (∀ i, (deps.lookup k |>.getD []).contains i = true → J i (v i) w) → Region.wanted o (yielded ops (F v).tmps) = true ∧ ∀ K : Act → World → Prop, (∀ x w', Past w w' → J k x w' → K ((F v).put o.dst x) w') → o.wp P (F v) w K noPost) ∧ LateP P ops W F J deps late (k + 1) l
theorem lateP_skip {P : Program} {ops : Array Oper} {W : World} {F : (Nat → Value) → Act} {J : Nat → Value → World → Prop} {deps : List (Nat × List Nat)} {late : List Nat} {k : Nat} {o : Oper} {l : List Oper} (h : late.contains k = false) (g : LateP P ops W F J deps late (k + 1) l) : LateP P ops W F J deps late k (o :: l) := ⟨.inl h, g⟩
theorem lateP_cons {P : Program} {ops : Array Oper} {W : World} {F : (Nat → Value) → Act} {J : Nat → Value → World → Prop} {deps : List (Nat × List Nat)} {late : List Nat} {k : Nat} {o : Oper} {l : List Oper}
    (h : ∀ v w, Past W w → (∀ i, (deps.lookup k |>.getD []).contains i = true → J i (v i) w) → Region.wanted o (yielded ops (F v).tmps) = true ∧ ∀ K : Act → World → Prop, (∀ x w', Past w w' → J k x w' → K ((F v).put o.dst x) w') → o.wp P (F v) w K noPost) (g : LateP P ops W F J deps late (k + 1) l) : LateP P ops W F J deps late k (o :: l) := ⟨.inr h, g⟩
theorem lateP_x {P : Program} {ops : Array Oper} {W : World} {F : (Nat → Value) → Act} {J : Nat → Value → World → Prop} {deps : List (Nat × List Nat)} {late : List Nat} (hJ : ∀ i x w w', Past w w' → J i x w → J i x w') {l : List Oper} : ∀ {k : Nat}, LateP P ops W F J deps late k l → LateX P ops (Past W) F (fun i v w => J i (v i) w) deps [] [] late k l := by
  induction l with
  | nil => intro k _; trivial
  | cons o l ih =>
    intro k h
    refine ⟨?_, ih h.2⟩
    rcases h.1 with h | h
    · exact .inl h
    · refine .inr (fun v w hS hd => ?_)
      obtain ⟨h1, h2⟩ := h v w hS hd
      refine ⟨h1, fun K hK => h2 K (fun x w' p hj => ?_)⟩
      refine hK x w' (hS.trans p) (by show J k (updV v k x k) w'; rw [updV_same]; exact hj) (fun i hi _ _ hI => ?_)
      show J i (updV v k x i) w'
      rw [updV_ne v x hi]
      exact hJ i _ _ _ p hI
theorem wp_region_past {P : Program} {Q : Exit → Act → World → Prop} {ops : List Oper} {id : Nat} {a : Act} {w : World} (W : World) (ups : List (Tmp × Value)) (lates : List (Nat × Tmp)) (J : Nat → Value → World → Prop) (deps : List (Nat × List Nat)) (fin : List Nat) (hJ : ∀ i x w w', Past w w' → J i x w → J i x w')
    (hm : P.follows .mixedOrders = true) (hok : leanOK .any ops.toArray lates [] deps [] [] fin = true) (hu : ((ups.map (·.1) ++ lates.map (·.2)).all fun t => ops.any fun o => o.dst == some t) = true) (hd : ∀ q ∈ lates, q.2 < a.tmps.size) (hS : Past W w)
    (hE : EarlyX P ops.toArray (Past W) (fun v => fillA (fillA a ups) (latesV lates v)) (fun i v w => J i (v i) w) deps (lates.map (·.1) ++ []) 0 ops) (hL : LateP P ops.toArray W (fun v => fillA (fillA a ups) (latesV lates v)) J deps (lates.map (·.1) ++ []) 0 ops)
    (hQ : ∀ v w, Past W w → (∀ i, fin.contains i = true → J i (v i) w) → Q .normal (fillA (fillA a ups) (latesV lates v)) w) : (Code.region id ops.toArray true).wp P Q a w :=
  wp_region_lean (Past W) ups lates [] (fun i v w => J i (v i) w) deps [] [] fin hm hok hu hd hS (fun _ h => h) hE (lateP_x hJ hL) hQ
end Go.Proofs.YtejllmjkeefloaaGreat
namespace Go.Proofs.YtejllmjkeefloaaGreat
open Go

theorem any_mixd {P : Program} {ops : List Oper} {Q : Exit → Act → World → Prop} {a : Act} {w : World} (bs : List Nat) (S : World → Prop) (ups : List (Tmp × Value)) (slots : List Tmp) (hok : mixOK .any ops.toArray bs = true)
    (hu : ups.map (·.1) = slots) (hb : (slots.all fun t => (readSlots bs 0 ops).contains t) = true) (hS : S w) (hdr : ∀ w, S w → S w.drew) (hv : OwesRI P ops.toArray S (fillA a ups) bs 0 ops) (hQ : mixList P ops.toArray S Q bs (fillA a ups) w.drew) : wpAny P .any ops.toArray Q ops.toArray.size (Array.replicate ops.toArray.size false) a w.drew := by
  have hok' := hok
  simp only [mixOK, Bool.and_eq_true, decide_eq_true_eq] at hok'
  obtain ⟨⟨⟨⟨_, hch⟩, _⟩, hgu⟩, hnd⟩ := hok'
  have inB : ∀ i, i ∈ bs → i < ops.toArray.size := fun i hi => by
    rw [List.all_eq_true] at hgu
    have h := hgu i hi
    cases hq : ops.toArray[i]? with
    | none => simp [hq] at h
    | some q => exact (Array.getElem?_eq_some_iff.1 hq).1
  refine wpAny_mix (S := S) (a0 := fillA a ups) (bs := bs) hok (fun i o hi ho => hv.at_ (j := i) (by simpa using ho) (by simpa using hi)) _ (Array.replicate ops.toArray.size false) bs (fillA a ups) a w.drew (by simp) ?_ hch hnd (fun i => ?_) rfl rfl (fun _ _ => rfl) ⟨(fill_defers ups a).symm, (fill_size ups a).symm, fun t ht => ?_⟩ (hdr w hS) hQ
  · unfold left
    exact Nat.le_trans (List.length_filter_le _ _) (by simp)
  · refine ⟨fun h => ⟨h, ?_⟩, fun h => h.1⟩
    rw [Array.getD_eq_getD_getElem?, Array.getElem?_replicate, if_pos (inB i h)]
    rfl
  · refine (fill_off ups t (fun p hp e => ?_) a).symm
    have hmem : t ∈ slots := by rw [← hu, ← e]; exact List.mem_map.2 ⟨p, hp, rfl⟩
    rw [List.all_eq_true] at hb
    have h := hb t hmem
    obtain ⟨i, o, h1, h2, hd⟩ := readSlots_mem (by simpa using h)
    rw [Nat.zero_add] at h2
    have hkl : i < ops.length := (List.getElem?_eq_some_iff.1 h1).1
    have := ht i o (by simpa using h1) hd
    rcases this with h | h
    · rw [Array.getD_eq_getD_getElem?, Array.getElem?_replicate, if_pos (by simpa using hkl)] at h
      cases h
    · exact h2 h
theorem any_fix {P : Program} {ops : Array Oper} {Q : Exit → Act → World → Prop} {a : Act} {w : World} (S : World → Prop) (aF : Act) (hok : fixOK .any ops = true)
    (hd : a.defers = aF.defers) (hsz : a.tmps.size = aF.tmps.size) (hoff : ∀ t, (∀ o ∈ ops.toList, o.dst ≠ some t) → a.tmps[t]? = aF.tmps[t]?)
    (hS : S w) (hdr : ∀ w, S w → S w.drew) (hv : OwesAll P ops S aF ops.toList) (hQ : ∀ w, S w → Q .normal aF w) : wpAny P .any ops Q ops.size (Array.replicate ops.size false) a w.drew := by
  refine wpAny_fix hok (fun i o ho => hv.at_ o ?_) hQ _ _ _ _ (by simp) ?_ ⟨hd, hsz, fun t ht => hoff t fun o ho hdst => ?_⟩ (hdr w hS)
  · obtain ⟨h1, h2⟩ := Array.getElem?_eq_some_iff.1 ho
    rw [← h2]
    exact Array.mem_toList_iff.2 (Array.getElem_mem h1)
  · unfold left
    exact Nat.le_trans (List.length_filter_le _ _) (by simp)
  · obtain ⟨i, hi, rfl⟩ := List.getElem_of_mem ho
    have := ht i ops.toList[i] (by simp at hi ⊢) hdst
    simp at hi
    rw [Array.getD_eq_getD_getElem?, Array.getElem?_replicate] at this
    simp [hi] at this
theorem any_fill {P : Program} {ops : List Oper} {Q : Exit → Act → World → Prop} {a : Act} {w : World} (S : World → Prop) (ups : List (Tmp × Value)) (slots : List Tmp) (hok : fixOK .any ops.toArray = true)
    (hu : ups.map (·.1) = slots) (hb : (slots.all fun t => ops.any fun o => o.dst == some t) = true) (hS : S w) (hdr : ∀ w, S w → S w.drew) (hv : OwesAll P ops.toArray S (fillA a ups) ops) (hQ : ∀ w, S w → Q .normal (fillA a ups) w) : wpAny P .any ops.toArray Q ops.toArray.size (Array.replicate ops.toArray.size false) a w.drew := by
  refine any_fix S (fillA a ups) hok (fill_defers ups a).symm (fill_size ups a).symm (fun t ht => (fill_off ups t (fun p hp e => ?_) a).symm) hS hdr hv hQ
  have hmem : t ∈ slots := by rw [← hu, ← e]; exact List.mem_map.2 ⟨p, hp, rfl⟩
  rw [List.all_eq_true] at hb
  have := hb t hmem
  rw [List.any_eq_true] at this
  obtain ⟨o, ho, hd⟩ := this
  exact ht o ho (by simpa using hd)
theorem then_normal {P : Program} {Q : Exit → Act → World → Prop} {o : Oper} {a : Act} {w : World} (h : o.wp P a w (Q .normal) Q) : thenLast P Q o .normal a w := h
theorem wp_region_lastn {P : Program} {Q : Exit → Act → World → Prop} {all : List Oper} {id : Nat} {a : Act} {w : World} (n : Nat) (last : Oper) (he : all = all.take n ++ [last]) (hm : P.follows .mixedOrders = true) (hok : lastOK .any (all.take n).toArray last = true)
    (h : wpAny P .any (all.take n).toArray (thenLast P Q last) (all.take n).toArray.size (Array.replicate (all.take n).toArray.size false) a w.drew) : (Code.region id all.toArray true).wp P Q a w := by
  have := wp_region_last (id := id) hm hok h
  rw [← he] at this
  exact this
end Go.Proofs.YtejllmjkeefloaaGreat
namespace Go.Proofs.YtejllmjkeefloaaGreat.Q7
open Go.ChangeShapes Go.WideShapes Go.ChangeAt Go.RowKit
set_option maxRecDepth 20000
set_option linter.unusedVariables false

theorem xor32 {a b : Nat} (ha : a < 2 ^ 32) (hb : b < 2 ^ 32) : bits .xor .u32 (a : Int) (b : Int) = ((a ^^^ b : Nat) : Int) := by
  have h1 : (BitVec.ofInt 32 (a : Int)).toNat = a := by rw [BitVec.toNat_ofInt]; omega
  have h2 : (BitVec.ofInt 32 (b : Int)).toNat = b := by rw [BitVec.toNat_ofInt]; omega
  show IntKind.u32.wrap ((BitVec.ofInt 32 (a : Int) ^^^ BitVec.ofInt 32 (b : Int)).toNat : Int) = _
  rw [BitVec.toNat_xor, h1, h2]
  have := Nat.xor_lt_two_pow ha hb
  exact IntWalk.u32_in _ (by omega)
theorem xor8 {a b : Nat} (ha : a < 2 ^ 8) (hb : b < 2 ^ 8) : bits .xor .u8 (a : Int) (b : Int) = ((a ^^^ b : Nat) : Int) := by
  have h1 : (BitVec.ofInt 8 (a : Int)).toNat = a := by rw [BitVec.toNat_ofInt]; omega
  have h2 : (BitVec.ofInt 8 (b : Int)).toNat = b := by rw [BitVec.toNat_ofInt]; omega
  show IntKind.u8.wrap ((BitVec.ofInt 8 (a : Int) ^^^ BitVec.ofInt 8 (b : Int)).toNat : Int) = _
  rw [BitVec.toNat_xor, h1, h2]
  have := Nat.xor_lt_two_pow ha hb
  exact IntWalk.u8_in _ (by omega)
theorem and32 {a : Nat} (ha : a < 2 ^ 32) : bits .and .u32 (a : Int) 1 = ((a % 2 : Nat) : Int) := by
  have h1 : (BitVec.ofInt 32 (a : Int)).toNat = a := by rw [BitVec.toNat_ofInt]; omega
  have h2 : (BitVec.ofInt 32 1).toNat = 2 ^ 1 - 1 := by decide
  show IntKind.u32.wrap ((BitVec.ofInt 32 (a : Int) &&& BitVec.ofInt 32 1).toNat : Int) = _
  rw [BitVec.toNat_and, h1, h2, Nat.and_two_pow_sub_one_eq_mod]
  exact IntWalk.u32_in _ (by omega)
/-- Natural numbers as whole ones. -/
def ints (l : List Nat) : List Int := l.map (fun n : Nat => (n : Int))
theorem ints_len (l : List Nat) : (ints l).length = l.length := by simp [ints]
theorem ints_at (l : List Nat) (i : Nat) : (ints l).getD i 0 = ((l.getD i 0 : Nat) : Int) := by
  simp only [ints, List.getD_eq_getElem?_getD, List.getElem?_map]
  cases l[i]? <;> rfl
def Bytes (l : List Nat) : Prop := ∀ c ∈ l, c < 256
theorem Bytes.at {l : List Nat} (h : Bytes l) (i : Nat) : l.getD i 0 < 256 := by
  by_cases c : i < l.length
  · simpa [List.getD, c] using h _ (List.getElem_mem c)
  · simp [List.getD, List.getElem?_eq_none (Nat.le_of_not_lt c)]
set_option maxHeartbeats 2000000 in
theorem sum_same (bs : List Nat) (v : Value) (W : World) (h : IsNums .u8 W v (ints bs)) (hb : Bytes bs) (hl : bs.length ≤ 1000000) : Calls Tryz.prog 57 #[v] W fun e w' => e = .returned (.int .u32 ((sumD bs : Nat) : Int)) ∧ w' = W := by
  obtain ⟨A, cap, rfl, h2, h3, h4, h5, h6⟩ := h
  rw [ints_len] at h6 ⊢
  have L6 := Lib.hid h6
  have HB := Lib.hid hb
  clear h6 h5 h2 h4 hb
  go_enter Tryz.func57, Tryz.ntmps57
  go_wp2_with fail
  go_loopw [3, 9] (fun r i wr => ∃ (k R : Nat), k ≤ bs.length ∧ i = .int .i64 (k : Int) ∧ r = .int .u32 (R : Int) ∧ R < 4294967296 ∧ Hid (R = crc 4294967295 (bs.take k)) ∧ Hid (wr = W)) (fun _ i _ => bs.length - (intOf i).toNat)
  case atStart => exact ⟨0, 4294967295, by omega, rfl, rfl, by omega, Lib.hid (by simp [crc]), Lib.hid rfl⟩
  case round =>
    obtain ⟨k, R, hk, rfl, rfl, hR, eR, g⟩ := hrel
    by_cases c : k < bs.length
    · obtain ⟨b, off, rfl, hbb, hc⟩ := L6.out (by omega)
      have c0 := (congrArg (fun x : World => x.cell? ⟨b, off + k, none⟩) g.out).trans (hc k c)
      rw [ints_at] at c0
      have hx := HB.out.at k
      have nx : crc 4294967295 (bs.take (k + 1)) = byteD R (bs.getD k 0) := by
        rw [List.take_succ_eq_append_getElem c, crc_snoc, ← eR.out]; simp [List.getD, c]
      obtain ⟨x, ex⟩ : ∃ x, bs.getD k 0 = x := ⟨_, rfl⟩
      rw [ex] at c0 hx nx
      have NX := Lib.hid nx
      have e1 := xor32 (a := R) (b := x) (by omega) (by omega)
      have b1 := Nat.xor_lt_two_pow (x := R) (y := x) (n := 32) (by omega) (by omega)
      clear nx ex hc eR
      obtain ⟨Y, eY⟩ : ∃ Y, R ^^^ x = Y := ⟨_, rfl⟩
      rw [eY] at e1 b1
      have EY := Lib.hid eY
      clear eY
      go_wp2_with fail
      go_loopw [3, 17] (fun r i wr => ∃ (m q : Nat), m ≤ 8 ∧ i = .int .i64 (m : Int) ∧ r = .int .u32 (q : Int) ∧ q < 4294967296 ∧ Hid (q = hvs m Y) ∧ Hid (wr = W)) (fun _ i _ => 8 - (intOf i).toNat)
      case atStart => exact ⟨0, Y, by omega, rfl, by first | rfl | (rw [e1]), by omega, Lib.hid rfl, g⟩
      case round =>
        clear g
        obtain ⟨m, q, hm, rfl, rfl, hq, eq, g⟩ := hrel
        by_cases d : m < 8
        · have e2 := and32 (a := q) (by omega)
          by_cases odd : q % 2 = 1
          · have nx : hv q = (q / 2) ^^^ 3988292384 := by unfold hv; rw [if_pos odd]
            have e3 := xor32 (a := q / 2) (b := 3988292384) (by omega) (by omega)
            have b3 : (q / 2) ^^^ 3988292384 < 4294967296 := Nat.xor_lt_two_pow (n := 32) (by omega) (by omega)
            rw [← nx] at e3 b3
            rw [odd] at e2
            have st : Hid (hv q = hvs (m + 1) Y) := Lib.hid (by rw [hvs_snoc, ← eq.out])
            clear nx eq
            obtain ⟨q', hq'⟩ : ∃ q', hv q = q' := ⟨_, rfl⟩
            rw [hq'] at e3 b3 st
            clear hq'
            go_wp2_with fail
            exact ⟨⟨m + 1, q', by omega, by simp, by simpa using e3, b3, st, g⟩, by simp [intOf]; omega⟩
          · have nx : hv q = q / 2 := by unfold hv; rw [if_neg odd]
            have ev : q % 2 = 0 := by omega
            rw [ev] at e2
            have st : Hid (q / 2 = hvs (m + 1) Y) := Lib.hid (by rw [hvs_snoc, ← eq.out, nx])
            clear nx eq
            go_wp2_with fail
            exact ⟨⟨m + 1, q / 2, by omega, by simp, by simp, by omega, st, g⟩, by simp [intOf]; omega⟩
        · go_wp2_with fail
          refine ⟨⟨k + 1, q, by omega, by simp, rfl, hq, ?_, g⟩, ?_⟩
          · refine Lib.hid ?_
            rw [NX.out, eq.out]
            have : m = 8 := by omega
            rw [this]
            unfold byteD
            rw [EY.out]
          · simp [intOf]; omega
    · have e4 : Hid (bits .xor .u32 IntKind.u32.max (R : Int) = ((sumD bs : Nat) : Int)) := Lib.hid (by
        have := xor32 (a := 4294967295) (b := R) (by omega) (by omega)
        rw [show IntKind.u32.max = ((4294967295 : Nat) : Int) by decide, this]
        unfold sumD
        rw [eR.out, List.take_of_length_le (by omega), Nat.xor_comm])
      go_wp2_with fail
      go_ret
      exact ⟨by rw [e4.out]; rfl, g.out⟩
theorem sum_any (bs : List Nat) (v : Value) (W : World) (h : IsNums .u8 W v (ints bs)) (hb : Bytes bs) (hl : bs.length ≤ 1000000) : Calls Tryz.prog 57 #[v] W fun e w' => e = .returned (.int .u32 ((sumD bs : Nat) : Int)) ∧ Grown W w' :=
  (sum_same bs v W h hb hl).mono fun e w' he => ⟨he.1, by rw [he.2]; exact Grown.refl _⟩
end Go.Proofs.YtejllmjkeefloaaGreat.Q7
