/- The laws of regions, for what stands ahead of a last operation that waits for all others. Sums of bytes in plain numbers: halving with a pattern is linear over XOR, and one to one below 2^32; what is turned within four bytes turns what is left. Bytes as natural numbers; exclusive or at 32 bits; the program's Sum. -/
import Derived.Test.YtejllmjkeefloaaLFixM
import Derived.Test.YtejllmjkeefloaaLFixN
import Derived.Test.YtejllmjkeefloaaLG8
import Derived.Test.YtejllmjkeefloaaProg
import Derived.Test.YtejllmjkeefloaaLG2
import Derived.Test.YtejllmjkeefloaaLRead
namespace Go.Proofs.Ytejllmjkeefloaa
open Go

theorem any_mixd {P : Program} {ops : List Oper} {Q : Exit → Act → World → Prop} {a : Act} {w : World} (bs : List Nat) (S : World → Prop) (ups : List (Tmp × Value)) (slots : List Tmp) (hok : mixOK .any ops.toArray bs = true)
    (hu : ups.map (·.1) = slots) (hb : (slots.all fun t => (readSlots bs 0 ops).contains t) = true) (hS : S w) (hdr : ∀ w, S w → S w.drew) (hv : OwesRI P ops.toArray S (fillA a ups) bs 0 ops) (hQ : mixList P ops.toArray S Q bs (fillA a ups) w.drew) : wpAny P .any ops.toArray Q ops.toArray.size (Array.replicate ops.toArray.size false) a w.drew := by
  have hok' := hok
  simp only [mixOK, Bool.and_eq_true, decide_eq_true_eq] at hok'
  obtain ⟨⟨⟨⟨_, hch⟩, _⟩, hgu⟩, hnd⟩ := hok'
  have inB : ∀ i, i ∈ bs → i < ops.toArray.size := fun i hi => by
    rw [List.all_eq_true] at hgu
    have h := hgu i hi
    cases hq : ops.toArray[i]? with
    | none => simp [hq] at h
    | some q => exact (Array.getElem?_eq_some_iff.1 hq).1
  refine wpAny_mix (S := S) (a0 := fillA a ups) (bs := bs) hok (fun i o hi ho => hv.at_ (j := i) (by simpa using ho) (by simpa using hi)) _ (Array.replicate ops.toArray.size false) bs (fillA a ups) a w.drew (by simp) ?_ hch hnd (fun i => ?_) rfl rfl (fun _ _ => rfl) ⟨(fill_defers ups a).symm, (fill_size ups a).symm, fun t ht => ?_⟩ (hdr w hS) hQ
  · unfold left
    exact Nat.le_trans (List.length_filter_le _ _) (by simp)
  · refine ⟨fun h => ⟨h, ?_⟩, fun h => h.1⟩
    rw [Array.getD_eq_getD_getElem?, Array.getElem?_replicate, if_pos (inB i h)]
    rfl
  · refine (fill_off ups t (fun p hp e => ?_) a).symm
    have hmem : t ∈ slots := by rw [← hu, ← e]; exact List.mem_map.2 ⟨p, hp, rfl⟩
    rw [List.all_eq_true] at hb
    have h := hb t hmem
    obtain ⟨i, o, h1, h2, hd⟩ := readSlots_mem (by simpa using h)
    rw [Nat.zero_add] at h2
    have hkl : i < ops.length := (List.getElem?_eq_some_iff.1 h1).1
    have := ht i o (by simpa using h1) hd
    rcases this with h | h
    · rw [Array.getD_eq_getD_getElem?, Array.getElem?_replicate, if_pos (by simpa using hkl)] at h
      cases h
    · exact h2 h
theorem wp_region_lastn {P : Program} {Q : Exit → Act → World → Prop} {all : List Oper} {id : Nat} {a : Act} {w : World} (n : Nat) (last : Oper) (he : all = all.take n ++ [last]) (hm : P.follows .mixedOrders = true) (hok : lastOK .any (all.take n).toArray last = true)
    (h : wpAny P .any (all.take n).toArray (thenLast P Q last) (all.take n).toArray.size (Array.replicate (all.take n).toArray.size false) a w.drew) : (Code.region id all.toArray true).wp P Q a w := by
  have := wp_region_last (id := id) hm hok h
  rw [← he] at this
  exact this
end Go.Proofs.Ytejllmjkeefloaa
namespace Go.Proofs.Ytejllmjkeefloaa.Q7

def hv (r : Nat) : Nat := if r % 2 = 1 then (r / 2) ^^^ 3988292384 else r / 2
def hvs : Nat → Nat → Nat
  | 0, r => r
  | n + 1, r => hvs n (hv r)
def byteD (r c : Nat) : Nat := hvs 8 (r ^^^ c)
def crc (r : Nat) (l : List Nat) : Nat := l.foldl byteD r
def sumD (l : List Nat) : Nat := crc 4294967295 l ^^^ 4294967295
theorem hv_lt {x : Nat} (h : x < 2 ^ 32) : hv x < 2 ^ 32 := by
  unfold hv
  split
  · exact Nat.xor_lt_two_pow (by omega) (by decide)
  · omega
theorem hvs_lt (n : Nat) {x : Nat} (h : x < 2 ^ 32) : hvs n x < 2 ^ 32 := by
  induction n generalizing x with
  | zero => exact h
  | succ n ih => exact ih (hv_lt h)
theorem hvs_add (m n x : Nat) : hvs (m + n) x = hvs n (hvs m x) := by
  induction m generalizing x with
  | zero => simp [hvs]
  | succ m ih => rw [show m + 1 + n = (m + n) + 1 by omega]; exact ih (hv x)
theorem hvs_snoc (n x : Nat) : hvs (n + 1) x = hv (hvs n x) := hvs_add n 1 x
theorem byte_lt {r c : Nat} (h : r < 2 ^ 32) (hc : c < 256) : byteD r c < 2 ^ 32 := hvs_lt 8 (Nat.xor_lt_two_pow h (by omega))
theorem crc_lt {r : Nat} {l : List Nat} (h : r < 2 ^ 32) (hl : ∀ c ∈ l, c < 256) : crc r l < 2 ^ 32 := by
  induction l generalizing r with
  | nil => exact h
  | cons c l ih => exact ih (byte_lt h (hl c (List.mem_cons_self ..))) (fun d hd => hl d (List.mem_cons_of_mem _ hd))
theorem crc_app (r : Nat) (l m : List Nat) : crc r (l ++ m) = crc (crc r l) m := List.foldl_append ..
theorem crc_snoc (r : Nat) (l : List Nat) (c : Nat) : crc r (l ++ [c]) = byteD (crc r l) c := by rw [crc_app]; rfl
theorem sum_lt {l : List Nat} (hl : ∀ c ∈ l, c < 256) : sumD l < 2 ^ 32 := Nat.xor_lt_two_pow (crc_lt (by decide) hl) (by decide)
def le4 (r : Nat) : List Nat := [r % 256, r / 256 % 256, r / 65536 % 256, r / 16777216 % 256]
def sealD (l : List Nat) : List Nat := l ++ le4 (sumD l)
end Go.Proofs.Ytejllmjkeefloaa.Q7
namespace Go.Proofs.Ytejllmjkeefloaa.Q7
open Go.ChangeShapes Go.WideShapes Go.ChangeAt Go.RowKit
set_option maxRecDepth 20000
set_option linter.unusedVariables false

theorem xor32 {a b : Nat} (ha : a < 2 ^ 32) (hb : b < 2 ^ 32) : bits .xor .u32 (a : Int) (b : Int) = ((a ^^^ b : Nat) : Int) := by
  have h1 : (BitVec.ofInt 32 (a : Int)).toNat = a := by rw [BitVec.toNat_ofInt]; omega
  have h2 : (BitVec.ofInt 32 (b : Int)).toNat = b := by rw [BitVec.toNat_ofInt]; omega
  show IntKind.u32.wrap ((BitVec.ofInt 32 (a : Int) ^^^ BitVec.ofInt 32 (b : Int)).toNat : Int) = _
  rw [BitVec.toNat_xor, h1, h2]
  have := Nat.xor_lt_two_pow ha hb
  exact IntWalk.u32_in _ (by omega)
theorem and32 {a : Nat} (ha : a < 2 ^ 32) : bits .and .u32 (a : Int) 1 = ((a % 2 : Nat) : Int) := by
  have h1 : (BitVec.ofInt 32 (a : Int)).toNat = a := by rw [BitVec.toNat_ofInt]; omega
  have h2 : (BitVec.ofInt 32 1).toNat = 2 ^ 1 - 1 := by decide
  show IntKind.u32.wrap ((BitVec.ofInt 32 (a : Int) &&& BitVec.ofInt 32 1).toNat : Int) = _
  rw [BitVec.toNat_and, h1, h2, Nat.and_two_pow_sub_one_eq_mod]
  exact IntWalk.u32_in _ (by omega)
/-- Natural numbers as whole ones. -/
def ints (l : List Nat) : List Int := l.map (fun n : Nat => (n : Int))
theorem ints_len (l : List Nat) : (ints l).length = l.length := by simp [ints]
theorem ints_at (l : List Nat) (i : Nat) : (ints l).getD i 0 = ((l.getD i 0 : Nat) : Int) := by
  simp only [ints, List.getD_eq_getElem?_getD, List.getElem?_map]
  cases l[i]? <;> rfl
def Bytes (l : List Nat) : Prop := ∀ c ∈ l, c < 256
theorem Bytes.at {l : List Nat} (h : Bytes l) (i : Nat) : l.getD i 0 < 256 := by
  by_cases c : i < l.length
  · simpa [List.getD, c] using h _ (List.getElem_mem c)
  · simp [List.getD, List.getElem?_eq_none (Nat.le_of_not_lt c)]
set_option maxHeartbeats 2000000 in
theorem sum_same (bs : List Nat) (v : Value) (W : World) (h : IsNums .u8 W v (ints bs)) (hb : Bytes bs) (hl : bs.length ≤ 1000000) : Calls Try.prog 58 #[v] W fun e w' => e = .returned (.int .u32 ((sumD bs : Nat) : Int)) ∧ w' = W := by
  obtain ⟨A, cap, rfl, h2, h3, h4, h5, h6⟩ := h
  rw [ints_len] at h6 ⊢
  have L6 := Lib.hid h6
  have HB := Lib.hid hb
  clear h6 h5 h2 h4 hb
  go_enter Try.func58, Try.ntmps58
  go_wp2_with fail
  go_loopw [3, 9] (fun r i wr => ∃ (k R : Nat), k ≤ bs.length ∧ i = .int .i64 (k : Int) ∧ r = .int .u32 (R : Int) ∧ R < 4294967296 ∧ Hid (R = crc 4294967295 (bs.take k)) ∧ Hid (wr = W)) (fun _ i _ => bs.length - (intOf i).toNat)
  case atStart => exact ⟨0, 4294967295, by omega, rfl, rfl, by omega, Lib.hid (by simp [crc]), Lib.hid rfl⟩
  case round =>
    obtain ⟨k, R, hk, rfl, rfl, hR, eR, g⟩ := hrel
    by_cases c : k < bs.length
    · obtain ⟨b, off, rfl, hbb, hc⟩ := L6.out (by omega)
      have c0 := (congrArg (fun x : World => x.cell? ⟨b, off + k, none⟩) g.out).trans (hc k c)
      rw [ints_at] at c0
      have hx := HB.out.at k
      have nx : crc 4294967295 (bs.take (k + 1)) = byteD R (bs.getD k 0) := by
        rw [List.take_succ_eq_append_getElem c, crc_snoc, ← eR.out]; simp [List.getD, c]
      obtain ⟨x, ex⟩ : ∃ x, bs.getD k 0 = x := ⟨_, rfl⟩
      rw [ex] at c0 hx nx
      have NX := Lib.hid nx
      have e1 := xor32 (a := R) (b := x) (by omega) (by omega)
      have b1 := Nat.xor_lt_two_pow (x := R) (y := x) (n := 32) (by omega) (by omega)
      clear nx ex hc eR
      obtain ⟨Y, eY⟩ : ∃ Y, R ^^^ x = Y := ⟨_, rfl⟩
      rw [eY] at e1 b1
      have EY := Lib.hid eY
      clear eY
      go_wp2_with fail
      go_loopw [3, 17] (fun r i wr => ∃ (m q : Nat), m ≤ 8 ∧ i = .int .i64 (m : Int) ∧ r = .int .u32 (q : Int) ∧ q < 4294967296 ∧ Hid (q = hvs m Y) ∧ Hid (wr = W)) (fun _ i _ => 8 - (intOf i).toNat)
      case atStart => exact ⟨0, Y, by omega, rfl, by first | rfl | (rw [e1]), by omega, Lib.hid rfl, g⟩
      case round =>
        clear g
        obtain ⟨m, q, hm, rfl, rfl, hq, eq, g⟩ := hrel
        by_cases d : m < 8
        · have e2 := and32 (a := q) (by omega)
          by_cases odd : q % 2 = 1
          · have nx : hv q = (q / 2) ^^^ 3988292384 := by unfold hv; rw [if_pos odd]
            have e3 := xor32 (a := q / 2) (b := 3988292384) (by omega) (by omega)
            have b3 : (q / 2) ^^^ 3988292384 < 4294967296 := Nat.xor_lt_two_pow (n := 32) (by omega) (by omega)
            rw [← nx] at e3 b3
            rw [odd] at e2
            have st : Hid (hv q = hvs (m + 1) Y) := Lib.hid (by rw [hvs_snoc, ← eq.out])
            clear nx eq
            obtain ⟨q', hq'⟩ : ∃ q', hv q = q' := ⟨_, rfl⟩
            rw [hq'] at e3 b3 st
            clear hq'
            go_wp2_with fail
            exact ⟨⟨m + 1, q', by omega, by simp, by simpa using e3, b3, st, g⟩, by simp [intOf]; omega⟩
          · have nx : hv q = q / 2 := by unfold hv; rw [if_neg odd]
            have ev : q % 2 = 0 := by omega
            rw [ev] at e2
            have st : Hid (q / 2 = hvs (m + 1) Y) := Lib.hid (by rw [hvs_snoc, ← eq.out, nx])
            clear nx eq
            go_wp2_with fail
            exact ⟨⟨m + 1, q / 2, by omega, by simp, by simp, by omega, st, g⟩, by simp [intOf]; omega⟩
        · go_wp2_with fail
          refine ⟨⟨k + 1, q, by omega, by simp, rfl, hq, ?_, g⟩, ?_⟩
          · refine Lib.hid ?_
            rw [NX.out, eq.out]
            have : m = 8 := by omega
            rw [this]
            unfold byteD
            rw [EY.out]
          · simp [intOf]; omega
    · have e4 : Hid (bits .xor .u32 IntKind.u32.max (R : Int) = ((sumD bs : Nat) : Int)) := Lib.hid (by
        have := xor32 (a := 4294967295) (b := R) (by omega) (by omega)
        rw [show IntKind.u32.max = ((4294967295 : Nat) : Int) by decide, this]
        unfold sumD
        rw [eR.out, List.take_of_length_le (by omega), Nat.xor_comm])
      go_wp2_with fail
      go_ret
      exact ⟨by rw [e4.out]; rfl, g.out⟩
theorem sum_any (bs : List Nat) (v : Value) (W : World) (h : IsNums .u8 W v (ints bs)) (hb : Bytes bs) (hl : bs.length ≤ 1000000) : Calls Try.prog 58 #[v] W fun e w' => e = .returned (.int .u32 ((sumD bs : Nat) : Int)) ∧ Grown W w' :=
  (sum_same bs v W h hb hl).mono fun e w' he => ⟨he.1, by rw [he.2]; exact Grown.refl _⟩
end Go.Proofs.Ytejllmjkeefloaa.Q7
