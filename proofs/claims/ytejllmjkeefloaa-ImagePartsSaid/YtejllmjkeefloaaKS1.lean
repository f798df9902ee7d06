/- Bytes as natural numbers; exclusive or at 32 bits; the program's Sum. A row of bytes in a block of its own; the program's Seal. -/
import Derived.Test.YtejllmjkeefloaaKG2
import Derived.Test.YtejllmjkeefloaaKRead
import Derived.Test.YtejllmjkeefloaaKV2
import Derived.Laws.AppendOwn
import Derived.Laws.OwnMore
import Derived.Laws.CopyOwn
import Derived.OwnWalk
namespace Go.Proofs.Ytejllmjkeefloaa.Q7
open Go.ChangeShapes Go.WideShapes Go.ChangeAt Go.RowKit
set_option maxRecDepth 20000
set_option linter.unusedVariables false

theorem xor32 {a b : Nat} (ha : a < 2 ^ 32) (hb : b < 2 ^ 32) : bits .xor .u32 (a : Int) (b : Int) = ((a ^^^ b : Nat) : Int) := by
  have h1 : (BitVec.ofInt 32 (a : Int)).toNat = a := by rw [BitVec.toNat_ofInt]; omega
  have h2 : (BitVec.ofInt 32 (b : Int)).toNat = b := by rw [BitVec.toNat_ofInt]; omega
  show IntKind.u32.wrap ((BitVec.ofInt 32 (a : Int) ^^^ BitVec.ofInt 32 (b : Int)).toNat : Int) = _
  rw [BitVec.toNat_xor, h1, h2]
  have := Nat.xor_lt_two_pow ha hb
  exact IntWalk.u32_in _ (by omega)
theorem and32 {a : Nat} (ha : a < 2 ^ 32) : bits .and .u32 (a : Int) 1 = ((a % 2 : Nat) : Int) := by
  have h1 : (BitVec.ofInt 32 (a : Int)).toNat = a := by rw [BitVec.toNat_ofInt]; omega
  have h2 : (BitVec.ofInt 32 1).toNat = 2 ^ 1 - 1 := by decide
  show IntKind.u32.wrap ((BitVec.ofInt 32 (a : Int) &&& BitVec.ofInt 32 1).toNat : Int) = _
  rw [BitVec.toNat_and, h1, h2, Nat.and_two_pow_sub_one_eq_mod]
  exact IntWalk.u32_in _ (by omega)
/-- Natural numbers as whole ones. -/
def ints (l : List Nat) : List Int := l.map (fun n : Nat => (n : Int))
theorem ints_len (l : List Nat) : (ints l).length = l.length := by simp [ints]
theorem ints_at (l : List Nat) (i : Nat) : (ints l).getD i 0 = ((l.getD i 0 : Nat) : Int) := by
  simp only [ints, List.getD_eq_getElem?_getD, List.getElem?_map]
  cases l[i]? <;> rfl
def Bytes (l : List Nat) : Prop := ∀ c ∈ l, c < 256
theorem Bytes.at {l : List Nat} (h : Bytes l) (i : Nat) : l.getD i 0 < 256 := by
  by_cases c : i < l.length
  · simpa [List.getD, c] using h _ (List.getElem_mem c)
  · simp [List.getD, List.getElem?_eq_none (Nat.le_of_not_lt c)]
set_option maxHeartbeats 2000000 in
theorem sum_same (bs : List Nat) (v : Value) (W : World) (h : IsNums .u8 W v (ints bs)) (hb : Bytes bs) (hl : bs.length ≤ 1000000) : Calls Try.prog 58 #[v] W fun e w' => e = .returned (.int .u32 ((sumD bs : Nat) : Int)) ∧ w' = W := by
  obtain ⟨A, cap, rfl, h2, h3, h4, h5, h6⟩ := h
  rw [ints_len] at h6 ⊢
  have L6 := Lib.hid h6
  have HB := Lib.hid hb
  clear h6 h5 h2 h4 hb
  go_enter Try.func58, Try.ntmps58
  go_wp2_with fail
  go_loopw [3, 9] (fun r i wr => ∃ (k R : Nat), k ≤ bs.length ∧ i = .int .i64 (k : Int) ∧ r = .int .u32 (R : Int) ∧ R < 4294967296 ∧ Hid (R = crc 4294967295 (bs.take k)) ∧ Hid (wr = W)) (fun _ i _ => bs.length - (intOf i).toNat)
  case atStart => exact ⟨0, 4294967295, by omega, rfl, rfl, by omega, Lib.hid (by simp [crc]), Lib.hid rfl⟩
  case round =>
    obtain ⟨k, R, hk, rfl, rfl, hR, eR, g⟩ := hrel
    by_cases c : k < bs.length
    · obtain ⟨b, off, rfl, hbb, hc⟩ := L6.out (by omega)
      have c0 := (congrArg (fun x : World => x.cell? ⟨b, off + k, none⟩) g.out).trans (hc k c)
      rw [ints_at] at c0
      have hx := HB.out.at k
      have nx : crc 4294967295 (bs.take (k + 1)) = byteD R (bs.getD k 0) := by
        rw [List.take_succ_eq_append_getElem c, crc_snoc, ← eR.out]; simp [List.getD, c]
      obtain ⟨x, ex⟩ : ∃ x, bs.getD k 0 = x := ⟨_, rfl⟩
      rw [ex] at c0 hx nx
      have NX := Lib.hid nx
      have e1 := xor32 (a := R) (b := x) (by omega) (by omega)
      have b1 := Nat.xor_lt_two_pow (x := R) (y := x) (n := 32) (by omega) (by omega)
      clear nx ex hc eR
      obtain ⟨Y, eY⟩ : ∃ Y, R ^^^ x = Y := ⟨_, rfl⟩
      rw [eY] at e1 b1
      have EY := Lib.hid eY
      clear eY
      go_wp2_with fail
      go_loopw [3, 17] (fun r i wr => ∃ (m q : Nat), m ≤ 8 ∧ i = .int .i64 (m : Int) ∧ r = .int .u32 (q : Int) ∧ q < 4294967296 ∧ Hid (q = hvs m Y) ∧ Hid (wr = W)) (fun _ i _ => 8 - (intOf i).toNat)
      case atStart => exact ⟨0, Y, by omega, rfl, by first | rfl | (rw [e1]), by omega, Lib.hid rfl, g⟩
      case round =>
        clear g
        obtain ⟨m, q, hm, rfl, rfl, hq, eq, g⟩ := hrel
        by_cases d : m < 8
        · have e2 := and32 (a := q) (by omega)
          by_cases odd : q % 2 = 1
          · have nx : hv q = (q / 2) ^^^ 3988292384 := by unfold hv; rw [if_pos odd]
            have e3 := xor32 (a := q / 2) (b := 3988292384) (by omega) (by omega)
            have b3 : (q / 2) ^^^ 3988292384 < 4294967296 := Nat.xor_lt_two_pow (n := 32) (by omega) (by omega)
            rw [← nx] at e3 b3
            rw [odd] at e2
            have st : Hid (hv q = hvs (m + 1) Y) := Lib.hid (by rw [hvs_snoc, ← eq.out])
            clear nx eq
            obtain ⟨q', hq'⟩ : ∃ q', hv q = q' := ⟨_, rfl⟩
            rw [hq'] at e3 b3 st
            clear hq'
            go_wp2_with fail
            exact ⟨⟨m + 1, q', by omega, by simp, by simpa using e3, b3, st, g⟩, by simp [intOf]; omega⟩
          · have nx : hv q = q / 2 := by unfold hv; rw [if_neg odd]
            have ev : q % 2 = 0 := by omega
            rw [ev] at e2
            have st : Hid (q / 2 = hvs (m + 1) Y) := Lib.hid (by rw [hvs_snoc, ← eq.out, nx])
            clear nx eq
            go_wp2_with fail
            exact ⟨⟨m + 1, q / 2, by omega, by simp, by simp, by omega, st, g⟩, by simp [intOf]; omega⟩
        · go_wp2_with fail
          refine ⟨⟨k + 1, q, by omega, by simp, rfl, hq, ?_, g⟩, ?_⟩
          · refine Lib.hid ?_
            rw [NX.out, eq.out]
            have : m = 8 := by omega
            rw [this]
            unfold byteD
            rw [EY.out]
          · simp [intOf]; omega
    · have e4 : Hid (bits .xor .u32 IntKind.u32.max (R : Int) = ((sumD bs : Nat) : Int)) := Lib.hid (by
        have := xor32 (a := 4294967295) (b := R) (by omega) (by omega)
        rw [show IntKind.u32.max = ((4294967295 : Nat) : Int) by decide, this]
        unfold sumD
        rw [eR.out, List.take_of_length_le (by omega), Nat.xor_comm])
      go_wp2_with fail
      go_ret
      exact ⟨by rw [e4.out]; rfl, g.out⟩
theorem sum_any (bs : List Nat) (v : Value) (W : World) (h : IsNums .u8 W v (ints bs)) (hb : Bytes bs) (hl : bs.length ≤ 1000000) : Calls Try.prog 58 #[v] W fun e w' => e = .returned (.int .u32 ((sumD bs : Nat) : Int)) ∧ Grown W w' :=
  (sum_same bs v W h hb hl).mono fun e w' he => ⟨he.1, by rw [he.2]; exact Grown.refl _⟩
end Go.Proofs.Ytejllmjkeefloaa.Q7
namespace Go.Proofs.Ytejllmjkeefloaa.Q7
open Go.ChangeShapes Go.WideShapes Go.ChangeAt Go.RowKit
set_option maxRecDepth 20000
set_option linter.unusedVariables false

def cellB (l : List Nat) : List Value := l.map (fun n : Nat => Value.int .u8 (n : Int))
theorem cellB_len (l : List Nat) : (cellB l).length = l.length := by simp [cellB]
theorem cellB_one (l : List Nat) : ∀ v ∈ cellB l, v.oneCell' = true := by
  intro v hv
  obtain ⟨x, _, rfl⟩ := List.mem_map.1 hv
  rfl
theorem cellB_at (l : List Nat) (i : Nat) (h : i < l.length) : (cellB l)[i]? = some (.int .u8 ((l.getD i 0 : Nat) : Int)) := by simp [cellB, List.getD, h]
theorem cellB_set (l : List Nat) (j c : Nat) : (cellB l).set j (.int .u8 (c : Int)) = cellB (l.set j c) := by simp [cellB, List.map_set]
/-- A block that holds just these bytes. -/
def Row (w : World) (b : Nat) (l : List Nat) : Prop := w.heap[b]? = some (.cells (cellB l).toArray 5 (0, 0))
theorem Row.lt {w : World} {b : Nat} {l : List Nat} (h : Row w b l) : b < w.heap.size := (Array.getElem?_eq_some_iff.1 h).1
theorem Row.cell {w : World} {b : Nat} {l : List Nat} (h : Row w b l) {i : Nat} (hi : i < l.length) : w.cell? ⟨b, i, none⟩ = some (.int .u8 ((l.getD i 0 : Nat) : Int)) := by
  rw [← cellB_at l i hi]
  unfold Row at h
  simp [World.cell?, h]
theorem Row.free {w : World} {b : Nat} {l : List Nat} (h : Row w b l) : (∀ o : Nat, w.frozen? ⟨b, o, none⟩ = false) := fun o => frozen_of_row w b o _ _ h
theorem Row.past {w w' : World} {b : Nat} {l : List Nat} (h : Row w b l) (g : Past w w') : Row w' b l := (g.2.2.2 b h.lt).trans h
theorem Row.set {w : World} {b : Nat} {l : List Nat} (h : Row w b l) (j c : Nat) : Row (w.setCell ⟨b, j, none⟩ (.int .u8 (c : Int))) b (l.set j c) := by
  have := heap_setCell_same w b j (cellB l).toArray 5 (.int .u8 (c : Int)) h
  unfold Row
  rw [this, ← cellB_set]
  simp
theorem wf8 {c : Nat} (h : c < 256) : (Lit.int .u8 (c : Int)).wf = true := by
  simp [Lit.wf, IntKind.min, IntKind.max, IntKind.bits, IntKind.signed]; omega
theorem ints_wf {l : List Nat} (h : Bytes l) : ∀ x ∈ ints l, (Lit.int .u8 x).wf = true := by
  intro x hx
  obtain ⟨c, hc, rfl⟩ := List.mem_map.1 hx
  exact wf8 (h c hc)
theorem Row.nums {w : World} {b : Nat} {l : List Nat} (h : Row w b l) (hb : Bytes l) (hm : l.length ≤ maxLen) : IsNums .u8 w (.slice (some ⟨b, 0, none⟩) l.length l.length) (ints l) := by
  refine ⟨some ⟨b, 0, none⟩, l.length, by rw [ints_len], by rw [ints_len]; exact Nat.le_refl _, hm, (fun h => by cases h), ints_wf hb, fun _ => ⟨b, 0, rfl, h.lt, fun i hi => ?_⟩⟩
  rw [ints_len] at hi
  rw [ints_at, Nat.zero_add]
  exact h.cell hi
theorem row_of_own {w : World} {base b n : Nat} {xs : List Value} {l : List Nat} (h : w.ownsRow base 5 1 (.slice (some ⟨b, 0, none⟩) n n) n xs) (e : xs = cellB l) : Row w b l := by
  subst e
  obtain ⟨hl, h⟩ := h
  rcases h with ⟨h', _⟩ | ⟨g, cap, cur, h', hb, hg, hn, hm, hs, ht⟩
  · simp at h'
  · simp only [Value.slice.injEq, Option.some.injEq, Addr.mk.injEq, and_true, true_and] at h'
    obtain ⟨rfl, rfl⟩ := h'
    unfold Row
    rw [hg, ← ht, List.take_of_length_le (by simp [hs])]
theorem nums_cells {w : World} {A : Option Addr} {len cap : Nat} {l : List Nat} (h : IsNums .u8 w (.slice A len cap) (ints l)) : 0 < (cellB l).length → ∃ ad, A = some ad ∧ ∀ j v, (cellB l)[j]? = some v → w.cell? (ad.add j) = some v := by
  intro hp
  obtain ⟨A', cap', e, h2, h3, h4, h5, h6⟩ := h
  simp only [Value.slice.injEq] at e
  obtain ⟨rfl, rfl, rfl⟩ := e
  rw [cellB_len] at hp
  obtain ⟨b, off, rfl, hb, hc⟩ := h6 (by rw [ints_len]; exact hp)
  refine ⟨_, rfl, fun j v hv => ?_⟩
  have hj : j < l.length := by have := (List.getElem?_eq_some_iff.1 hv).1; rwa [cellB_len] at this
  rw [add_plain, hc j (by rw [ints_len]; exact hj), ints_at, ← cellB_at l j hj, hv]
theorem info8 : (Try.prog.info? 5).map (fun i => (i.zero, i.size, i.bytes)) = some (some (.int .u8 0), 1, 1) := by kernel_rfl
theorem size8 : (Try.prog.info? 5).map (·.size) = some 1 := by kernel_rfl
def SealPost (bs : List Nat) (W : World) (e : Ending) (w' : World) : Prop := e = .returned (.slice (some ⟨W.heap.size, 0, none⟩) (bs.length + 4) (bs.length + 4)) ∧ Row w' W.heap.size (sealD bs) ∧ Past W w'
/-- What the loop has laid so far. -/
theorem laid_at (bs : List Nat) (m S : Nat) (hS : S = sumD bs) (h : m < 4) : (bs ++ (le4 S).take m ++ List.replicate (4 - m) 0).set (bs.length + m) (S / 2 ^ (8 * m) % 256) = bs ++ (le4 S).take (m + 1) ++ List.replicate (4 - (m + 1)) 0 := by
  have : m = 0 ∨ m = 1 ∨ m = 2 ∨ m = 3 := by omega
  rcases this with rfl | rfl | rfl | rfl <;> simp [le4, List.replicate]
set_option maxHeartbeats 4000000 in
theorem seal_any (bs : List Nat) (v : Value) (W : World) (h : IsNums .u8 W v (ints bs)) (hb : Bytes bs) (hl : bs.length ≤ 1000000) : Calls Try.prog 33 #[v] W (SealPost bs W) := by
  have H := Lib.hid h
  obtain ⟨A, cap, rfl, h2, h3, h4, h5, h6⟩ := h
  rw [ints_len] at H ⊢
  clear h6 h5 h2 h4
  obtain ⟨i0, hi0, hz0, hz1, hz2⟩ := info_parts info8
  obtain ⟨w2, hrun, own2, grow2⟩ := run_makeSlice_full (P := Try.prog) W W.heap.size 22 5 i0 (.int .u8 0) 1 Try.underlying22 hi0 hz0 hz1 .i64 .i64 (bs.length + 4) (by omega) (by rw [hz2]; omega) (by unfold maxLen; omega) (Nat.le_refl _)
  clear hi0 hz0 hz1 hz2
  have g2 : Past W w2 := (Past.refl W).grownBy grow2 (fun k hk => by cases hk)
  have R2 : Row w2 W.heap.size (List.replicate (bs.length + 4) 0) := row_of_own own2 (by
    show (madeCells #[.int .u8 0] ((bs.length + 4) * 1)).toList = _
    rw [toList_madeCells_one, Nat.mul_one]
    simp [cellB])
  have e0 : (((bs.length + 4 : Nat)) : Int) = (bs.length : Int) + 4 := by simp
  rw [e0] at hrun
  clear e0 own2 grow2
  obtain ⟨P, hP⟩ : ∃ P, W.heap.size = P := ⟨_, rfl⟩
  obtain ⟨N, hN⟩ : ∃ N, bs.length + 4 = N := ⟨_, rfl⟩
  unfold SealPost
  rw [hP] at hrun R2 ⊢
  rw [hN] at hrun R2 ⊢
  have HPP := Lib.hid hP
  have HNN := Lib.hid hN
  have HB := Lib.hid hb
  clear hP hb
  go_enter Try.func33, Try.ntmps33
  have hn1 : (cellB bs).length = Nat.min bs.length N := by rw [cellB_len]; show _ = min bs.length N; omega
  have hf1 : 0 + (cellB bs).length ≤ (cellB (List.replicate N 0)).length := by rw [cellB_len, cellB_len]; simp; omega
  have hs1 : 0 < (cellB bs).length → ∃ ad, A = some ad ∧ ∀ (j : Nat) (v : Value), (cellB bs)[j]? = some v → w2.cell? (ad.add j) = some v := fun hp => nums_cells (H.out.grow g2) hp
  have LAW := Lib.hid (And.intro hn1 (And.intro hf1 (And.intro (cellB_one bs) hs1)))
  have HR := Lib.hid R2
  have SM := Lib.hid (fun w (g : Past W w) => sum_any bs _ w (H.out.grow g) HB.out hl)
  have HG := Lib.hid g2
  clear hn1 hf1 hs1 R2 hN
  go_wp2_with (refine wpList_copy_splice rfl (.tmp 10) (.tmp 11) 22 22 rfl 5 Try.underlying22 size8 (some ⟨P, 0, none⟩) A N N bs.length cap rfl rfl P 0 (cellB (List.replicate N 0)) 5 HR.out (cellB bs) LAW.out.1 (fun hp => ⟨rfl, LAW.out.2.2.2 hp⟩) LAW.out.2.1 LAW.out.2.2.1 P w2 (Below.refl _ _) (Nat.le_refl _) ?_)
  intro w4 hg4 hb4
  have R4 : Row w4 P (bs ++ List.replicate 4 0) := by
    have := hg4.out
    unfold Row
    rw [this]
    congr 2
    rw [← HNN.out]
    simp [splice, cellB]
  have g4 : Past W w4 := ⟨hb4.os.trans HG.out.1, hb4.output.trans HG.out.2.1, Nat.le_trans HG.out.2.2.1 hb4.size, fun k hk => (hb4.block k (by have := HPP.out; omega)).trans (HG.out.2.2.2 k hk)⟩
  clear hg4 hb4 LAW HR HG g2 hrun
  go_wp2_with fail
  refine (SM.out _ g4).mono ?_
  rintro e w5 ⟨rfl, gg⟩
  have R5 := R4.past (Grown.past gg)
  have g5 := g4.trans (Grown.past gg)
  clear R4 g4 gg SM
  have sl := sum_lt HB.out
  have n1 : bs.length + 4 ≤ N := by have := HNN.out; omega
  have n2 : N ≤ bs.length + 4 := by have := HNN.out; omega
  obtain ⟨S, hS⟩ : ∃ S, sumD bs = S := ⟨_, rfl⟩
  have SS := Lib.hid hS
  rw [hS] at sl ⊢
  clear hS
  go_wp2_with fail
  go_loopw [15] (fun i wr => ∃ (m : Nat), m ≤ 4 ∧ i = .int .i64 (m : Int) ∧ Row wr P (bs ++ (le4 S).take m ++ List.replicate (4 - m) 0) ∧ Hid (Past W wr)) (fun i _ => 4 - (intOf i).toNat)
  case atStart => exact ⟨0, by omega, rfl, by simpa using R5, Lib.hid g5⟩
  case round =>
    clear R5 g5
    obtain ⟨m, hm, rfl, hr, hp⟩ := hrel
    by_cases d : m < 4
    · have f1 := hr.free (bs.length + m)
      obtain ⟨u1, c1⟩ : ∃ u, wr.cell? ⟨P, bs.length + m, none⟩ = some u := ⟨_, hr.cell (i := bs.length + m) (by simp [le4]; omega)⟩
      have nx := hr.set (bs.length + m) (S / 2 ^ (8 * m) % 256)
      rw [laid_at bs m S SS.out.symm d] at nx
      have NX := Lib.hid nx
      have HL := Lib.hid (hr.lt)
      have nb : P < wr.heap.size := hr.lt
      clear nx hr
      have hm4 : m = 0 ∨ m = 1 ∨ m = 2 ∨ m = 3 := by omega
      rcases hm4 with rfl | rfl | rfl | rfl
      · simp only [Nat.add_zero] at f1 c1
        go_wp2_with fail
        exact ⟨⟨1, by omega, rfl, by simpa using NX.out, Lib.hid (hp.out.setCell (by have := HPP.out; dsimp only; omega) _)⟩, by simp [intOf]⟩
      · go_wp2_with fail
        exact ⟨⟨2, by omega, rfl, by simpa using NX.out, Lib.hid (hp.out.setCell (by have := HPP.out; dsimp only; omega) _)⟩, by simp [intOf]⟩
      · go_wp2_with fail
        exact ⟨⟨3, by omega, rfl, by simpa using NX.out, Lib.hid (hp.out.setCell (by have := HPP.out; dsimp only; omega) _)⟩, by simp [intOf]⟩
      · go_wp2_with fail
        have q : (S : Int) / 16777216 % 256 = (S : Int) / 16777216 := by omega
        exact ⟨⟨4, by omega, rfl, by simpa [q] using NX.out, Lib.hid (hp.out.setCell (by have := HPP.out; dsimp only; omega) _)⟩, by simp [intOf]⟩
    · have e4 : m = 4 := by omega
      subst e4
      have HR := Lib.hid hr
      clear hr
      go_wp2_with fail
      go_ret
      refine ⟨rfl, ?_, hp.out⟩
      have := HR.out
      unfold sealD
      rw [SS.out]
      simpa [le4] using this
end Go.Proofs.Ytejllmjkeefloaa.Q7
