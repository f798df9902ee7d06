/- The reference of layer 4: the reader; signed, shape. The reference of layer 4: the reader; nums. -/
import Derived.Test.YtejllmjkeefloaaJN13
import Derived.Test.YtejllmjkeefloaaJT3
namespace Go.Proofs.Ytejllmjkeefloaa
open Go.ChangeShapes Go.WideShapes Go.ChangeAt Go.RowKit
set_option maxRecDepth 20000
set_option linter.unusedVariables false
set_option linter.unusedSimpArgs false

theorem QRd.lt {w : World} {B P cap : Nat} {A : Option Addr} {b : List Int} {s : Rd} (h : QRd w B P A cap b s) : P < w.heap.size := by
  obtain ⟨k, bad, h, _⟩ := h
  exact h.2.2.2.2.2.2
theorem QRd.bytes {w : World} {B P cap : Nat} {A : Option Addr} {b : List Int} {s : Rd} (h : QRd w B P A cap b s) : bytesP s.rest := by
  obtain ⟨k, bad, h, rfl⟩ := h
  unfold leftOf
  cases bad
  · exact fun c hc => h.2.2.1.bytesP c (List.mem_of_mem_drop hc)
  · exact fun c hc => by simp at hc
theorem QRd.keep {w w' : World} {B P Q cap : Nat} {A : Option Addr} {b : List Int} {s : Rd} (h : QRd w B P A cap b s) (g : Keep Q w w') (hQ : P < Q) : QRd w' B P A cap b s := by
  obtain ⟨k, bad, h, e⟩ := h
  exact ⟨k, bad, h.keep g hQ, e⟩
theorem QRd.past {w w' : World} {B P cap : Nat} {A : Option Addr} {b : List Int} {s : Rd} (h : QRd w B P A cap b s) (g : Past w w') : QRd w' B P A cap b s := by
  obtain ⟨k, bad, h, e⟩ := h
  exact ⟨k, bad, h.past g, e⟩
theorem QRd.alloc {w : World} {B P cap : Nat} {A : Option Addr} {b : List Int} {s : Rd} (h : QRd w B P A cap b s) (x : Obj) : QRd (w.alloc x) B P A cap b s := h.past ((Past.refl w).alloc x)
theorem QRd.set {w : World} {B P Q o cap : Nat} {A : Option Addr} {b : List Int} {s : Rd} {u : Value} (h : QRd w B P A cap b s) (hQ : P < Q) : QRd (w.setCell ⟨Q, o, none⟩ u) B P A cap b s := h.keep ((Keep.refl Q w).set _ _) hQ
theorem QRd.grownBy {w w' : World} {B P cap : Nat} {A : Option Addr} {b : List Int} {s : Rd} {row : Option Nat} (h : QRd w B P A cap b s) (g : w.grownBy w' row) (hr : ∀ k, row = some k → P < k) : QRd w' B P A cap b s := by
  obtain ⟨k, bad, ⟨h1, h2, ⟨c1, c2, c3, c4⟩, h4, h5, h6, h7⟩, e⟩ := h
  have key : ∀ i, i ≤ P → w'.heap[i]? = w.heap[i]? := fun i hi => g.block i (by omega) (fun e => by have := hr i e.symm; omega)
  refine ⟨k, bad, ⟨fun o => (World.cell?_of_block (a := ⟨P, o, none⟩) (key P (Nat.le_refl _))).trans (h1 o), fun o => (World.frozen?_of_block (a := ⟨P, o, none⟩) (key P (Nat.le_refl _))).trans (h2 o), ⟨c1, c2, c3, fun hp => ?_⟩, h4, h5, h6, Nat.lt_of_lt_of_le h7 g.size⟩, e⟩
  obtain ⟨bb, off, e, hb, hc⟩ := c4 hp
  exact ⟨bb, off, e, hb, fun i hi => (World.cell?_of_block (a := ⟨bb, off + i, none⟩) (key bb (by omega))).trans (hc i hi)⟩
theorem qnum_rd (wd : Nat) (h1 : 1 ≤ wd) (h4 : wd ≤ 4) (B P cap : Nat) (A : Option Addr) (b : List Int) (s : Rd) (W : World) (hr : QRd W B P A cap b s) :
    Calls Try.prog 23 #[.pointer (some ⟨P, 0, none⟩), .int .i64 (wd : Int)] W (QPost (.int .i64 (numR wd s).1) B P A cap b (numR wd s).2 W) := by
  obtain ⟨k, bad, h, rfl⟩ := hr
  exact qnum_any wd h1 h4 B P A cap b k bad W h
theorem wrap8_lo {x : Int} (h0 : 0 ≤ x) (h1 : x < 128) : IntKind.i8.wrap x = x := by simp only [IntKind.wrap, IntKind.bits, IntKind.signed]; simp; split <;> omega
theorem wrap8_hi {x : Int} (h0 : 128 ≤ x) (h1 : x < 256) : IntKind.i8.wrap x = x - 256 := by simp only [IntKind.wrap, IntKind.bits, IntKind.signed]; simp; split <;> omega
theorem wrap32_lo {x : Int} (h0 : 0 ≤ x) (h1 : x < 2147483648) : IntKind.i32.wrap x = x := by simp only [IntKind.wrap, IntKind.bits, IntKind.signed]; simp; split <;> omega
theorem wrap32_hi {x : Int} (h0 : 2147483648 ≤ x) (h1 : x < 4294967296) : IntKind.i32.wrap x = x - 4294967296 := by simp only [IntKind.wrap, IntKind.bits, IntKind.signed]; simp; split <;> omega
theorem qsmall_rd (B P cap : Nat) (A : Option Addr) (b : List Int) (s : Rd) (W : World) (hr : QRd W B P A cap b s) :
    Calls Try.prog 25 #[.pointer (some ⟨P, 0, none⟩), .int .i64 1] W (QPost (.int .i64 (smallR s).1) B P A cap b (smallR s).2 W) := by
  have C := Lib.hid (qnum_rd 1 (by omega) (by omega) B P cap A b s W hr)
  have bd := numR_bd 1 s hr.bytes
  obtain ⟨x, hx⟩ : ∃ x, numR 1 s = x := ⟨_, rfl⟩
  have e : smallR s = (IntKind.i8.wrap x.1, x.2) := by unfold smallR; rw [hx]
  rw [e]
  rw [hx] at C bd
  clear hr e hx
  obtain ⟨x, t⟩ := x
  simp only [Int.reducePow] at bd C ⊢
  obtain ⟨b0, b1⟩ := bd
  by_cases h : 128 ≤ x
  · rw [wrap8_hi h b1]
    go_enter Try.func25, Try.ntmps25
    go_wp2_with fail
    refine C.out.mono ?_
    rintro e w1 ⟨rfl, r1, k1⟩
    have R := Lib.hid r1
    have K := Lib.hid k1
    clear r1 k1 C
    go_wp2_with fail
    go_ret
    exact ⟨rfl, R.out, K.out⟩
  · rw [wrap8_lo b0 (by omega)]
    go_enter Try.func25, Try.ntmps25
    go_wp2_with fail
    refine C.out.mono ?_
    rintro e w1 ⟨rfl, r1, k1⟩
    have R := Lib.hid r1
    have K := Lib.hid k1
    clear r1 k1 C
    go_wp2_with fail
    go_ret
    exact ⟨rfl, R.out, K.out⟩
theorem qwide_rd (B P cap : Nat) (A : Option Addr) (b : List Int) (s : Rd) (W : World) (hr : QRd W B P A cap b s) :
    Calls Try.prog 25 #[.pointer (some ⟨P, 0, none⟩), .int .i64 4] W (QPost (.int .i64 (wideR s).1) B P A cap b (wideR s).2 W) := by
  have C := Lib.hid (qnum_rd 4 (by omega) (by omega) B P cap A b s W hr)
  have bd := numR_bd 4 s hr.bytes
  obtain ⟨x, hx⟩ : ∃ x, numR 4 s = x := ⟨_, rfl⟩
  have e : wideR s = (IntKind.i32.wrap x.1, x.2) := by unfold wideR; rw [hx]
  rw [e]
  rw [hx] at C bd
  clear hr e hx
  obtain ⟨x, t⟩ := x
  simp only [Int.reducePow] at bd C ⊢
  obtain ⟨b0, b1⟩ := bd
  by_cases h : 2147483648 ≤ x
  · rw [wrap32_hi h b1]
    go_enter Try.func25, Try.ntmps25
    go_wp2_with fail
    refine C.out.mono ?_
    rintro e w1 ⟨rfl, r1, k1⟩
    have R := Lib.hid r1
    have K := Lib.hid k1
    clear r1 k1 C
    go_wp2_with fail
    go_ret
    exact ⟨rfl, R.out, K.out⟩
  · rw [wrap32_lo b0 (by omega)]
    go_enter Try.func25, Try.ntmps25
    go_wp2_with fail
    refine C.out.mono ?_
    rintro e w1 ⟨rfl, r1, k1⟩
    have R := Lib.hid r1
    have K := Lib.hid k1
    clear r1 k1 C
    go_wp2_with fail
    go_ret
    exact ⟨rfl, R.out, K.out⟩
set_option maxHeartbeats 1000000 in
theorem qshape_rd (B P cap : Nat) (A : Option Addr) (b : List Int) (s : Rd) (W : World) (hr : QRd W B P A cap b s) : Calls Try.prog 24 #[.pointer (some ⟨P, 0, none⟩)] W (QPost (.agg #[.int .i64 (shapeR s).1.1, .int .i64 (shapeR s).1.2.1, .int .i64 (shapeR s).1.2.2]) B P A cap b (shapeR s).2 W) := by
  have C := Lib.hid (fun s w (k : QRd w B P A cap b s) => qnum_rd 1 (by omega) (by omega) B P cap A b s w k)
  obtain ⟨x, hx⟩ : ∃ x, numR 1 s = x := ⟨_, rfl⟩
  obtain ⟨y, hy⟩ : ∃ y, numR 1 x.2 = y := ⟨_, rfl⟩
  obtain ⟨z, hz⟩ : ∃ z, numR 1 y.2 = z := ⟨_, rfl⟩
  have e : shapeR s = ((x.1, y.1, z.1), z.2) := by simp only [shapeR, hx, hy, hz]
  rw [e]
  have hPW : P < W.heap.size := hr.lt
  have HR := Lib.hid hr
  have HX := Lib.hid hx
  have HY := Lib.hid hy
  have HZ := Lib.hid hz
  clear hr e hx hy hz
  go_enter Try.func24, Try.ntmps24
  go_upto_region 1 with fail
  obtain ⟨Q, hQ⟩ : ∃ Q, W.heap.size = Q := ⟨_, rfl⟩
  refine opq (fun w' => (∀ o : Nat, w'.cell? ⟨Q, o, none⟩ = (#[.int .i64 0, .int .i64 0, .int .i64 0] : Array Value)[o]?) ∧ (∀ o : Nat, w'.frozen? ⟨Q, o, none⟩ = false) ∧ QRd w' B P A cap b s ∧ Keep P W w' ∧ Q + 1 ≤ w'.heap.size) (by subst hQ; exact ⟨box_new rfl, free_alloc (free_new (Nat.le_refl _)), HR.out.alloc _, Keep.of_past ((Past.refl W).alloc _), by simp⟩) ?_
  rintro w0 ⟨b0, f0, r0, k0, s0⟩
  try rw [hQ]
  have R0 := Lib.hid r0
  have K0 := Lib.hid k0
  clear r0 k0
  go_wp2_with fail
  refine (C.out _ _ R0.out).mono ?_
  rintro e w1 ⟨rfl, r1, k1⟩
  rw [HX.out] at r1
  simp only [HX.out]
  have b1 := box_keep k1 b0 (by omega) (by omega)
  have f1 := free_keep k1 f0 (by omega) (by omega)
  have s1 : Q + 1 ≤ w1.heap.size := by have := k1.2.2.1; omega
  have R1 := Lib.hid r1
  have K1 := Lib.hid (K0.out.trans k1)
  clear b0 f0 s0 r1 k1 R0 K0
  go_wp2_with fail
  refine (C.out _ _ R1.out).mono ?_
  rintro e w2 ⟨rfl, r2, k2⟩
  rw [HY.out] at r2
  simp only [HY.out]
  have b2 := box_keep k2 b1 (by omega) (by omega)
  have f2 := free_keep k2 f1 (by omega) (by omega)
  have s2 : Q + 1 ≤ w2.heap.size := by have := k2.2.2.1; omega
  have R2 := Lib.hid r2
  have K2 := Lib.hid (K1.out.trans k2)
  clear b1 f1 s1 r2 k2 R1 K1
  go_wp2_with fail
  refine (C.out _ _ R2.out).mono ?_
  rintro e w3 ⟨rfl, r3, k3⟩
  rw [HZ.out] at r3
  simp only [HZ.out]
  have b3 := box_keep k3 b2 (by omega) (by omega)
  have f3 := free_keep k3 f2 (by omega) (by omega)
  have R3 := Lib.hid r3
  have K3 := Lib.hid (K2.out.trans k3)
  clear b2 f2 s2 r3 k3 R2 K2 C
  go_wp2_with fail
  have b4 := box_set3 (y0 := .int .i64 x.1) (y1 := .int .i64 y.1) (y2 := .int .i64 z.1) b3
  have R4 := Lib.hid (((R3.out.set (Q := Q) (o := 0) (u := .int .i64 x.1) (by omega)).set (Q := Q) (o := 1) (u := .int .i64 y.1) (by omega)).set (Q := Q) (o := 2) (u := .int .i64 z.1) (by omega))
  have K4 := Lib.hid (((K3.out.setNew (Q := Q) (o := 0) (u := .int .i64 x.1) (by omega)).setNew (Q := Q) (o := 1) (u := .int .i64 y.1) (by omega)).setNew (Q := Q) (o := 2) (u := .int .i64 z.1) (by omega))
  clear b3 f3 R3 K3
  generalize (((w3.setCell { block := Q, off := 0 } (Value.int IntKind.i64 x.1)).setCell { block := Q, off := 1 } (Value.int IntKind.i64 y.1)).setCell { block := Q, off := 2 } (Value.int IntKind.i64 z.1)) = w4 at *
  exact bodyPost_ret (v := .agg #[.int .i64 x.1, .int .i64 y.1, .int .i64 z.1]) (by simp [results, Try.results24, go_sem, b4]) rfl ⟨rfl, R4.out, K4.out⟩
end Go.Proofs.Ytejllmjkeefloaa
namespace Go.Proofs.Ytejllmjkeefloaa
open Go.ChangeShapes Go.WideShapes Go.ChangeAt Go.RowKit
set_option maxRecDepth 20000
set_option linter.unusedVariables false
set_option linter.unusedSimpArgs false

theorem QRd.c2 {w : World} {B P cap : Nat} {A : Option Addr} {b : List Int} {s : Rd} (h : QRd w B P A cap b s) : w.cell? ⟨P, 2, none⟩ = some (.bool s.short) := by
  obtain ⟨k, bad, h, rfl⟩ := h
  have e : (leftOf b k bad).short = bad := by cases bad <;> rfl
  rw [e]
  exact h.1 2
/-- How far a loop of the reference's reader has come: when there are too few it stops, with what it has. -/
def Stops {α : Type} (one : Rd → α × Rd) (n : Nat) (l : List α) (t : Rd) (g : List α × Rd) : Prop := if t.short then g.2 = t else goR one n l t = g
theorem Stops.first {α : Type} {one : Rd → α × Rd} {n : Nat} {t : Rd} (h : t.short = true → n = 0) : Stops one n [] t (goR one n [] t) := by
  unfold Stops
  split
  · rename_i hs
    rw [h hs]; rfl
  · rfl
theorem Stops.next {α : Type} {one : Rd → α × Rd} {n : Nat} {l : List α} {t : Rd} {g : List α × Rd} (h : Stops one (n + 1) l t g) (hs : t.short = false) : Stops one n (l ++ [(one t).1]) (one t).2 g := by
  unfold Stops at h ⊢
  rw [if_neg (by rw [hs]; simp)] at h
  split
  · rename_i h2
    rw [← h, goR_short n l t h2]
  · rename_i h2
    rw [← h, goR_more n l t (by simpa using h2)]
theorem Stops.done {α : Type} {one : Rd → α × Rd} {l : List α} {t : Rd} {g : List α × Rd} (h : Stops one 0 l t g) : g.2 = t ∧ (t.short = false → g.1 = l) := by
  unfold Stops at h
  split at h
  · rename_i hs
    exact ⟨h, fun f => by rw [hs] at f; cases f⟩
  · rw [goR_end] at h
    rw [← h]
    exact ⟨rfl, fun _ => rfl⟩
theorem Stops.over {α : Type} {one : Rd → α × Rd} {n : Nat} {l : List α} {t : Rd} {g : List α × Rd} (h : Stops one n l t g) (hs : t.short = true) : g.2 = t ∧ (t.short = false → g.1 = l) := by
  unfold Stops at h
  rw [if_pos hs] at h
  exact ⟨h, fun f => by rw [hs] at f; cases f⟩
/-- A list that the reference's reader tells: where it is then, and what it is if there was enough. -/
def QNums (base : Nat) (B P : Nat) (A : Option Addr) (cap : Nat) (b : List Int) (g : List Int × Rd) (W : World) (e : Ending) (w' : World) : Prop :=
  ∃ v l, e = .returned v ∧ OwnI .i64 3 w' base v l ∧ (∀ x ∈ l, 0 ≤ x ∧ x < 256) ∧ l.length ≤ 255 ∧ (g.2.short = false → g.1 = l) ∧ QRd w' B P A cap b g.2 ∧ Keep P W w'
set_option maxHeartbeats 4000000 in
theorem qnums_rd (B P cap : Nat) (A : Option Addr) (b : List Int) (s : Rd) (W : World) (hr : QRd W B P A cap b s) :
    Calls Try.prog 27 #[.pointer (some ⟨P, 0, none⟩)] W (QNums W.heap.size B P A cap b (listR 1 (numR 1) s) W) := by
  have hPW := hr.lt
  have C0 := Lib.hid (qnum_rd 1 (by omega) (by omega) B P cap A b s W hr)
  have C1 := Lib.hid (fun s w (k : QRd w B P A cap b s) => qnum_rd 1 (by omega) (by omega) B P cap A b s w k)
  obtain ⟨nb0, nb1⟩ := numR_bd 1 s hr.bytes
  simp only [Int.reducePow] at nb1
  obtain ⟨N, hN⟩ : ∃ N : Nat, (numR 1 s).1 = (N : Int) := ⟨(numR 1 s).1.toNat, by omega⟩
  have hN2 : N ≤ 255 := by omega
  have hz : (numR 1 s).2.short = true → N = 0 := fun h => by
    unfold numR pieceR at h hN
    split at h
    · rename_i q
      rw [if_pos q] at hN
      simp [foldB] at hN
      omega
    · rename_i q
      obtain ⟨k, bad, _, rfl⟩ := hr
      cases bad
      · cases h
      · exact absurd (by simp [leftOf]) q
  obtain ⟨l0, s0⟩ : ∃ t, (numR 1 s).2 = t := ⟨_, rfl⟩
  rw [s0] at hz
  obtain ⟨g, hg⟩ : ∃ g, goR (numR 1) N [] l0 = g := ⟨_, rfl⟩
  have hl : listR 1 (numR 1) s = g := by unfold listR; rw [hN, s0, Int.toNat_natCast, hg]
  rw [hl]
  rw [hN, s0] at C0
  have ST := Lib.hid (Stops.first (one := numR 1) hz)
  rw [hg] at ST
  obtain ⟨i0, hi0, hz0, hz1, hz2⟩ := info_parts infoInt
  have I1 := Lib.hid hi0
  have I2 := Lib.hid hz0
  have I3 := Lib.hid hz1
  have I4 := Lib.hid hz2
  clear hi0 hz0 hz1 hz2 hr nb0 nb1 hN s0 hl hg hz
  go_enter Try.func27, Try.ntmps27
  go_wp2_with fail
  refine C0.out.mono ?_
  rintro e w1 ⟨rfl, r1, k1⟩
  have R1 := Lib.hid r1
  have K1 := Lib.hid k1
  have S1 : W.heap.size ≤ w1.heap.size := k1.2.2.1
  clear r1 k1 C0
  go_upto_region 3 with fail
  refine opq (fun w' => Hid (OwnI .i64 3 w' W.heap.size (.slice (some ⟨w1.heap.size, 0, none⟩) 0 0) []) ∧ Hid (QRd w' B P A cap b l0) ∧ Hid (Keep P W w') ∧ W.heap.size ≤ w'.heap.size) ⟨Lib.hid (World.ownsRow_lit w1 #[] 0 S1 (by decide) rfl), Lib.hid (R1.out.alloc _), Lib.hid (K1.out.alloc _), by rw [World.size_alloc]; omega⟩ ?_
  rintro w2 ⟨OW2, R2, K2, S2⟩
  clear R1 K1 S1
  go_wp2_with fail
  go_loopw [4, 5] (fun v i wr => ∃ (k : Nat) (l : List Int) (st : Rd), k ≤ N ∧ i = .int .i64 k ∧ l.length = k ∧ Hid (∀ x ∈ l, 0 ≤ x ∧ x < 256) ∧ Hid (Stops (numR 1) (N - k) l st g) ∧ Hid (OwnI .i64 3 wr W.heap.size v l) ∧ Hid (QRd wr B P A cap b st) ∧ Hid (Keep P W wr) ∧ W.heap.size ≤ wr.heap.size) (fun _ i _ => N - (intOf i).toNat)
  case atStart => exact ⟨0, [], l0, by omega, rfl, rfl, Lib.hid (by simp), ST, OW2, R2, K2, S2⟩
  case round =>
    clear OW2 R2 K2 S2 ST
    obtain ⟨k, l, st, hk, rfl, hll, hby, hgo, own, rr, kk, ss⟩ := hrel
    have c2 := rr.out.c2
    by_cases h : k < N
    · obtain ⟨m, hm⟩ : ∃ m, N - k = m + 1 := ⟨N - k - 1, by omega⟩
      cases hs : st.short with
      | true =>
        have D := Lib.hid (hgo.out.over hs)
        rw [hs] at c2
        have rr' : Hid (QRd wr B P A cap b g.2) := Lib.hid (by rw [D.out.1]; exact rr.out)
        have D2 : Hid (g.2.short = false → g.1 = l) := Lib.hid (fun f => D.out.2 (by rw [← D.out.1]; exact f))
        clear hgo hm hs rr D
        go_wp2_with fail
        go_ret
        exact ⟨_, l, rfl, own.out, hby.out, by omega, D2.out, rr'.out, kk.out⟩
      | false =>
        rw [hm] at hgo
        have NX := Lib.hid (hgo.out.next hs)
        rw [hs] at c2
        have bd := numR_bd 1 st rr.out.bytes
        simp only [Int.reducePow] at bd
        obtain ⟨x, hx⟩ : ∃ x, (numR 1 st) = x := ⟨_, rfl⟩
        rw [hx] at NX bd
        have HX := Lib.hid hx
        have BD := Lib.hid bd
        clear hx hgo hs bd
        go_wp2_with fail
        refine (C1.out _ _ rr.out).mono ?_
        rw [HX.out]
        rintro e w2 ⟨rfl, r2, k2⟩
        have OW2 := Lib.hid (own_keep own.out k2 hPW)
        have K2 := Lib.hid (kk.out.trans k2)
        have S2 : W.heap.size ≤ w2.heap.size := by have := k2.2.2.1; omega
        have R2 := Lib.hid r2
        have HLT := Lib.hid (World.ownsRow.lt OW2.out)
        clear own rr kk ss k2 r2 c2
        go_wp2_with (at_builtin; refine wpList_append_own _ rfl (.tmp 21) (.tmp 24) 27 rfl W.heap.size 3 i0 _ 1 8 Try.underlying27 I1.out I2.out I3.out I4.out rfl (by decide) _ _ _ rfl (World.ownsRow.alloc OW2.out _) ⟨w2.heap.size, 0, none⟩ 1 1 [.int .i64 x.1] rfl rfl (fun j u hu => cells_new' w2 _ 3 j u hu) (by intro u hu; simp at hu; subst hu; rfl) ?c4 ?c5 ?c6 ?_)
        case c4 => unfold maxLen; omega
        case c5 => omega
        case c6 => simp; omega
        intro v4 w4 hown4 hgrow _
        have ho4 := Lib.hid (own_int hll.symm hown4)
        have R4 := Lib.hid ((R2.out.alloc (.cells #[.int .i64 x.1] 3)).grownBy hgrow (fun j hj => by have := (HLT.out j hj).1; omega))
        have K4 := Lib.hid ((K2.out.alloc (.cells #[.int .i64 x.1] 3)).grownBy hgrow (fun j hj => (HLT.out j hj).1))
        have S4 : W.heap.size ≤ w4.heap.size := by have := hgrow.size; simp only [World.size_alloc] at this; omega
        have BY4 : Hid (∀ y ∈ l ++ [x.1], 0 ≤ y ∧ y < 256) := Lib.hid (fun y hy => by
          rcases List.mem_append.1 hy with hy | hy
          · exact hby.out y hy
          · simp only [List.mem_cons, List.not_mem_nil, or_false] at hy; subst hy; exact BD.out)
        clear hown4 hgrow HLT OW2 K2 R2 S2 hby BD HX
        go_wp2_with fail
        go_roundw
        case rel => exact ⟨k + 1, l ++ [x.1], x.2, by omega, by go_num, by simp [hll], BY4, Lib.hid (by rw [show N - (k + 1) = m by omega]; exact NX.out), ho4, R4, K4, S4⟩
        case measure => simp [intOf]; omega
    · have e : N - k = 0 := by omega
      rw [e] at hgo
      have D := Lib.hid hgo.out.done
      have rr' : Hid (QRd wr B P A cap b g.2) := Lib.hid (by rw [D.out.1]; exact rr.out)
      have D2 : Hid (g.2.short = false → g.1 = l) := Lib.hid (fun f => D.out.2 (by rw [← D.out.1]; exact f))
      clear hgo e rr D c2
      go_wp2_with fail
      go_ret
      exact ⟨_, l, rfl, own.out, hby.out, by omega, D2.out, rr'.out, kk.out⟩
end Go.Proofs.Ytejllmjkeefloaa
