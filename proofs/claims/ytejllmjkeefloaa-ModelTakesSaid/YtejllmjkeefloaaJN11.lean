/- The reader: lists of numbers. The reader: a list of values. -/
import Derived.Test.YtejllmjkeefloaaJN7
namespace Go.Proofs.Ytejllmjkeefloaa
open Go.ChangeShapes Go.WideShapes Go.ChangeAt Go.RowKit
set_option maxRecDepth 20000
set_option linter.unusedVariables false

theorem infoInt : (Try.prog.info? 3).map (fun i => (i.zero, i.size, i.bytes)) = some (some (.int .i64 0), 1, 8) := by kernel_rfl
theorem infoI8 : (Try.prog.info? 93).map (fun i => (i.zero, i.size, i.bytes)) = some (some (.int .i8 0), 1, 1) := by kernel_rfl
theorem infoI32 : (Try.prog.info? 21).map (fun i => (i.zero, i.size, i.bytes)) = some (some (.int .i32 0), 1, 4) := by kernel_rfl
/-- A row of numbers that a call owns. -/
def OwnI (k : IntKind) (t : TypeId) (w : World) (base : Nat) (v : Value) (xs : List Int) : Prop := w.ownsRow base t 1 v xs.length (xs.map (Value.int k))
theorem numR_bd (k : Nat) (s : Rd) (hb : bytesP s.rest) : 0 ≤ (numR k s).1 ∧ (numR k s).1 < 256 ^ k := by
  have hp : (0 : Int) < 256 ^ k := Int.pow_pos (by omega)
  unfold numR pieceR
  split
  · simp only [foldB, List.foldl_nil]; omega
  · rename_i hl
    have hl2 : (s.rest.take k).length = k := by simp; omega
    obtain ⟨_, _, i3, i4⟩ := num_fold (s.rest.take k) 0 (fun c hc => hb c (List.mem_of_mem_take hc))
    rw [hl2] at i3 i4
    simp only [foldB]
    omega
theorem RdAt.low {w w' : World} {B P : Nat} {s : Rd} (h : RdAt w B P s) (hs : w.heap.size ≤ w'.heap.size) (g : ∀ k, k ≤ P → w'.heap[k]? = w.heap[k]?) : RdAt w' B P s := by
  obtain ⟨A, cap, bx, fr, by', hB, hP⟩ := h
  refine ⟨A, cap, fun o => (World.cell?_of_block (a := ⟨P, o, none⟩) (g P (Nat.le_refl _))).trans (bx o), fun o => (World.frozen?_of_block (a := ⟨P, o, none⟩) (g P (Nat.le_refl _))).trans (fr o), ?_, hB, by omega⟩
  obtain ⟨h1, h2, h3, h4⟩ := by'
  refine ⟨h1, h2, h3, fun hp => ?_⟩
  obtain ⟨b, off, e, hb, hc⟩ := h4 hp
  exact ⟨b, off, e, hb, fun i hi => (World.cell?_of_block (a := ⟨b, off + i, none⟩) (g b (by omega))).trans (hc i hi)⟩
theorem RdAt.grownBy {w w' : World} {B P : Nat} {s : Rd} {row : Option Nat} (h : RdAt w B P s) (g : w.grownBy w' row) (hr : ∀ k, row = some k → P < k) : RdAt w' B P s :=
  h.low g.size (fun k hk => g.block k (by have := h.choose_spec.choose_spec.2.2.2.2; omega) (fun e => by have := hr k e.symm; omega))
theorem Keep.grownBy {P : Nat} {W w w' : World} {row : Option Nat} (h : Keep P W w) (g : w.grownBy w' row) (hr : ∀ k, row = some k → W.heap.size ≤ k) : Keep P W w' :=
  ⟨g.os.trans h.1, g.output.trans h.2.1, Nat.le_trans h.2.2.1 g.size, fun k hk hne => (g.block k (Nat.lt_of_lt_of_le hk h.2.2.1) (fun e => by have := hr k e.symm; omega)).trans (h.2.2.2 k hk hne)⟩
theorem Keep.alloc {P : Nat} {W w : World} (h : Keep P W w) (x : Obj) : Keep P W (w.alloc x) := h.trans (Keep.of_past ((Past.refl w).alloc x))
theorem RdAt.bytesP {w : World} {B P : Nat} {s : Rd} (h : RdAt w B P s) : bytesP s.rest := by
  obtain ⟨A, cap, bx, fr, by', hB, hP⟩ := h
  exact by'.bytesP
theorem RdAt.lt {w : World} {B P : Nat} {s : Rd} (h : RdAt w B P s) : P < w.heap.size := by
  obtain ⟨A, cap, bx, fr, by', hB, hP⟩ := h
  exact hP
theorem goR_end {α : Type} {one : Rd → α × Rd} (l : List α) (s : Rd) : goR one 0 l s = (l, s) := rfl
theorem goR_short {α : Type} {one : Rd → α × Rd} (n : Nat) (l : List α) (s : Rd) (h : (one s).2.short = true) : goR one (n + 1) l s = ([], (one s).2) := by unfold goR; rw [if_pos h]
theorem goR_more {α : Type} {one : Rd → α × Rd} (n : Nat) (l : List α) (s : Rd) (h : (one s).2.short = false) : goR one (n + 1) l s = goR one n (l ++ [(one s).1]) (one s).2 := by
  conv => lhs; unfold goR
  rw [if_neg (by rw [h]; simp)]
theorem own_int {k : IntKind} {t : TypeId} {w : World} {base : Nat} {v : Value} {xs : List Int} {u : Int} {n : Nat} (hn : n = xs.length) (h : w.ownsRow base t 1 v (n + 1) (xs.map (Value.int k) ++ [.int k u])) : OwnI k t w base v (xs ++ [u]) := by
  subst hn
  unfold OwnI
  simpa using h
def ListPost (own : World → Value → Prop) (B P : Nat) (t : Rd) (W : World) (e : Ending) (w' : World) : Prop := ∃ v, e = .returned v ∧ own w' v ∧ RdAt w' B P t ∧ Keep P W w'
set_option maxHeartbeats 4000000 in
theorem list_rd_int (many : Nat) (h1 : 1 ≤ many) (h4 : many ≤ 4) (B P : Nat) (s : Rd) (W : World) (hr : RdAt W B P s) :
    Calls Try.prog 50 #[.pointer (some ⟨P, 0, none⟩), .int .i64 (many : Int), .func (.func 51) #[.pointer (some ⟨P, 0, none⟩)] #[]] W
      (ListPost (fun w' v => OwnI .i64 3 w' W.heap.size v (listR many (numR 1) s).1) B P (listR many (numR 1) s).2 W) := by
  have hPW := hr.lt
  have C0 := Lib.hid (number_any many h1 h4 B P s W hr)
  have C1 := Lib.hid (fun s w (k : RdAt w B P s) => single_rd B P s w k)
  obtain ⟨nb0, nb1⟩ := numR_bd many s hr.bytesP
  obtain ⟨N, hN⟩ : ∃ N : Nat, (numR many s).1 = (N : Int) := ⟨(numR many s).1.toNat, by omega⟩
  have hN2 : N ≤ 4294967296 := by
    have : (256 : Int) ^ many ≤ 4294967296 := by
      rcases (show many = 1 ∨ many = 2 ∨ many = 3 ∨ many = 4 by omega) with rfl | rfl | rfl | rfl <;> decide
    omega
  obtain ⟨l0, s0⟩ : ∃ t, (numR many s).2 = t := ⟨_, rfl⟩
  obtain ⟨g, hg⟩ : ∃ g, goR (numR 1) N [] l0 = g := ⟨_, rfl⟩
  have hl : listR many (numR 1) s = g := by unfold listR; rw [hN, s0, Int.toNat_natCast, hg]
  rw [hl]
  rw [hN, s0] at C0
  have HG := Lib.hid hg
  obtain ⟨i0, hi0, hz0, hz1, hz2⟩ := info_parts infoInt
  have I1 := Lib.hid hi0
  have I2 := Lib.hid hz0
  have I3 := Lib.hid hz1
  have I4 := Lib.hid hz2
  clear hi0 hz0 hz1 hz2 hr nb0 nb1 hN s0 hl hg h1 h4
  go_enter Try.func50, Try.ntmps50
  go_wp2_with fail
  refine C0.out.mono ?_
  rintro e w1 ⟨rfl, r1, k1⟩
  have R1 := Lib.hid r1
  have K1 := Lib.hid k1
  have S1 : W.heap.size ≤ w1.heap.size := k1.2.2.1
  clear r1 k1 C0
  go_wp2_with fail
  go_loopw [7, 12] (fun v i wr => ∃ (k : Nat) (l : List Int) (st : Rd), k ≤ N ∧ i = .int .i64 k ∧ l.length = k ∧ Hid (goR (numR 1) (N - k) l st = g) ∧ Hid (OwnI .i64 3 wr W.heap.size v l) ∧ Hid (RdAt wr B P st) ∧ Hid (Keep P W wr) ∧ W.heap.size ≤ wr.heap.size) (fun _ i _ => N - (intOf i).toNat)
  case atStart => exact ⟨0, [], l0, by omega, rfl, rfl, Lib.hid HG.out, Lib.hid (World.ownsRow_nil _ _ _ _), R1, K1, S1⟩
  case round =>
    clear R1 K1 S1 HG
    obtain ⟨k, l, st, hk, rfl, hll, hgo, own, rr, kk, ss⟩ := hrel
    by_cases h : k < N
    · obtain ⟨m, hm⟩ : ∃ m, N - k = m + 1 := ⟨N - k - 1, by omega⟩
      rw [hm] at hgo
      go_wp2_with fail
      refine (C1.out _ _ rr.out).mono ?_
      rintro e w2 ⟨rfl, r2, k2⟩
      have OW2 := Lib.hid (own_keep own.out k2 hPW)
      have K2 := Lib.hid (kk.out.trans k2)
      have S2 : W.heap.size ≤ w2.heap.size := by have := k2.2.2.1; omega
      have R2 := Lib.hid r2
      obtain ⟨A, cap, bx, fr, _, _, _⟩ := r2
      obtain ⟨x, hx⟩ : ∃ x, (numR 1 st) = x := ⟨_, rfl⟩
      rw [hx] at R2 bx
      simp only [hx]
      rcases Bool.eq_false_or_eq_true x.2.short with hs | hs
      · have hr2 := goR_short (one := numR 1) m l st (by rw [hx]; exact hs)
        rw [hgo.out, hx] at hr2
        have HR2 := Lib.hid hr2
        clear hr2 hx hgo own rr kk ss k2
        rw [hs] at bx
        go_wp2_with fail
        go_ret
        exact ⟨_, rfl, by rw [HR2.out]; exact World.ownsRow_nil _ _ _ _, by rw [HR2.out]; exact R2.out, K2.out⟩
      · have hr2 := goR_more (one := numR 1) m l st (by rw [hx]; exact hs)
        rw [hgo.out, hx] at hr2
        have HR2 := Lib.hid hr2
        have HLT := Lib.hid (World.ownsRow.lt OW2.out)
        clear hr2 hx hgo own rr kk ss k2
        rw [hs] at bx
        go_wp2_with (at_builtin; refine wpList_append_own _ rfl (.tmp 20) (.tmp 22) 27 rfl W.heap.size 3 i0 _ 1 8 Try.underlying27 I1.out I2.out I3.out I4.out rfl (by decide) _ _ _ rfl (World.ownsRow.alloc OW2.out _) ⟨w2.heap.size, 0, none⟩ 1 1 [.int .i64 x.1] rfl rfl (fun j u hu => cells_new' w2 _ 3 j u hu) (by intro u hu; simp at hu; subst hu; rfl) ?c4 ?c5 ?c6 ?_)
        case c4 => unfold maxLen; omega
        case c5 => omega
        case c6 => simp; omega
        intro v4 w4 hown4 hgrow _
        have ho4 := Lib.hid (own_int hll.symm hown4)
        have R4 := Lib.hid ((R2.out.alloc (.cells #[.int .i64 x.1] 3)).grownBy hgrow (fun j hj => by have := (HLT.out j hj).1; omega))
        have K4 := Lib.hid ((K2.out.alloc (.cells #[.int .i64 x.1] 3)).grownBy hgrow (fun j hj => (HLT.out j hj).1))
        have S4 : W.heap.size ≤ w4.heap.size := by have := hgrow.size; simp only [World.size_alloc] at this; omega
        clear hown4 hgrow HLT OW2 K2 R2 S2 bx fr
        go_wp2_with fail
        go_roundw
        case rel => exact ⟨k + 1, l ++ [x.1], x.2, by omega, by go_num, by simp [hll], Lib.hid (by rw [HR2.out]; congr 1; omega), ho4, R4, K4, S4⟩
        case measure => simp [intOf]; omega
    · have e : N - k = 0 := by omega
      have hgo' := hgo.out
      rw [e, goR_end] at hgo'
      have HE := Lib.hid hgo'
      clear hgo hgo' e
      go_wp2_with fail
      go_ret
      exact ⟨_, rfl, by rw [← HE.out]; exact own.out, by rw [← HE.out]; exact rr.out, kk.out⟩
set_option maxHeartbeats 4000000 in
theorem list_rd_int8 (many : Nat) (h1 : 1 ≤ many) (h4 : many ≤ 4) (B P : Nat) (s : Rd) (W : World) (hr : RdAt W B P s) :
    Calls Try.prog 72 #[.pointer (some ⟨P, 0, none⟩), .int .i64 (many : Int), .func (.func 71) #[.pointer (some ⟨P, 0, none⟩)] #[]] W
      (ListPost (fun w' v => OwnI .i8 93 w' W.heap.size v (listR many (smallR) s).1) B P (listR many (smallR) s).2 W) := by
  have hPW := hr.lt
  have C0 := Lib.hid (number_any many h1 h4 B P s W hr)
  have C1 := Lib.hid (fun s w (k : RdAt w B P s) => small_rd B P s w k)
  obtain ⟨nb0, nb1⟩ := numR_bd many s hr.bytesP
  obtain ⟨N, hN⟩ : ∃ N : Nat, (numR many s).1 = (N : Int) := ⟨(numR many s).1.toNat, by omega⟩
  have hN2 : N ≤ 4294967296 := by
    have : (256 : Int) ^ many ≤ 4294967296 := by
      rcases (show many = 1 ∨ many = 2 ∨ many = 3 ∨ many = 4 by omega) with rfl | rfl | rfl | rfl <;> decide
    omega
  obtain ⟨l0, s0⟩ : ∃ t, (numR many s).2 = t := ⟨_, rfl⟩
  obtain ⟨g, hg⟩ : ∃ g, goR (smallR) N [] l0 = g := ⟨_, rfl⟩
  have hl : listR many (smallR) s = g := by unfold listR; rw [hN, s0, Int.toNat_natCast, hg]
  rw [hl]
  rw [hN, s0] at C0
  have HG := Lib.hid hg
  obtain ⟨i0, hi0, hz0, hz1, hz2⟩ := info_parts infoI8
  have I1 := Lib.hid hi0
  have I2 := Lib.hid hz0
  have I3 := Lib.hid hz1
  have I4 := Lib.hid hz2
  clear hi0 hz0 hz1 hz2 hr nb0 nb1 hN s0 hl hg h1 h4
  go_enter Try.func72, Try.ntmps72
  go_wp2_with fail
  refine C0.out.mono ?_
  rintro e w1 ⟨rfl, r1, k1⟩
  have R1 := Lib.hid r1
  have K1 := Lib.hid k1
  have S1 : W.heap.size ≤ w1.heap.size := k1.2.2.1
  clear r1 k1 C0
  go_wp2_with fail
  go_loopw [7, 12] (fun v i wr => ∃ (k : Nat) (l : List Int) (st : Rd), k ≤ N ∧ i = .int .i64 k ∧ l.length = k ∧ Hid (goR (smallR) (N - k) l st = g) ∧ Hid (OwnI .i8 93 wr W.heap.size v l) ∧ Hid (RdAt wr B P st) ∧ Hid (Keep P W wr) ∧ W.heap.size ≤ wr.heap.size) (fun _ i _ => N - (intOf i).toNat)
  case atStart => exact ⟨0, [], l0, by omega, rfl, rfl, Lib.hid HG.out, Lib.hid (World.ownsRow_nil _ _ _ _), R1, K1, S1⟩
  case round =>
    clear R1 K1 S1 HG
    obtain ⟨k, l, st, hk, rfl, hll, hgo, own, rr, kk, ss⟩ := hrel
    by_cases h : k < N
    · obtain ⟨m, hm⟩ : ∃ m, N - k = m + 1 := ⟨N - k - 1, by omega⟩
      rw [hm] at hgo
      go_wp2_with fail
      refine (C1.out _ _ rr.out).mono ?_
      rintro e w2 ⟨rfl, r2, k2⟩
      have OW2 := Lib.hid (own_keep own.out k2 hPW)
      have K2 := Lib.hid (kk.out.trans k2)
      have S2 : W.heap.size ≤ w2.heap.size := by have := k2.2.2.1; omega
      have R2 := Lib.hid r2
      obtain ⟨A, cap, bx, fr, _, _, _⟩ := r2
      obtain ⟨x, hx⟩ : ∃ x, (smallR st) = x := ⟨_, rfl⟩
      rw [hx] at R2 bx
      simp only [hx]
      rcases Bool.eq_false_or_eq_true x.2.short with hs | hs
      · have hr2 := goR_short (one := smallR) m l st (by rw [hx]; exact hs)
        rw [hgo.out, hx] at hr2
        have HR2 := Lib.hid hr2
        clear hr2 hx hgo own rr kk ss k2
        rw [hs] at bx
        go_wp2_with fail
        go_ret
        exact ⟨_, rfl, by rw [HR2.out]; exact World.ownsRow_nil _ _ _ _, by rw [HR2.out]; exact R2.out, K2.out⟩
      · have hr2 := goR_more (one := smallR) m l st (by rw [hx]; exact hs)
        rw [hgo.out, hx] at hr2
        have HR2 := Lib.hid hr2
        have HLT := Lib.hid (World.ownsRow.lt OW2.out)
        clear hr2 hx hgo own rr kk ss k2
        rw [hs] at bx
        go_wp2_with (at_builtin; refine wpList_append_own _ rfl (.tmp 20) (.tmp 22) 67 rfl W.heap.size 93 i0 _ 1 1 Try.underlying67 I1.out I2.out I3.out I4.out rfl (by decide) _ _ _ rfl (World.ownsRow.alloc OW2.out _) ⟨w2.heap.size, 0, none⟩ 1 1 [.int .i8 x.1] rfl rfl (fun j u hu => cells_new' w2 _ 93 j u hu) (by intro u hu; simp at hu; subst hu; rfl) ?c4 ?c5 ?c6 ?_)
        case c4 => unfold maxLen; omega
        case c5 => omega
        case c6 => simp; omega
        intro v4 w4 hown4 hgrow _
        have ho4 := Lib.hid (own_int hll.symm hown4)
        have R4 := Lib.hid ((R2.out.alloc (.cells #[.int .i8 x.1] 93)).grownBy hgrow (fun j hj => by have := (HLT.out j hj).1; omega))
        have K4 := Lib.hid ((K2.out.alloc (.cells #[.int .i8 x.1] 93)).grownBy hgrow (fun j hj => (HLT.out j hj).1))
        have S4 : W.heap.size ≤ w4.heap.size := by have := hgrow.size; simp only [World.size_alloc] at this; omega
        clear hown4 hgrow HLT OW2 K2 R2 S2 bx fr
        go_wp2_with fail
        go_roundw
        case rel => exact ⟨k + 1, l ++ [x.1], x.2, by omega, by go_num, by simp [hll], Lib.hid (by rw [HR2.out]; congr 1; omega), ho4, R4, K4, S4⟩
        case measure => simp [intOf]; omega
    · have e : N - k = 0 := by omega
      have hgo' := hgo.out
      rw [e, goR_end] at hgo'
      have HE := Lib.hid hgo'
      clear hgo hgo' e
      go_wp2_with fail
      go_ret
      exact ⟨_, rfl, by rw [← HE.out]; exact own.out, by rw [← HE.out]; exact rr.out, kk.out⟩
set_option maxHeartbeats 4000000 in
theorem list_rd_int32 (many : Nat) (h1 : 1 ≤ many) (h4 : many ≤ 4) (B P : Nat) (s : Rd) (W : World) (hr : RdAt W B P s) :
    Calls Try.prog 73 #[.pointer (some ⟨P, 0, none⟩), .int .i64 (many : Int), .func (.func 74) #[.pointer (some ⟨P, 0, none⟩)] #[]] W
      (ListPost (fun w' v => OwnI .i32 21 w' W.heap.size v (listR many (wideR) s).1) B P (listR many (wideR) s).2 W) := by
  have hPW := hr.lt
  have C0 := Lib.hid (number_any many h1 h4 B P s W hr)
  have C1 := Lib.hid (fun s w (k : RdAt w B P s) => wide_rd B P s w k)
  obtain ⟨nb0, nb1⟩ := numR_bd many s hr.bytesP
  obtain ⟨N, hN⟩ : ∃ N : Nat, (numR many s).1 = (N : Int) := ⟨(numR many s).1.toNat, by omega⟩
  have hN2 : N ≤ 4294967296 := by
    have : (256 : Int) ^ many ≤ 4294967296 := by
      rcases (show many = 1 ∨ many = 2 ∨ many = 3 ∨ many = 4 by omega) with rfl | rfl | rfl | rfl <;> decide
    omega
  obtain ⟨l0, s0⟩ : ∃ t, (numR many s).2 = t := ⟨_, rfl⟩
  obtain ⟨g, hg⟩ : ∃ g, goR (wideR) N [] l0 = g := ⟨_, rfl⟩
  have hl : listR many (wideR) s = g := by unfold listR; rw [hN, s0, Int.toNat_natCast, hg]
  rw [hl]
  rw [hN, s0] at C0
  have HG := Lib.hid hg
  obtain ⟨i0, hi0, hz0, hz1, hz2⟩ := info_parts infoI32
  have I1 := Lib.hid hi0
  have I2 := Lib.hid hz0
  have I3 := Lib.hid hz1
  have I4 := Lib.hid hz2
  clear hi0 hz0 hz1 hz2 hr nb0 nb1 hN s0 hl hg h1 h4
  go_enter Try.func73, Try.ntmps73
  go_wp2_with fail
  refine C0.out.mono ?_
  rintro e w1 ⟨rfl, r1, k1⟩
  have R1 := Lib.hid r1
  have K1 := Lib.hid k1
  have S1 : W.heap.size ≤ w1.heap.size := k1.2.2.1
  clear r1 k1 C0
  go_wp2_with fail
  go_loopw [7, 12] (fun v i wr => ∃ (k : Nat) (l : List Int) (st : Rd), k ≤ N ∧ i = .int .i64 k ∧ l.length = k ∧ Hid (goR (wideR) (N - k) l st = g) ∧ Hid (OwnI .i32 21 wr W.heap.size v l) ∧ Hid (RdAt wr B P st) ∧ Hid (Keep P W wr) ∧ W.heap.size ≤ wr.heap.size) (fun _ i _ => N - (intOf i).toNat)
  case atStart => exact ⟨0, [], l0, by omega, rfl, rfl, Lib.hid HG.out, Lib.hid (World.ownsRow_nil _ _ _ _), R1, K1, S1⟩
  case round =>
    clear R1 K1 S1 HG
    obtain ⟨k, l, st, hk, rfl, hll, hgo, own, rr, kk, ss⟩ := hrel
    by_cases h : k < N
    · obtain ⟨m, hm⟩ : ∃ m, N - k = m + 1 := ⟨N - k - 1, by omega⟩
      rw [hm] at hgo
      go_wp2_with fail
      refine (C1.out _ _ rr.out).mono ?_
      rintro e w2 ⟨rfl, r2, k2⟩
      have OW2 := Lib.hid (own_keep own.out k2 hPW)
      have K2 := Lib.hid (kk.out.trans k2)
      have S2 : W.heap.size ≤ w2.heap.size := by have := k2.2.2.1; omega
      have R2 := Lib.hid r2
      obtain ⟨A, cap, bx, fr, _, _, _⟩ := r2
      obtain ⟨x, hx⟩ : ∃ x, (wideR st) = x := ⟨_, rfl⟩
      rw [hx] at R2 bx
      simp only [hx]
      rcases Bool.eq_false_or_eq_true x.2.short with hs | hs
      · have hr2 := goR_short (one := wideR) m l st (by rw [hx]; exact hs)
        rw [hgo.out, hx] at hr2
        have HR2 := Lib.hid hr2
        clear hr2 hx hgo own rr kk ss k2
        rw [hs] at bx
        go_wp2_with fail
        go_ret
        exact ⟨_, rfl, by rw [HR2.out]; exact World.ownsRow_nil _ _ _ _, by rw [HR2.out]; exact R2.out, K2.out⟩
      · have hr2 := goR_more (one := wideR) m l st (by rw [hx]; exact hs)
        rw [hgo.out, hx] at hr2
        have HR2 := Lib.hid hr2
        have HLT := Lib.hid (World.ownsRow.lt OW2.out)
        clear hr2 hx hgo own rr kk ss k2
        rw [hs] at bx
        go_wp2_with (at_builtin; refine wpList_append_own _ rfl (.tmp 20) (.tmp 22) 68 rfl W.heap.size 21 i0 _ 1 4 Try.underlying68 I1.out I2.out I3.out I4.out rfl (by decide) _ _ _ rfl (World.ownsRow.alloc OW2.out _) ⟨w2.heap.size, 0, none⟩ 1 1 [.int .i32 x.1] rfl rfl (fun j u hu => cells_new' w2 _ 21 j u hu) (by intro u hu; simp at hu; subst hu; rfl) ?c4 ?c5 ?c6 ?_)
        case c4 => unfold maxLen; omega
        case c5 => omega
        case c6 => simp; omega
        intro v4 w4 hown4 hgrow _
        have ho4 := Lib.hid (own_int hll.symm hown4)
        have R4 := Lib.hid ((R2.out.alloc (.cells #[.int .i32 x.1] 21)).grownBy hgrow (fun j hj => by have := (HLT.out j hj).1; omega))
        have K4 := Lib.hid ((K2.out.alloc (.cells #[.int .i32 x.1] 21)).grownBy hgrow (fun j hj => (HLT.out j hj).1))
        have S4 : W.heap.size ≤ w4.heap.size := by have := hgrow.size; simp only [World.size_alloc] at this; omega
        clear hown4 hgrow HLT OW2 K2 R2 S2 bx fr
        go_wp2_with fail
        go_roundw
        case rel => exact ⟨k + 1, l ++ [x.1], x.2, by omega, by go_num, by simp [hll], Lib.hid (by rw [HR2.out]; congr 1; omega), ho4, R4, K4, S4⟩
        case measure => simp [intOf]; omega
    · have e : N - k = 0 := by omega
      have hgo' := hgo.out
      rw [e, goR_end] at hgo'
      have HE := Lib.hid hgo'
      clear hgo hgo' e
      go_wp2_with fail
      go_ret
      exact ⟨_, rfl, by rw [← HE.out]; exact own.out, by rw [← HE.out]; exact rr.out, kk.out⟩
end Go.Proofs.Ytejllmjkeefloaa

namespace Go.Proofs.Ytejllmjkeefloaa
open Go.ChangeShapes Go.WideShapes Go.ChangeAt Go.RowKit
set_option maxRecDepth 20000
set_option linter.unusedVariables false

theorem own_val {w : World} {base : Nat} {v : Value} {xs : List ValD} {u : ValD} {n : Nat} (hn : n = xs.length) (h : w.ownsRow base 57 4 v (n + 1) (valsCells xs ++ valCells u)) : OwnVals w base v (xs ++ [u]) := by
  subst hn
  unfold OwnVals
  rw [valsCells_snoc]
  simpa using h
set_option maxHeartbeats 4000000 in
theorem list_rd_val (many : Nat) (h1 : 1 ≤ many) (h4 : many ≤ 4) (B P : Nat) (s : Rd) (W : World) (hr : RdAt W B P s) :
    Calls Try.prog 46 #[.pointer (some ⟨P, 0, none⟩), .int .i64 (many : Int), .func (.func 47) #[.pointer (some ⟨P, 0, none⟩)] #[]] W
      (ListPost (fun w' v => OwnVals w' W.heap.size v (listR many valR s).1) B P (listR many valR s).2 W) := by
  have hPW := hr.lt
  have C0 := Lib.hid (number_any many h1 h4 B P s W hr)
  have C1 := Lib.hid (fun s w (k : RdAt w B P s) => val_rd B P s w k)
  obtain ⟨nb0, nb1⟩ := numR_bd many s hr.bytesP
  obtain ⟨N, hN⟩ : ∃ N : Nat, (numR many s).1 = (N : Int) := ⟨(numR many s).1.toNat, by omega⟩
  have hN2 : N ≤ 4294967296 := by
    have : (256 : Int) ^ many ≤ 4294967296 := by
      rcases (show many = 1 ∨ many = 2 ∨ many = 3 ∨ many = 4 by omega) with rfl | rfl | rfl | rfl <;> decide
    omega
  obtain ⟨l0, s0⟩ : ∃ t, (numR many s).2 = t := ⟨_, rfl⟩
  obtain ⟨g, hg⟩ : ∃ g, goR valR N [] l0 = g := ⟨_, rfl⟩
  have hl : listR many valR s = g := by unfold listR; rw [hN, s0, Int.toNat_natCast, hg]
  rw [hl]
  rw [hN, s0] at C0
  have HG := Lib.hid hg
  obtain ⟨i0, hi0, hz0, hz1, hz2⟩ := info_parts info32
  have I1 := Lib.hid hi0
  have I2 := Lib.hid hz0
  have I3 := Lib.hid hz1
  have I4 := Lib.hid hz2
  clear hi0 hz0 hz1 hz2 hr nb0 nb1 hN s0 hl hg h1 h4
  go_enter Try.func46, Try.ntmps46
  go_wp2_with fail
  refine C0.out.mono ?_
  rintro e w1 ⟨rfl, r1, k1⟩
  have R1 := Lib.hid r1
  have K1 := Lib.hid k1
  have S1 : W.heap.size ≤ w1.heap.size := k1.2.2.1
  clear r1 k1 C0
  go_wp2_with fail
  go_loopw [7, 12] (fun v i wr => ∃ (k : Nat) (l : List ValD) (st : Rd), k ≤ N ∧ i = .int .i64 k ∧ l.length = k ∧ Hid (goR valR (N - k) l st = g) ∧ Hid (OwnVals wr W.heap.size v l) ∧ Hid (RdAt wr B P st) ∧ Hid (Keep P W wr) ∧ W.heap.size ≤ wr.heap.size) (fun _ i _ => N - (intOf i).toNat)
  case atStart => exact ⟨0, [], l0, by omega, rfl, rfl, Lib.hid HG.out, Lib.hid (World.ownsRow_nil _ _ _ _), R1, K1, S1⟩
  case round =>
    clear R1 K1 S1 HG
    obtain ⟨k, l, st, hk, rfl, hll, hgo, own, rr, kk, ss⟩ := hrel
    by_cases h : k < N
    · obtain ⟨m, hm⟩ : ∃ m, N - k = m + 1 := ⟨N - k - 1, by omega⟩
      rw [hm] at hgo
      go_wp2_with fail
      refine (C1.out _ _ rr.out).mono ?_
      rintro e w2 ⟨rfl, r2, k2⟩
      have OW2 := Lib.hid (own_keep own.out k2 hPW)
      have K2 := Lib.hid (kk.out.trans k2)
      have S2 : W.heap.size ≤ w2.heap.size := by have := k2.2.2.1; omega
      have R2 := Lib.hid r2
      obtain ⟨A, cap, bx, fr, _, _, _⟩ := r2
      obtain ⟨x, hx⟩ : ∃ x, (valR st) = x := ⟨_, rfl⟩
      rw [hx] at R2 bx
      simp only [hx]
      obtain ⟨y, t'⟩ := x
      simp only at R2 bx ⊢
      have hPS : P < w2.heap.size := R2.out.lt
      obtain ⟨P8, hP8⟩ : ∃ P8, w2.heap.size = P8 := ⟨_, rfl⟩
      go_upto_region 5 with fail
      refine opq (fun w' => (∀ o : Nat, w'.cell? ⟨P8, o, none⟩ = (#[.int .i64 y.h, .int .i64 y.w, .int .i64 y.c, .int .i64 y.z] : Array Value)[o]?) ∧ (∀ o : Nat, w'.cell? ⟨P, o, none⟩ = (#[.slice A t'.rest.length cap, .bool t'.short] : Array Value)[o]?) ∧ Hid (RdAt w' B P t') ∧ Hid (OwnVals w' W.heap.size u7 l) ∧ Hid (Keep P W w') ∧ W.heap.size ≤ w'.heap.size ∧ P8 < w'.heap.size) (by
        subst hP8
        exact ⟨box_new rfl, box_old bx hPS, Lib.hid (R2.out.alloc _), Lib.hid (World.ownsRow.alloc OW2.out _), Lib.hid (K2.out.alloc _), by simp; omega, by simp⟩) ?_
      rintro w3 ⟨b3, bx3, R3, OW3, K3, S3, s3⟩
      have hg3 := hgo.out
      clear bx fr OW2 K2 R2 S2 own rr kk ss k2 hP8 hgo
      rcases Bool.eq_false_or_eq_true t'.short with hs | hs
      · have hr2 := goR_short (one := valR) m l st (by rw [hx]; exact hs)
        rw [hg3, hx] at hr2
        have HR2 := Lib.hid hr2
        clear hr2 hx hg3
        rw [hs] at bx3
        go_wp2_with fail
        go_ret
        exact ⟨_, rfl, by rw [HR2.out]; exact World.ownsRow_nil _ _ _ _, by rw [HR2.out]; exact R3.out, K3.out⟩
      · have hr2 := goR_more (one := valR) m l st (by rw [hx]; exact hs)
        rw [hg3, hx] at hr2
        have HR2 := Lib.hid hr2
        have HLT := Lib.hid (World.ownsRow.lt OW3.out)
        clear hr2 hx hg3
        rw [hs] at bx3
        go_wp2_with (at_builtin; refine wpList_append_own _ rfl (.tmp 20) (.tmp 22) 25 rfl W.heap.size 57 i0 _ 4 32 Try.underlying25 I1.out I2.out I3.out I4.out rfl (by decide) _ _ _ rfl (World.ownsRow.alloc OW3.out _) ⟨w3.heap.size, 0, none⟩ 1 1 (valCells y) rfl rfl (fun j u hu => cells_new' w3 _ 57 j u hu) (val_one y) ?c4 ?c5 ?c6 ?_)
        case c4 => unfold maxLen; omega
        case c5 => omega
        case c6 => first | omega | (simp; omega)
        intro v4 w4 hown4 hgrow _
        have ho4 := Lib.hid (own_val hll.symm hown4)
        have R4 := Lib.hid ((R3.out.alloc (.cells ⟨valCells y⟩ 57)).grownBy hgrow (fun j hj => by have := (HLT.out j hj).1; omega))
        have K4 := Lib.hid ((K3.out.alloc (.cells ⟨valCells y⟩ 57)).grownBy hgrow (fun j hj => (HLT.out j hj).1))
        have S4 : W.heap.size ≤ w4.heap.size := by have := hgrow.size; simp only [World.size_alloc] at this; omega
        clear hown4 hgrow HLT OW3 K3 R3 S3 bx3 b3
        go_wp2_with fail
        go_roundw
        case rel => exact ⟨k + 1, l ++ [y], t', by omega, by go_num, by simp [hll], Lib.hid (by rw [HR2.out]; congr 1; omega), ho4, R4, K4, S4⟩
        case measure => simp [intOf]; omega
    · have e : N - k = 0 := by omega
      have hgo' := hgo.out
      rw [e, goR_end] at hgo'
      have HE := Lib.hid hgo'
      clear hgo hgo' e
      go_wp2_with fail
      go_ret
      exact ⟨_, rfl, by rw [← HE.out]; exact own.out, by rw [← HE.out]; exact rr.out, kk.out⟩
end Go.Proofs.Ytejllmjkeefloaa
