/- Clone; begins. Two commands compared, in the walk. A row of bytes in a block of its own; the program's Seal. Bytes as strings; a slice's first part; bytes.Equal, the program's Open; appends. -/
import Derived.WalkSpells
import Derived.Lib.BufferMore
import Derived.Test.YtejllmjkeefloaaLG8
import Derived.Test.YtejllmjkeefloaaLG6
import Derived.Test.YtejllmjkeefloaaLN1
import Derived.Test.YtejllmjkeefloaaLI1
import Derived.Laws.AppendOwn
import Derived.Laws.OwnMore
import Derived.Laws.CopyOwn
import Derived.OwnWalk
import Derived.Test.YtejllmjkeefloaaLFixE
import Derived.Laws.BytesArg
namespace Go.Proofs.Ytejllmjkeefloaa
open Go.ChangeShapes Go.WideShapes Go.ChangeAt Go.RowKit
set_option maxRecDepth 20000
set_option linter.unusedVariables false

def ClonePost (xs : List ValD) (W : World) (e : Ending) (w' : World) : Prop := ∃ v, e = .returned v ∧ OwnVals w' W.heap.size v xs ∧ Past W w'
set_option maxHeartbeats 1000000 in
theorem clone_any (xs : List ValD) (b off cap : Nat) (W : World) (h0 : 0 < xs.length) (h1 : xs.length ≤ 1000) (hc : xs.length ≤ cap) (hbb : b < W.heap.size) (hx : ∀ i, i < xs.length → ValAt W b (off + i * 4) (xs.getD i default)) :
    Calls Try.prog 76 #[.slice (some ⟨b, off, none⟩) xs.length cap] W (ClonePost xs W) := by
  obtain ⟨i0, hi0, hz0, hz1, hz2⟩ := info_parts info32
  have I1 := Lib.hid hi0
  have I2 := Lib.hid hz0
  have I3 := Lib.hid hz1
  have I4 := Lib.hid hz2
  have HX := Lib.hid (fun i hi => (hx i hi).grow hbb ((Past.refl W).alloc (.cells #[] 57)))
  have own : (W.alloc (.cells #[] 57)).ownsRow W.heap.size 57 4 (.slice (some ⟨W.heap.size, 0, none⟩) 0 0) 0 [] := by
    have := World.ownsRow_made (base := W.heap.size) (e := 57) (size := 4) W #[] 0 (by simp) (by simp) (by simp)
    simpa using this
  have OW := Lib.hid own
  have eN := fun (w : World) => Lib.run_eql_slice_some_nil (P := Try.prog) w (t := 25) ⟨b, off, none⟩ xs.length cap Try.underlying25
  clear hi0 hz0 hz1 hz2 hx own
  go_enter Try.func76, Try.ntmps76
  go_wp2_with (at_builtin; refine wpList_append_own _ rfl (.tmp 5) (.tmp 6) 25 rfl W.heap.size 57 i0 _ 4 32 Try.underlying25 I1.out I2.out I3.out I4.out rfl (by decide) _ 0 [] rfl OW.out ⟨b, off, none⟩ xs.length cap (valsCells xs) rfl (valsCells_len xs) (news_of_vals HX.out) (vals_one' xs) ?c4 ?c5 ?c6 ?_)
  case c4 => unfold maxLen; omega
  case c5 => omega
  case c6 => simp
  intro v4 w4 hown4 hgrow _
  have hp4 : Past W w4 := ((Past.refl W).alloc _).grownBy hgrow (fun j hj => by simp [Value.ownBlock] at hj; omega)
  have ho4 : OwnVals w4 W.heap.size v4 xs := by
    unfold OwnVals
    simpa using hown4
  clear hown4 hgrow
  go_wp2_with fail
  go_ret
  exact ⟨_, rfl, ho4, hp4⟩
theorem zeros_eq (w : World) : Calls Try.prog 97 #[] w fun e w' => e = .returned (.agg #[.int .i64 (-128), .int .i64 127]) ∧ w' = w.alloc (.cells #[.int .i64 (-128), .int .i64 127] 129) := by
  go_enter Try.func97, Try.ntmps97
  go_wp2
  exact bodyPost_ret (v := .agg #[.int .i64 (-128), .int .i64 127]) (by simp [results, Try.results97, go_sem]) rfl ⟨rfl, rfl⟩
theorem badZero_any (h w c z : Int) (W : World) :
    Calls Try.prog 96 #[.agg #[.int .i64 h, .int .i64 w, .int .i64 c, .int .i64 z]] W fun e w' => e = .returned (.bool (!holdB (-128) 127 z)) ∧ Grown W w' := by
  go_enter Try.func96, Try.ntmps96
  go_wp2_with fail
  go_region_held3 (fun w' => w'.cell? ⟨W.heap.size, 3, none⟩ = some (.int .i64 z)) (((try dsimp only) <;> go_cell))
    (first | (go_at_call 97; with_reducible refine (zeros_eq _).mono ?_; rintro e w1 ⟨rfl, rfl⟩) | (go_at_call 98; with_reducible refine (hold_any _ _ _ _).mono ?_; rintro e w1 ⟨rfl, rfl⟩))
  all_goals
    go_wp2_with fail
    go_ret
    exact ⟨rfl, by go_grown⟩
end Go.Proofs.Ytejllmjkeefloaa
namespace Go.Proofs.Ytejllmjkeefloaa.Q8
open Go.ChangeShapes Go.WideShapes Go.ChangeAt Go.RowKit
set_option maxRecDepth 20000
set_option linter.unusedVariables false
set_option linter.unusedSimpArgs false

theorem guardC : Try.prog.eqGuardType Try.prog.depth 51 = false := by kernel_rfl
theorem wp_neqC {o : Oper} {a : Act} {w : World} {K : Act → World → Prop} {Q : Exit → Act → World → Prop} (x y : Operand) (ty2 : TypeId) (ho : o.op = .binOp .neq 51 x y ty2)
    (c d : List Int) (hc : c.length = 14) (hd : d.length = 14) (hx : a.eval x = .agg ⟨cellC c⟩) (hy : a.eval y = .agg ⟨cellC d⟩) (h : K (a.put o.dst (.bool (!decide (c = d)))) w) : o.wp Try.prog a w K Q := by
  have e := eqC hc hd w
  unfold Oper.wp execOp
  simp only [ho, hx, hy, Sem.run_bind, run_eqGuard_agg _ _ _ _ _ _ _ guardC, Result.andThen_ok, run_neq_struct, e, Sem.run_pure]
  exact h
theorem wpList_neqC {ops : Array Oper} {rest : List Oper} {o : Oper} {a : Act} {w : World} {Q : Exit → Act → World → Prop} (hgd : o.guard = none) (x y : Operand) (ty2 : TypeId) (ho : o.op = .binOp .neq 51 x y ty2)
    (c d : List Int) (hc : c.length = 14) (hd : d.length = 14) (hx : a.eval x = .agg ⟨cellC c⟩) (hy : a.eval y = .agg ⟨cellC d⟩) (h : wpList Try.prog ops Q rest (a.put o.dst (.bool (!decide (c = d)))) w) : wpList Try.prog ops Q (o :: rest) a w :=
  wpList_plain hgd fun _ hK => wp_neqC x y ty2 ho c d hc hd hx hy (hK _ _ h)
end Go.Proofs.Ytejllmjkeefloaa.Q8
namespace Go.Proofs.Ytejllmjkeefloaa.Q7
open Go.ChangeShapes Go.WideShapes Go.ChangeAt Go.RowKit
set_option maxRecDepth 20000
set_option linter.unusedVariables false

def cellB (l : List Nat) : List Value := l.map (fun n : Nat => Value.int .u8 (n : Int))
theorem cellB_len (l : List Nat) : (cellB l).length = l.length := by simp [cellB]
theorem cellB_one (l : List Nat) : ∀ v ∈ cellB l, v.oneCell' = true := by
  intro v hv
  obtain ⟨x, _, rfl⟩ := List.mem_map.1 hv
  rfl
theorem cellB_at (l : List Nat) (i : Nat) (h : i < l.length) : (cellB l)[i]? = some (.int .u8 ((l.getD i 0 : Nat) : Int)) := by simp [cellB, List.getD, h]
theorem cellB_set (l : List Nat) (j c : Nat) : (cellB l).set j (.int .u8 (c : Int)) = cellB (l.set j c) := by simp [cellB, List.map_set]
/-- A block that holds just these bytes. -/
def Row (w : World) (b : Nat) (l : List Nat) : Prop := w.heap[b]? = some (.cells (cellB l).toArray 5 (0, 0))
theorem Row.lt {w : World} {b : Nat} {l : List Nat} (h : Row w b l) : b < w.heap.size := (Array.getElem?_eq_some_iff.1 h).1
theorem Row.cell {w : World} {b : Nat} {l : List Nat} (h : Row w b l) {i : Nat} (hi : i < l.length) : w.cell? ⟨b, i, none⟩ = some (.int .u8 ((l.getD i 0 : Nat) : Int)) := by
  rw [← cellB_at l i hi]
  unfold Row at h
  simp [World.cell?, h]
theorem Row.free {w : World} {b : Nat} {l : List Nat} (h : Row w b l) : (∀ o : Nat, w.frozen? ⟨b, o, none⟩ = false) := fun o => frozen_of_row w b o _ _ h
theorem Row.past {w w' : World} {b : Nat} {l : List Nat} (h : Row w b l) (g : Past w w') : Row w' b l := (g.2.2.2 b h.lt).trans h
theorem Row.set {w : World} {b : Nat} {l : List Nat} (h : Row w b l) (j c : Nat) : Row (w.setCell ⟨b, j, none⟩ (.int .u8 (c : Int))) b (l.set j c) := by
  have := heap_setCell_same w b j (cellB l).toArray 5 (.int .u8 (c : Int)) h
  unfold Row
  rw [this, ← cellB_set]
  simp
theorem wf8 {c : Nat} (h : c < 256) : (Lit.int .u8 (c : Int)).wf = true := by
  simp [Lit.wf, IntKind.min, IntKind.max, IntKind.bits, IntKind.signed]; omega
theorem ints_wf {l : List Nat} (h : Bytes l) : ∀ x ∈ ints l, (Lit.int .u8 x).wf = true := by
  intro x hx
  obtain ⟨c, hc, rfl⟩ := List.mem_map.1 hx
  exact wf8 (h c hc)
theorem Row.nums {w : World} {b : Nat} {l : List Nat} (h : Row w b l) (hb : Bytes l) (hm : l.length ≤ maxLen) : IsNums .u8 w (.slice (some ⟨b, 0, none⟩) l.length l.length) (ints l) := by
  refine ⟨some ⟨b, 0, none⟩, l.length, by rw [ints_len], by rw [ints_len]; exact Nat.le_refl _, hm, (fun h => by cases h), ints_wf hb, fun _ => ⟨b, 0, rfl, h.lt, fun i hi => ?_⟩⟩
  rw [ints_len] at hi
  rw [ints_at, Nat.zero_add]
  exact h.cell hi
theorem row_of_own {w : World} {base b n : Nat} {xs : List Value} {l : List Nat} (h : w.ownsRow base 5 1 (.slice (some ⟨b, 0, none⟩) n n) n xs) (e : xs = cellB l) : Row w b l := by
  subst e
  obtain ⟨hl, h⟩ := h
  rcases h with ⟨h', _⟩ | ⟨g, cap, cur, h', hb, hg, hn, hm, hs, ht⟩
  · simp at h'
  · simp only [Value.slice.injEq, Option.some.injEq, Addr.mk.injEq, and_true, true_and] at h'
    obtain ⟨rfl, rfl⟩ := h'
    unfold Row
    rw [hg, ← ht, List.take_of_length_le (by simp [hs])]
theorem nums_cells {w : World} {A : Option Addr} {len cap : Nat} {l : List Nat} (h : IsNums .u8 w (.slice A len cap) (ints l)) : 0 < (cellB l).length → ∃ ad, A = some ad ∧ ∀ j v, (cellB l)[j]? = some v → w.cell? (ad.add j) = some v := by
  intro hp
  obtain ⟨A', cap', e, h2, h3, h4, h5, h6⟩ := h
  simp only [Value.slice.injEq] at e
  obtain ⟨rfl, rfl, rfl⟩ := e
  rw [cellB_len] at hp
  obtain ⟨b, off, rfl, hb, hc⟩ := h6 (by rw [ints_len]; exact hp)
  refine ⟨_, rfl, fun j v hv => ?_⟩
  have hj : j < l.length := by have := (List.getElem?_eq_some_iff.1 hv).1; rwa [cellB_len] at this
  rw [add_plain, hc j (by rw [ints_len]; exact hj), ints_at, ← cellB_at l j hj, hv]
theorem info8 : (Try.prog.info? 5).map (fun i => (i.zero, i.size, i.bytes)) = some (some (.int .u8 0), 1, 1) := by kernel_rfl
theorem size8 : (Try.prog.info? 5).map (·.size) = some 1 := by kernel_rfl
def SealPost (bs : List Nat) (W : World) (e : Ending) (w' : World) : Prop := e = .returned (.slice (some ⟨W.heap.size, 0, none⟩) (bs.length + 4) (bs.length + 4)) ∧ Row w' W.heap.size (sealD bs) ∧ Past W w'
/-- What the loop has laid so far. -/
theorem laid_at (bs : List Nat) (m S : Nat) (hS : S = sumD bs) (h : m < 4) : (bs ++ (le4 S).take m ++ List.replicate (4 - m) 0).set (bs.length + m) (S / 2 ^ (8 * m) % 256) = bs ++ (le4 S).take (m + 1) ++ List.replicate (4 - (m + 1)) 0 := by
  have : m = 0 ∨ m = 1 ∨ m = 2 ∨ m = 3 := by omega
  rcases this with rfl | rfl | rfl | rfl <;> simp [le4, List.replicate]
set_option maxHeartbeats 4000000 in
theorem seal_any (bs : List Nat) (v : Value) (W : World) (h : IsNums .u8 W v (ints bs)) (hb : Bytes bs) (hl : bs.length ≤ 1000000) : Calls Try.prog 33 #[v] W (SealPost bs W) := by
  have H := Lib.hid h
  obtain ⟨A, cap, rfl, h2, h3, h4, h5, h6⟩ := h
  rw [ints_len] at H ⊢
  clear h6 h5 h2 h4
  obtain ⟨i0, hi0, hz0, hz1, hz2⟩ := info_parts info8
  obtain ⟨w2, hrun, own2, grow2⟩ := run_makeSlice_full (P := Try.prog) W W.heap.size 22 5 i0 (.int .u8 0) 1 Try.underlying22 hi0 hz0 hz1 .i64 .i64 (bs.length + 4) (by omega) (by rw [hz2]; omega) (by unfold maxLen; omega) (Nat.le_refl _)
  clear hi0 hz0 hz1 hz2
  have g2 : Past W w2 := (Past.refl W).grownBy grow2 (fun k hk => by cases hk)
  have R2 : Row w2 W.heap.size (List.replicate (bs.length + 4) 0) := row_of_own own2 (by
    show (madeCells #[.int .u8 0] ((bs.length + 4) * 1)).toList = _
    rw [toList_madeCells_one, Nat.mul_one]
    simp [cellB])
  have e0 : (((bs.length + 4 : Nat)) : Int) = (bs.length : Int) + 4 := by simp
  rw [e0] at hrun
  clear e0 own2 grow2
  obtain ⟨P, hP⟩ : ∃ P, W.heap.size = P := ⟨_, rfl⟩
  obtain ⟨N, hN⟩ : ∃ N, bs.length + 4 = N := ⟨_, rfl⟩
  unfold SealPost
  rw [hP] at hrun R2 ⊢
  rw [hN] at hrun R2 ⊢
  have HPP := Lib.hid hP
  have HNN := Lib.hid hN
  have HB := Lib.hid hb
  clear hP hb
  go_enter Try.func33, Try.ntmps33
  have hn1 : (cellB bs).length = Nat.min bs.length N := by rw [cellB_len]; show _ = min bs.length N; omega
  have hf1 : 0 + (cellB bs).length ≤ (cellB (List.replicate N 0)).length := by rw [cellB_len, cellB_len]; simp; omega
  have hs1 : 0 < (cellB bs).length → ∃ ad, A = some ad ∧ ∀ (j : Nat) (v : Value), (cellB bs)[j]? = some v → w2.cell? (ad.add j) = some v := fun hp => nums_cells (H.out.grow g2) hp
  have LAW := Lib.hid (And.intro hn1 (And.intro hf1 (And.intro (cellB_one bs) hs1)))
  have HR := Lib.hid R2
  have SM := Lib.hid (fun w (g : Past W w) => sum_any bs _ w (H.out.grow g) HB.out hl)
  have HG := Lib.hid g2
  clear hn1 hf1 hs1 R2 hN
  go_wp2_with (refine wpList_copy_splice rfl (.tmp 10) (.tmp 11) 22 22 rfl 5 Try.underlying22 size8 (some ⟨P, 0, none⟩) A N N bs.length cap rfl rfl P 0 (cellB (List.replicate N 0)) 5 HR.out (cellB bs) LAW.out.1 (fun hp => ⟨rfl, LAW.out.2.2.2 hp⟩) LAW.out.2.1 LAW.out.2.2.1 P w2 (Below.refl _ _) (Nat.le_refl _) ?_)
  intro w4 hg4 hb4
  have R4 : Row w4 P (bs ++ List.replicate 4 0) := by
    have := hg4.out
    unfold Row
    rw [this]
    congr 2
    rw [← HNN.out]
    simp [splice, cellB]
  have g4 : Past W w4 := ⟨hb4.os.trans HG.out.1, hb4.output.trans HG.out.2.1, Nat.le_trans HG.out.2.2.1 hb4.size, fun k hk => (hb4.block k (by have := HPP.out; omega)).trans (HG.out.2.2.2 k hk)⟩
  clear hg4 hb4 LAW HR HG g2 hrun
  go_wp2_with fail
  refine (SM.out _ g4).mono ?_
  rintro e w5 ⟨rfl, gg⟩
  have R5 := R4.past (Grown.past gg)
  have g5 := g4.trans (Grown.past gg)
  clear R4 g4 gg SM
  have sl := sum_lt HB.out
  have n1 : bs.length + 4 ≤ N := by have := HNN.out; omega
  have n2 : N ≤ bs.length + 4 := by have := HNN.out; omega
  obtain ⟨S, hS⟩ : ∃ S, sumD bs = S := ⟨_, rfl⟩
  have SS := Lib.hid hS
  rw [hS] at sl ⊢
  clear hS
  go_wp2_with fail
  go_loopw [15] (fun i wr => ∃ (m : Nat), m ≤ 4 ∧ i = .int .i64 (m : Int) ∧ Row wr P (bs ++ (le4 S).take m ++ List.replicate (4 - m) 0) ∧ Hid (Past W wr)) (fun i _ => 4 - (intOf i).toNat)
  case atStart => exact ⟨0, by omega, rfl, by simpa using R5, Lib.hid g5⟩
  case round =>
    clear R5 g5
    obtain ⟨m, hm, rfl, hr, hp⟩ := hrel
    by_cases d : m < 4
    · have f1 := hr.free (bs.length + m)
      obtain ⟨u1, c1⟩ : ∃ u, wr.cell? ⟨P, bs.length + m, none⟩ = some u := ⟨_, hr.cell (i := bs.length + m) (by simp [le4]; omega)⟩
      have nx := hr.set (bs.length + m) (S / 2 ^ (8 * m) % 256)
      rw [laid_at bs m S SS.out.symm d] at nx
      have NX := Lib.hid nx
      have HL := Lib.hid (hr.lt)
      have nb : P < wr.heap.size := hr.lt
      clear nx hr
      have hm4 : m = 0 ∨ m = 1 ∨ m = 2 ∨ m = 3 := by omega
      rcases hm4 with rfl | rfl | rfl | rfl
      · simp only [Nat.add_zero] at f1 c1
        go_wp2_with fail
        exact ⟨⟨1, by omega, rfl, by simpa using NX.out, Lib.hid (hp.out.setCell (by have := HPP.out; dsimp only; omega) _)⟩, by simp [intOf]⟩
      · go_wp2_with fail
        exact ⟨⟨2, by omega, rfl, by simpa using NX.out, Lib.hid (hp.out.setCell (by have := HPP.out; dsimp only; omega) _)⟩, by simp [intOf]⟩
      · go_wp2_with fail
        exact ⟨⟨3, by omega, rfl, by simpa using NX.out, Lib.hid (hp.out.setCell (by have := HPP.out; dsimp only; omega) _)⟩, by simp [intOf]⟩
      · go_wp2_with fail
        have q : (S : Int) / 16777216 % 256 = (S : Int) / 16777216 := by omega
        exact ⟨⟨4, by omega, rfl, by simpa [q] using NX.out, Lib.hid (hp.out.setCell (by have := HPP.out; dsimp only; omega) _)⟩, by simp [intOf]⟩
    · have e4 : m = 4 := by omega
      subst e4
      have HR := Lib.hid hr
      clear hr
      go_wp2_with fail
      go_ret
      refine ⟨rfl, ?_, hp.out⟩
      have := HR.out
      unfold sealD
      rw [SS.out]
      simpa [le4] using this
end Go.Proofs.Ytejllmjkeefloaa.Q7
namespace Go.Proofs.Ytejllmjkeefloaa.Q7
open Go.ChangeShapes Go.WideShapes Go.ChangeAt Go.RowKit
set_option maxRecDepth 20000
set_option linter.unusedVariables false

theorem Bytes.take {l : List Nat} (h : Bytes l) (m : Nat) : Bytes (l.take m) := fun c hc => h c (List.mem_of_mem_take hc)
/-- A row of bytes that a call owns. -/
def OwnS (w : World) (base : Nat) (v : Value) (l : List Nat) : Prop := w.ownsRow base 5 1 v l.length (cellB l)
theorem OwnS.nums {w : World} {base : Nat} {v : Value} {l : List Nat} (h : OwnS w base v l) (hb : Bytes l) : IsNums .u8 w v (ints l) := by
  obtain ⟨hl, h⟩ := h
  rcases h with ⟨rfl, h0⟩ | ⟨b, cap, cur, rfl, hbb, hg, hn, hm, hs, ht⟩
  · have : l = [] := List.eq_nil_of_length_eq_zero h0
    subst this
    exact ⟨none, 0, rfl, Nat.le_refl _, Nat.zero_le _, fun _ => rfl, by simp [ints], by simp [ints]⟩
  · refine ⟨some ⟨b, 0, none⟩, cap, by rw [ints_len], by rwa [ints_len], hm, (fun h => by cases h), ints_wf hb, fun hp => ⟨b, 0, rfl, (Array.getElem?_eq_some_iff.1 hg).1, fun i hi => ?_⟩⟩
    rw [ints_len] at hi
    rw [ints_at, ← cellB_at l i hi, ← ht, List.getElem?_take_of_lt (by omega)]
    simp [World.cell?, hg]
theorem OwnS.past {w w' : World} {base : Nat} {v : Value} {l : List Nat} (h : OwnS w base v l) (g : Past w w') : OwnS w' base v l := by
  obtain ⟨hl, h⟩ := h
  refine ⟨hl, ?_⟩
  rcases h with ⟨rfl, h0⟩ | ⟨b, cap, cur, rfl, hb, hg, hn, hm, hs, ht⟩
  · exact .inl ⟨rfl, h0⟩
  · exact .inr ⟨b, cap, cur, rfl, hb, (g.2.2.2 b (Array.getElem?_eq_some_iff.1 hg).1).trans hg, hn, hm, hs, ht⟩
end Go.Proofs.Ytejllmjkeefloaa.Q7
