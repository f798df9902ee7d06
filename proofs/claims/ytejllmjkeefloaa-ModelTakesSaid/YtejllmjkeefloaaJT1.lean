/- The reference of layer 4: number, some. isa: a field, whether it is beyond its bounds; told; the closures. -/
import Derived.Test.YtejllmjkeefloaaJN3
import Derived.Laws.ResultCell
import Derived.Test.YtejllmjkeefloaaJG6A
import Derived.Test.YtejllmjkeefloaaJV1
namespace Go.Proofs.Ytejllmjkeefloaa
open Go.ChangeShapes Go.WideShapes Go.ChangeAt Go.RowKit
set_option maxRecDepth 20000
set_option linter.unusedVariables false
set_option linter.unusedSimpArgs false

def RNumPost (base : Nat) (cs : List Int) (w : World) (e : Ending) (w' : World) : Prop := ∃ v', e = .returned v' ∧ OwnB w' base v' cs ∧ Lays base w w'
set_option maxHeartbeats 4000000 in
theorem rnum_any (base wide : Nat) (bv : Value) (bs : List Int) (x : Int) (W : World) (hw : wide = 2 ∨ wide = 4) (hx : (Lit.int .i64 x).wf = true) (ho : OwnB W base bv bs) (hb : base ≤ W.heap.size) (hm : bs.length ≤ 1000000000) :
    Calls Try.prog 79 #[bv, .int .i64 x, .int .i64 (wide : Int)] W (RNumPost base (bs ++ numB wide x) W) := by
  have e1 : IntKind.i64.wrap ((wide : Int) - 1) = (wide : Int) - 1 := by rcases hw with rfl | rfl <;> decide
  have w3 : wide ≤ 4 := by omega
  obtain ⟨i0, hi0, hz0, hz1, hz2⟩ := info_parts info8
  have I1 := Lib.hid hi0
  have I2 := Lib.hid hz0
  have I3 := Lib.hid hz1
  have I4 := Lib.hid hz2
  have hx' := Lib.hid hx
  clear hi0 hz0 hz1 hz2 hw hx
  go_enter Try.func79, Try.ntmps79
  go_wp2_with fail
  go_loopw [0, 7] (fun v i wr => ∃ (m : Nat) (cs : List Int), m ≤ wide ∧ i = .int .i64 ((m : Int) - 1) ∧ Hid (cs ++ numB m x = bs ++ numB wide x) ∧ Hid (OwnB wr base v cs) ∧ Hid (Lays base W wr) ∧ base ≤ wr.heap.size) (fun _ i _ => (intOf i + 1).toNat)
  case atStart => exact ⟨wide, _, by omega, rfl, Lib.hid rfl, Lib.hid ho, Lib.hid (Lays.refl _ _), hb⟩
  case round =>
    clear ho hb
    obtain ⟨m, cs, hm4, rfl, heq, hown, hp, hbs⟩ := hrel
    have hcs : Hid (cs.length + m ≤ 1000000004) := Lib.hid (by
      have := congrArg List.length heq.out
      simp only [List.length_append, numB_len] at this
      omega)
    rcases (show m = 0 ∨ m = 1 ∨ m = 2 ∨ m = 3 ∨ m = 4 by omega) with rfl | rfl | rfl | rfl | rfl
    · have he := heq.out
      simp only [numB, List.append_nil] at he
      have HE := Lib.hid he
      clear he
      go_wp2_with fail
      go_ret
      exact ⟨_, rfl, by rw [← HE.out]; exact hown.out, hp.out⟩
    · have d0 : decide (0 ≤ ((1 : Nat) : Int) - 1) = true := by decide
      have hnb := Lib.hid (numB_1 x)
      go_wp2_with (at_builtin; refine wpList_append_own _ rfl (.tmp 14) (.tmp 20) 22 rfl base 5 i0 _ 1 1 Try.underlying22 I1.out I2.out I3.out I4.out rfl (by decide) _ _ _ rfl (World.ownsRow.alloc hown.out.1 _) ⟨wr.heap.size, 0, none⟩ 1 1 [.int .u8 (x % 256)] rfl rfl (fun j u hu => cells_new' wr _ 5 j u hu) (by intro u hu; simp at hu; subst hu; rfl) ?c4 ?c5 ?c6 ?_)
      case c4 => have := hcs.out; unfold maxLen; omega
      case c5 => have := hcs.out; omega
      case c6 => simp; omega
      intro v4 w4 hown4 hgrow _
      have ho4 := Lib.hid (own_bytes rfl hown4)
      have hl4 := Lib.hid (Lays.grownBy (hp.out.alloc _) (hown.out.alloc _) hgrow)
      have hs4 : base ≤ w4.heap.size := by have := hgrow.size; simp only [World.size_alloc] at this; omega
      have he4 := heq.out
      rw [hnb.out] at he4
      have HE4 := Lib.hid he4
      clear hown4 hgrow he4 hnb
      go_wp2_with fail
      go_roundw
      case rel => exact ⟨0, cs ++ [x % 256], by omega, by first | rfl | go_num, Lib.hid (by rw [← HE4.out]; simp), ho4, hl4, hs4⟩
      case measure => simp [intOf]
    · have d0 : decide (0 ≤ ((2 : Nat) : Int) - 1) = true := by decide
      have hnb := Lib.hid (numB_2 x)
      go_wp2_with (at_builtin; refine wpList_append_own _ rfl (.tmp 14) (.tmp 20) 22 rfl base 5 i0 _ 1 1 Try.underlying22 I1.out I2.out I3.out I4.out rfl (by decide) _ _ _ rfl (World.ownsRow.alloc hown.out.1 _) ⟨wr.heap.size, 0, none⟩ 1 1 [.int .u8 (x / 256 % 256)] rfl rfl (fun j u hu => cells_new' wr _ 5 j u hu) (by intro u hu; simp at hu; subst hu; rfl) ?c4 ?c5 ?c6 ?_)
      case c4 => have := hcs.out; unfold maxLen; omega
      case c5 => have := hcs.out; omega
      case c6 => simp; omega
      intro v4 w4 hown4 hgrow _
      have ho4 := Lib.hid (own_bytes rfl hown4)
      have hl4 := Lib.hid (Lays.grownBy (hp.out.alloc _) (hown.out.alloc _) hgrow)
      have hs4 : base ≤ w4.heap.size := by have := hgrow.size; simp only [World.size_alloc] at this; omega
      have he4 := heq.out
      rw [hnb.out] at he4
      have HE4 := Lib.hid he4
      clear hown4 hgrow he4 hnb
      go_wp2_with fail
      go_roundw
      case rel => exact ⟨1, cs ++ [x / 256 % 256], by omega, by first | rfl | go_num, Lib.hid (by rw [← HE4.out]; simp), ho4, hl4, hs4⟩
      case measure => simp [intOf]
    · have d0 : decide (0 ≤ ((3 : Nat) : Int) - 1) = true := by decide
      have hnb := Lib.hid (numB_3 x)
      go_wp2_with (at_builtin; refine wpList_append_own _ rfl (.tmp 14) (.tmp 20) 22 rfl base 5 i0 _ 1 1 Try.underlying22 I1.out I2.out I3.out I4.out rfl (by decide) _ _ _ rfl (World.ownsRow.alloc hown.out.1 _) ⟨wr.heap.size, 0, none⟩ 1 1 [.int .u8 (x / 65536 % 256)] rfl rfl (fun j u hu => cells_new' wr _ 5 j u hu) (by intro u hu; simp at hu; subst hu; rfl) ?c4 ?c5 ?c6 ?_)
      case c4 => have := hcs.out; unfold maxLen; omega
      case c5 => have := hcs.out; omega
      case c6 => simp; omega
      intro v4 w4 hown4 hgrow _
      have ho4 := Lib.hid (own_bytes rfl hown4)
      have hl4 := Lib.hid (Lays.grownBy (hp.out.alloc _) (hown.out.alloc _) hgrow)
      have hs4 : base ≤ w4.heap.size := by have := hgrow.size; simp only [World.size_alloc] at this; omega
      have he4 := heq.out
      rw [hnb.out] at he4
      have HE4 := Lib.hid he4
      clear hown4 hgrow he4 hnb
      go_wp2_with fail
      go_roundw
      case rel => exact ⟨2, cs ++ [x / 65536 % 256], by omega, by first | rfl | go_num, Lib.hid (by rw [← HE4.out]; simp), ho4, hl4, hs4⟩
      case measure => simp [intOf]
    · have d0 : decide (0 ≤ ((4 : Nat) : Int) - 1) = true := by decide
      have hnb := Lib.hid (numB_4 x)
      go_wp2_with (at_builtin; refine wpList_append_own _ rfl (.tmp 14) (.tmp 20) 22 rfl base 5 i0 _ 1 1 Try.underlying22 I1.out I2.out I3.out I4.out rfl (by decide) _ _ _ rfl (World.ownsRow.alloc hown.out.1 _) ⟨wr.heap.size, 0, none⟩ 1 1 [.int .u8 (x / 16777216 % 256)] rfl rfl (fun j u hu => cells_new' wr _ 5 j u hu) (by intro u hu; simp at hu; subst hu; rfl) ?c4 ?c5 ?c6 ?_)
      case c4 => have := hcs.out; unfold maxLen; omega
      case c5 => have := hcs.out; omega
      case c6 => simp; omega
      intro v4 w4 hown4 hgrow _
      have ho4 := Lib.hid (own_bytes rfl hown4)
      have hl4 := Lib.hid (Lays.grownBy (hp.out.alloc _) (hown.out.alloc _) hgrow)
      have hs4 : base ≤ w4.heap.size := by have := hgrow.size; simp only [World.size_alloc] at this; omega
      have he4 := heq.out
      rw [hnb.out] at he4
      have HE4 := Lib.hid he4
      clear hown4 hgrow he4 hnb
      go_wp2_with fail
      go_roundw
      case rel => exact ⟨3, cs ++ [x / 16777216 % 256], by omega, by first | rfl | go_num, Lib.hid (by rw [← HE4.out]; simp), ho4, hl4, hs4⟩
      case measure => simp [intOf]
theorem numsB_one (xs : List Int) (i : Nat) (h : i < xs.length) : numsB 1 (xs.take (i + 1)) = numsB 1 (xs.take i) ++ [xs.getD i 0 % 256] := by
  rw [numsB_take 1 xs i h, numB_1]
  rfl
set_option maxHeartbeats 4000000 in
theorem rsome_any (base : Nat) (bv lv : Value) (bs xs : List Int) (W : World) (ho : OwnB W base bv bs) (hl : IsNums .i64 W lv xs) (ha : 0 < xs.length → Apart base lv) (hb : base ≤ W.heap.size) (hm : bs.length + xs.length ≤ 1000000000) :
    Calls Try.prog 53 #[bv, lv] W (RNumPost base (bs ++ numsB 1 xs) W) := by
  have HL := Lib.hid hl
  obtain ⟨A, cap, rfl, l2, l3, _, l5, l6⟩ := hl
  have HA := Lib.hid ha
  have L5 := Lib.hid l5
  have L6 := Lib.hid l6
  have hm2 : xs.length ≤ 9223372036854775807 := by unfold maxLen at l3; omega
  obtain ⟨i0, hi0, hz0, hz1, hz2⟩ := info_parts info8
  have I1 := Lib.hid hi0
  have I2 := Lib.hid hz0
  have I3 := Lib.hid hz1
  have I4 := Lib.hid hz2
  clear hi0 hz0 hz1 hz2 l2 l3 l5 l6 ha
  go_enter Try.func53, Try.ntmps53
  go_wp2_with fail
  go_loopw [0, 5] (fun v i wr => ∃ k : Nat, k ≤ xs.length ∧ i = .int .i64 k ∧ Hid (OwnB wr base v (bs ++ numsB 1 (xs.take k))) ∧ Hid (Lays base W wr) ∧ base ≤ wr.heap.size) (fun _ i _ => xs.length - (intOf i).toNat)
  case atStart => exact ⟨0, by omega, rfl, Lib.hid (by simpa [numsB] using ho), Lib.hid (Lays.refl _ _), hb⟩
  case round =>
    clear ho hb
    obtain ⟨k, hk, rfl, hown, hp, hbs⟩ := hrel
    by_cases h : k < xs.length
    · obtain ⟨b, off, rfl, hbb, hc⟩ := L6.out (by omega)
      have hN := nums_noRow (by decide) HL.out (HA.out (by omega)) (by omega)
      have c0 := (hp.out.cell hN).trans (hc k h)
      have hnext := numsB_one xs k h
      obtain ⟨x, hx⟩ : ∃ x, xs.getD k 0 = x := ⟨_, rfl⟩
      rw [hx] at c0 hnext
      have HX := Lib.hid hnext
      clear hx hc hnext hN
      have hlen : (bs ++ numsB 1 (xs.take k)).length + 1 ≤ 1000000000 := by
        rw [List.length_append, numsB_len, List.length_take, Nat.min_eq_left (by omega)]
        omega
      have HLEN := Lib.hid hlen
      obtain ⟨cs, hcs⟩ : ∃ cs, bs ++ numsB 1 (xs.take k) = cs := ⟨_, rfl⟩
      have EC := Lib.hid hcs
      rw [hcs] at hown HLEN
      clear hlen hcs
      go_wp2_with (at_builtin; refine wpList_append_own _ rfl (.tmp 12) (.tmp 18) 22 rfl base 5 i0 _ 1 1 Try.underlying22 I1.out I2.out I3.out I4.out rfl (by decide) _ _ _ rfl (World.ownsRow.alloc hown.out.1 _) ⟨wr.heap.size, 0, none⟩ 1 1 [.int .u8 (x % 256)] rfl rfl (fun j u hu => cells_new' wr _ 5 j u hu) (by intro u hu; simp at hu; subst hu; rfl) ?c4 ?c5 ?c6 ?_)
      case c4 => have := HLEN.out; unfold maxLen; omega
      case c5 => have := HLEN.out; omega
      case c6 => simp; omega
      intro v4 w4 hown4 hgrow _
      have ho4 := Lib.hid (own_bytes rfl hown4)
      have hl4 := Lib.hid (Lays.grownBy (hp.out.alloc _) (hown.out.alloc _) hgrow)
      have hs4 : base ≤ w4.heap.size := by have := hgrow.size; simp only [World.size_alloc] at this; omega
      clear hown4 hgrow
      go_wp2_with fail
      go_roundw
      case rel => exact ⟨k + 1, by omega, by go_num, Lib.hid (by rw [HX.out, ← List.append_assoc, EC.out]; exact ho4.out), hl4, hs4⟩
      case measure => simp [intOf]; omega
    · have hk' : xs.take k = xs := List.take_of_length_le (by omega)
      rw [hk'] at hown
      clear hk'
      go_wp2_with fail
      go_ret
      exact ⟨_, rfl, hown.out, hp.out⟩
end Go.Proofs.Ytejllmjkeefloaa
namespace Go.Proofs.Ytejllmjkeefloaa.Q8
open Go.ChangeShapes Go.WideShapes Go.ChangeAt Go.RowKit
set_option maxRecDepth 20000
set_option linter.unusedVariables false
set_option linter.unusedSimpArgs false

theorem box_set4 {w : World} {b : Nat} {x0 x1 x2 x3 y0 y1 y2 y3 : Value} (h : (∀ o : Nat, w.cell? ⟨b, o, none⟩ = (#[x0, x1, x2, x3] : Array Value)[o]?)) : (∀ o : Nat, ((((w.setCell ⟨b, 0, none⟩ y0).setCell ⟨b, 1, none⟩ y1).setCell ⟨b, 2, none⟩ y2).setCell ⟨b, 3, none⟩ y3).cell? ⟨b, o, none⟩ = (#[y0, y1, y2, y3] : Array Value)[o]?) := by
  have h0 := h 0
  have h1 := h 1
  have h2 := h 2
  have h3 := h 3
  have c0 : (((w.setCell ⟨b, 0, none⟩ y0).setCell ⟨b, 1, none⟩ y1).setCell ⟨b, 2, none⟩ y2).cell? ⟨b, 3, none⟩ = some x3 := by
    rw [World.cell?_setCell_other _ _ _ _ (by simp), World.cell?_setCell_other _ _ _ _ (by simp), World.cell?_setCell_other _ _ _ _ (by simp)]; exact h3
  have c1 : ((w.setCell ⟨b, 0, none⟩ y0).setCell ⟨b, 1, none⟩ y1).cell? ⟨b, 2, none⟩ = some x2 := by
    rw [World.cell?_setCell_other _ _ _ _ (by simp), World.cell?_setCell_other _ _ _ _ (by simp)]; exact h2
  have c2 : (w.setCell ⟨b, 0, none⟩ y0).cell? ⟨b, 1, none⟩ = some x1 := by
    rw [World.cell?_setCell_other _ _ _ _ (by simp)]; exact h1
  intro o
  match o with
  | 0 =>
    rw [World.cell?_setCell_other _ _ _ _ (by simp), World.cell?_setCell_other _ _ _ _ (by simp), World.cell?_setCell_other _ _ _ _ (by simp)]
    exact World.cell?_setCell_same w _ _ h0
  | 1 =>
    rw [World.cell?_setCell_other _ _ _ _ (by simp), World.cell?_setCell_other _ _ _ _ (by simp)]
    exact World.cell?_setCell_same _ _ _ c2
  | 2 =>
    rw [World.cell?_setCell_other _ _ _ _ (by simp)]
    exact World.cell?_setCell_same _ _ _ c1
  | 3 => exact World.cell?_setCell_same _ _ _ c0
  | k + 4 =>
    rw [World.cell?_setCell_other _ _ _ _ (by simp), World.cell?_setCell_other _ _ _ _ (by simp), World.cell?_setCell_other _ _ _ _ (by simp), World.cell?_setCell_other _ _ _ _ (by simp)]
    have := h (k + 4)
    simpa using this
theorem box_setAll {w : World} {b : Nat} {old new : Array Value} (h : (∀ o : Nat, w.cell? ⟨b, o, none⟩ = (old : Array Value)[o]?)) (hl : old.size = new.size) : (∀ o : Nat, (w.setCells b 0 new.toList).cell? ⟨b, o, none⟩ = (new : Array Value)[o]?) := by
  intro k
  by_cases c : k < new.size
  · have := World.cell?_setCells_in b new.toList 0 w (fun i hi => by
      rw [Nat.zero_add, h i, Array.getElem?_eq_getElem (by simpa [hl] using hi)]; rfl) k (by simpa using c)
    rw [Nat.zero_add] at this
    rw [this, Array.getElem?_eq_getElem c]
    simp
  · rw [World.cell?_setCells_out b new.toList 0 w ⟨b, k, none⟩ (fun _ _ => Or.inr (by simp; omega)), h k, Array.getElem?_eq_none (by omega), Array.getElem?_eq_none (by omega)]
theorem past_setAll {W : World} {b : Nat} (hb : W.heap.size ≤ b) : ∀ (l : List Value) (w : World) (o : Nat), Past W w → Past W (w.setCells b o l)
  | [], _, _, g => g
  | v :: l, w, o, g => by simp only [World.setCells]; exact past_setAll hb l _ _ (Past.setCell g (by simpa using hb) _)
theorem free_setAll {b b2 : Nat} (l : List Value) {w : World} {s : Nat} (h : (∀ o : Nat, w.frozen? ⟨b2, o, none⟩ = false)) : (∀ o : Nat, (w.setCells b s l).frozen? ⟨b2, o, none⟩ = false) := fun k => (World.frozen?_setCells b l s w _).trans (h k)
theorem size_setAll {b m : Nat} : ∀ (l : List Value) (w : World) (o : Nat), m ≤ w.heap.size → m ≤ (w.setCells b o l).heap.size
  | [], _, _, g => g
  | v :: l, w, o, g => by simp only [World.setCells]; exact size_setAll l _ _ (size_set g)
/-- A struct (or an array) is stored, whole, into a box of its own: the world behind it is a letter. -/
theorem wpList_store_box {P : Program} {ops : Array Oper} {rest : List Oper} {op : Oper} {a : Act} {w : World} {Q : Exit → Act → World → Prop} (hgd : op.guard = none) (ty : TypeId) (x y : Operand) (ho : op.op = .store ty x y)
    (b : Nat) (cells old : Array Value) (hx : a.eval x = .pointer (some ⟨b, 0, none⟩)) (hy : a.eval y = .agg cells) (hb : (∀ o : Nat, w.cell? ⟨b, o, none⟩ = (old : Array Value)[o]?)) (hf : (∀ o : Nat, w.frozen? ⟨b, o, none⟩ = false)) (hs : old.size = cells.size)
    (hi : (P.info? ty).map (·.size) = some cells.size) (h1 : cells.all (·.oneCell') = true) (S : World → Prop) (hS : S (w.setCells b 0 cells.toList)) (h : ∀ w', S w' → wpList P ops Q rest (a.put op.dst undef) w') : wpList P ops Q (op :: rest) a w :=
  wpList_store_mid hgd ty x y ho b 0 cells hx hy (fun j hj => ⟨by rw [Nat.zero_add, hb j, Array.getElem?_eq_getElem (by omega)]; rfl, by rw [Nat.zero_add]; exact hf j⟩) hi h1 (h _ hS)
/-- The cells of a field of the command at block P. -/
def fldC (P : Nat) (f : Fld) : List Value := [.pointer (some ⟨P, f.pos, none⟩), .int .i64 f.lo, .int .i64 f.hi, .int .i64 (f.wide : Int)]
def fldV (P : Nat) (f : Fld) : Value := .agg ⟨fldC P f⟩
def fldsC (P : Nat) (fs : List Fld) : List Value := fs.flatMap (fldC P)
/-- A row of fields, at the beginning of a block. -/
def IsFlds (w : World) (P : Nat) (v : Value) (fs : List Fld) : Prop :=
  (fs = [] ∧ v = .slice none 0 0) ∨ ∃ b, v = .slice (some ⟨b, 0, none⟩) fs.length fs.length ∧ b < w.heap.size ∧ (∀ o : Nat, w.cell? ⟨b, o, none⟩ = (⟨fldsC P fs⟩ : Array Value)[o]?)
theorem IsFlds.past {w w' : World} {P : Nat} {v : Value} {fs : List Fld} (h : IsFlds w P v fs) (g : Past w w') : IsFlds w' P v fs := by
  rcases h with h | ⟨b, e, hb, hc⟩
  · exact .inl h
  · exact .inr ⟨b, e, Nat.lt_of_lt_of_le hb g.2.2.1, box_past g hc hb⟩
set_option maxHeartbeats 1000000 in
theorem beyond_any (P : Nat) (f : Fld) (x : Int) (W : World) (hx : W.cell? ⟨P, f.pos, none⟩ = some (.int .i64 x)) :
    Calls Try.prog 105 #[fldV P f] W fun e w' => e = .returned (.bool (!decide (f.lo ≤ x ∧ x ≤ f.hi))) ∧ Past W w' := by
  obtain ⟨po, lo, hi, wd⟩ := f
  simp only at hx ⊢
  show Calls _ _ #[.agg #[.pointer (some ⟨P, po, none⟩), .int .i64 lo, .int .i64 hi, .int .i64 (wd : Int)]] _ _
  have hP := cell_lt hx
  by_cases h1 : x < lo
  · have d1 : decide (x < lo) = true := by simpa using h1
    have d2 : (!decide (lo ≤ x ∧ x ≤ hi)) = true := by simp; omega
    rw [d2]
    clear d2
    go_enter Try.func105, Try.ntmps105
    go_upto_region 1 with fail
    refine opq (fun w' => (∀ o : Nat, w'.cell? ⟨W.heap.size, o, none⟩ = (#[.pointer (some ⟨P, po, none⟩), .int .i64 lo, .int .i64 hi, .int .i64 (wd : Int)] : Array Value)[o]?) ∧ w'.cell? ⟨P, po, none⟩ = some (.int .i64 x) ∧ Past W w') kKeep ?_
    rintro w1 ⟨b1, c1, p1⟩
    have P1 := Lib.hid p1
    clear p1 hx hP
    go_quiet (fail)
    go_wp2_with fail
    go_ret
    exact ⟨rfl, P1.out⟩
  · have d1 : decide (x < lo) = false := by simpa using h1
    have d2 : (!decide (lo ≤ x ∧ x ≤ hi)) = decide (hi < x) := by
      have : lo ≤ x := by omega
      simp only [this, true_and]
      by_cases q : x ≤ hi
      · have : ¬ hi < x := by omega
        simp [q, this]
      · have : hi < x := by omega
        simp [q, this]
    rw [d2]
    clear d2
    go_enter Try.func105, Try.ntmps105
    go_upto_region 1 with fail
    refine opq (fun w' => (∀ o : Nat, w'.cell? ⟨W.heap.size, o, none⟩ = (#[.pointer (some ⟨P, po, none⟩), .int .i64 lo, .int .i64 hi, .int .i64 (wd : Int)] : Array Value)[o]?) ∧ w'.cell? ⟨P, po, none⟩ = some (.int .i64 x) ∧ Past W w') kKeep ?_
    rintro w1 ⟨b1, c1, p1⟩
    have P1 := Lib.hid p1
    clear p1 hx hP
    go_quiet (fail)
    go_wp2_with fail
    go_ret
    exact ⟨rfl, P1.out⟩
theorem told_any (v : Value) (A : Option Addr) (n c : Nat) (hv : v = .slice A n c) (W : World) : Calls Try.prog 126 #[v] W fun e w' => e = .returned (.tuple #[v, .bool true]) ∧ w' = W := by
  subst hv
  go_enter Try.func126, Try.ntmps126
  go_wp2_with fail
  go_ret2
  exact ⟨rfl, rfl⟩
end Go.Proofs.Ytejllmjkeefloaa.Q8
