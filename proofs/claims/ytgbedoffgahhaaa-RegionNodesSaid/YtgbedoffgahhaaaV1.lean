/- Values that a call owns; named; Clone. -/
import Derived.Test.YtgbedoffgahhaaaG2
import Derived.Test.YtgbedoffgahhaaaRead
import Derived.Laws.AppendOwn
import Derived.OwnWalk
namespace Go.Proofs.Ytgbedoffgahhaaa
open Go.ChangeShapes Go.WideShapes Go.ChangeAt Go.RowKit
set_option maxRecDepth 20000
set_option linter.unusedVariables false

theorem info32 : (Try.prog.info? 52).map (fun i => (i.zero, i.size, i.bytes)) = some (some (.agg #[.int .i64 0, .int .i64 0, .int .i64 0, .int .i64 0]), 4, 32) := by kernel_rfl

def valCells (x : ValD) : List Value := [.int .i64 x.h, .int .i64 x.w, .int .i64 x.c, .int .i64 x.z]
def valsCells (xs : List ValD) : List Value := xs.flatMap valCells
theorem valsCells_len (xs : List ValD) : (valsCells xs).length = xs.length * 4 := by
  induction xs with
  | nil => rfl
  | cons x xs ih => simp only [valsCells, List.flatMap_cons, List.length_append] at ih ⊢; rw [ih]; simp [valCells]; omega
theorem valsCells_snoc (xs : List ValD) (x : ValD) : valsCells (xs ++ [x]) = valsCells xs ++ valCells x := by simp [valsCells]
theorem valsCells_at (xs : List ValD) (i j : Nat) (hi : i < xs.length) (hj : j < 4) : (valsCells xs)[i * 4 + j]? = (valCells (xs.getD i default))[j]? := by
  induction xs generalizing i with
  | nil => simp at hi
  | cons x xs ih =>
    simp only [valsCells, List.flatMap_cons]
    cases i with
    | zero =>
      rw [Nat.zero_mul, Nat.zero_add, List.getElem?_append_left (by simp [valCells]; omega)]
      simp
    | succ i =>
      rw [List.getElem?_append_right (by simp [valCells]; omega)]
      have e : (i + 1) * 4 + j - (valCells x).length = i * 4 + j := by simp [valCells]; omega
      rw [e]
      simp only [List.length_cons] at hi
      have := ih i (by omega)
      simp only [valsCells] at this
      rw [this]
      simp

def OwnVals (w : World) (base : Nat) (v : Value) (xs : List ValD) : Prop := w.ownsRow base 52 4 v xs.length (valsCells xs)

theorem own_past' {w w' : World} {base e size n : Nat} {v : Value} {xs : List Value} (h : w.ownsRow base e size v n xs) (g : Past w w') : w'.ownsRow base e size v n xs := by
  refine ⟨h.1, ?_⟩
  rcases h.2 with hn | ⟨b, cap, cur, rfl, hb, hg, rest⟩
  · exact Or.inl hn
  · exact Or.inr ⟨b, cap, cur, rfl, hb, (g.2.2.2 b (Array.getElem?_eq_some_iff.1 hg).1).trans hg, rest⟩

theorem vals_of_own {w : World} {base : Nat} {v : Value} {xs : List ValD} (ho : OwnVals w base v xs) (wf : ∀ x ∈ xs, ValWf x) : IsVals w v xs := by
  obtain ⟨hl, h⟩ := ho
  rcases h with ⟨rfl, h0⟩ | ⟨b, cap, cur, rfl, hb, hg, hn, hm, hs, ht⟩
  · have : xs = [] := List.eq_nil_of_length_eq_zero h0
    subst this
    exact ⟨none, 0, rfl, Nat.le_refl _, Nat.zero_le _, fun _ => rfl, by simp, by simp⟩
  · refine ⟨some ⟨b, 0, none⟩, cap, rfl, hn, hm, (fun h => by cases h), wf, fun hp => ⟨b, 0, rfl, (Array.getElem?_eq_some_iff.1 hg).1, fun i hi => ?_⟩⟩
    have key : ∀ j, j < 4 → w.cell? ⟨b, 0 + i * 4 + j, none⟩ = (valCells (xs.getD i default))[j]? := fun j hj => by
      rw [← valsCells_at xs i j hi hj, ← ht, List.getElem?_take_of_lt (by omega)]
      simp [World.cell?, hg]
    exact ⟨key 0 (by omega), key 1 (by omega), key 2 (by omega), key 3 (by omega)⟩

theorem cells_new' (w : World) (l : List Value) (t : TypeId) (j : Nat) (u : Value) (h : l[j]? = some u) : (w.alloc (.cells ⟨l⟩ t)).cell? ((⟨w.heap.size, 0, none⟩ : Addr).add j) = some u := by
  rw [add_plain]
  have := heap_alloc_new w (.cells ⟨l⟩ t)
  unfold World.cell?
  simp only [this]
  simpa using h

theorem val_one (x : ValD) : ∀ u ∈ valCells x, u.oneCell' = true := by
  intro u hu
  simp only [valCells, List.mem_cons, List.not_mem_nil, or_false] at hu
  rcases hu with rfl | rfl | rfl | rfl <;> rfl
theorem vals_one' (xs : List ValD) : ∀ u ∈ valsCells xs, u.oneCell' = true := by
  intro u hu
  simp only [valsCells, List.mem_flatMap] at hu
  obtain ⟨x, _, h⟩ := hu
  exact val_one x u h

/-- The cells of values that lie in a row. -/
theorem news_of_vals {w : World} {b off : Nat} {xs : List ValD} (h : ∀ i, i < xs.length → ValAt w b (off + i * 4) (xs.getD i default)) : ∀ j u, (valsCells xs)[j]? = some u → w.cell? ((⟨b, off, none⟩ : Addr).add j) = some u := by
  intro j u hu
  have hj : j < xs.length * 4 := by
    rw [← valsCells_len]
    exact (List.getElem?_eq_some_iff.1 hu).1
  have e : j = j / 4 * 4 + j % 4 := by omega
  have h4 : j % 4 < 4 := Nat.mod_lt _ (by omega)
  have hi : j / 4 < xs.length := by omega
  rw [e, valsCells_at xs _ _ hi h4] at hu
  rw [add_plain]
  obtain ⟨c0, c1, c2, c3⟩ := h (j / 4) hi
  have e2 : off + j = off + j / 4 * 4 + j % 4 := by omega
  rw [e2]
  rcases (show j % 4 = 0 ∨ j % 4 = 1 ∨ j % 4 = 2 ∨ j % 4 = 3 by omega) with k | k | k | k <;> rw [k] at hu ⊢ <;> simp only [valCells, List.getElem?_cons_zero, List.getElem?_cons_succ, Option.some.injEq, Nat.add_zero] at hu ⊢ <;> subst hu
  · exact c0
  · exact c1
  · exact c2
  · exact c3

theorem own_slice' {w : World} {base e size n : Nat} {v : Value} {xs : List Value} (h : w.ownsRow base e size v n xs) : ∃ A c, v = .slice A n c ∧ n ≤ c ∧ c ≤ maxLen := by
  rcases h.2 with ⟨rfl, h0⟩ | ⟨g, cap, cur, rfl, _, _, h1, h2, _⟩
  · subst h0; exact ⟨_, _, rfl, Nat.le_refl _, Nat.zero_le _⟩
  · exact ⟨_, _, rfl, h1, h2⟩

/-- What named tells: the values of some numbers. -/
def namedP (l : List ValD) (ns : List Int) : Prop := ∀ j, j < ns.length → 0 ≤ ns.getD j 0 ∧ ns.getD j 0 < (l.length : Int)
def namedL (l : List ValD) (ns : List Int) : List ValD := ns.map fun i => l.getD i.toNat default

def NamedPost (l : List ValD) (ns : List Int) (W : World) (e : Ending) (w' : World) : Prop :=
  (namedP l ns ∧ ∃ v, e = .returned (.tuple #[v, .bool true]) ∧ IsVals w' v (namedL l ns) ∧ Past W w') ∨
  (¬ namedP l ns ∧ e = .returned (.tuple #[.slice none 0 0, .bool false]) ∧ Past W w')

theorem namedL_take (l : List ValD) (ns : List Int) (k : Nat) (h : k < ns.length) : namedL l (ns.take (k + 1)) = namedL l (ns.take k) ++ [l.getD (ns.getD k 0).toNat default] := by
  unfold namedL
  rw [List.take_succ_eq_append_getElem h, List.map_append]
  simp [List.getD, h]

set_option maxHeartbeats 2000000 in
theorem named_any (lv nv : Value) (l : List ValD) (ns : List Int) (W : World) (hl : IsVals W lv l) (hn : IsNums .i64 W nv ns) (hb : ns.length ≤ 1000) :
    Calls Try.prog 36 #[lv, nv] W (NamedPost l ns W) := by
  obtain ⟨A, ca, rfl, a1, a2, _, a4, a5⟩ := hl
  obtain ⟨B, cb, rfl, b1, b2, _, _, b5⟩ := hn
  have hm1 : l.length ≤ 9223372036854775807 := by unfold maxLen at a2; omega
  have hm2 : ns.length ≤ 9223372036854775807 := by omega
  obtain ⟨i0, hi0, hz0, hz1, hz2⟩ := info_parts info32
  have A4 := Lib.hid a4
  have A5 := Lib.hid a5
  have B5 := Lib.hid b5
  have I1 := Lib.hid hi0
  have I2 := Lib.hid hz0
  have I3 := Lib.hid hz1
  have I4 := Lib.hid hz2
  clear a1 a2 a4 a5 b1 b2 b5 hi0 hz0 hz1 hz2
  go_enter Try.func36, Try.ntmps36
  go_wp2_with fail
  go_loopw [6, 11] (fun v i wr => ∃ k : Nat, k ≤ ns.length ∧ i = .int .i64 k ∧ OwnVals wr W.heap.size v (namedL l (ns.take k)) ∧ Hid (∀ j, j < k → 0 ≤ ns.getD j 0 ∧ ns.getD j 0 < (l.length : Int)) ∧ Past W wr) (fun _ i _ => ns.length - (intOf i).toNat)
  case atStart => exact ⟨0, by omega, rfl, ⟨by simp [namedL, valsCells], .inl ⟨rfl, by simp [namedL]⟩⟩, Lib.hid (fun j h => by omega), Past.refl _⟩
  case round =>
    obtain ⟨k, hk, rfl, hown, hin, hp⟩ := hrel
    by_cases h : k < ns.length
    · obtain ⟨b, off, rfl, hbb, hc⟩ := B5.out (by omega)
      have c0 := (hp.cell (p := ⟨b, off + k, none⟩) hbb).trans (hc k h)
      obtain ⟨x, hx⟩ : ∃ x, ns.getD k 0 = x := ⟨_, rfl⟩
      rw [hx] at c0
      have HX := Lib.hid hx
      clear hx hc
      by_cases x0 : 0 ≤ x
      · by_cases x1 : x < (l.length : Int)
        · obtain ⟨m, rfl⟩ : ∃ m : Nat, x = m := ⟨x.toNat, by omega⟩
          have x2 : m < l.length := by omega
          obtain ⟨b', off', rfl, hbb', hc'⟩ := A5.out (by omega)
          obtain ⟨y0, y1, y2, y3⟩ := (hc' m x2).grow hbb' hp
          obtain ⟨y, hy⟩ : ∃ y, l.getD m default = y := ⟨_, rfl⟩
          rw [hy] at y0 y1 y2 y3
          have HY := Lib.hid hy
          have HO := Lib.hid hown
          have HP := Lib.hid hp
          clear hc' hy hown hp
          have i3 : (0 : Int) ≤ (m : Int) := by omega
          have d0 : decide ((m : Int) < 0) = false := by simp
          have lk : (namedL l (ns.take k)).length = k := by simp [namedL]; omega
          have LK := Lib.hid lk
          have hm3 : k + 1 ≤ maxLen := by unfold maxLen; omega
          have hlt := World.ownsRow.lt HO.out
          have HLT := Lib.hid hlt
          have HM3 := Lib.hid hm3
          clear lk hm3 hlt
          have hsz : W.heap.size ≤ wr.heap.size := HP.out.2.2.1
          go_wp2_with (at_builtin; refine wpList_append_own _ rfl (.tmp 23) (.tmp 28) 32 rfl W.heap.size 52 i0 _ 4 32 Try.underlying32 I1.out I2.out I3.out I4.out rfl (by decide) _ _ _ rfl (World.ownsRow.alloc HO.out _) ⟨wr.heap.size, 0, none⟩ 1 1 (valCells y) rfl rfl (fun j u hu => cells_new' wr _ 52 j u hu) (val_one y) ?c4 ?c5 ?c6 ?_)
          case c4 => rw [LK.out]; exact HM3.out
          case c5 => rw [LK.out]; omega
          case c6 => simp; omega
          intro v4 w4 hown4 hgrow _
          have hp4 : Past W w4 := (HP.out.alloc _).grownBy hgrow (fun j hj => (HLT.out j hj).1)
          have ho4 : OwnVals w4 W.heap.size v4 (namedL l (ns.take (k + 1))) := by
            unfold OwnVals
            rw [namedL_take l ns k h, valsCells_snoc, HX.out]
            simp only [Int.toNat_natCast, HY.out, List.length_append, List.length_cons, List.length_nil]
            exact hown4
          clear hown4 hgrow
          go_wp2_with fail
          go_roundw
          case rel => exact ⟨k + 1, by omega, by go_num, ho4, Lib.hid (fun j hj => by
            by_cases c : j = k
            · subst c; rw [HX.out]; exact ⟨x0, x1⟩
            · exact hin.out j (by omega)), hp4⟩
          case measure => simp [intOf]; omega
        · have d0 : decide (x < 0) = false := by simp; omega
          have d1 : decide ((l.length : Int) ≤ x) = true := by simp; omega
          go_wp2_with fail
          go_ret2
          exact .inr ⟨fun f => by have := (f k h).2; rw [HX.out] at this; omega, rfl, hp⟩
      · have d0 : decide (x < 0) = true := by simp; omega
        go_wp2_with fail
        go_ret2
        exact .inr ⟨fun f => by have := (f k h).1; rw [HX.out] at this; omega, rfl, hp⟩
    · have e : ns.take k = ns := List.take_of_length_le (by omega)
      rw [e] at hown
      have HO := Lib.hid hown
      have wf : ∀ x ∈ namedL l ns, ValWf x := fun x hx => by
        simp only [namedL, List.mem_map] at hx
        obtain ⟨i, hi, rfl⟩ := hx
        obtain ⟨j, hj, rfl⟩ := List.getElem_of_mem hi
        have := hin.out j (by omega)
        simp only [List.getD, hj, List.getElem?_eq_getElem, Option.getD_some] at this
        have hl : ns[j].toNat < l.length := by omega
        have : l.getD ns[j].toNat default = l[ns[j].toNat] := by simp [List.getD, hl]
        rw [this]
        exact A4.out _ (List.getElem_mem _)
      have WF := Lib.hid wf
      clear e hown wf
      go_wp2_with fail
      go_ret2
      exact .inl ⟨fun j hj => hin.out j (by omega), _, rfl, vals_of_own HO.out WF.out, hp⟩
end Go.Proofs.Ytgbedoffgahhaaa
