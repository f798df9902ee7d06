/- quiltref05.Same; the head of the laws; a row of int8 that a call owns. -/
import Derived.Test.YtlpcppdpodedmaaK3
namespace Go.Proofs.Ytlpcppdpodedmaa
open Go.ChangeShapes Go.WideShapes Go.ChangeAt Go.RowKit
set_option maxRecDepth 20000
set_option linter.unusedVariables false
theorem getD_ext {xs ys : List Int} (h : xs.length = ys.length) : xs = ys ↔ ∀ j, j < xs.length → xs.getD j 0 = ys.getD j 0 := by
  constructor
  · rintro rfl j _; rfl
  · intro k
    refine List.ext_getElem h (fun i h1 h2 => ?_)
    have := k i h1
    simpa [List.getD, h1, h2] using this

set_option maxHeartbeats 1000000 in
theorem same_any (w : World) (v u : Value) (xs ys : List Int) (t : Bool) (hv : IsNums .i8 w v xs) (hu : IsNums .i8 w u ys) (ht : Hid (t = true ↔ xs = ys)) :
    Calls Try.prog 17 #[v, u] w fun e w' => e = .returned (.bool t) ∧ Grown w w' := by
  obtain ⟨A, c1, rfl, a1, a2, a3, a4, a5⟩ := hv
  obtain ⟨B, c2, rfl, b1, b2, b3, b4, b5⟩ := hu
  have hm : maxLen ≤ 9223372036854775807 := by decide
  have hl1 : xs.length ≤ 9223372036854775807 := by omega
  have hl2 : ys.length ≤ 9223372036854775807 := by omega
  clear hm a2 b2
  by_cases hl : xs.length = ys.length
  · have HE := Lib.hid (getD_ext hl)
    have e0 : ((xs.length : Int) == (ys.length : Int)) = true := by simp only [beq_iff_eq]; omega
    go_enter Try.func17, Try.ntmps17
    go_wp2_with fail
    go_loopw [5] (fun i wr => ∃ k : Nat, k ≤ xs.length ∧ i = .int .i64 k ∧ Hid (∀ j, j < k → xs.getD j 0 = ys.getD j 0) ∧ Grown w wr) (fun i _ => xs.length - (intOf i).toNat)
    case atStart => exact ⟨0, by omega, rfl, Lib.hid (fun j h => by omega), Grown.refl _⟩
    case round =>
      obtain ⟨k, hk, rfl, hx, hg⟩ := hrel
      by_cases l : k < xs.length
      · obtain ⟨p, o, rfl, hp, hc⟩ := a5 (by omega)
        obtain ⟨p', o', rfl, hp', hc'⟩ := b5 (by omega)
        have x1 := (grown_cell hg (p := ⟨p, o + k, none⟩) hp).trans (hc k l)
        have x2 := (grown_cell hg (p := ⟨p', o' + k, none⟩) hp').trans (hc' k (by omega))
        obtain ⟨x, hxx⟩ : ∃ x, xs.getD k 0 = x := ⟨_, rfl⟩
        obtain ⟨y, hyy⟩ : ∃ y, ys.getD k 0 = y := ⟨_, rfl⟩
        rw [hxx] at x1
        rw [hyy] at x2
        have i1 : (0 : Int) ≤ (k : Int) := by omega
        have i2 : (k : Int) < (xs.length : Int) := by omega
        have i3 : (k : Int) < (ys.length : Int) := by omega
        by_cases q : x = y
        · have E : Hid (∀ j, j < k + 1 → xs.getD j 0 = ys.getD j 0) := Lib.hid (fun j h => by
            by_cases c : j = k
            · subst c; rw [hxx, hyy, q]
            · exact hx.out j (by omega))
          clear hc hc' hxx hyy
          subst q
          go_wp2_with fail
          go_region
          go_wp2_with fail
          go_roundw
          case rel => exact ⟨k + 1, by omega, by go_num, E, hg.drew⟩
          case measure => simp [intOf]; omega
        · have T : t = false := by
            cases t with
            | false => rfl
            | true => exact absurd (by rw [← hxx, ← hyy]; exact (HE.out.1 (ht.out.1 rfl)) k l) q
          subst T
          have e1 : (x == y) = false := by simpa using q
          clear hc hc' hxx hyy
          go_wp2_with fail
          go_region
          go_wp2_with fail
          go_ret
          exact ⟨rfl, hg.drew⟩
      · have T : t = true := ht.out.2 (HE.out.2 (fun j h => hx.out j (by omega)))
        subst T
        go_wp2_with fail
        go_ret
        exact ⟨rfl, hg⟩
  · have T : t = false := by
      cases t with
      | false => rfl
      | true => exact absurd (congrArg List.length (ht.out.1 rfl)) hl
    subst T
    have e0 : ((xs.length : Int) == (ys.length : Int)) = false := by simp only [beq_eq_false_iff_ne, ne_eq]; omega
    go_enter Try.func17, Try.ntmps17
    go_wp2_with fail
    go_ret
    exact ⟨rfl, Grown.refl _⟩
theorem row8_new (w : World) (l : List Int) : Row8 (w.alloc (.cells (cell8 l).toArray 38)) w.heap.size l := heap_alloc_new w _
theorem nums_new8 (w : World) (l : List Int) (hl : l.length ≤ maxLen) (hw : Wf8 l) : IsNums .i8 (w.alloc (.cells (cell8 l).toArray 38)) (.slice (some ⟨w.heap.size, 0, none⟩) l.length l.length) l := (row8_new w l).nums hw hl
theorem nums_1 (w : World) (x : Int) (hx : (Lit.int .i8 x).wf = true) : IsNums .i8 (w.alloc (.cells #[.int .i8 x] 38)) (.slice (some ⟨w.heap.size, 0, none⟩) 1 1) [x] := nums_new8 w [x] (show 1 ≤ maxLen by decide) (by intro y hy; rw [List.mem_singleton.1 hy]; exact hx)
theorem nums_2 (w : World) (x y : Int) (hx : (Lit.int .i8 x).wf = true) (hy : (Lit.int .i8 y).wf = true) : IsNums .i8 (w.alloc (.cells #[.int .i8 x, .int .i8 y] 38)) (.slice (some ⟨w.heap.size, 0, none⟩) 2 2) [x, y] := nums_new8 w [x, y] (show 2 ≤ maxLen by decide) (by
  intro z hz
  simp only [List.mem_cons, List.not_mem_nil, or_false] at hz
  rcases hz with rfl | rfl
  · exact hx
  · exact hy)
/-- The same with the answers as letters. -/
theorem write_at (w : World) (B R : Nat) (l : List Int) (h : MemAt w B R l) (a : Int) (v : Value) (xs : List Int) (hx : IsNums .i8 w v xs) (i : Nat) (ha : a = i) (hi : i + xs.length ≤ l.length) :
    Calls Try.prog 13 #[.pointer (some ⟨B, 0, none⟩), .int .i64 a, v] w fun e w' => e = .returned (.int .i64 0) ∧ MemAt w' B R (putM l xs i) ∧ But R (R + 1) w w' := by
  subst ha
  have c : okM l.length i xs.length = true := okM_iff.2 ⟨i, xs.length, rfl, rfl, hi⟩
  have := write_any w B R l h i v xs hx
  rwa [if_pos c, if_pos c, Int.toNat_natCast] at this
theorem write_no (w : World) (B R : Nat) (l : List Int) (h : MemAt w B R l) (a : Int) (v : Value) (xs : List Int) (hx : IsNums .i8 w v xs) (c : okM l.length a xs.length = false) :
    Calls Try.prog 13 #[.pointer (some ⟨B, 0, none⟩), .int .i64 a, v] w fun e w' => e = .returned (.int .i64 23) ∧ MemAt w' B R l ∧ But R (R + 1) w w' := by
  have := write_any w B R l h a v xs hx
  rwa [if_neg (by simp [c]), if_neg (by simp [c])] at this
set_option maxHeartbeats 2000000 in
theorem shown_any (w : World) : Calls Try.prog 8 #[] w fun e w' => e = .returned (.bool true) ∧ Past w w' := by
  go_enter Try.func8, Try.ntmps8
  go_upto_region 4 with (go_at_call 9; refine (new_any _ _).mono ?_; rintro e w1 ⟨B, R, q1, rfl, h1, g1⟩)
  have h1' : MemAt w1 B R [0, 0, 0, 0] := h1
  clear h1
  have h2 := h1'.grow ((Past.refl w1).alloc (.cells #[.int .i8 5, .int .i8 6] 38))
  have n2 := nums_2 w1 5 6 (by decide) (by decide)
  have H2 := Lib.hid h2
  have N2 := Lib.hid n2
  clear h2 n2
  go_upto_region 5 with (go_at_call 13; refine (write_at _ _ _ _ H2.out _ _ _ N2.out 2 rfl (by decide)).mono ?_; rintro e w3 ⟨rfl, h3, g3⟩)
  have h3' : MemAt w3 B R [0, 0, 5, 6] := h3
  clear h3
  go_upto_region 6 with (go_at_call 15; refine (read_ok _ _ _ _ h3' 1 3 (by decide)).mono ?_; rintro e w4 ⟨P, q4, rfl, r4, g4⟩)
  have h4 := h3'.grow g4
  have r4' : Row8 w4 P [0, 5, 6] := r4
  clear r4
  have c0 := r4'.cell (i := 0) (by decide)
  have c1 := r4'.cell (i := 1) (by decide)
  have c2 := r4'.cell (i := 2) (by decide)
  go_wp2_with (go_at_call 15; refine (read_no _ _ _ _ h4 2 3 (by decide) (by decide)).mono ?_; rintro e w5 ⟨rfl, rfl⟩)
  go_ret
  exact ⟨rfl, (g3.past (g1.alloc _) q1.out.1).trans g4⟩
end Go.Proofs.Ytlpcppdpodedmaa
