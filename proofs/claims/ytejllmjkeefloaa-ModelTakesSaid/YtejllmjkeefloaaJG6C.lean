/- graph: opOf, 9, 10, 11, 12, no. What Value answers at the examples and pairs of the laws: plain numbers. Layer 8 in numbers: May, field by field. The reference of layer 3: ints, SameValues. -/
import Derived.Test.YtejllmjkeefloaaJG6
import Derived.Test.YtejllmjkeefloaaJV1
import Derived.OpenShut
import Derived.Deep.QuietTactic
import Derived.BigQuiet
import Derived.Test.YtejllmjkeefloaaJRead
namespace Go.Proofs.Ytejllmjkeefloaa
open Go.ChangeShapes Go.WideShapes Go.ChangeAt Go.RowKit
set_option maxRecDepth 20000
set_option linter.unusedVariables false

set_option maxHeartbeats 2000000 in
theorem opOf_9 (w : World) : Calls Try.prog 99 #[.int .i64 9] w (Made0 ⟨1, 0, 0, 0, 0, 1, 1, 0, 0, false, true⟩ 118 132 (.int .i64 0) w) := by
  go_enter Try.func99, Try.ntmps99
  go_wp2_with (first | (go_at_call 116; with_reducible refine (always_any _ _).mono ?_; rintro e w1 ⟨rfl, rfl⟩) | (go_at_call 108; with_reducible refine (slid_any _ _).mono ?_; rintro e w1 ⟨rfl, rfl⟩) | (go_at_call 110; with_reducible refine (ofChannels_any _ _).mono ?_; rintro e w1 ⟨rfl, rfl⟩))
  exact bodyPost_ret (by simp [results, Try.results99, go_sem]; rfl) rfl ⟨_, rfl, by go_cell, by simp, by go_grown⟩
set_option maxHeartbeats 2000000 in
theorem opOf_10 (w : World) : Calls Try.prog 99 #[.int .i64 10] w (Made0 ⟨2, 0, 0, 0, 0, 0, 0, 0, 0, false, true⟩ 119 132 (.int .i64 0) w) := by
  go_enter Try.func99, Try.ntmps99
  go_wp2_with (first | (go_at_call 116; with_reducible refine (always_any _ _).mono ?_; rintro e w1 ⟨rfl, rfl⟩) | (go_at_call 108; with_reducible refine (slid_any _ _).mono ?_; rintro e w1 ⟨rfl, rfl⟩) | (go_at_call 110; with_reducible refine (ofChannels_any _ _).mono ?_; rintro e w1 ⟨rfl, rfl⟩))
  exact bodyPost_ret (by simp [results, Try.results99, go_sem]; rfl) rfl ⟨_, rfl, by go_cell, by simp, by go_grown⟩
set_option maxHeartbeats 2000000 in
theorem opOf_11 (w : World) : Calls Try.prog 99 #[.int .i64 11] w (Made0 ⟨1, 0, 0, 0, 0, 0, 0, 0, 0, true, true⟩ 120 132 (.int .i64 0) w) := by
  go_enter Try.func99, Try.ntmps99
  go_wp2_with (first | (go_at_call 116; with_reducible refine (always_any _ _).mono ?_; rintro e w1 ⟨rfl, rfl⟩) | (go_at_call 108; with_reducible refine (slid_any _ _).mono ?_; rintro e w1 ⟨rfl, rfl⟩) | (go_at_call 110; with_reducible refine (ofChannels_any _ _).mono ?_; rintro e w1 ⟨rfl, rfl⟩))
  exact bodyPost_ret (by simp [results, Try.results99, go_sem]; rfl) rfl ⟨_, rfl, by go_cell, by simp, by go_grown⟩
set_option maxHeartbeats 2000000 in
theorem opOf_12 (w : World) : Calls Try.prog 99 #[.int .i64 12] w (Made0 ⟨1, 0, 0, 0, 0, 0, 0, 0, 0, false, false⟩ 117 132 (.int .i64 256) w) := by
  go_enter Try.func99, Try.ntmps99
  go_wp2_with (first | (go_at_call 116; with_reducible refine (always_any _ _).mono ?_; rintro e w1 ⟨rfl, rfl⟩) | (go_at_call 108; with_reducible refine (slid_any _ _).mono ?_; rintro e w1 ⟨rfl, rfl⟩) | (go_at_call 110; with_reducible refine (ofChannels_any _ _).mono ?_; rintro e w1 ⟨rfl, rfl⟩))
  exact bodyPost_ret (by simp [results, Try.results99, go_sem]; rfl) rfl ⟨_, rfl, by go_cell, by simp, by go_grown⟩
def NoOp (w : World) (e : Ending) (w' : World) : Prop := e = .returned (.tuple #[opV ⟨0, 0, 0, 0, 0, 0, 0, 0, 0, false, false⟩ .nilFunc .nilFunc, .bool false]) ∧ Grown w w'
set_option maxHeartbeats 2000000 in
theorem opOf_no (o : Int) (w : World) (h : ¬ (1 ≤ o ∧ o ≤ 12)) : Calls Try.prog 99 #[.int .i64 o] w (NoOp w) := by
  have b1 : (o == 1) = false := by simp; omega
  have b2 : (o == 2) = false := by simp; omega
  have b3 : (o == 3) = false := by simp; omega
  have b4 : (o == 4) = false := by simp; omega
  have b5 : (o == 5) = false := by simp; omega
  have b6 : (o == 6) = false := by simp; omega
  have b7 : (o == 7) = false := by simp; omega
  have b8 : (o == 8) = false := by simp; omega
  have b9 : (o == 9) = false := by simp; omega
  have b10 : (o == 10) = false := by simp; omega
  have b11 : (o == 11) = false := by simp; omega
  have b12 : (o == 12) = false := by simp; omega
  clear h
  go_enter Try.func99, Try.ntmps99
  go_wp2_with fail
  exact bodyPost_ret (by simp [results, Try.results99, go_sem]; rfl) rfl ⟨rfl, by go_grown⟩
end Go.Proofs.Ytejllmjkeefloaa
namespace Go.Proofs.Ytejllmjkeefloaa
open Go.ChangeShapes Go.WideShapes Go.ChangeAt Go.RowKit
set_option linter.unusedVariables false

theorem valueE_mk11 {n : NodeD} {vs : List ValD} (h : ¬ (hasOp n.op ∧ takesP (opD n.op) n vs)) : valueE n vs = 11 := by unfold valueE; rw [if_pos h]
theorem valueE_mk10 {n : NodeD} {vs : List ValD} (h : hasOp n.op ∧ takesP (opD n.op) n vs) (k : ¬ ∀ j, j < vs.length → mayV (vs.getD j default)) : valueE n vs = 10 := by unfold valueE; rw [if_neg (fun f => f h), if_pos k]
theorem valueE_mk10' {n : NodeD} {vs : List ValD} (h : hasOp n.op ∧ takesP (opD n.op) n vs) (m : ¬ mayT (madeS n vs)) : valueE n vs = 10 := by
  by_cases k : ∀ j, j < vs.length → mayV (vs.getD j default)
  · unfold valueE; rw [if_neg (fun f => f h), if_neg (fun f => f k), if_pos m]
  · exact valueE_mk10 h k
theorem below_one {p : Nat → Prop} (h : p 0) : ∀ j, j < 1 → p j := fun j hj => by
  obtain rfl : j = 0 := by omega
  exact h
theorem below_two {p : Nat → Prop} (h : p 0) (k : p 1) : ∀ j, j < 2 → p j := fun j hj => by
  match j, hj with
  | 0, _ => exact h
  | 1, _ => exact k
theorem alike_two {a b : ValD} (h : a.h = b.h ∧ a.w = b.w ∧ a.c = b.c) : alikeS [a, b] = (a.h, a.w, a.c) := by
  unfold alikeS
  rw [if_pos]
  · rfl
  · exact below_two (p := fun j => shD ([a, b].getD j default) = shD ([a, b].getD 0 default)) rfl (by simp [shD, h.1, h.2.1, h.2.2])
theorem alike_not {a b : ValD} (h : ¬ (a.h = b.h ∧ a.w = b.w ∧ a.c = b.c)) : alikeS [a, b] = (0, 0, 0) := by
  unfold alikeS
  rw [if_neg]
  intro k
  have := k 1 (by simp)
  simp only [shD, List.getD, List.getElem?_cons_succ, List.getElem?_cons_zero, Option.getD_some, Prod.mk.injEq] at this
  exact h ⟨this.1.symm, this.2.1.symm, this.2.2.symm⟩
end Go.Proofs.Ytejllmjkeefloaa
namespace Go.Proofs.Ytejllmjkeefloaa.Q8
open Go.ChangeShapes Go.WideShapes Go.ChangeAt Go.RowKit
set_option linter.unusedVariables false
/-- What is left of May's answer at a field. -/
def goE (fs : List Fld) (c : List Int) : Int := if mayGo fs c then 0 else 1
theorem mayE_kind {c : List Int} (h : kindP (c.getD 0 0)) : mayE c = goE (fldsD (c.getD 0 0)) c := by
  unfold mayE goE
  by_cases q : mayGo (fldsD (c.getD 0 0)) c
  · rw [if_pos ⟨h, q⟩, if_pos q]
  · rw [if_neg (fun k => q k.2), if_neg q]
theorem mayE_none {c : List Int} (h : ¬ kindP (c.getD 0 0)) : mayE c = 1 := if_neg (fun k => h k.1)
theorem goE_yes {f : Fld} {fs : List Fld} {c : List Int} (h : inF f c) : goE (f :: fs) c = goE fs (c.set f.pos 0) := by
  unfold goE
  by_cases q : mayGo fs (c.set f.pos 0)
  · rw [if_pos ⟨h, q⟩, if_pos q]
  · rw [if_neg (fun k => q k.2), if_neg q]
theorem goE_no {f : Fld} {fs : List Fld} {c : List Int} (h : ¬ inF f c) : goE (f :: fs) c = 1 := if_neg (fun k => h k.1)
theorem goE_nil (c : List Int) : goE [] c = if c.tail = List.replicate 13 0 then 0 else 1 := by
  unfold goE
  by_cases q : bareP c
  · exact (if_pos q).trans (if_pos q).symm
  · exact (if_neg q).trans (if_neg q).symm
theorem mayE_ok {c : List Int} : mayE c = 0 ↔ mayD c := by unfold mayE; split <;> simp_all
theorem fldsD_len (k : Int) : (fldsD k).length ≤ 10 := by
  unfold fldsD
  split
  · decide
  split
  · decide
  split
  · decide
  split
  · decide
  · decide
end Go.Proofs.Ytejllmjkeefloaa.Q8
namespace Go.Proofs.Ytejllmjkeefloaa
open Go.ChangeShapes Go.WideShapes Go.ChangeAt Go.RowKit
set_option linter.unusedVariables false

theorem getD_ext {xs ys : List Int} (h : xs.length = ys.length) : xs = ys ↔ ∀ j, j < xs.length → xs.getD j 0 = ys.getD j 0 := by
  constructor
  · rintro rfl j _; rfl
  · intro k
    refine List.ext_getElem h (fun i h1 h2 => ?_)
    have := k i h1
    simpa [List.getD, h1, h2] using this
set_option maxHeartbeats 1000000 in
theorem ints_any (w : World) (v u : Value) (xs ys : List Int) (t : Bool) (hv : IsNums .i64 w v xs) (hu : IsNums .i64 w u ys) (ht : Hid (t = true ↔ xs = ys)) :
    Calls Try.prog 30 #[v, u] w fun e w' => e = .returned (.bool t) ∧ Grown w w' := by
  obtain ⟨A, c1, rfl, a1, a2, a3, a4, a5⟩ := hv
  obtain ⟨B, c2, rfl, b1, b2, b3, b4, b5⟩ := hu
  have hm : maxLen ≤ 9223372036854775807 := by decide
  have hl1 : xs.length ≤ 9223372036854775807 := by omega
  have hl2 : ys.length ≤ 9223372036854775807 := by omega
  clear hm a2 b2
  by_cases hl : xs.length = ys.length
  · have HE := Lib.hid (getD_ext hl)
    have e0 : ((xs.length : Int) == (ys.length : Int)) = true := by simp only [beq_iff_eq]; omega
    go_enter Try.func30, Try.ntmps30
    go_wp2_with fail
    go_loopw [5] (fun i wr => ∃ k : Nat, k ≤ xs.length ∧ i = .int .i64 k ∧ Hid (∀ j, j < k → xs.getD j 0 = ys.getD j 0) ∧ Grown w wr) (fun i _ => xs.length - (intOf i).toNat)
    case atStart => exact ⟨0, by omega, rfl, Lib.hid (fun j h => by omega), Grown.refl _⟩
    case round =>
      obtain ⟨k, hk, rfl, hx, hg⟩ := hrel
      by_cases l : k < xs.length
      · obtain ⟨p, o, rfl, hp, hc⟩ := a5 (by omega)
        obtain ⟨p', o', rfl, hp', hc'⟩ := b5 (by omega)
        have x1 := (grown_cell hg (p := ⟨p, o + k, none⟩) hp).trans (hc k l)
        have x2 := (grown_cell hg (p := ⟨p', o' + k, none⟩) hp').trans (hc' k (by omega))
        obtain ⟨x, hxx⟩ : ∃ x, xs.getD k 0 = x := ⟨_, rfl⟩
        obtain ⟨y, hyy⟩ : ∃ y, ys.getD k 0 = y := ⟨_, rfl⟩
        rw [hxx] at x1
        rw [hyy] at x2
        have i1 : (0 : Int) ≤ (k : Int) := by omega
        have i2 : (k : Int) < (xs.length : Int) := by omega
        have i3 : (k : Int) < (ys.length : Int) := by omega
        by_cases q : x = y
        · have E : Hid (∀ j, j < k + 1 → xs.getD j 0 = ys.getD j 0) := Lib.hid (fun j h => by
            by_cases c : j = k
            · subst c; rw [hxx, hyy, q]
            · exact hx.out j (by omega))
          clear hc hc' hxx hyy
          subst q
          go_wp2_with fail
          go_region
          go_wp2_with fail
          go_roundw
          case rel => exact ⟨k + 1, by omega, by go_num, E, hg.drew⟩
          case measure => simp [intOf]; omega
        · have T : t = false := by
            cases t with
            | false => rfl
            | true => exact absurd (by rw [← hxx, ← hyy]; exact (HE.out.1 (ht.out.1 rfl)) k l) q
          subst T
          have e1 : (x == y) = false := by simpa using q
          clear hc hc' hxx hyy
          go_wp2_with fail
          go_region
          go_wp2_with fail
          go_ret
          exact ⟨rfl, hg.drew⟩
      · have T : t = true := ht.out.2 (HE.out.2 (fun j h => hx.out j (by omega)))
        subst T
        go_wp2_with fail
        go_ret
        exact ⟨rfl, hg⟩
  · have T : t = false := by
      cases t with
      | false => rfl
      | true => exact absurd (congrArg List.length (ht.out.1 rfl)) hl
    subst T
    have e0 : ((xs.length : Int) == (ys.length : Int)) = false := by simp only [beq_eq_false_iff_ne, ne_eq]; omega
    go_enter Try.func30, Try.ntmps30
    go_wp2_with fail
    go_ret
    exact ⟨rfl, Grown.refl _⟩
theorem vals_ext {xs ys : List ValD} (h : xs.length = ys.length) : xs = ys ↔ ∀ j, j < xs.length → xs.getD j default = ys.getD j default := by
  constructor
  · rintro rfl j _; rfl
  · intro k
    refine List.ext_getElem h (fun i h1 h2 => ?_)
    have := k i h1
    simpa [List.getD, h1, h2] using this
set_option maxHeartbeats 1000000 in
theorem vals_any (w : World) (v u : Value) (xs ys : List ValD) (t : Bool) (hv : IsVals w v xs) (hu : IsVals w u ys) (ht : Hid (t = true ↔ xs = ys)) :
    Calls Try.prog 29 #[v, u] w fun e w' => e = .returned (.bool t) ∧ Grown w w' := by
  obtain ⟨A, c1, rfl, a1, a2, a3, a4, a5⟩ := hv
  obtain ⟨B, c2, rfl, b1, b2, b3, b4, b5⟩ := hu
  have hm : maxLen ≤ 9223372036854775807 := by decide
  have hl1 : xs.length ≤ 9223372036854775807 := by omega
  have hl2 : ys.length ≤ 9223372036854775807 := by omega
  clear hm a2 b2
  by_cases hl : xs.length = ys.length
  · have HE := Lib.hid (vals_ext hl)
    have e0 : ((xs.length : Int) == (ys.length : Int)) = true := by simp only [beq_iff_eq]; omega
    go_enter Try.func29, Try.ntmps29
    go_wp2_with fail
    go_loopw [5] (fun i wr => ∃ k : Nat, k ≤ xs.length ∧ i = .int .i64 k ∧ Hid (∀ j, j < k → xs.getD j default = ys.getD j default) ∧ Grown w wr) (fun i _ => xs.length - (intOf i).toNat)
    case atStart => exact ⟨0, by omega, rfl, Lib.hid (fun j h => by omega), Grown.refl _⟩
    case round =>
      obtain ⟨k, hk, rfl, hx, hg⟩ := hrel
      by_cases l : k < xs.length
      · obtain ⟨p, o, rfl, hp, hc⟩ := a5 (by omega)
        obtain ⟨p', o', rfl, hp', hc'⟩ := b5 (by omega)
        obtain ⟨m0, m1, m2, m3⟩ := (hc k l).grow hp (Grown.past hg)
        obtain ⟨n0, n1, n2, n3⟩ := (hc' k (by omega)).grow hp' (Grown.past hg)
        obtain ⟨x, hxx⟩ : ∃ x, xs.getD k default = x := ⟨_, rfl⟩
        obtain ⟨y, hyy⟩ : ∃ y, ys.getD k default = y := ⟨_, rfl⟩
        rw [hxx] at m0 m1 m2 m3
        rw [hyy] at n0 n1 n2 n3
        obtain ⟨xh, xw, xc, xz⟩ := x
        obtain ⟨yh, yw, yc, yz⟩ := y
        simp only at m0 m1 m2 m3 n0 n1 n2 n3
        have i1 : (0 : Int) ≤ (k : Int) := by omega
        have i2 : (k : Int) < (xs.length : Int) := by omega
        have i3 : (k : Int) < (ys.length : Int) := by omega
        by_cases q : (⟨xh, xw, xc, xz⟩ : ValD) = ⟨yh, yw, yc, yz⟩
        · have E : Hid (∀ j, j < k + 1 → xs.getD j default = ys.getD j default) := Lib.hid (fun j h => by
            by_cases c : j = k
            · subst c; rw [hxx, hyy, q]
            · exact hx.out j (by omega))
          clear hc hc' hxx hyy
          simp only [ValD.mk.injEq] at q
          obtain ⟨rfl, rfl, rfl, rfl⟩ := q
          go_wp2_with fail
          go_region
          go_wp2_with fail
          go_roundw
          case rel => exact ⟨k + 1, by omega, by go_num, E, hg.drew⟩
          case measure => simp [intOf]; omega
        · have T : t = false := by
            cases t with
            | false => rfl
            | true => exact absurd (by rw [← hxx, ← hyy]; exact (HE.out.1 (ht.out.1 rfl)) k l) q
          subst T
          clear hc hc' hxx hyy
          simp only [ValD.mk.injEq] at q
          by_cases q1 : xh = yh
          · subst q1
            by_cases q2 : xw = yw
            · subst q2
              by_cases q3 : xc = yc
              · subst q3
                have q4 : ¬ xz = yz := fun e => q ⟨rfl, rfl, rfl, e⟩
                go_wp2_with fail
                go_region
                go_wp2_with fail
                go_ret
                exact ⟨rfl, hg.drew⟩
              · go_wp2_with fail
                go_region
                go_wp2_with fail
                go_ret
                exact ⟨rfl, hg.drew⟩
            · go_wp2_with fail
              go_region
              go_wp2_with fail
              go_ret
              exact ⟨rfl, hg.drew⟩
          · go_wp2_with fail
            go_region
            go_wp2_with fail
            go_ret
            exact ⟨rfl, hg.drew⟩
      · have T : t = true := ht.out.2 (HE.out.2 (fun j h => hx.out j (by omega)))
        subst T
        go_wp2_with fail
        go_ret
        exact ⟨rfl, hg⟩
  · have T : t = false := by
      cases t with
      | false => rfl
      | true => exact absurd (congrArg List.length (ht.out.1 rfl)) hl
    subst T
    have e0 : ((xs.length : Int) == (ys.length : Int)) = false := by simp only [beq_eq_false_iff_ne, ne_eq]; omega
    go_enter Try.func29, Try.ntmps29
    go_wp2_with fail
    go_ret
    exact ⟨rfl, Grown.refl _⟩
end Go.Proofs.Ytejllmjkeefloaa
