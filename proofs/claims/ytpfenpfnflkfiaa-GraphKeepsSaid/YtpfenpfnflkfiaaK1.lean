/- GraphKeeps in numbers. -/
import Derived.Test.YtpfenpfnflkfiaaP1
import Derived.Test.YtpfenpfnflkfiaaG12
namespace Go.Proofs.Ytpfenpfnflkfiaa
open Go.ChangeShapes Go.WideShapes Go.ChangeAt Go.RowKit
set_option linter.unusedVariables false

/-- The law's nodes. -/
def keepN (i : Nat) (k s z : Int) (v : ValD) : NodeD :=
  if i = 0 then ⟨4, [], k, s, 0, 0, 1, 0, z, 0, 0, 0, [], []⟩ else
  if i = 1 then ⟨5, [], k, s, 0, 0, 1, 0, z, 0, 0, 0, [], []⟩ else
  if i = 2 then ⟨8, [], 0, 0, 0, 0, 1, 0, z, 0, 0, 0, [], []⟩ else ⟨11, [], 0, 0, 0, 0, 1, 0, z, v.h, v.w, v.c, [], []⟩
noncomputable def keepH (i : Nat) (k s x : Int) : Int := if i < 2 then outI x k s 0 else x

theorem keep_has (i : Nat) (k s z : Int) (v : ValD) : hasOp (keepN i k s z v).op := by
  unfold keepN hasOp
  repeat' split
  all_goals (dsimp only; omega)

theorem keep_alike {x : ValD} : alikeS [x] = (x.h, x.w, x.c) := by
  unfold alikeS
  rw [if_pos]
  · rfl
  · exact below_one (p := fun j => shD ([x].getD j default) = shD ([x].getD 0 default)) rfl

theorem keep_made (i : Nat) (k s z : Int) (v : ValD) : madeS (keepN i k s z v) [v] = (keepH i k s v.h, keepH i k s v.w, v.c) := by
  unfold keepN keepH
  by_cases h0 : i = 0
  · subst h0; simp [madeS]
  by_cases h1 : i = 1
  · subst h1; simp [madeS]
  by_cases h2 : i = 2
  · subst h2; simp [madeS, keep_alike]
  · rw [if_neg h0, if_neg h1, if_neg h2, if_neg (by omega), if_neg (by omega)]; simp [madeS]

theorem keep_want (i : Nat) (k s z c : Int) (v : ValD) : wantS (keepN i k s z v) v c = (0, 0) := by
  unfold keepN
  repeat' split
  all_goals simp [wantS]

theorem keep_lens (i : Nat) (k s z : Int) (v : ValD) : (keepN i k s z v).ws = [] ∧ (keepN i k s z v).bs = [] ∧ (keepN i k s z v).zero = z ∧ (keepN i k s z v).ins = [] := by
  unfold keepN
  repeat' split
  all_goals simp

theorem keep_takes {i : Nat} {k s z : Int} {v : ValD} (k1 : 1 ≤ k) (k2 : k ≤ 3) (s1 : 1 ≤ s) (s2 : s ≤ 2) (z1 : -128 ≤ z) (z2 : z ≤ 127) : takesP (opD (keepN i k s z v).op) (keepN i k s z v) [v] ↔ v.z = z := by
  unfold takesP
  have hv : ([v].length : Int) = (opD (keepN i k s z v).op).vals := by
    unfold keepN
    repeat' split
    all_goals rfl
  have hk : (opD (keepN i k s z v).op).keeps = true := by
    unfold keepN
    repeat' split
    all_goals rfl
  have hsc : scaledP (keepN i k s z v) := by
    unfold keepN scaledP
    repeat' split
    all_goals (dsimp only; omega)
  have hst : setP (opD (keepN i k s z v).op) (keepN i k s z v) := by
    unfold keepN setP
    by_cases h0 : i = 0
    · subst h0; simp [opD]; omega
    by_cases h1 : i = 1
    · subst h1; simp [opD]; omega
    by_cases h2 : i = 2
    · subst h2; simp [opD]
    · rw [if_neg h0, if_neg h1, if_neg h2]; simp [opD]
  rw [(keep_lens i k s z v).2.2.1]
  constructor
  · intro h
    apply Classical.byContradiction
    intro c
    exact h.2.1 0 (by simp) ⟨hk, by simpa using c⟩
  · intro h
    refine ⟨hv, fun j hj f => ?_, hsc, hst⟩
    simp only [List.length_cons, List.length_nil] at hj
    obtain rfl : j = 0 := by omega
    exact f.2 (by simpa using h)

theorem keep_no {i : Nat} {k s z : Int} {v : ValD} (k1 : 1 ≤ k) (k2 : k ≤ 3) (s1 : 1 ≤ s) (s2 : s ≤ 2) (z1 : -128 ≤ z) (z2 : z ≤ 127) (h : z ≠ v.z) : valueE (keepN i k s z v) [v] = 11 :=
  valueE_mk11 (fun f => h ((keep_takes k1 k2 s1 s2 z1 z2).mp f.2).symm)

theorem keep_none {i : Nat} {k s z : Int} {v : ValD} (k1 : 1 ≤ k) (k2 : k ≤ 3) (s1 : 1 ≤ s) (s2 : s ≤ 2) (z1 : -128 ≤ z) (z2 : z ≤ 127) (h : z = v.z) (h0 : keepH i k s v.h = 0 ∨ keepH i k s v.w = 0) : valueE (keepN i k s z v) [v] = 10 := by
  refine valueE_mk10' ⟨keep_has _ _ _ _ _, (keep_takes k1 k2 s1 s2 z1 z2).mpr h.symm⟩ ?_
  rw [keep_made]
  unfold mayT mayS
  dsimp only
  omega

theorem keepH_bd {i : Nat} {k s x : Int} (x1 : 1 ≤ x) (x2 : x ≤ 16) (k1 : 1 ≤ k) (k2 : k ≤ 3) (s1 : 1 ≤ s) (s2 : s ≤ 2) : 0 ≤ keepH i k s x ∧ keepH i k s x ≤ 16 := by
  unfold keepH
  split
  · by_cases w : mayWin x k s 0
    · rw [outI_yes w]
      obtain ⟨_, _, _, _, _, _, _, _, w9⟩ := w
      have e : s = 1 ∨ s = 2 := by omega
      rcases e with rfl | rfl <;> omega
    · rw [outI_no w]; omega
  · omega

theorem keep_yes {i : Nat} {k s z : Int} {v : ValD} (k1 : 1 ≤ k) (k2 : k ≤ 3) (s1 : 1 ≤ s) (s2 : s ≤ 2) (z1 : -128 ≤ z) (z2 : z ≤ 127) (m : mayV v) (h : z = v.z) (h0 : ¬ (keepH i k s v.h = 0 ∨ keepH i k s v.w = 0)) : valueE (keepN i k s z v) [v] = 0 ∧ valueV (keepN i k s z v) [v] = ⟨keepH i k s v.h, keepH i k s v.w, v.c, z⟩ := by
  obtain ⟨m1, m2, m3, m4, m5, m6⟩ := id m
  have b1 := keepH_bd (i := i) m1 m2 k1 k2 s1 s2
  have b2 := keepH_bd (i := i) m3 m4 k1 k2 s1 s2
  have E : valueE (keepN i k s z v) [v] = 0 := by
    refine valueE_mk0 ⟨keep_has _ _ _ _ _, (keep_takes k1 k2 s1 s2 z1 z2).mpr h.symm⟩ (below_one m) ?_ ?_ ?_ ?_
    · rw [keep_made]
      unfold mayT mayS
      dsimp only
      omega
    · rw [(keep_lens i k s z v).1]
      show _ = (wantS (keepN i k s z v) v _).1
      rw [keep_want]
      rfl
    · rw [(keep_lens i k s z v).2.1]
      show _ = (wantS (keepN i k s z v) v _).2
      rw [keep_want]
      rfl
    · rw [(keep_lens i k s z v).2.1]
      simp
  refine ⟨E, ?_⟩
  rw [valueV_mk E, keep_made, (keep_lens i k s z v).2.2.1]
end Go.Proofs.Ytpfenpfnflkfiaa
