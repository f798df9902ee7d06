/- The reader of an image: a place off the front. slices.Equal of commands. slices.Equal over values. May and Put of an image. -/
import Derived.Deep.DeepCutAuto
import Derived.Test.YtejllmjkeefloaaGreatKC1
import Derived.Test.YtejllmjkeefloaaGreatKV2
import Derived.Test.YtejllmjkeefloaaGreatKSh1A
import Derived.Test.YtejllmjkeefloaaGreatKL0
import Derived.Test.YtejllmjkeefloaaGreatKA3
import Derived.Test.YtejllmjkeefloaaGreatKP1
namespace Go.Proofs.YtejllmjkeefloaaGreat
open Go.ChangeShapes Go.WideShapes Go.ChangeAt Go.RowKit
set_option maxRecDepth 20000
set_option linter.unusedVariables false
set_option linter.unusedSimpArgs false

theorem or_place (a b : Int) (a0 : 0 ≤ a) (a1 : a < 256) (b0 : 0 ≤ b) (b1 : b < 256) : bits .or .i64 (a * 65536) (b * 256) = (256 * a + b) * 256 := by
  obtain ⟨m, rfl⟩ : ∃ m : Nat, a = m := ⟨a.toNat, by omega⟩
  obtain ⟨d, rfl⟩ : ∃ m : Nat, b = m := ⟨b.toNat, by omega⟩
  have h2 : (BitVec.ofInt 64 ((d : Int) * 256)).toNat = d <<< 8 := by
    rw [BitVec.toNat_ofInt, Nat.shiftLeft_eq]
    omega
  have h3 : (BitVec.ofInt 64 ((m : Int) * 65536)).toNat = (m <<< 8) <<< 8 := by
    rw [BitVec.toNat_ofInt, Nat.shiftLeft_eq, Nat.shiftLeft_eq]
    omega
  show IntKind.i64.wrap ((BitVec.ofInt 64 ((m : Int) * 65536) ||| BitVec.ofInt 64 ((d : Int) * 256)).toNat : Int) = _
  rw [BitVec.toNat_or, h2, h3, ← Nat.shiftLeft_or_distrib, ← Nat.shiftLeft_add_eq_or_of_lt (by omega), Nat.shiftLeft_eq, Nat.shiftLeft_eq, IntKind.wrap_i64]
  omega
theorem place_any (a b c : Int) (W : World) (ha : 0 ≤ a ∧ a < 256) (hb : 0 ≤ b ∧ b < 256) (hc : 0 ≤ c ∧ c < 256) : Calls Tryz.prog 33 #[.agg #[.int .u8 a, .int .u8 b, .int .u8 c]] W fun e w' => e = .returned (.int .i64 (256 * (256 * a + b) + c)) ∧ Past W w' := by
  have o1 := or_place a b ha.1 ha.2 hb.1 hb.2
  have o2 := or_byte (256 * a + b) c (by omega) (by omega) hc.1 hc.2
  have v1 : IntKind.i64.wrap (a * 65536) = a * 65536 := IntWalk.i64_in _ (by omega)
  have v2 : IntKind.i64.wrap (b * 256) = b * 256 := IntWalk.i64_in _ (by omega)
  go_enter Tryz.func33, Tryz.ntmps33
  go_upto_region 1 with fail
  obtain ⟨Q, hQ⟩ : ∃ Q, W.heap.size = Q := ⟨_, rfl⟩
  refine opq (fun w' => (∀ o : Nat, w'.cell? ⟨Q, o, none⟩ = (#[.int .u8 a, .int .u8 b, .int .u8 c] : Array Value)[o]?) ∧ Past W w' ∧ Q + 1 ≤ w'.heap.size) (by
    subst hQ
    exact ⟨by (exact kKeep), by (exact kKeep), by (exact kKeep)⟩) ?_
  rintro w0 ⟨q0, p0, s0⟩
  try rw [hQ]
  go_wp2_with fail
  go_ret
  exact ⟨rfl, p0⟩
def TookM (l : List Int) (W : World) (e : Ending) (w' : World) : Prop :=
  (3 ≤ l.length ∧ ∃ a b c, (l.take 3 = [a, b, c]) ∧ e = .returned (.tuple #[.agg #[.int .u8 a, .int .u8 b, .int .u8 c], .int .i64 3, .int .i64 0]) ∧ Past W w') ∨
  (l.length < 3 ∧ e = .returned (.tuple #[.agg #[.int .u8 0, .int .u8 0, .int .u8 0], .int .i64 0, .int .i64 2]) ∧ Past W w')
set_option maxHeartbeats 4000000 in
theorem takeMark_any (v : Value) (l : List Int) (W : World) (h : IsNums .u8 W v l) : Calls Tryz.prog 32 #[v] W (TookM l W) := by
  obtain ⟨A, cap, rfl, h1, h2, h3, h4, h5⟩ := h
  have hm : l.length ≤ 9223372036854775807 := by unfold maxLen at h2; omega
  by_cases c : l.length < 3
  · clear h4 h5
    go_enter Tryz.func32, Tryz.ntmps32
    go_upto_region 1 with fail
    obtain ⟨Q, hQ⟩ : ∃ Q, W.heap.size = Q := ⟨_, rfl⟩
    refine opq (fun w' => (∀ o : Nat, w'.cell? ⟨Q, o, none⟩ = (#[.int .u8 0, .int .u8 0, .int .u8 0] : Array Value)[o]?) ∧ (∀ o : Nat, w'.frozen? ⟨Q, o, none⟩ = false) ∧ Past W w' ∧ Q + 1 ≤ w'.heap.size) (by
      subst hQ
      exact ⟨by (exact kKeep), by (exact kKeep), by (exact kKeep), by (exact kKeep)⟩) ?_
    rintro w0 ⟨q0, f0, p0, s0⟩
    try rw [hQ]
    go_wp2_with fail
    have b4 := box_set3 (y0 := .int .u8 0) (y1 := .int .u8 0) (y2 := .int .u8 0) q0
    have p4 : Past W (((w0.setCell ⟨Q, 0, none⟩ (.int .u8 0)).setCell ⟨Q, 1, none⟩ (.int .u8 0)).setCell ⟨Q, 2, none⟩ (.int .u8 0)) := ((p0.setCell (p := ⟨Q, 0, none⟩) (by simp only; omega) _).setCell (p := ⟨Q, 1, none⟩) (by simp only; omega) _).setCell (p := ⟨Q, 2, none⟩) (by simp only; omega) _
    clear q0 p0
    generalize (((w0.setCell ⟨Q, 0, none⟩ (.int .u8 0)).setCell ⟨Q, 1, none⟩ (.int .u8 0)).setCell ⟨Q, 2, none⟩ (.int .u8 0)) = w9 at *
    exact bodyPost_ret (v := .tuple #[.agg #[.int .u8 0, .int .u8 0, .int .u8 0], .int .i64 0, .int .i64 2]) (by simp [results, Tryz.results32, go_sem, b4]) rfl (.inr ⟨c, rfl, p4⟩)
  · obtain ⟨b, off, rfl, hb, hc⟩ := h5 (by omega)
    have z0 := hc 0 (by omega)
    have z1 := hc 1 (by omega)
    have z2 := hc 2 (by omega)
    rw [Nat.add_zero] at z0
    obtain ⟨a0, e0⟩ : ∃ x, l.getD 0 0 = x := ⟨_, rfl⟩
    obtain ⟨a1, e1⟩ : ∃ x, l.getD 1 0 = x := ⟨_, rfl⟩
    obtain ⟨a2, e2⟩ : ∃ x, l.getD 2 0 = x := ⟨_, rfl⟩
    rw [e0] at z0
    rw [e1] at z1
    rw [e2] at z2
    have ET : l.take 3 = [a0, a1, a2] := by
      match l, c with
      | [], c => simp at c
      | [_], c => simp at c
      | [_, _], c => simp at c
      | x :: y :: z :: r, _ =>
        simp only [List.getD_cons_zero, List.getD_cons_succ] at e0 e1 e2
        simp [e0, e1, e2]
    have HT := Lib.hid ET
    have d1 : decide ((l.length : Int) < 3) = false := by simp; omega
    have k0 : (0 : Int) < (l.length : Int) := by omega
    have k1 : (1 : Int) < (l.length : Int) := by omega
    have k2 : (2 : Int) < (l.length : Int) := by omega
    have k3 : 3 ≤ l.length := by omega
    clear h4 h5 hc e0 e1 e2 ET h3
    go_enter Tryz.func32, Tryz.ntmps32
    go_upto_region 1 with fail
    obtain ⟨Q, hQ⟩ : ∃ Q, W.heap.size = Q := ⟨_, rfl⟩
    refine opq (fun w' => (∀ o : Nat, w'.cell? ⟨Q, o, none⟩ = (#[.int .u8 0, .int .u8 0, .int .u8 0] : Array Value)[o]?) ∧ (∀ o : Nat, w'.frozen? ⟨Q, o, none⟩ = false) ∧ w'.cell? ⟨b, off, none⟩ = some (.int .u8 a0) ∧ w'.cell? ⟨b, off + 1, none⟩ = some (.int .u8 a1) ∧ w'.cell? ⟨b, off + 2, none⟩ = some (.int .u8 a2) ∧ Past W w' ∧ Q + 1 ≤ w'.heap.size) (by
      subst hQ
      exact ⟨by (exact kKeep), by (exact kKeep), by (exact kKeep), by (exact kKeep), by (exact kKeep), by (exact kKeep), by (exact kKeep)⟩) ?_
    rintro w0 ⟨q0, f0, z0, z1, z2, p0, s0⟩
    try rw [hQ]
    go_upto_region 3 with fail
    go_region
    all_goals
      have b4 := box_drew (box_set3 (y0 := .int .u8 a0) (y1 := .int .u8 a1) (y2 := .int .u8 a2) q0)
      have p4 : Past W (((w0.setCell ⟨Q, 0, none⟩ (.int .u8 a0)).setCell ⟨Q, 1, none⟩ (.int .u8 a1)).setCell ⟨Q, 2, none⟩ (.int .u8 a2)).drew := (((p0.setCell (p := ⟨Q, 0, none⟩) (by simp only; omega) _).setCell (p := ⟨Q, 1, none⟩) (by simp only; omega) _).setCell (p := ⟨Q, 2, none⟩) (by simp only; omega) _).drew
      clear q0 p0 z0 z1 z2
      generalize (((w0.setCell ⟨Q, 0, none⟩ (.int .u8 a0)).setCell ⟨Q, 1, none⟩ (.int .u8 a1)).setCell ⟨Q, 2, none⟩ (.int .u8 a2)).drew = w9 at *
      go_wp2_with fail
      exact bodyPost_ret (v := .tuple #[.agg #[.int .u8 a0, .int .u8 a1, .int .u8 a2], .int .i64 3, .int .i64 0]) (by simp [results, Tryz.results32, go_sem, b4]) rfl (.inl ⟨k3, a0, a1, a2, HT.out, rfl, p4⟩)
end Go.Proofs.YtejllmjkeefloaaGreat
namespace Go.Proofs.YtejllmjkeefloaaGreat.Q8
open Go.ChangeShapes Go.WideShapes Go.ChangeAt Go.RowKit
set_option maxRecDepth 20000
set_option linter.unusedVariables false
set_option linter.unusedSimpArgs false
set_option maxHeartbeats 1000000 in
theorem equal_cmds (u v : Value) (l m : List (List Int)) (W : World) (hu : IsCmds W u l) (hv : IsCmds W v m) : Calls Tryz.prog 24 #[u, v] W fun e w' => e = .returned (.bool (decide (l = m))) ∧ Past W w' := by
  have HU := Lib.hid hu
  have HV := Lib.hid hv
  obtain ⟨A, ca, rfl, a2, a3, _⟩ := hu.form
  obtain ⟨B, cb, rfl, b2, b3, _⟩ := hv.form
  have WL := Lib.hid hu.wf
  have WM := Lib.hid hv.wf
  have hm1 : l.length ≤ 9223372036854775807 := by unfold maxLen at a3; omega
  have hm2 : m.length ≤ 9223372036854775807 := by unfold maxLen at b3; omega
  clear hu hv
  by_cases hlen : l.length = m.length
  · obtain ⟨L, hL⟩ : ∃ L, l.length = L := ⟨_, rfl⟩
    have hM : m.length = L := by omega
    rw [hL] at hlen HU a2 hm1
    rw [hM] at HV b2
    obtain ⟨d, hd⟩ : ∃ d, decide (l = m) = d := ⟨_, rfl⟩
    rw [hL, hM, hd]
    have HD := Lib.hid hd
    have HL := Lib.hid hL
    have HM := Lib.hid hM
    clear hlen hL hM hd hm2
    go_enter Tryz.func24, Tryz.ntmps24
    go_wp2_with fail
    go_loopw [4, 5, 13] (fun s _ i wr => ∃ n : Nat, n ≤ L ∧ i = .int .i64 n ∧ s = .bool false ∧ Hid (l.take n = m.take n) ∧ Hid (Past W wr)) (fun _ _ i _ => L - (intOf i).toNat)
    case atStart => exact ⟨0, by omega, rfl, rfl, Lib.hid rfl, Lib.hid (Past.refl W)⟩
    case round =>
      obtain ⟨n, hnl, rfl, rfl, heq, hp⟩ := hrel
      by_cases h : n < L
      · obtain ⟨ba, oa, rfl, hba, ra⟩ := (HU.out.grow hp.out).at n (by rw [HL.out]; omega)
        obtain ⟨bb, ob, rfl, hbb, rb⟩ := (HV.out.grow hp.out).at n (by rw [HM.out]; omega)
        have wl := wfC_at WL.out (i := n) (by rw [HL.out]; omega)
        have wm := wfC_at WM.out (i := n) (by rw [HM.out]; omega)
        have nx : l.getD n [] = m.getD n [] → l.take (n + 1) = m.take (n + 1) := fun e => take_eq_next heq.out (by rw [HL.out]; omega) (by rw [HM.out]; omega) e
        have no : l.getD n [] ≠ m.getD n [] → d = false := fun e => by rw [← HD.out]; exact decide_eq_false (fun q => e (by rw [q]))
        obtain ⟨c, hc⟩ : ∃ c, l.getD n [] = c := ⟨_, rfl⟩
        obtain ⟨e, he⟩ : ∃ e, m.getD n [] = e := ⟨_, rfl⟩
        rw [hc] at ra wl nx no
        rw [he] at rb wm nx no
        have RA := Lib.hid ra
        have RB := Lib.hid rb
        have LC := Lib.hid wl.1
        have LE := Lib.hid wm.1
        have NX := Lib.hid nx
        have NO := Lib.hid no
        clear ra rb wl wm nx no hc he hba hbb
        go_upto_region 6 with fail
        refine wp_region_fill (fun w' => Hid (w'.rangeAt ba (oa + n * 14) (cellC c)) ∧ Hid (w'.rangeAt bb (ob + n * 14) (cellC e)) ∧ Hid (Past W w')) [(16, ?v17), (17, ?v18), (18, ?v19), (19, ?v20), (20, ?v21), (21, ?v22), (22, ?v23), (23, ?v24), (24, ?v25)] [16, 17, 18, 19, 20, 21, 22, 23, 24] (by kernel_rfl) (by kernel_rfl) rfl (by kernel_rfl) ⟨RA, RB, hp⟩ (fun w h => h) ?all ?fin
        case all =>
          simp only [fillA, Act.put, List.setIfInBounds_toArray, List.set_cons_zero, List.set_cons_succ]
          iterate 3 (refine owes_cons (fun w hw K hK => ?_) ?_; focus ((have hS := Lib.hid hw); go_simp; (try simp only [Act.put, List.setIfInBounds_toArray, List.set_cons_zero, List.set_cons_succ]); exact hK _ hS.out))
          refine owes_row rfl (.tmp 18) rfl ba (oa + n * 14) rfl c LC.out (fun w h => h.1.out) (by simp only [Act.put, List.setIfInBounds_toArray, List.set_cons_zero, List.set_cons_succ] <;> rfl) ?_
          iterate 3 (refine owes_cons (fun w hw K hK => ?_) ?_; focus ((have hS := Lib.hid hw); go_simp; (try simp only [Act.put, List.setIfInBounds_toArray, List.set_cons_zero, List.set_cons_succ]); exact hK _ hS.out))
          refine owes_row rfl (.tmp 22) rfl bb (ob + n * 14) rfl e LE.out (fun w h => h.2.1.out) (by simp only [Act.put, List.setIfInBounds_toArray, List.set_cons_zero, List.set_cons_succ] <;> rfl) ?_
          refine owes_neqC rfl (.tmp 19) (.tmp 23) 67 rfl c e LC.out LE.out rfl rfl (by simp only [Act.put, List.setIfInBounds_toArray, List.set_cons_zero, List.set_cons_succ] <;> rfl) ?_
          exact True.intro
        case fin =>
          rintro w8 ⟨_, _, p8⟩
          simp only [fillA, Act.put, List.setIfInBounds_toArray, List.set_cons_zero, List.set_cons_succ]
          by_cases q : c = e
          · have d1 : (!decide (c = e)) = false := by simp [q]
            have NX2 := Lib.hid (NX.out q)
            rw [d1]
            clear d1 q NX NO
            go_wp2_with fail
            go_roundw
            case rel => exact ⟨n + 1, by omega, by go_num, rfl, NX2, p8⟩
            case measure => simp [intOf]; omega
          · have d1 : (!decide (c = e)) = true := by simp [q]
            have ED := Lib.hid (NO.out q)
            rw [d1]
            clear d1 q NX NO
            go_wp2_with fail
            go_ret
            exact ⟨by rw [ED.out]; rfl, p8.out⟩
      · have e1 : l = m := by
          have q := heq.out
          rw [List.take_of_length_le (by rw [HL.out]; omega), List.take_of_length_le (by rw [HM.out]; omega)] at q
          exact q
        have ED : Hid (d = true) := Lib.hid (by rw [← HD.out]; exact decide_eq_true e1)
        clear e1 heq
        go_wp2_with fail
        go_ret
        exact ⟨by rw [ED.out]; rfl, hp.out⟩
  · have d1 : decide (l = m) = false := decide_eq_false (fun e => hlen (by rw [e]))
    have d2 : ((l.length : Int) != (m.length : Int)) = true := by simp; omega
    rw [d1]
    clear d1 hlen
    go_enter Tryz.func24, Tryz.ntmps24
    go_wp2_with fail
    go_ret
    exact ⟨rfl, Past.refl _⟩
end Go.Proofs.YtejllmjkeefloaaGreat.Q8
namespace Go.Proofs.YtejllmjkeefloaaGreat
open Go.ChangeShapes Go.WideShapes Go.ChangeAt Go.RowKit
set_option maxRecDepth 20000
set_option linter.unusedVariables false

set_option maxHeartbeats 1000000 in
theorem equal_vals (w : World) (v u : Value) (xs ys : List ValD) (t : Bool) (hv : IsVals w v xs) (hu : IsVals w u ys) (ht : Hid (t = true ↔ xs = ys)) :
    Calls Tryz.prog 58 #[v, u] w fun e w' => e = .returned (.bool t) ∧ Grown w w' := by
  obtain ⟨A, c1, rfl, a1, a2, a3, a4, a5⟩ := hv
  obtain ⟨B, c2, rfl, b1, b2, b3, b4, b5⟩ := hu
  have hm : maxLen ≤ 9223372036854775807 := by decide
  have hl1 : xs.length ≤ 9223372036854775807 := by omega
  have hl2 : ys.length ≤ 9223372036854775807 := by omega
  clear hm a2 b2
  by_cases hl : xs.length = ys.length
  · have HE := Lib.hid (vals_ext hl)
    have e0 : ((xs.length : Int) == (ys.length : Int)) = true := by simp only [beq_iff_eq]; omega
    have e9 : ((xs.length : Int) != (ys.length : Int)) = false := by simp [bne, e0]
    go_enter Tryz.func58, Tryz.ntmps58
    go_wp2_with fail
    go_loopw [5, 13] (fun _ i wr => ∃ k : Nat, k ≤ xs.length ∧ i = .int .i64 k ∧ Hid (∀ j, j < k → xs.getD j default = ys.getD j default) ∧ Grown w wr) (fun _ i _ => xs.length - (intOf i).toNat)
    case atStart => exact ⟨0, by omega, rfl, Lib.hid (fun j h => by omega), Grown.refl _⟩
    case round =>
      obtain ⟨k, hk, rfl, hx, hg⟩ := hrel
      by_cases l : k < xs.length
      · obtain ⟨p, o, rfl, hp, hc⟩ := a5 (by omega)
        obtain ⟨p', o', rfl, hp', hc'⟩ := b5 (by omega)
        obtain ⟨m0, m1, m2, m3⟩ := (hc k l).grow hp (Grown.past hg)
        obtain ⟨n0, n1, n2, n3⟩ := (hc' k (by omega)).grow hp' (Grown.past hg)
        obtain ⟨x, hxx⟩ : ∃ x, xs.getD k default = x := ⟨_, rfl⟩
        obtain ⟨y, hyy⟩ : ∃ y, ys.getD k default = y := ⟨_, rfl⟩
        rw [hxx] at m0 m1 m2 m3
        rw [hyy] at n0 n1 n2 n3
        obtain ⟨xh, xw, xc, xz⟩ := x
        obtain ⟨yh, yw, yc, yz⟩ := y
        simp only at m0 m1 m2 m3 n0 n1 n2 n3
        have i1 : (0 : Int) ≤ (k : Int) := by omega
        have i2 : (k : Int) < (xs.length : Int) := by omega
        have i3 : (k : Int) < (ys.length : Int) := by omega
        by_cases q : (⟨xh, xw, xc, xz⟩ : ValD) = ⟨yh, yw, yc, yz⟩
        · have E : Hid (∀ j, j < k + 1 → xs.getD j default = ys.getD j default) := Lib.hid (fun j h => by
            by_cases c : j = k
            · subst c; rw [hxx, hyy, q]
            · exact hx.out j (by omega))
          clear hc hc' hxx hyy
          simp only [ValD.mk.injEq] at q
          obtain ⟨rfl, rfl, rfl, rfl⟩ := q
          go_wp2_with fail
          go_region
          go_wp2_with fail
          go_roundw
          case rel => exact ⟨k + 1, by omega, by go_num, E, hg.drew⟩
          case measure => simp [intOf]; omega
        · have T : t = false := by
            cases t with
            | false => rfl
            | true => exact absurd (by rw [← hxx, ← hyy]; exact (HE.out.1 (ht.out.1 rfl)) k l) q
          subst T
          clear hc hc' hxx hyy
          simp only [ValD.mk.injEq] at q
          by_cases q1 : xh = yh
          · subst q1
            by_cases q2 : xw = yw
            · subst q2
              by_cases q3 : xc = yc
              · subst q3
                have q4 : ¬ xz = yz := fun e => q ⟨rfl, rfl, rfl, e⟩
                go_wp2_with fail
                go_region
                go_wp2_with fail
                go_ret
                exact ⟨rfl, hg.drew⟩
              · go_wp2_with fail
                go_region
                go_wp2_with fail
                go_ret
                exact ⟨rfl, hg.drew⟩
            · go_wp2_with fail
              go_region
              go_wp2_with fail
              go_ret
              exact ⟨rfl, hg.drew⟩
          · go_wp2_with fail
            go_region
            go_wp2_with fail
            go_ret
            exact ⟨rfl, hg.drew⟩
      · have T : t = true := ht.out.2 (HE.out.2 (fun j h => hx.out j (by omega)))
        subst T
        go_wp2_with fail
        go_ret
        exact ⟨rfl, hg⟩
  · have T : t = false := by
      cases t with
      | false => rfl
      | true => exact absurd (congrArg List.length (ht.out.1 rfl)) hl
    subst T
    have e0 : ((xs.length : Int) == (ys.length : Int)) = false := by simp only [beq_eq_false_iff_ne, ne_eq]; omega
    have e9 : ((xs.length : Int) != (ys.length : Int)) = true := by simp [bne, e0]
    go_enter Tryz.func58, Tryz.ntmps58
    go_wp2_with fail
    go_ret
    exact ⟨rfl, Grown.refl _⟩
end Go.Proofs.YtejllmjkeefloaaGreat
namespace Go.Proofs.YtejllmjkeefloaaGreat
open Go.ChangeShapes Go.WideShapes Go.ChangeAt Go.RowKit
set_option maxRecDepth 20000
set_option linter.unusedVariables false
set_option linter.unusedSimpArgs false

def PutI (i : ImgD) (W : World) (e : Ending) (w' : World) : Prop :=
  (mayI i = 0 ∧ ∃ B, W.heap.size ≤ B ∧ e = .returned (.tuple #[.slice (some ⟨B, 0, none⟩) ((imgB i).length + 4) ((imgB i).length + 4), .int .i64 0]) ∧ Q7.Row w' B (Q7.sealD (nats (imgB i))) ∧ Past W w') ∨
  (mayI i ≠ 0 ∧ e = .returned (.tuple #[.slice none 0 0, .int .i64 (mayI i)]) ∧ Past W w')
theorem putI_ok {i : ImgD} {W w' : World} {B : Nat} {E : Int} (h : mayI i = E) (e0 : E = 0) (hB : W.heap.size ≤ B) (r : Q7.Row w' B (Q7.sealD (nats (imgB i)))) (p : Past W w') : PutI i W (.returned (.tuple #[.slice (some ⟨B, 0, none⟩) ((imgB i).length + 4) ((imgB i).length + 4), .int .i64 0])) w' := .inl ⟨h.trans e0, B, hB, rfl, r, p⟩
theorem putI_no {i : ImgD} {W w' : World} {E : Int} (h : mayI i = E) (e0 : E ≠ 0) (p : Past W w') : PutI i W (.returned (.tuple #[.slice none 0 0, .int .i64 E])) w' := .inr ⟨by rw [h]; exact e0, by rw [h], p⟩
theorem imgB_len {i : ImgD} (h : mayI i = 0) (hz : (graphB i.g).length ≤ 500000) : (imgB i).length ≤ 999000 := by
  obtain ⟨h1, h2, e0, e1, e2⟩ := may_parts h
  have a := (makes_facts h1).1
  have b := (begins_ok (values_ok h1).1).1
  have c := h2.1
  have s := streamsB_len i 3 (fun j hj => by
    rcases (show j = 0 ∨ j = 1 ∨ j = 2 by omega) with rfl | rfl | rfl
    · exact (putE_ok e0).2.1
    · exact (putE_ok e1).2.1
    · exact (putE_ok e2).2.1)
  rw [← imgB_eq, List.length_append, headB_len]
  omega
set_option maxHeartbeats 4000000 in
theorem iput_any (i : ImgD) (v : Value) (W : World) (h : IsImg W v i) (hc : Cut i.g) (hz : (graphB i.g).length ≤ 500000) : Calls Tryz.prog 10 #[v] W (PutI i W) := by
  have LA := Lib.hid (fun w (p : Past W w) => lay_any i v w (h.grow p) hc hz)
  unfold LayI at LA
  obtain ⟨A1, c1, A2, c2, A3, c3, A4, c4, A5, c5, A6, c6, A7, c7, rfl, hg, hp, h0, h1, h2⟩ := h.form
  obtain ⟨E, hE⟩ : ∃ E, mayI i = E := ⟨_, rfl⟩
  have HZ := Lib.hid (fun h => imgB_len (i := i) h hz)
  have HE := Lib.hid hE
  rw [hE] at LA HZ
  clear h hg hp h0 h1 h2 hc hz hE
  go_enter Tryz.func10, Tryz.ntmps10
  go_upto_region 1 with fail
  obtain ⟨Q, hQ⟩ : ∃ Q, W.heap.size = Q := ⟨_, rfl⟩
  refine opq (fun w' => (∀ o : Nat, w'.cell? ⟨Q, o, none⟩ = (#[.slice A1 i.g.ins.length c1, .slice A2 i.g.nodes.length c2, .slice A3 i.g.outs.length c3, .slice A4 i.pl.length c4, .slice A5 i.s0.length c5, .slice A6 i.s1.length c6, .slice A7 i.s2.length c7] : Array Value)[o]?) ∧ Past W w' ∧ Q + 1 ≤ w'.heap.size) (by
    subst hQ
    exact ⟨by (exact kKeep), by (exact kKeep), by (exact kKeep)⟩) ?_
  rintro w0 ⟨q0, p0, s0⟩
  try rw [hQ]
  go_wp2_with (first | refine wpList_load_box rfl 32 (.tmp 1) rfl Q _ rfl q0 Tryz.underlying32 rfl (by kernel_rfl) ?_)
  refine (LA.out _ p0).mono ?_
  rintro e w1 (⟨e0, bv, rfl, nb, pp1⟩ | ⟨e0, rfl, pp1⟩)
  · have p1 := p0.trans pp1
    subst e0
    have hl := HZ.out rfl
    have NB : Hid (IsNums .u8 w1 bv (Q7.ints (nats (imgB i)))) := Lib.hid (by rw [ints_nats (imgB_bytes i)]; exact nb)
    have SE := Lib.hid (Q7.seal_any (nats (imgB i)) bv w1 NB.out (nats_bytes (imgB_bytes i)) (by rw [nats_len]; omega))
    unfold Q7.SealPost at SE
    rw [nats_len] at SE
    obtain ⟨A, cap, rfl, _, _, _, _, _⟩ := nb
    obtain ⟨S, hS⟩ : ∃ S, w1.heap.size = S := ⟨_, rfl⟩
    rw [hS] at SE
    have hWS : W.heap.size ≤ S := by have := p1.2.2.1; omega
    clear HZ LA NB hS q0
    go_wp2_with fail
    refine SE.out.mono ?_
    rintro e w2 ⟨rfl, row, pp2⟩
    have p2 := p1.trans pp2
    have RW := Lib.hid row
    clear row SE pp1 pp2
    go_wp2_with fail
    go_ret2
    exact putI_ok HE.out rfl hWS RW.out p2
  · have p1 := p0.trans pp1
    have ne : (E != 0) = true := by simpa using e0
    go_wp2_with fail
    go_ret2
    exact putI_no HE.out e0 p1
end Go.Proofs.YtejllmjkeefloaaGreat
