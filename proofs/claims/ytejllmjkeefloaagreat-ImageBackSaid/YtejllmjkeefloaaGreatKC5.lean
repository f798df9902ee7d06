/- Take: any bytes as an image, or none. What is laid down is taken as it was; with bytes turned, or one more, it is none. -/
import Derived.Deep.DeepCutAuto
import Derived.Test.YtejllmjkeefloaaGreatKC4
import Derived.Test.YtejllmjkeefloaaGreatKFix
import Derived.Test.YtejllmjkeefloaaGreatKG6C
import Derived.Test.YtejllmjkeefloaaGreatKV2
namespace Go.Proofs.YtejllmjkeefloaaGreat
open Go.ChangeShapes Go.WideShapes Go.ChangeAt Go.RowKit
set_option maxRecDepth 20000
set_option linter.unusedVariables false
set_option linter.unusedSimpArgs false

/-- What is left of bytes that are opened. -/
def openedI (ns : List Nat) : List Int := Q7.ints (ns.take (ns.length - 4))
def TookI (ns : List Nat) : Prop := (4 ≤ ns.length ∧ Q7.crc 4294967295 ns = Q7.hvs 32 4294967295) ∧ (imgR ⟨openedI ns, false⟩).2.short = false ∧ (imgR ⟨openedI ns, false⟩).2.rest = [] ∧ placedP (imgR ⟨openedI ns, false⟩).1.g (imgR ⟨openedI ns, false⟩).1.pl
def TakeI (ns : List Nat) (W : World) (e : Ending) (w' : World) : Prop :=
  (TookI ns ∧ ∃ iv, e = .returned (.tuple #[iv, .int .i64 0]) ∧ IsImg w' iv (imgR ⟨openedI ns, false⟩).1 ∧ Past W w') ∨
  (¬ TookI ns ∧ e = .returned (.tuple #[.agg #[.slice none 0 0, .slice none 0 0, .slice none 0 0, .slice none 0 0, .slice none 0 0, .slice none 0 0, .slice none 0 0], .int .i64 2]) ∧ Past W w')
theorem ints_bytes {l : List Nat} (h : Q7.Bytes l) : bytesP (Q7.ints l) := fun c hc => by
  unfold Q7.ints at hc
  obtain ⟨n, hn, rfl⟩ := List.mem_map.1 hc
  have := h n hn
  omega
theorem opened_bytes {l : List Nat} (h : Q7.Bytes l) : bytesP (openedI l) := ints_bytes (h.take _)
theorem opened_len (l : List Nat) : (openedI l).length = l.length - 4 := by unfold openedI; rw [Q7.ints_len, List.length_take]; omega
theorem imgR_g (s : Rd) : (imgR s).1.g = (gR s).1 := rfl
set_option maxHeartbeats 16000000 in
theorem itake_any (ns : List Nat) (v : Value) (W : World) (h : IsNums .u8 W v (Q7.ints ns)) (hb : Q7.Bytes ns) (hl : ns.length ≤ 1000000) : Calls Tryz.prog 6 #[v] W (TakeI ns W) := by
  have OP := Lib.hid (fun w (p : Past W w) => Q7.open_any ns v w (h.grow p) hb hl)
  unfold Q7.OpenPost at OP
  obtain ⟨Av, cv, rfl, _, _, _, _, _⟩ := h
  rw [Q7.ints_len] at OP ⊢
  have OB := Lib.hid (opened_bytes hb)
  have OL := Lib.hid (opened_len ns)
  obtain ⟨ol, hol⟩ : ∃ x, openedI ns = x := ⟨_, rfl⟩
  have HOL := Lib.hid hol
  have CU : Hid (Cut (imgR ⟨ol, false⟩).1.g) := Lib.hid (by rw [imgR_g]; exact gR_cut _ (by rw [← hol]; exact OB.out))
  rw [hol] at OB OL
  rw [show Q7.ints (ns.take (ns.length - 4)) = ol from hol] at OP
  have RD := Lib.hid (fun w B P (k : RdI w B P ⟨ol, false⟩) => image_rd B P ⟨ol, false⟩ w k (by have := OL.out; show ol.length ≤ _; omega))
  obtain ⟨r', hr⟩ : ∃ x, imgR ⟨ol, false⟩ = x := ⟨_, rfl⟩
  obtain ⟨i, r⟩ := r'
  rw [hr] at CU RD
  have HR := Lib.hid hr
  clear hr hol
  obtain ⟨Q, hQ⟩ : ∃ Q, W.heap.size = Q := ⟨_, rfl⟩
  go_enter Tryz.func6, Tryz.ntmps6
  go_upto_region 1 with fail
  refine opq (fun w' => (∀ o : Nat, w'.cell? ⟨Q, o, none⟩ = (#[.slice none 0 0, .slice none 0 0, .slice none 0 0, .slice none 0 0, .slice none 0 0, .slice none 0 0, .slice none 0 0] : Array Value)[o]?) ∧ (∀ o : Nat, w'.frozen? ⟨Q, o, none⟩ = false) ∧ Past W w' ∧ Q + 1 ≤ w'.heap.size) (by
    subst hQ
    exact ⟨by (exact kKeep), by (exact kKeep), by (exact kKeep), by simp⟩) ?_
  rintro w0 ⟨q0, f0, p0, z0⟩
  try rw [hQ]
  go_wp2_with fail
  refine (OP.out _ p0).mono ?_
  rintro e w1 H
  rcases H with ⟨o1, o2, ov, rfl, on, pp1⟩ | ⟨hT, rfl, pp1⟩
  · have q1 := box_past pp1 q0 (by omega)
    have f1 := free_past pp1 f0 (by omega)
    have p1 := p0.trans pp1
    have z1 : Q + 1 ≤ w1.heap.size := by have := pp1.2.2.1; omega
    have ON := Lib.hid on
    have TT := Lib.hid (And.intro o1 o2)
    obtain ⟨Ao, co, rfl, _, cm, _, _, k5⟩ := on
    have HK5 := Lib.hid k5
    clear q0 f0 p0 z0 pp1 OP o1 o2 k5
    obtain ⟨P, hP⟩ : ∃ P, w1.heap.size = P := ⟨_, rfl⟩
    obtain ⟨LO, hLO⟩ : ∃ n, ol.length = n := ⟨_, rfl⟩
    rw [hLO]
    rw [hLO] at ON
    have HLO := Lib.hid hLO
    go_upto_region 5 with fail
    refine opq (fun w' => (∀ o : Nat, w'.cell? ⟨Q, o, none⟩ = (#[.slice none 0 0, .slice none 0 0, .slice none 0 0, .slice none 0 0, .slice none 0 0, .slice none 0 0, .slice none 0 0] : Array Value)[o]?) ∧ (∀ o : Nat, w'.frozen? ⟨Q, o, none⟩ = false) ∧ (∀ o : Nat, w'.cell? ⟨P, o, none⟩ = (#[.slice Ao LO co, .bool false] : Array Value)[o]?) ∧ (∀ o : Nat, w'.frozen? ⟨P, o, none⟩ = false) ∧ Past W w' ∧ Past w1 w' ∧ P + 1 ≤ w'.heap.size) (by
      subst hP
      exact ⟨by (exact kKeep), by (exact kKeep), by (exact kKeep), by (exact kKeep), by (exact kKeep), by (exact kKeep), by simp⟩) ?_
    rintro w2 ⟨q2, f2, b2, g2, p2, pp2, z2⟩
    try rw [hP]
    have hQP : Q + 1 ≤ P := by omega
    have R2 : Hid (RdI w2 P P ⟨ol, false⟩) := Lib.hid (RdI.mk (by rw [hLO]; exact b2) g2 (by rw [hLO]; exact ON.out.grow pp2) (fun hp ad e => by
      obtain ⟨b, off, e2, hb2, _⟩ := HK5.out hp
      rw [e2] at e
      simp only [Option.some.injEq] at e
      subst e
      show b < P
      omega) (Nat.le_refl _) (by omega))
    clear q1 f1 p1 z1 pp2 b2 g2 hLO hP ON HK5
    go_wp2_with fail
    refine (RD.out _ _ _ R2.out).mono ?_
    rintro e w3 ⟨iv, rfl, im, r3, k3⟩
    have q3 := box_keep k3 q2 (by omega) (by omega)
    have f3 := free_keep k3 f2 (by omega) (by omega)
    have p3 := k3.past p2 (by omega)
    have z3 : P + 1 ≤ w3.heap.size := by have := k3.2.2.1; omega
    have IM := Lib.hid im
    obtain ⟨A1, c1, A2, c2, A3, c3, A4, c4, A5, c5, A6, c6, A7, c7, rfl, _, _, _, _, _⟩ := im.form
    obtain ⟨Ar, cr, br, gr, nr, _, _, _⟩ := r3
    have hml : r.rest.length ≤ 9223372036854775807 := by
      obtain ⟨_, _, e, k1, k2, _⟩ := nr
      simp only [Value.slice.injEq, true_and] at e
      obtain ⟨rfl, rfl⟩ := e
      unfold maxLen at k2
      omega
    clear q2 f2 p2 z2 R2 k3 im RD nr
    obtain ⟨X, hX⟩ : ∃ X, w3.heap.size = X := ⟨_, rfl⟩
    go_upto_region 6 with fail
    refine opq (fun w' => (∀ o : Nat, w'.cell? ⟨Q, o, none⟩ = (#[.slice none 0 0, .slice none 0 0, .slice none 0 0, .slice none 0 0, .slice none 0 0, .slice none 0 0, .slice none 0 0] : Array Value)[o]?) ∧ (∀ o : Nat, w'.frozen? ⟨Q, o, none⟩ = false) ∧ (∀ o : Nat, w'.cell? ⟨P, o, none⟩ = (#[.slice Ar r.rest.length cr, .bool r.short] : Array Value)[o]?) ∧ (∀ o : Nat, w'.cell? ⟨X, o, none⟩ = (#[.slice A1 i.g.ins.length c1, .slice A2 i.g.nodes.length c2, .slice A3 i.g.outs.length c3, .slice A4 i.pl.length c4, .slice A5 i.s0.length c5, .slice A6 i.s1.length c6, .slice A7 i.s2.length c7] : Array Value)[o]?) ∧ Past W w' ∧ Past w3 w' ∧ X + 1 ≤ w'.heap.size) (by
      subst hX
      exact ⟨by (exact kKeep), by (exact kKeep), by (exact kKeep), by (exact kKeep), by (exact kKeep), by (exact kKeep), by simp⟩) ?_
    rintro w4 ⟨q4, f4, b4, x4, p4, pp4, z4⟩
    try rw [hX]
    have hPX : P + 1 ≤ X := by omega
    have IM4 := Lib.hid (IM.out.grow pp4)
    clear q3 f3 p3 z3 pp4 br gr hX IM
    rcases Bool.eq_false_or_eq_true r.short with hs | hs
    · rw [hs] at b4
      have NT : Hid (¬ TookI ns) := Lib.hid (fun f => by have := f.2.1; rw [HOL.out, HR.out] at this; rw [hs] at this; cases this)
      clear hs x4 IM4
      go_wp2_with fail
      have q9 := box_set7 q4 (y0 := .slice none 0 0) (y1 := .slice none 0 0) (y2 := .slice none 0 0) (y3 := .slice none 0 0) (y4 := .slice none 0 0) (y5 := .slice none 0 0) (y6 := .slice none 0 0)
      have p9 := past7 (B := Q) (y0 := .slice none 0 0) (y1 := .slice none 0 0) (y2 := .slice none 0 0) (y3 := .slice none 0 0) (y4 := .slice none 0 0) (y5 := .slice none 0 0) (y6 := .slice none 0 0) p4 (by omega)
      clear q4
      generalize (((((((w4.setCell ⟨Q, 0, none⟩ (.slice none 0 0)).setCell ⟨Q, 1, none⟩ (.slice none 0 0)).setCell ⟨Q, 2, none⟩ (.slice none 0 0)).setCell ⟨Q, 3, none⟩ (.slice none 0 0)).setCell ⟨Q, 4, none⟩ (.slice none 0 0)).setCell ⟨Q, 5, none⟩ (.slice none 0 0)).setCell ⟨Q, 6, none⟩ (.slice none 0 0)) = w9 at *
      exact bodyPost_ret (v := .tuple #[.agg #[.slice none 0 0, .slice none 0 0, .slice none 0 0, .slice none 0 0, .slice none 0 0, .slice none 0 0, .slice none 0 0], .int .i64 2]) (by simp [results, Tryz.results6, go_sem, q9]) rfl (.inr ⟨NT.out, rfl, p9⟩)
    · rw [hs] at b4
      have HS := Lib.hid hs
      clear hs
      by_cases hr0 : 0 < r.rest.length
      · have d1 : decide ((r.rest.length : Int) > 0) = true := decide_eq_true (by omega)
        have NT : Hid (¬ TookI ns) := Lib.hid (fun f => by have := f.2.2.1; rw [HOL.out, HR.out] at this; simp only at this; rw [this] at hr0; simp at hr0)
        clear x4 IM4
        go_wp2_with fail
        have q9 := box_set7 q4 (y0 := .slice none 0 0) (y1 := .slice none 0 0) (y2 := .slice none 0 0) (y3 := .slice none 0 0) (y4 := .slice none 0 0) (y5 := .slice none 0 0) (y6 := .slice none 0 0)
        have p9 := past7 (B := Q) (y0 := .slice none 0 0) (y1 := .slice none 0 0) (y2 := .slice none 0 0) (y3 := .slice none 0 0) (y4 := .slice none 0 0) (y5 := .slice none 0 0) (y6 := .slice none 0 0) p4 (by omega)
        clear q4
        generalize (((((((w4.setCell ⟨Q, 0, none⟩ (.slice none 0 0)).setCell ⟨Q, 1, none⟩ (.slice none 0 0)).setCell ⟨Q, 2, none⟩ (.slice none 0 0)).setCell ⟨Q, 3, none⟩ (.slice none 0 0)).setCell ⟨Q, 4, none⟩ (.slice none 0 0)).setCell ⟨Q, 5, none⟩ (.slice none 0 0)).setCell ⟨Q, 6, none⟩ (.slice none 0 0)) = w9 at *
        exact bodyPost_ret (v := .tuple #[.agg #[.slice none 0 0, .slice none 0 0, .slice none 0 0, .slice none 0 0, .slice none 0 0, .slice none 0 0, .slice none 0 0], .int .i64 2]) (by simp [results, Tryz.results6, go_sem, q9]) rfl (.inr ⟨NT.out, rfl, p9⟩)
      · have d1 : decide ((r.rest.length : Int) > 0) = false := decide_eq_false (by omega)
        obtain ⟨t, ht⟩ := bool_any (placedP i.g i.pl)
        have PL := Lib.hid (placed_any i _ t w4 IM4.out CU.out ht)
        have HT := Lib.hid ht
        have HR0 : Hid (r.rest = []) := Lib.hid (List.eq_nil_of_length_eq_zero (by omega))
        obtain ⟨LR, hLR⟩ : ∃ n, r.rest.length = n := ⟨_, rfl⟩
        rw [hLR] at b4 d1 hr0 hml
        clear ht hLR
        go_wp2_with (first | refine wpList_load_box rfl 32 (.tmp 7) rfl X _ rfl x4 Tryz.underlying32 rfl (by kernel_rfl) ?_)
        refine PL.out.mono ?_
        rintro e w5 ⟨rfl, pp5⟩
        have q5 := box_past pp5 q4 (by omega)
        have f5 := free_past pp5 f4 (by omega)
        have x5 := box_past pp5 x4 (by omega)
        have p5 := p4.trans pp5
        have IM5 := Lib.hid (IM4.out.grow pp5)
        clear q4 f4 b4 x4 p4 pp5 IM4 PL
        cases t with
        | false =>
          have NT : Hid (¬ TookI ns) := Lib.hid (fun f => by
            have k := f.2.2.2
            rw [HOL.out, HR.out] at k
            have := HT.out.2 k
            cases this)
          clear x5 IM5
          go_wp2_with fail
          have q9 := box_set7 q5 (y0 := .slice none 0 0) (y1 := .slice none 0 0) (y2 := .slice none 0 0) (y3 := .slice none 0 0) (y4 := .slice none 0 0) (y5 := .slice none 0 0) (y6 := .slice none 0 0)
          have p9 := past7 (B := Q) (y0 := .slice none 0 0) (y1 := .slice none 0 0) (y2 := .slice none 0 0) (y3 := .slice none 0 0) (y4 := .slice none 0 0) (y5 := .slice none 0 0) (y6 := .slice none 0 0) p5 (by omega)
          clear q5
          generalize (((((((w5.setCell ⟨Q, 0, none⟩ (.slice none 0 0)).setCell ⟨Q, 1, none⟩ (.slice none 0 0)).setCell ⟨Q, 2, none⟩ (.slice none 0 0)).setCell ⟨Q, 3, none⟩ (.slice none 0 0)).setCell ⟨Q, 4, none⟩ (.slice none 0 0)).setCell ⟨Q, 5, none⟩ (.slice none 0 0)).setCell ⟨Q, 6, none⟩ (.slice none 0 0)) = w9 at *
          exact bodyPost_ret (v := .tuple #[.agg #[.slice none 0 0, .slice none 0 0, .slice none 0 0, .slice none 0 0, .slice none 0 0, .slice none 0 0, .slice none 0 0], .int .i64 2]) (by simp [results, Tryz.results6, go_sem, q9]) rfl (.inr ⟨NT.out, rfl, p9⟩)
        | true =>
          have YT : Hid (TookI ns) := Lib.hid (by
            unfold TookI
            rw [HOL.out, HR.out]
            exact ⟨TT.out, HS.out, HR0.out, HT.out.1 rfl⟩)
          have IE : Hid ((imgR ⟨openedI ns, false⟩).1 = i) := Lib.hid (by rw [HOL.out, HR.out])
          go_wp2_with (first | refine wpList_load_box rfl 32 (.tmp 7) rfl X _ rfl x5 Tryz.underlying32 rfl (by kernel_rfl) ?_)
          have q9 := box_set7 q5 (y0 := .slice A1 i.g.ins.length c1) (y1 := .slice A2 i.g.nodes.length c2) (y2 := .slice A3 i.g.outs.length c3) (y3 := .slice A4 i.pl.length c4) (y4 := .slice A5 i.s0.length c5) (y5 := .slice A6 i.s1.length c6) (y6 := .slice A7 i.s2.length c7)
          have p9 := past7 (B := Q) (y0 := .slice A1 i.g.ins.length c1) (y1 := .slice A2 i.g.nodes.length c2) (y2 := .slice A3 i.g.outs.length c3) (y3 := .slice A4 i.pl.length c4) (y4 := .slice A5 i.s0.length c5) (y5 := .slice A6 i.s1.length c6) (y6 := .slice A7 i.s2.length c7) p5 (by omega)
          have IM9 := Lib.hid (img_save IM5.out (noInt7 q5) (save7 (y0 := .slice A1 i.g.ins.length c1) (y1 := .slice A2 i.g.nodes.length c2) (y2 := .slice A3 i.g.outs.length c3) (y3 := .slice A4 i.pl.length c4) (y4 := .slice A5 i.s0.length c5) (y5 := .slice A6 i.s1.length c6) (y6 := .slice A7 i.s2.length c7)))
          clear q5 f5 x5 p5 IM5
          generalize (((((((w5.setCell ⟨Q, 0, none⟩ (.slice A1 i.g.ins.length c1)).setCell ⟨Q, 1, none⟩ (.slice A2 i.g.nodes.length c2)).setCell ⟨Q, 2, none⟩ (.slice A3 i.g.outs.length c3)).setCell ⟨Q, 3, none⟩ (.slice A4 i.pl.length c4)).setCell ⟨Q, 4, none⟩ (.slice A5 i.s0.length c5)).setCell ⟨Q, 5, none⟩ (.slice A6 i.s1.length c6)).setCell ⟨Q, 6, none⟩ (.slice A7 i.s2.length c7)) = w9 at *
          exact bodyPost_ret (v := .tuple #[.agg #[.slice A1 i.g.ins.length c1, .slice A2 i.g.nodes.length c2, .slice A3 i.g.outs.length c3, .slice A4 i.pl.length c4, .slice A5 i.s0.length c5, .slice A6 i.s1.length c6, .slice A7 i.s2.length c7], .int .i64 0]) (by simp [results, Tryz.results6, go_sem, q9]) rfl (.inl ⟨YT.out, _, rfl, by rw [IE.out]; exact IM9.out, p9⟩)
  · have q1 := box_past pp1 q0 (by omega)
    have f1 := free_past pp1 f0 (by omega)
    have p1 := p0.trans pp1
    have NT : Hid (¬ TookI ns) := Lib.hid (fun f => hT f.1)
    clear q0 f0 p0 z0 pp1 OP hT
    go_wp2_with fail
    have q9 := box_set7 q1 (y0 := .slice none 0 0) (y1 := .slice none 0 0) (y2 := .slice none 0 0) (y3 := .slice none 0 0) (y4 := .slice none 0 0) (y5 := .slice none 0 0) (y6 := .slice none 0 0)
    have p9 := past7 (B := Q) (y0 := .slice none 0 0) (y1 := .slice none 0 0) (y2 := .slice none 0 0) (y3 := .slice none 0 0) (y4 := .slice none 0 0) (y5 := .slice none 0 0) (y6 := .slice none 0 0) p1 (by omega)
    clear q1
    generalize (((((((w1.setCell ⟨Q, 0, none⟩ (.slice none 0 0)).setCell ⟨Q, 1, none⟩ (.slice none 0 0)).setCell ⟨Q, 2, none⟩ (.slice none 0 0)).setCell ⟨Q, 3, none⟩ (.slice none 0 0)).setCell ⟨Q, 4, none⟩ (.slice none 0 0)).setCell ⟨Q, 5, none⟩ (.slice none 0 0)).setCell ⟨Q, 6, none⟩ (.slice none 0 0)) = w9 at *
    exact bodyPost_ret (v := .tuple #[.agg #[.slice none 0 0, .slice none 0 0, .slice none 0 0, .slice none 0 0, .slice none 0 0, .slice none 0 0, .slice none 0 0], .int .i64 2]) (by simp [results, Tryz.results6, go_sem, q9]) rfl (.inr ⟨NT.out, rfl, p9⟩)
end Go.Proofs.YtejllmjkeefloaaGreat
namespace Go.Proofs.YtejllmjkeefloaaGreat.Q7
open Go.ChangeShapes Go.WideShapes Go.ChangeAt Go.RowKit
set_option maxRecDepth 20000
set_option linter.unusedVariables false
set_option linter.unusedSimpArgs false
theorem sealed_of (l : List Nat) (h : Bytes l) : 4 ≤ (sealD l).length ∧ crc 4294967295 (sealD l) = hvs 32 4294967295 :=
  ⟨by rw [seal_len]; omega, (sealed_iff (seal_lt h) (by rw [seal_len]; omega)).1 (seal_open l)⟩
def openC (bs : List Nat) : Int := if 4 ≤ bs.length ∧ crc 4294967295 bs = hvs 32 4294967295 then 0 else 2
/-- Bytes with k of them, from place p on, turned by others. -/
def turnAt (l : List Nat) (p : Nat) (by4 : List Nat) : Nat → List Nat
  | 0 => l
  | k + 1 => (turnAt l p by4 k).set (p + k) ((turnAt l p by4 k).getD (p + k) 0 ^^^ by4.getD k 0)
def anyN (by4 : List Nat) : Nat → Bool
  | 0 => false
  | k + 1 => anyN by4 k || (((by4.getD k 0 : Nat) : Int) != 0)
theorem turnAt_len (l : List Nat) (p : Nat) (by4 : List Nat) (k : Nat) : (turnAt l p by4 k).length = l.length := by
  induction k with
  | zero => rfl
  | succ k ih => simp [turnAt, ih]
theorem getD_set (l : List Nat) (j c i : Nat) (h : i < l.length) : (l.set j c).getD i 0 = if j = i then c else l.getD i 0 := by
  rw [List.getD_eq_getElem?_getD, List.getD_eq_getElem?_getD, List.getElem?_set]
  by_cases e : j = i
  · subst e; simp [h]
  · simp [e]
theorem turnAt_at (l : List Nat) (p : Nat) (by4 : List Nat) (k i : Nat) (hi : i < l.length) : (turnAt l p by4 k).getD i 0 = l.getD i 0 ^^^ (if p ≤ i ∧ i < p + k then by4.getD (i - p) 0 else 0) := by
  induction k with
  | zero => rw [if_neg (by omega)]; simp [turnAt]
  | succ k ih =>
    show ((turnAt l p by4 k).set (p + k) _).getD i 0 = _
    rw [getD_set _ _ _ _ (by rw [turnAt_len]; exact hi)]
    by_cases e : p + k = i
    · rw [if_pos e, if_pos (by omega), e, ih, if_neg (by omega), Nat.xor_zero]
      have : i - p = k := by omega
      rw [this]
    · rw [if_neg e, ih]
      by_cases c : p ≤ i ∧ i < p + k
      · rw [if_pos c, if_pos (by omega)]
      · rw [if_neg c, if_neg (by omega)]
theorem turnAt_B {l by4 : List Nat} (p k : Nat) (hl : Bytes l) (hb : Bytes by4) : Bytes (turnAt l p by4 k) := by
  induction k with
  | zero => exact hl
  | succ k ih =>
    intro c hc
    rcases List.mem_or_eq_of_mem_set hc with h | h
    · exact ih c h
    · rw [h]; exact Nat.xor_lt_two_pow (n := 8) (ih.at _) (hb.at _)
theorem anyN_no {by4 : List Nat} {k : Nat} (h : anyN by4 k = false) : ∀ j, j < k → by4.getD j 0 = 0 := by
  induction k with
  | zero => intro j hj; omega
  | succ k ih =>
    simp only [anyN, Bool.or_eq_false_iff] at h
    intro j hj
    by_cases c : j < k
    · exact ih h.1 j c
    · obtain rfl : j = k := by omega
      have := h.2
      simp at this
      simpa using this
theorem anyN_yes {by4 : List Nat} {k : Nat} (h : anyN by4 k = true) : ∃ j, j < k ∧ by4.getD j 0 ≠ 0 := by
  apply Classical.byContradiction
  intro n
  have all : ∀ m, m ≤ k → anyN by4 m = false := by
    intro m
    induction m with
    | zero => intro _; rfl
    | succ m ih =>
      intro hm
      have : by4.getD m 0 = 0 := Classical.byContradiction fun q => n ⟨m, by omega, q⟩
      simp only [anyN, ih (by omega), this]
      rfl
  rw [all k (Nat.le_refl _)] at h
  cases h
/-- What is turned within four bytes is told; what is turned by noughts alone is not. -/
theorem turned_told (l : List Nat) (hl : Bytes l) (p m : Nat) (by4 : List Nat) (hb : Bytes by4) (hm : m ≤ 4) (hp : p + m ≤ (sealD l).length) : openC (turnAt (sealD l) p by4 m) = if anyN by4 m = true then 2 else 0 := by
  have sb := seal_lt hl
  have sl := (sealed_of l hl)
  obtain ⟨s, hs⟩ : ∃ s, sealD l = s := ⟨_, rfl⟩
  rw [hs] at sb sl hp ⊢
  obtain ⟨E, hE⟩ : ∃ E, (List.range s.length).map (fun i => if p ≤ i ∧ i < p + m then by4.getD (i - p) 0 else 0) = E := ⟨_, rfl⟩
  have el : E.length = s.length := by rw [← hE]; simp
  have ea : ∀ i, i < s.length → E.getD i 0 = if p ≤ i ∧ i < p + m then by4.getD (i - p) 0 else 0 := by
    intro i hi
    rw [← hE]
    simp [List.getD, hi]
  have eb : Bytes E := by
    intro c hc
    rw [← hE] at hc
    obtain ⟨i, _, rfl⟩ := List.mem_map.1 hc
    split
    · exact hb.at _
    · decide
  have key : turnAt s p by4 m = List.zipWith (· ^^^ ·) s E := by
    apply List.ext_getElem (by simp [turnAt_len, el])
    intro i h1 h2
    have hi : i < s.length := by rwa [turnAt_len] at h1
    have := turnAt_at s p by4 m i hi
    rw [← ea i hi] at this
    simp only [List.getElem_zipWith]
    simpa [List.getD, h1, hi, el] using this
  have cx := crc_xor 4294967295 0 s E el.symm
  rw [Nat.xor_zero, ← key, sl.2] at cx
  have len : (turnAt s p by4 m).length = s.length := turnAt_len _ _ _ _
  unfold openC
  by_cases t : anyN by4 m = true
  · rw [if_pos t, if_neg]
    rintro ⟨_, h⟩
    rw [h] at cx
    have z : crc 0 E = 0 := by
      have := congrArg (fun x => hvs 32 4294967295 ^^^ x) cx
      simp only [← Nat.xor_assoc, Nat.xor_self, Nat.zero_xor] at this
      exact this.symm
    have all := four_left (f := E) (p := p) eb (fun i hi hq => by rw [ea i (by omega), if_neg (by omega)]) z
    obtain ⟨j, hj, hn⟩ := anyN_yes t
    have := all (p + j) (by omega)
    rw [ea (p + j) (by omega), if_pos (by omega)] at this
    have e : p + j - p = j := by omega
    rw [e] at this
    exact hn this
  · have t' : anyN by4 m = false := by simpa using t
    have no := anyN_no t'
    have z : E = List.replicate E.length 0 := by
      apply List.eq_replicate_iff.2
      refine ⟨rfl, fun c hc => ?_⟩
      rw [← hE] at hc
      obtain ⟨i, hi, rfl⟩ := List.mem_map.1 hc
      split
      · exact no _ (by omega)
      · rfl
    rw [if_neg t, if_pos]
    refine ⟨by rw [len]; exact sl.1, ?_⟩
    rw [cx, z, crc_noughts, hvs_zero, Nat.xor_zero]
theorem turn_same {l by4 : List Nat} {p m : Nat} (h : anyN by4 m = false) : turnAt l p by4 m = l := by
  induction m with
  | zero => rfl
  | succ m ih =>
    have h' := h
    simp only [anyN, Bool.or_eq_false_iff] at h'
    have z : by4.getD m 0 = 0 := by have := h'.2; simp at this; simpa using this
    show (turnAt l p by4 m).set (p + m) ((turnAt l p by4 m).getD (p + m) 0 ^^^ by4.getD m 0) = l
    rw [ih h'.1, z, Nat.xor_zero]
    apply List.ext_getElem (by simp)
    intro i h1 h2
    rw [List.getElem_set]
    split
    · rename_i e
      subst e
      simp [List.getD, h2]
    · rfl
end Go.Proofs.YtejllmjkeefloaaGreat.Q7
namespace Go.Proofs.YtejllmjkeefloaaGreat
theorem opened_seal (x : List Nat) : openedI (Q7.sealD x) = Q7.ints x := by unfold openedI; rw [Q7.seal_take]
theorem took_seal {i : ImgD} (ok : okI i) (hp : placedP i.g i.pl) : TookI (Q7.sealD (nats (imgB i))) ∧ (imgR ⟨openedI (Q7.sealD (nats (imgB i))), false⟩).1 = i := by
  have e : openedI (Q7.sealD (nats (imgB i))) = imgB i ++ [] := by rw [opened_seal, ints_nats (imgB_bytes i), List.append_nil]
  have k := imgR_forth i [] ok
  unfold TookI
  rw [e, k]
  exact ⟨⟨Q7.sealed_of _ (nats_bytes (imgB_bytes i)), rfl, rfl, hp⟩, rfl⟩
theorem not_more {i : ImgD} (ok : okI i) (c : Nat) : ¬ TookI (Q7.sealD (nats (imgB i)) ++ [c]) := by
  intro f
  have e : openedI (Q7.sealD (nats (imgB i)) ++ [c]) = imgB i ++ [((Q7.sumD (nats (imgB i)) % 256 : Nat) : Int)] := by
    unfold openedI
    have hl : (Q7.sealD (nats (imgB i)) ++ [c]).length - 4 = (nats (imgB i)).length + 1 := by rw [List.length_append, Q7.seal_len]; simp
    rw [hl]
    have : (Q7.sealD (nats (imgB i)) ++ [c]).take ((nats (imgB i)).length + 1) = nats (imgB i) ++ [Q7.sumD (nats (imgB i)) % 256] := by
      unfold Q7.sealD Q7.le4
      rw [List.append_assoc, List.take_append]
      simp
      exact List.take_of_length_le (by omega)
    rw [this]
    unfold Q7.ints
    rw [List.map_append]
    have q := ints_nats (imgB_bytes i)
    unfold Q7.ints at q
    rw [q]
    rfl
  have k := f.2.2.1
  rw [e, imgR_forth i _ ok] at k
  simp at k
theorem not_turned {l : List Nat} (h : Q7.openC l = 2) : ¬ TookI l := by
  intro f
  unfold Q7.openC at h
  rw [if_pos f.1] at h
  cases h
end Go.Proofs.YtejllmjkeefloaaGreat
