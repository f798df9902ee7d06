/- Spans; region.May, Clash, Of; the reference; isa.May; the spans of a node's commands. -/
import Derived.Test.YtgbedoffgahhaaaI0
import Derived.Test.YtgbedoffgahhaaaI1
import Derived.Test.YtgbedoffgahhaaaI3
import Derived.Deep.MidRow
import Derived.Test.YtgbedoffgahhaaaRead
import Derived.ChangeArms
import Derived.BigQuiet
import Derived.Test.YtgbedoffgahhaaaG2
import Derived.Laws.ResultCell
import Derived.Test.YtgbedoffgahhaaaV1
import Derived.Test.YtgbedoffgahhaaaFixE
import Derived.Test.YtgbedoffgahhaaaV4
import Derived.Test.YtgbedoffgahhaaaM0
import Derived.Test.YtgbedoffgahhaaaFixM
import Derived.Test.YtgbedoffgahhaaaP2
import Derived.Test.YtgbedoffgahhaaaNL
namespace Go.Proofs.Ytgbedoffgahhaaa.Q8
open Go.ChangeShapes Go.WideShapes Go.ChangeAt Go.RowKit
set_option linter.unusedVariables false
/-- What is left of May's answer at a field. -/
def goE (fs : List Fld) (c : List Int) : Int := if mayGo fs c then 0 else 1
theorem mayE_kind {c : List Int} (h : kindP (c.getD 0 0)) : mayE c = goE (fldsD (c.getD 0 0)) c := by
  unfold mayE goE
  by_cases q : mayGo (fldsD (c.getD 0 0)) c
  · rw [if_pos ⟨h, q⟩, if_pos q]
  · rw [if_neg (fun k => q k.2), if_neg q]
theorem mayE_none {c : List Int} (h : ¬ kindP (c.getD 0 0)) : mayE c = 1 := if_neg (fun k => h k.1)
theorem goE_yes {f : Fld} {fs : List Fld} {c : List Int} (h : inF f c) : goE (f :: fs) c = goE fs (c.set f.pos 0) := by
  unfold goE
  by_cases q : mayGo fs (c.set f.pos 0)
  · rw [if_pos ⟨h, q⟩, if_pos q]
  · rw [if_neg (fun k => q k.2), if_neg q]
theorem goE_no {f : Fld} {fs : List Fld} {c : List Int} (h : ¬ inF f c) : goE (f :: fs) c = 1 := if_neg (fun k => h k.1)
theorem goE_nil (c : List Int) : goE [] c = if c.tail = List.replicate 13 0 then 0 else 1 := by
  unfold goE
  by_cases q : bareP c
  · exact (if_pos q).trans (if_pos q).symm
  · exact (if_neg q).trans (if_neg q).symm
theorem mayE_ok {c : List Int} : mayE c = 0 ↔ mayD c := by unfold mayE; split <;> simp_all
theorem fldsD_len (k : Int) : (fldsD k).length ≤ 10 := by
  unfold fldsD
  split
  · decide
  split
  · decide
  split
  · decide
  split
  · decide
  · decide
end Go.Proofs.Ytgbedoffgahhaaa.Q8

namespace Go.Proofs.Ytgbedoffgahhaaa.Q8
open Go.ChangeShapes Go.WideShapes Go.ChangeAt Go.RowKit
set_option maxRecDepth 20000
set_option linter.unusedVariables false
set_option linter.unusedSimpArgs false

def cellC (c : List Int) : List Value := c.map (Value.int .i64)
def cmdV (c : List Int) : Value := .agg ⟨cellC c⟩
theorem cellC_len (c : List Int) : (cellC c).length = c.length := by simp [cellC]
theorem cellC_at (c : List Int) (j : Nat) (h : j < c.length) : (cellC c)[j]? = some (.int .i64 (c.getD j 0)) := by simp [cellC, List.getD, h]
theorem boxC_cell {w : World} {Q j : Nat} {c : List Int} (h : (∀ o : Nat, w.cell? ⟨Q, o, none⟩ = (⟨cellC c⟩ : Array Value)[o]?)) (hj : j < c.length) : w.cell? ⟨Q, j, none⟩ = some (.int .i64 (c.getD j 0)) := by
  rw [h j]
  have := cellC_at c j hj
  simpa using this
theorem boxC_set {w : World} {Q j : Nat} {c : List Int} {x : Int} (h : (∀ o : Nat, w.cell? ⟨Q, o, none⟩ = (⟨cellC c⟩ : Array Value)[o]?)) (hj : j < c.length) : (∀ o : Nat, (w.setCell ⟨Q, j, none⟩ (.int .i64 x)).cell? ⟨Q, o, none⟩ = (⟨cellC (c.set j x)⟩ : Array Value)[o]?) := by
  intro i
  by_cases e : i = j
  · subst e
    rw [World.cell?_setCell_same w _ _ (boxC_cell h hj)]
    simp [cellC, hj]
  · rw [World.cell?_setCell_other _ _ _ _ (by simp <;> omega), h i]
    simp [cellC, List.getElem?_set, show ¬ j = i by omega]

set_option maxHeartbeats 4000000 in
theorem eq2 (a b c d : Int) (w : World) : (Op.equalIn 9999 55 (.agg #[.int .i64 a, .int .i64 b]) (.agg #[.int .i64 c, .int .i64 d])).run Try.prog w = .ok (a == c && b == d) w := by
  have ku := Try.underlying3
  have ka := Try.isAgg3
  have kz := Try.sizeOf3
  rw [show (9999 : Nat) = 9998 + 1 from rfl, Op.equalIn]
  simp only [Sem.run_bind, run_underlying Try.underlying55, Result.andThen_ok]
  simp only [Std.Legacy.Range.forIn_eq_forIn_range', Std.Legacy.Range.size, Nat.sub_zero, Nat.add_sub_cancel, Nat.div_one, List.range'_succ, List.range'_zero, List.forIn_cons, List.forIn_nil]
  cases e0 : (a == c)
  · go_simp
  cases e1 : (b == d)
  · go_simp
  · go_simp
set_option maxHeartbeats 4000000 in
theorem eqC_raw (a0 a1 a2 a3 a4 a5 a6 a7 a8 a9 a10 a11 a12 a13 b0 b1 b2 b3 b4 b5 b6 b7 b8 b9 b10 b11 b12 b13 : Int) (w : World) : (Op.equalIn 10000 57 (.agg #[.int .i64 a0, .int .i64 a1, .int .i64 a2, .int .i64 a3, .int .i64 a4, .int .i64 a5, .int .i64 a6, .int .i64 a7, .int .i64 a8, .int .i64 a9, .int .i64 a10, .int .i64 a11, .int .i64 a12, .int .i64 a13]) (.agg #[.int .i64 b0, .int .i64 b1, .int .i64 b2, .int .i64 b3, .int .i64 b4, .int .i64 b5, .int .i64 b6, .int .i64 b7, .int .i64 b8, .int .i64 b9, .int .i64 b10, .int .i64 b11, .int .i64 b12, .int .i64 b13])).run Try.prog w = .ok (a0 == b0 && (a1 == b1 && (a2 == b2 && (a3 == b3 && (a4 == b4 && (a5 == b5 && (a6 == b6 && (a7 == b7 && ((a8 == b8 && a9 == b9) && ((a10 == b10 && a11 == b11) && (a12 == b12 && a13 == b13))))))))))) w := by
  have ku := Try.underlying3
  have ka := Try.isAgg3
  have kz := Try.sizeOf3
  have ku2 := Try.underlying55
  have ka2 := Try.isAgg55
  have kz2 := Try.sizeOf55
  have ef : Try.prog.underlying 57 = some (.struct (Try.prog.fieldsOf 57)) := by kernel_rfl
  have ef2 := Try.underlying57
  rw [show (10000 : Nat) = 9999 + 1 from rfl, run_equalIn_struct w 9999 _ _ _ ef (by kernel_rfl)]
  rw [ef] at ef2
  simp only [Option.some.injEq, TypeDesc.struct.injEq] at ef2
  rw [ef2]
  clear ef ef2
  cases e0 : (a0 == b0)
  · go_simp
  cases e1 : (a1 == b1)
  · go_simp
  cases e2 : (a2 == b2)
  · go_simp
  cases e3 : (a3 == b3)
  · go_simp
  cases e4 : (a4 == b4)
  · go_simp
  cases e5 : (a5 == b5)
  · go_simp
  cases e6 : (a6 == b6)
  · go_simp
  cases e7 : (a7 == b7)
  · go_simp
  have q1 := eq2 a8 a9 b8 b9 w
  cases e8 : (a8 == b8 && a9 == b9)
  · rw [e8] at q1
    go_simp
  rw [e8] at q1
  have q2 := eq2 a10 a11 b10 b11 w
  cases e10 : (a10 == b10 && a11 == b11)
  · rw [e10] at q2
    go_simp
  rw [e10] at q2
  have q3 := eq2 a12 a13 b12 b13 w
  cases e12 : (a12 == b12 && a13 == b13)
  · rw [e12] at q3
    go_simp
  rw [e12] at q3
  · go_simp
theorem eqC {a b : List Int} (ha : a.length = 14) (hb : b.length = 14) (w : World) : (Op.equalIn 10000 57 (.agg ⟨cellC a⟩) (.agg ⟨cellC b⟩)).run Try.prog w = .ok (decide (a = b)) w := by
  obtain ⟨a0, a1, a2, a3, a4, a5, a6, a7, a8, a9, a10, a11, a12, a13, rfl⟩ := fourteen ha
  obtain ⟨b0, b1, b2, b3, b4, b5, b6, b7, b8, b9, b10, b11, b12, b13, rfl⟩ := fourteen hb
  have h := eqC_raw a0 a1 a2 a3 a4 a5 a6 a7 a8 a9 a10 a11 a12 a13 b0 b1 b2 b3 b4 b5 b6 b7 b8 b9 b10 b11 b12 b13 w
  refine h.trans ?_
  congr 1
  rw [Bool.eq_iff_iff]
  simp
  intro _ _ _ _ _ _ _ _
  constructor
  · rintro ⟨⟨h9, h10⟩, ⟨h11, h12⟩, h13, h14⟩
    exact ⟨h9, h10, h11, h12, h13, h14⟩
  · rintro ⟨h9, h10, h11, h12, h13, h14⟩
    exact ⟨⟨h9, h10⟩, ⟨h11, h12⟩, h13, h14⟩
end Go.Proofs.Ytgbedoffgahhaaa.Q8

namespace Go.Proofs.Ytgbedoffgahhaaa.Q8
open Go.ChangeShapes Go.WideShapes Go.ChangeAt Go.RowKit
set_option maxRecDepth 20000
set_option linter.unusedVariables false
set_option linter.unusedSimpArgs false

theorem guardC : Try.prog.eqGuardType Try.prog.depth 57 = false := by kernel_rfl
theorem wp_neqC {o : Oper} {a : Act} {w : World} {K : Act → World → Prop} {Q : Exit → Act → World → Prop} (x y : Operand) (ty2 : TypeId) (ho : o.op = .binOp .neq 57 x y ty2)
    (c d : List Int) (hc : c.length = 14) (hd : d.length = 14) (hx : a.eval x = .agg ⟨cellC c⟩) (hy : a.eval y = .agg ⟨cellC d⟩) (h : K (a.put o.dst (.bool (!decide (c = d)))) w) : o.wp Try.prog a w K Q := by
  have e := eqC hc hd w
  unfold Oper.wp execOp
  simp only [ho, hx, hy, Sem.run_bind, run_eqGuard_agg _ _ _ _ _ _ _ guardC, Result.andThen_ok, run_neq_struct, e, Sem.run_pure]
  exact h
theorem wpList_neqC {ops : Array Oper} {rest : List Oper} {o : Oper} {a : Act} {w : World} {Q : Exit → Act → World → Prop} (hgd : o.guard = none) (x y : Operand) (ty2 : TypeId) (ho : o.op = .binOp .neq 57 x y ty2)
    (c d : List Int) (hc : c.length = 14) (hd : d.length = 14) (hx : a.eval x = .agg ⟨cellC c⟩) (hy : a.eval y = .agg ⟨cellC d⟩) (h : wpList Try.prog ops Q rest (a.put o.dst (.bool (!decide (c = d)))) w) : wpList Try.prog ops Q (o :: rest) a w :=
  wpList_plain hgd fun _ hK => wp_neqC x y ty2 ho c d hc hd hx hy (hK _ _ h)
end Go.Proofs.Ytgbedoffgahhaaa.Q8

namespace Go.Proofs.Ytgbedoffgahhaaa.Q8
open Go.ChangeShapes Go.WideShapes Go.ChangeAt Go.RowKit
set_option maxRecDepth 20000
set_option linter.unusedVariables false
set_option linter.unusedSimpArgs false

theorem C14 : (Try.prog.info? 57).map (·.size) = some 14 := by kernel_rfl
theorem F4 : (Try.prog.info? 89).map (·.size) = some 4 := by kernel_rfl
theorem cmdSize {c : List Int} (hl : c.length = 14) : (Try.prog.info? 57).map (·.size) = some (⟨cellC c⟩ : Array Value).size := by rw [C14]; simp [cellC_len, hl]
theorem size_cellC {c : List Int} (hl : c.length = 14) : (⟨cellC c⟩ : Array Value).size = 14 := by simp [cellC_len, hl]
/-- A field of a row. -/
theorem fldsC_at (P : Nat) (fs : List Fld) (k : Nat) (h : k < fs.length) (j : Nat) (v : Value) (hv : (fldC P (fs[k]'h))[j]? = some v) : (fldsC P fs)[4 * k + j]? = some v := by
  induction fs generalizing k with
  | nil => simp at h
  | cons f fs ih =>
    cases k with
    | zero =>
      have hj : j < (fldC P f).length := by
        by_cases q : j < (fldC P f).length
        · exact q
        · rw [List.getElem?_eq_none (by simpa using q)] at hv; cases hv
      show ((fldC P f) ++ fldsC P fs)[4 * 0 + j]? = _
      rw [List.getElem?_append_left (by simpa using hj)]
      simpa using hv
    | succ k =>
      show ((fldC P f) ++ fldsC P fs)[4 * (k + 1) + j]? = _
      rw [List.getElem?_append_right (by simp [fldC]; omega)]
      have := ih k (by simpa using h) (by simpa using hv)
      rw [← this]
      congr 1
      simp [fldC]
      omega

set_option maxHeartbeats 4000000 in
theorem may_no (c : List Int) (hl : c.length = 14) (hk : ¬ kindP (c.getD 0 0)) (W : World) : Calls Try.prog 27 #[.agg ⟨cellC c⟩] W fun e w' => e = .returned (.int .i64 1) ∧ Past W w' := by
  obtain ⟨k, hk'⟩ : ∃ k, c.getD 0 0 = k := ⟨_, rfl⟩
  have sz := size_cellC hl
  have FA := Lib.hid (fields_any k)
  have DK : decide (kindP k) = false := by rw [← hk']; simpa using hk
  unfold FieldsPost at FA
  rw [DK] at FA
  have HK := Lib.hid hk'
  clear DK hk hk'
  go_enter Try.func27, Try.ntmps27
  go_upto_region 1 with fail
  obtain ⟨Q, hQ⟩ : ∃ Q, W.heap.size = Q := ⟨_, rfl⟩
  refine opq (fun w' => (∀ o : Nat, w'.cell? ⟨Q, o, none⟩ = (⟨cellC c⟩ : Array Value)[o]?) ∧ Past W w') (by subst hQ; (exact kKeep)) ?_
  rintro w0 ⟨b0, p0⟩
  try simp only [hQ]
  have h0 := boxC_cell b0 (j := 0) (by omega)
  rw [HK.out] at h0
  have H0 := Lib.hid h0
  have P0 := Lib.hid p0
  clear h0 b0 p0
  go_wp2_with fail
  refine (FA.out Q w0 H0.out).mono ?_
  rintro e w1 ⟨v, rfl, hF, p1⟩
  have P1 := Lib.hid (P0.out.trans p1)
  clear hF p1
  go_wp2_with fail
  go_ret
  exact ⟨rfl, P1.out⟩

set_option maxHeartbeats 4000000 in
theorem may_yes (c : List Int) (hl : c.length = 14) (hk : kindP (c.getD 0 0)) (W : World) : Calls Try.prog 27 #[.agg ⟨cellC c⟩] W fun e w' => e = .returned (.int .i64 (goE (fldsD (c.getD 0 0)) c)) ∧ Past W w' := by
  obtain ⟨k, hk'⟩ : ∃ k, c.getD 0 0 = k := ⟨_, rfl⟩
  have sz := size_cellC hl
  have FA := Lib.hid (fields_any k)
  have DK : decide (kindP k) = true := by rw [← hk']; simpa using hk
  unfold FieldsPost at FA
  rw [DK] at FA
  have HP := Lib.hid (fldsD_pos k).1
  have hn := fldsD_len k
  rw [hk']
  obtain ⟨fs, hfs⟩ : ∃ fs, fldsD k = fs := ⟨_, rfl⟩
  rw [hfs] at FA HP hn
  rw [hfs]
  obtain ⟨m, hm⟩ : ∃ m, goE fs c = m := ⟨_, rfl⟩
  rw [hm]
  have HM := Lib.hid hm
  have HK := Lib.hid hk'
  have HL := Lib.hid hl
  clear DK hk hk' hm hfs hl
  go_enter Try.func27, Try.ntmps27
  go_upto_region 1 with fail
  obtain ⟨Q, hQ⟩ : ∃ Q, W.heap.size = Q := ⟨_, rfl⟩
  refine opq (fun w' => (∀ o : Nat, w'.cell? ⟨Q, o, none⟩ = (⟨cellC c⟩ : Array Value)[o]?) ∧ (∀ o : Nat, w'.frozen? ⟨Q, o, none⟩ = false) ∧ Past W w' ∧ Q + 1 ≤ w'.heap.size) (by subst hQ; (exact kKeep)) ?_
  rintro w0 ⟨b0, f0, p0, z0⟩
  try simp only [hQ]
  have QW : W.heap.size ≤ Q := by omega
  have h0 := boxC_cell b0 (j := 0) (by rw [HL.out]; omega)
  rw [HK.out] at h0
  have H0 := Lib.hid h0
  have B0 := Lib.hid b0
  have F0 := Lib.hid f0
  have P0 := Lib.hid p0
  clear h0 b0 p0 f0 hQ
  go_wp2_with fail
  refine (FA.out Q w0 H0.out).mono ?_
  rintro e w1 ⟨v, rfl, hF, p1⟩
  obtain ⟨A, hv⟩ : ∃ A, v = .slice A fs.length fs.length := by
    rcases hF with ⟨rfl, rfl⟩ | ⟨b, rfl, _⟩
    · exact ⟨none, rfl⟩
    · exact ⟨_, rfl⟩
  subst hv
  have REL : Hid (∃ c', c'.length = 14 ∧ c'.getD 0 0 = k ∧ goE (fs.drop 0) c' = m ∧ (∀ o : Nat, w1.cell? ⟨Q, o, none⟩ = (⟨cellC c'⟩ : Array Value)[o]?) ∧ (∀ o : Nat, w1.frozen? ⟨Q, o, none⟩ = false) ∧ Past W w1 ∧ IsFlds w1 Q (.slice A fs.length fs.length) fs ∧ Q < w1.heap.size) :=
    Lib.hid ⟨c, HL.out, HK.out, HM.out, box_past p1 B0.out (by omega), free_past p1 F0.out (by omega), P0.out.trans p1, hF, Nat.le_trans z0 p1.2.2.1⟩
  clear hF p1 B0 F0 P0 z0
  go_wp2_with fail
  go_loopw [2, 15] (fun s i wr => ∃ n : Nat, n ≤ fs.length ∧ i = .int .i64 n ∧ s = .int .i64 0 ∧ Hid (∃ c', c'.length = 14 ∧ c'.getD 0 0 = k ∧ goE (fs.drop n) c' = m ∧ (∀ o : Nat, wr.cell? ⟨Q, o, none⟩ = (⟨cellC c'⟩ : Array Value)[o]?) ∧ (∀ o : Nat, wr.frozen? ⟨Q, o, none⟩ = false) ∧ Past W wr ∧ IsFlds wr Q (.slice A fs.length fs.length) fs ∧ Q < wr.heap.size)) (fun _ i _ => fs.length - (intOf i).toNat)
  case atStart => exact ⟨0, by omega, rfl, rfl, REL⟩
  case round =>
    obtain ⟨n, hnl, rfl, rfl, R⟩ := hrel
    by_cases h : n < fs.length
    · obtain ⟨c', l', k', g', b', f', p', F', q'⟩ := R.out
      obtain ⟨b, hb, hbl, hbc⟩ : ∃ b, A = some ⟨b, 0, none⟩ ∧ b < wr.heap.size ∧ (∀ o : Nat, wr.cell? ⟨b, o, none⟩ = (⟨fldsC Q fs⟩ : Array Value)[o]?) := by
        rcases F' with ⟨e, _⟩ | ⟨b, e, h1, h2⟩
        · rw [e] at h; simp at h
        · simp only [Value.slice.injEq, and_true] at e
          exact ⟨b, e, h1, h2⟩
      subst hb
      have hd : fs.drop n = fs[n] :: fs.drop (n + 1) := List.drop_eq_getElem_cons h
      have hr : ∀ j v, (fldC Q fs[n])[j]? = some v → wr.cell? ⟨b, n * 4 + j, none⟩ = some v := fun j v hv => by rw [hbc, Nat.mul_comm]; have := fldsC_at Q fs n h j v hv; simpa using this
      have hfp := HP.out fs[n] (List.getElem_mem h)
      obtain ⟨f, hf⟩ : ∃ f, fs[n] = f := ⟨_, rfl⟩
      rw [hf] at hd hr hfp
      have r0 := hr 0 _ rfl
      rw [Nat.add_zero] at r0
      have r1 := hr 1 _ rfl
      have r2 := hr 2 _ rfl
      have r3 := hr 3 _ rfl
      have hQb : b ≠ Q := by
        intro e
        subst e
        have h1 := hbc 0
        rw [b' 0] at h1
        have h2 := cellC_at c' 0 (by omega)
        have h3 := fldsC_at b fs 0 (by omega) 0 _ rfl
        simp only [List.getElem?_toArray] at h1
        rw [h2] at h1
        rw [Nat.mul_zero, Nat.add_zero] at h3
        rw [h3] at h1
        simp at h1
      have hx := boxC_cell b' (j := f.pos) (by omega)
      rw [hd] at g'
      obtain ⟨x, ex⟩ : ∃ x, c'.getD f.pos 0 = x := ⟨_, rfl⟩
      rw [ex] at hx
      have K1 := Lib.hid l'
      have K2 := Lib.hid k'
      have K3 := Lib.hid g'
      have K4 := Lib.hid ex
      have K5 := Lib.hid hfp
      have KP := Lib.hid p'
      have KF := Lib.hid hbc
      have KQ := Lib.hid q'
      have KB := Lib.hid b'
      have Kf := Lib.hid f'
      have Kx := Lib.hid hx
      have Kb := Lib.hid hbl
      clear l' k' g' ex hfp p' hbc q' b' f' hx hbl hr hd hf F' R
      obtain ⟨po, lo, hi, wd⟩ := f
      simp only at r0 r1 r2 r3 Kx K4 K5
      go_upto_region 7 with fail
      refine opq (fun w' => Hid (Past W w' ∧ (∀ o : Nat, w'.cell? ⟨Q, o, none⟩ = (⟨cellC c'⟩ : Array Value)[o]?) ∧ (∀ o : Nat, w'.frozen? ⟨Q, o, none⟩ = false) ∧ (∀ o : Nat, w'.cell? ⟨b, o, none⟩ = (⟨fldsC Q fs⟩ : Array Value)[o]?) ∧ b < w'.heap.size ∧ Q < w'.heap.size) ∧ (∀ o : Nat, w'.cell? ⟨wr.heap.size, o, none⟩ = (#[.pointer (some ⟨Q, po, none⟩), .int .i64 lo, .int .i64 hi, .int .i64 (wd : Int)] : Array Value)[o]?) ∧ wr.heap.size < w'.heap.size) (by
        have h1 := KP.out
        have h2 := KB.out
        have h3 := Kf.out
        have h4 := KF.out
        have h5 := Kb.out
        have h6 := KQ.out
        exact ⟨Lib.hid ⟨h1.alloc _, box_old h2 h6, free_alloc h3, box_old h4 h5, by simp; omega, by simp; omega⟩, box_new rfl, by simp⟩) ?_
      rintro w2 ⟨K6, bF, z2⟩
      have qlt := KQ.out
      have blt := Kb.out
      have CX := boxC_cell K6.out.2.1 (j := po) (by have := K1.out; have := K5.out.1; omega)
      rw [K4.out] at CX
      have CXH := Lib.hid CX
      obtain ⟨B, hB⟩ : ∃ B, wr.heap.size = B := ⟨_, rfl⟩
      rw [hB] at bF z2 qlt blt
      try simp only [hB]
      clear CX KP KB Kf KF KQ Kx Kb hB r0 r1 r2 r3
      by_cases hin : lo ≤ x ∧ x ≤ hi
      · have dB : (!decide (lo ≤ x ∧ x ≤ hi)) = false := by simp [hin]
        have BY := Lib.hid (beyond_any Q ⟨po, lo, hi, wd⟩ x w2 CXH.out)
        simp only [dB] at BY
        have hinF : inF ⟨po, lo, hi, wd⟩ c' := by unfold inF; rw [K4.out]; exact hin
        have K3' := K3.out
        rw [goE_yes hinF] at K3'
        have G := Lib.hid K3'
        clear K3 K3' hin dB hinF K4
        go_wp2_with fail
        refine BY.out.mono ?_
        rintro e w3 ⟨rfl, p3⟩
        have b3 := box_past p3 bF z2
        obtain ⟨q1, q2, q3, q4, q5, q6⟩ := K6.out
        have f3 := free_past p3 q3 q6
        have cx3 := cell_past p3 CXH.out q6
        have K7 : Hid (Past W w3 ∧ (∀ o : Nat, w3.cell? ⟨Q, o, none⟩ = (⟨cellC c'⟩ : Array Value)[o]?) ∧ (∀ o : Nat, w3.frozen? ⟨Q, o, none⟩ = false) ∧ (∀ o : Nat, w3.cell? ⟨b, o, none⟩ = (⟨fldsC Q fs⟩ : Array Value)[o]?) ∧ b < w3.heap.size ∧ Q < w3.heap.size) := Lib.hid ⟨q1.trans p3, box_past p3 q2 q6, f3, box_past p3 q4 q5, Nat.lt_of_lt_of_le q5 p3.2.2.1, Nat.lt_of_lt_of_le q6 p3.2.2.1⟩
        clear BY K6 q1 q2 q3 q4 q5 q6 p3 bF CXH
        go_wp2_with fail
        go_roundw
        case rel =>
          obtain ⟨q1, q2, q3, q4, q5, q6⟩ := K7.out
          have l14 := K1.out
          have pp := K5.out
          refine ⟨n + 1, by omega, by go_num, rfl, Lib.hid ⟨c'.set po 0, by rw [List.length_set]; exact l14, ?_, G.out, boxC_set q2 (by omega), free_set q3, Past.setCell q1 (by exact QW) _, .inr ⟨b, rfl, by rw [World.size_setCell]; exact q5, box_set q4 (by dsimp only; omega)⟩, by rw [World.size_setCell]; exact q6⟩⟩
          rw [← K2.out]
          have : po ≠ 0 := pp.2
          simp [List.getD, List.getElem?_set, this]
        case measure => simp [intOf]; omega
      · have dB : (!decide (lo ≤ x ∧ x ≤ hi)) = true := by simp only [hin]; simp
        have BY := Lib.hid (beyond_any Q ⟨po, lo, hi, wd⟩ x w2 CXH.out)
        simp only [dB] at BY
        have hinF : ¬ inF ⟨po, lo, hi, wd⟩ c' := by unfold inF; rw [K4.out]; exact hin
        have K3' := K3.out
        rw [goE_no hinF] at K3'
        subst K3'
        clear K3 hin dB hinF K4
        go_wp2_with fail
        refine BY.out.mono ?_
        rintro e w3 ⟨rfl, p3⟩
        have P3 := Lib.hid (K6.out.1.trans p3)
        clear BY K6 p3 bF CXH
        go_wp2_with fail
        go_ret
        exact ⟨rfl, P3.out⟩
    · obtain ⟨c', l', k', g', b', f', p', F', q'⟩ := R.out
      have e0 : fs.drop n = [] := List.drop_of_length_le (by omega)
      rw [e0, goE_nil] at g'
      have h0 := boxC_cell b' (j := 0) (by omega)
      rw [k'] at h0
      have sz' := cmdSize l'
      have SZ := Lib.hid sz'
      have L' := Lib.hid l'
      have K' := Lib.hid k'
      have P' := Lib.hid p'
      have B' := Lib.hid b'
      have HM' := Lib.hid g'
      have h14 : (k :: List.replicate 13 (0 : Int)).length = 14 := by simp
      have H14 := Lib.hid h14
      clear e0 sz' l' k' p' f' F' q' b' R g' h14
      have key : Hid (m = if c' = k :: List.replicate 13 0 then 0 else 1) := Lib.hid (by
        rw [← HM'.out]
        by_cases ht : c' = k :: List.replicate 13 0
        · rw [if_pos ht, if_pos (by rw [ht]; rfl)]
        · rw [if_neg ht, if_neg]
          intro e
          apply ht
          have l := L'.out
          have h := K'.out
          match c', l, e, h with
          | a :: r, l, e, h => simp at h; simp only [List.tail_cons] at e; rw [e, h])
      clear HM'
      go_upto_region 11 with fail
      go_wp2_with (first | refine wpList_load_box rfl 57 (.tmp 1) rfl Q ⟨cellC c'⟩ rfl B'.out Try.underlying57 rfl SZ.out ?_ | refine wpList_neqC rfl (.tmp 25) (.tmp 28) 57 rfl c' (k :: List.replicate 13 0) L'.out H14.out rfl rfl ?_)
      all_goals
        go_ret
        refine ⟨?_, P'.out⟩
        rename_i ht
        have k2 := key.out
        simp only [List.replicate, ht] at k2
        first | (rw [if_pos (by simpa using ht)] at k2; rw [k2]; rfl) | (rw [if_neg (by simpa using ht)] at k2; rw [k2]; rfl)

theorem may_any (c : List Int) (hl : c.length = 14) (W : World) : Calls Try.prog 27 #[.agg ⟨cellC c⟩] W fun e w' => e = .returned (.int .i64 (mayE c)) ∧ Past W w' := by
  by_cases hk : kindP (c.getD 0 0)
  · rw [mayE_kind hk]; exact may_yes c hl hk W
  · rw [mayE_none hk]; exact may_no c hl hk W
end Go.Proofs.Ytgbedoffgahhaaa.Q8

namespace Go.Proofs.Ytgbedoffgahhaaa
open Go.ChangeShapes Go.WideShapes Go.ChangeAt Go.RowKit
set_option maxRecDepth 20000
set_option linter.unusedVariables false
/-- A span: its memory, from where, up to where, whether it is written. -/
structure SpD where
  m : Int
  f : Int
  t : Int
  w : Bool
deriving Inhabited
def SpWf (x : SpD) : Prop := (Lit.int .i64 x.m).wf = true ∧ (Lit.int .i64 x.f).wf = true ∧ (Lit.int .i64 x.t).wf = true
def SpAt (w : World) (b o : Nat) (x : SpD) : Prop :=
  w.cell? ⟨b, o, none⟩ = some (.int .i64 x.m) ∧ w.cell? ⟨b, o + 1, none⟩ = some (.int .i64 x.f) ∧ w.cell? ⟨b, o + 2, none⟩ = some (.int .i64 x.t) ∧ w.cell? ⟨b, o + 3, none⟩ = some (.bool x.w)
def IsSpans (w : World) (v : Value) (xs : List SpD) : Prop :=
  ∃ (A : Option Addr) (cap : Nat), v = .slice A xs.length cap ∧ xs.length ≤ cap ∧ cap ≤ maxLen ∧ (A = none → cap = 0) ∧ (∀ x ∈ xs, SpWf x) ∧
    (0 < xs.length → ∃ b off, A = some ⟨b, off, none⟩ ∧ b < w.heap.size ∧ ∀ i, i < xs.length → SpAt w b (off + i * 4) (xs.getD i default))
theorem SpAt.grow {w w' : World} {b off : Nat} {x : SpD} (h : SpAt w b off x) (hb : b < w.heap.size) (g : Past w w') : SpAt w' b off x := by
  obtain ⟨h1, h2, h3, h4⟩ := h
  exact ⟨(g.cell hb).trans h1, (g.cell hb).trans h2, (g.cell hb).trans h3, (g.cell hb).trans h4⟩
theorem IsSpans.grow {w w' : World} {v : Value} {xs : List SpD} (h : IsSpans w v xs) (g : Past w w') : IsSpans w' v xs := by
  obtain ⟨A, cap, h1, h2, h3, h4, h5, h6⟩ := h
  refine ⟨A, cap, h1, h2, h3, h4, h5, fun hp => ?_⟩
  obtain ⟨b, off, e, hb, hc⟩ := h6 hp
  exact ⟨b, off, e, Nat.lt_of_lt_of_le hb g.2.2.1, fun i hi => (hc i hi).grow hb g⟩
variable {H : Type} {enc : TypeId × Value → H} {W : World}
theorem cellsSp : Try.prog.cellsOf 28 = 4 := by kernel_rfl
theorem cellsBool : Try.prog.cellsOf 4 = 1 := by kernel_rfl
theorem open_span {fuel : Nat} {cs : List Value} {x : DataW H × List MemPlace} (hl : cs.length = 4) (h : DataW.trod enc Try.prog W 0 (fun _ => true) true fuel 28 cs = some x) : ∃ s : SpD, cs = [.int .i64 s.m, .int .i64 s.f, .int .i64 s.t, .bool s.w] ∧ SpWf s := by
  match cs, hl with
  | [c0, c1, c2, c3], _ =>
    have hu := Try.underlying28
    obtain ⟨x0, rfl, w0⟩ := field_int hu h 0 _ rfl rfl (c := c0) rfl
    obtain ⟨x1, rfl, w1⟩ := field_int hu h 1 _ rfl rfl (c := c1) rfl
    obtain ⟨x2, rfl, w2⟩ := field_int hu h 2 _ rfl rfl (c := c2) rfl
    obtain ⟨n, y, hy⟩ := field hu h 3 _ rfl
    have e : ((([.int .i64 x0, .int .i64 x1, .int .i64 x2, c3] : List Value).drop 3).take (Try.prog.cellsOf 4)) = [c3] := by rw [cellsBool]; rfl
    have hy' : DataW.trod enc Try.prog W 0 (fun _ => true) true n 4 [c3] = some y := by rw [← e]; exact hy
    obtain ⟨b, hb, _⟩ := DataW.trod_bool Try.underlying4 hy'
    simp at hb
    exact ⟨⟨x0, x1, x2, b⟩, by rw [hb], w0, w1, w2⟩
theorem open_spans_val {r : Reach} {b0 : Nat} {v : Value} {d : DataW H} {p : List MemPlace} (hv : Value.okWide Try.prog W r b0 22 v) (h : DataW.Trod enc Try.prog W 0 (fun _ => true) true 22 v d p) : ∃ l, IsSpans W v l := by
  obtain ⟨a, l, c, rfl⟩ := okWide_slice Try.underlying22 hv
  obtain ⟨fuel, hf⟩ := h
  obtain ⟨A, len, cap, ev, hl, hm, hn, hp⟩ := open_rows Try.underlying22 cellsSp (by omega) hf
  rw [ev]
  by_cases q : 0 < len
  · obtain ⟨b, off, rfl, hb, hx⟩ := hp q
    have each : ∀ i, i < len → ∃ y : SpD, SpAt W b (off + i * 4) y ∧ SpWf y := by
      intro i hi
      obtain ⟨cs, n, y, l, q, hy⟩ := hx i hi
      obtain ⟨s, rfl, ws⟩ := open_span l hy
      exact ⟨s, ⟨q 0 (by omega), q 1 (by omega), q 2 (by omega), q 3 (by omega)⟩, ws⟩
    obtain ⟨xs, hxl, hxs⟩ := choose_below len each
    refine ⟨xs, some ⟨b, off, none⟩, cap, by rw [hxl], by omega, hm, (fun h => by cases h), fun y hy => ?_, fun _ => ⟨b, off, rfl, hb, fun i hi => (hxs i (by omega)).1⟩⟩
    obtain ⟨i, hi, rfl⟩ := List.getElem_of_mem hy
    have := (hxs i (by omega)).2
    simpa [List.getD, List.getElem?_eq_getElem hi] using this
  · obtain rfl : len = 0 := by omega
    exact ⟨[], A, cap, rfl, hl, hm, hn, by simp, by simp⟩
/-- A span by value. -/
def IsSpan (v : Value) (x : SpD) : Prop := v = .agg #[.int .i64 x.m, .int .i64 x.f, .int .i64 x.t, .bool x.w]
theorem open_span_val {r : Reach} {b0 : Nat} {v : Value} {d : DataW H} {p : List MemPlace} (hv : Value.okWide Try.prog W r b0 28 v) (h : DataW.Trod enc Try.prog W 0 (fun _ => true) true 28 v d p) : ∃ x : SpD, IsSpan v x ∧ SpWf x := by
  obtain ⟨cs, rfl, hsz⟩ := okWide_struct Try.underlying28 hv
  obtain ⟨l⟩ := cs
  obtain ⟨fuel, hf⟩ := h
  rw [cellsSp] at hsz
  obtain ⟨x, e, wd⟩ := open_span (cs := l) hsz hf
  subst e
  exact ⟨x, rfl, wd⟩
/-! ### In numbers -/
/-- What is wrong with a span. -/
def spanE (x : SpD) : Int := if ¬ (x.m = 0 ∨ x.m = 1) then 1 else if x.f < 0 ∨ x.t < x.f ∨ (if x.m = 1 then 1024 else 65536) < x.t then 23 else 0
/-- Whether two spans meet. -/
def meets (x y : SpD) : Bool := x.m == y.m && decide (max x.f y.f < min x.t y.t) && (x.w || y.w)
def clashD (a b : List SpD) : Bool := a.any fun x => b.any fun y => meets x y
theorem meets_comm (x y : SpD) : meets x y = meets y x := by
  have e : (x.m == y.m) = (y.m == x.m) := Bool.eq_iff_iff.mpr (by simp only [beq_iff_eq]; exact eq_comm)
  unfold meets; rw [e, Int.max_comm, Int.min_comm, Bool.or_comm]
theorem clash_comm (a b : List SpD) : clashD a b = clashD b a := by
  rw [Bool.eq_iff_iff]
  simp only [clashD, List.any_eq_true]
  constructor
  · rintro ⟨x, hx, y, hy, h⟩; exact ⟨y, hy, x, hx, by rw [meets_comm]; exact h⟩
  · rintro ⟨x, hx, y, hy, h⟩; exact ⟨y, hy, x, hx, by rw [meets_comm]; exact h⟩
end Go.Proofs.Ytgbedoffgahhaaa

namespace Go.Proofs.Ytgbedoffgahhaaa
open Go.ChangeShapes Go.WideShapes Go.ChangeAt Go.RowKit
set_option maxRecDepth 20000
set_option linter.unusedVariables false
set_option linter.unusedSimpArgs false
set_option maxHeartbeats 4000000 in
theorem smay_no (m f t : Int) (wr : Bool) (W : World) (hm : ¬ (m = 0 ∨ m = 1)) : Calls Try.prog 9 #[.agg #[.int .i64 m, .int .i64 f, .int .i64 t, .bool wr]] W fun e w' => e = .returned (.int .i64 1) ∧ Grown W w' := by
  by_cases c : m < 0
  · have d0 : decide (m < 0) = true := by simpa using c
    go_enter Try.func9, Try.ntmps9
    go_upto_region 2 with fail
    refine opq (fun w' => (∀ o : Nat, w'.cell? ⟨W.heap.size, o, none⟩ = (#[.int .i64 m, .int .i64 f, .int .i64 t, .bool wr] : Array Value)[o]?) ∧ (∀ o : Nat, w'.cell? ⟨W.heap.size + 1, o, none⟩ = (#[.int .i64 65536, .int .i64 1024] : Array Value)[o]?) ∧ Grown W w' ∧ W.heap.size + 2 ≤ w'.heap.size) kKeep ?_
    rintro w1 ⟨b1, b2, g1, z1⟩
    go_wp2_with fail
    go_ret
    exact ⟨rfl, by (exact kKeep)⟩
  · have d0 : decide (m < 0) = false := by simpa using c
    have d1 : decide (2 ≤ m) = true := by simp; omega
    go_enter Try.func9, Try.ntmps9
    go_upto_region 2 with fail
    refine opq (fun w' => (∀ o : Nat, w'.cell? ⟨W.heap.size, o, none⟩ = (#[.int .i64 m, .int .i64 f, .int .i64 t, .bool wr] : Array Value)[o]?) ∧ (∀ o : Nat, w'.cell? ⟨W.heap.size + 1, o, none⟩ = (#[.int .i64 65536, .int .i64 1024] : Array Value)[o]?) ∧ Grown W w' ∧ W.heap.size + 2 ≤ w'.heap.size) kKeep ?_
    rintro w1 ⟨b1, b2, g1, z1⟩
    go_wp2_with fail
    go_ret
    exact ⟨rfl, by (exact kKeep)⟩
set_option maxHeartbeats 4000000 in
theorem smay_yes (m s f t q : Int) (wr : Bool) (W : World) (hm : (m = 0 ∧ s = 65536) ∨ (m = 1 ∧ s = 1024)) (hq : Hid (q = if f < 0 ∨ t < f ∨ s < t then 23 else 0)) : Calls Try.prog 9 #[.agg #[.int .i64 m, .int .i64 f, .int .i64 t, .bool wr]] W fun e w' => e = .returned (.int .i64 q) ∧ Grown W w' := by
  have HQ := hq.out
  clear hq
  by_cases c0 : f < 0
  · rw [if_pos (.inl c0)] at HQ
    subst HQ
    have d0 : decide (f < 0) = true := by simpa using c0
    rcases hm with ⟨rfl, rfl⟩ | ⟨rfl, rfl⟩
    · go_enter Try.func9, Try.ntmps9
      go_upto_region 2 with fail
      refine opq (fun w' => (∀ o : Nat, w'.cell? ⟨W.heap.size, o, none⟩ = (#[.int .i64 0, .int .i64 f, .int .i64 t, .bool wr] : Array Value)[o]?) ∧ (∀ o : Nat, w'.cell? ⟨W.heap.size + 1, o, none⟩ = (#[.int .i64 65536, .int .i64 1024] : Array Value)[o]?) ∧ Grown W w' ∧ W.heap.size + 2 ≤ w'.heap.size) kKeep ?_
      rintro w1 ⟨b1, b2, g1, z1⟩
      go_upto_region 4 with fail
      go_quiet (fail)
      go_wp2_with fail
      go_ret
      exact ⟨rfl, by (exact kKeep)⟩
    · go_enter Try.func9, Try.ntmps9
      go_upto_region 2 with fail
      refine opq (fun w' => (∀ o : Nat, w'.cell? ⟨W.heap.size, o, none⟩ = (#[.int .i64 1, .int .i64 f, .int .i64 t, .bool wr] : Array Value)[o]?) ∧ (∀ o : Nat, w'.cell? ⟨W.heap.size + 1, o, none⟩ = (#[.int .i64 65536, .int .i64 1024] : Array Value)[o]?) ∧ Grown W w' ∧ W.heap.size + 2 ≤ w'.heap.size) kKeep ?_
      rintro w1 ⟨b1, b2, g1, z1⟩
      go_upto_region 4 with fail
      go_quiet (fail)
      go_wp2_with fail
      go_ret
      exact ⟨rfl, by (exact kKeep)⟩
  by_cases c1 : t < f
  · rw [if_pos (.inr (.inl c1))] at HQ
    subst HQ
    have d0 : decide (f < 0) = false := by simpa using c0
    have d1 : decide (t < f) = true := by simpa using c1
    rcases hm with ⟨rfl, rfl⟩ | ⟨rfl, rfl⟩
    · go_enter Try.func9, Try.ntmps9
      go_upto_region 2 with fail
      refine opq (fun w' => (∀ o : Nat, w'.cell? ⟨W.heap.size, o, none⟩ = (#[.int .i64 0, .int .i64 f, .int .i64 t, .bool wr] : Array Value)[o]?) ∧ (∀ o : Nat, w'.cell? ⟨W.heap.size + 1, o, none⟩ = (#[.int .i64 65536, .int .i64 1024] : Array Value)[o]?) ∧ Grown W w' ∧ W.heap.size + 2 ≤ w'.heap.size) kKeep ?_
      rintro w1 ⟨b1, b2, g1, z1⟩
      go_upto_region 4 with fail
      go_quiet (fail)
      go_wp2_with fail
      go_ret
      exact ⟨rfl, by (exact kKeep)⟩
    · go_enter Try.func9, Try.ntmps9
      go_upto_region 2 with fail
      refine opq (fun w' => (∀ o : Nat, w'.cell? ⟨W.heap.size, o, none⟩ = (#[.int .i64 1, .int .i64 f, .int .i64 t, .bool wr] : Array Value)[o]?) ∧ (∀ o : Nat, w'.cell? ⟨W.heap.size + 1, o, none⟩ = (#[.int .i64 65536, .int .i64 1024] : Array Value)[o]?) ∧ Grown W w' ∧ W.heap.size + 2 ≤ w'.heap.size) kKeep ?_
      rintro w1 ⟨b1, b2, g1, z1⟩
      go_upto_region 4 with fail
      go_quiet (fail)
      go_wp2_with fail
      go_ret
      exact ⟨rfl, by (exact kKeep)⟩
  by_cases c2 : s < t
  · rw [if_pos (.inr (.inr c2))] at HQ
    subst HQ
    have d0 : decide (f < 0) = false := by simpa using c0
    have d1 : decide (t < f) = false := by simpa using c1
    have d2 : decide (s < t) = true := by simpa using c2
    rcases hm with ⟨rfl, rfl⟩ | ⟨rfl, rfl⟩
    · go_enter Try.func9, Try.ntmps9
      go_upto_region 2 with fail
      refine opq (fun w' => (∀ o : Nat, w'.cell? ⟨W.heap.size, o, none⟩ = (#[.int .i64 0, .int .i64 f, .int .i64 t, .bool wr] : Array Value)[o]?) ∧ (∀ o : Nat, w'.cell? ⟨W.heap.size + 1, o, none⟩ = (#[.int .i64 65536, .int .i64 1024] : Array Value)[o]?) ∧ Grown W w' ∧ W.heap.size + 2 ≤ w'.heap.size) kKeep ?_
      rintro w1 ⟨b1, b2, g1, z1⟩
      go_upto_region 4 with fail
      go_quiet (fail)
      go_wp2_with fail
      go_ret
      exact ⟨rfl, by (exact kKeep)⟩
    · go_enter Try.func9, Try.ntmps9
      go_upto_region 2 with fail
      refine opq (fun w' => (∀ o : Nat, w'.cell? ⟨W.heap.size, o, none⟩ = (#[.int .i64 1, .int .i64 f, .int .i64 t, .bool wr] : Array Value)[o]?) ∧ (∀ o : Nat, w'.cell? ⟨W.heap.size + 1, o, none⟩ = (#[.int .i64 65536, .int .i64 1024] : Array Value)[o]?) ∧ Grown W w' ∧ W.heap.size + 2 ≤ w'.heap.size) kKeep ?_
      rintro w1 ⟨b1, b2, g1, z1⟩
      go_upto_region 4 with fail
      go_quiet (fail)
      go_wp2_with fail
      go_ret
      exact ⟨rfl, by (exact kKeep)⟩
  rw [if_neg (fun h => by omega)] at HQ
  subst HQ
  have d0 : decide (f < 0) = false := by simpa using c0
  have d1 : decide (t < f) = false := by simpa using c1
  have d2 : decide (s < t) = false := by simpa using c2
  rcases hm with ⟨rfl, rfl⟩ | ⟨rfl, rfl⟩
  · go_enter Try.func9, Try.ntmps9
    go_upto_region 2 with fail
    refine opq (fun w' => (∀ o : Nat, w'.cell? ⟨W.heap.size, o, none⟩ = (#[.int .i64 0, .int .i64 f, .int .i64 t, .bool wr] : Array Value)[o]?) ∧ (∀ o : Nat, w'.cell? ⟨W.heap.size + 1, o, none⟩ = (#[.int .i64 65536, .int .i64 1024] : Array Value)[o]?) ∧ Grown W w' ∧ W.heap.size + 2 ≤ w'.heap.size) kKeep ?_
    rintro w1 ⟨b1, b2, g1, z1⟩
    go_upto_region 4 with fail
    go_quiet (fail)
    go_wp2_with fail
    go_ret
    exact ⟨rfl, by (exact kKeep)⟩
  · go_enter Try.func9, Try.ntmps9
    go_upto_region 2 with fail
    refine opq (fun w' => (∀ o : Nat, w'.cell? ⟨W.heap.size, o, none⟩ = (#[.int .i64 1, .int .i64 f, .int .i64 t, .bool wr] : Array Value)[o]?) ∧ (∀ o : Nat, w'.cell? ⟨W.heap.size + 1, o, none⟩ = (#[.int .i64 65536, .int .i64 1024] : Array Value)[o]?) ∧ Grown W w' ∧ W.heap.size + 2 ≤ w'.heap.size) kKeep ?_
    rintro w1 ⟨b1, b2, g1, z1⟩
    go_upto_region 4 with fail
    go_quiet (fail)
    go_wp2_with fail
    go_ret
    exact ⟨rfl, by (exact kKeep)⟩
theorem smay_any (x : SpD) (q : Int) (W : World) (hq : Hid (q = spanE x)) : Calls Try.prog 9 #[.agg #[.int .i64 x.m, .int .i64 x.f, .int .i64 x.t, .bool x.w]] W fun e w' => e = .returned (.int .i64 q) ∧ Grown W w' := by
  have HQ := hq.out
  unfold spanE at HQ
  by_cases hm : x.m = 0 ∨ x.m = 1
  · rw [if_neg (fun h => h hm)] at HQ
    refine smay_yes x.m (if x.m = 1 then 1024 else 65536) x.f x.t q x.w W ?_ (Lib.hid HQ)
    rcases hm with h | h
    · left; exact ⟨h, by rw [h]; rfl⟩
    · right; exact ⟨h, by rw [h]; rfl⟩
  · rw [if_pos hm] at HQ
    subst HQ
    exact smay_no x.m x.f x.t x.w W hm
set_option maxHeartbeats 4000000 in
theorem rsmay_no (m f t : Int) (wr : Bool) (W : World) (hm : ¬ (m = 0 ∨ m = 1)) : Calls Try.prog 10 #[.agg #[.int .i64 m, .int .i64 f, .int .i64 t, .bool wr]] W fun e w' => e = .returned (.int .i64 1) ∧ Grown W w' := by
  have d0 : (m != 0) = true := by simp; omega
  have d1 : (m != 1) = true := by simp; omega
  go_enter Try.func10, Try.ntmps10
  go_upto_region 1 with fail
  refine opq (fun w' => (∀ o : Nat, w'.cell? ⟨W.heap.size, o, none⟩ = (#[.int .i64 m, .int .i64 f, .int .i64 t, .bool wr] : Array Value)[o]?) ∧ Grown W w' ∧ W.heap.size + 1 ≤ w'.heap.size) kKeep ?_
  rintro w1 ⟨b1, g1, z1⟩
  go_wp2_with fail
  go_ret
  exact ⟨rfl, by (exact kKeep)⟩
set_option maxHeartbeats 4000000 in
theorem rsmay_yes (m s f t q : Int) (wr : Bool) (W : World) (hm : (m = 0 ∧ s = 65536) ∨ (m = 1 ∧ s = 1024)) (hq : Hid (q = if f < 0 ∨ t < f ∨ s < t then 23 else 0)) : Calls Try.prog 10 #[.agg #[.int .i64 m, .int .i64 f, .int .i64 t, .bool wr]] W fun e w' => e = .returned (.int .i64 q) ∧ Grown W w' := by
  have HQ := hq.out
  clear hq
  by_cases c0 : f < 0
  · rw [if_pos (.inl c0)] at HQ
    subst HQ
    have d0 : decide (f < 0) = true := by simpa using c0
    rcases hm with ⟨rfl, rfl⟩ | ⟨rfl, rfl⟩
    · go_enter Try.func10, Try.ntmps10
      go_upto_region 1 with fail
      refine opq (fun w' => (∀ o : Nat, w'.cell? ⟨W.heap.size, o, none⟩ = (#[.int .i64 0, .int .i64 f, .int .i64 t, .bool wr] : Array Value)[o]?) ∧ Grown W w' ∧ W.heap.size + 1 ≤ w'.heap.size) kKeep ?_
      rintro w1 ⟨b1, g1, z1⟩
      go_wp2_with fail
      go_ret
      exact ⟨rfl, by (exact kKeep)⟩
    · go_enter Try.func10, Try.ntmps10
      go_upto_region 1 with fail
      refine opq (fun w' => (∀ o : Nat, w'.cell? ⟨W.heap.size, o, none⟩ = (#[.int .i64 1, .int .i64 f, .int .i64 t, .bool wr] : Array Value)[o]?) ∧ Grown W w' ∧ W.heap.size + 1 ≤ w'.heap.size) kKeep ?_
      rintro w1 ⟨b1, g1, z1⟩
      go_wp2_with fail
      go_ret
      exact ⟨rfl, by (exact kKeep)⟩
  by_cases c1 : t < f
  · rw [if_pos (.inr (.inl c1))] at HQ
    subst HQ
    have d0 : decide (f < 0) = false := by simpa using c0
    have d1 : decide (t < f) = true := by simpa using c1
    rcases hm with ⟨rfl, rfl⟩ | ⟨rfl, rfl⟩
    · go_enter Try.func10, Try.ntmps10
      go_upto_region 1 with fail
      refine opq (fun w' => (∀ o : Nat, w'.cell? ⟨W.heap.size, o, none⟩ = (#[.int .i64 0, .int .i64 f, .int .i64 t, .bool wr] : Array Value)[o]?) ∧ Grown W w' ∧ W.heap.size + 1 ≤ w'.heap.size) kKeep ?_
      rintro w1 ⟨b1, g1, z1⟩
      go_wp2_with fail
      go_ret
      exact ⟨rfl, by (exact kKeep)⟩
    · go_enter Try.func10, Try.ntmps10
      go_upto_region 1 with fail
      refine opq (fun w' => (∀ o : Nat, w'.cell? ⟨W.heap.size, o, none⟩ = (#[.int .i64 1, .int .i64 f, .int .i64 t, .bool wr] : Array Value)[o]?) ∧ Grown W w' ∧ W.heap.size + 1 ≤ w'.heap.size) kKeep ?_
      rintro w1 ⟨b1, g1, z1⟩
      go_wp2_with fail
      go_ret
      exact ⟨rfl, by (exact kKeep)⟩
  by_cases c2 : s < t
  · rw [if_pos (.inr (.inr c2))] at HQ
    subst HQ
    have d0 : decide (f < 0) = false := by simpa using c0
    have d1 : decide (t < f) = false := by simpa using c1
    have d2 : decide (s < t) = true := by simpa using c2
    rcases hm with ⟨rfl, rfl⟩ | ⟨rfl, rfl⟩
    · go_enter Try.func10, Try.ntmps10
      go_upto_region 1 with fail
      refine opq (fun w' => (∀ o : Nat, w'.cell? ⟨W.heap.size, o, none⟩ = (#[.int .i64 0, .int .i64 f, .int .i64 t, .bool wr] : Array Value)[o]?) ∧ Grown W w' ∧ W.heap.size + 1 ≤ w'.heap.size) kKeep ?_
      rintro w1 ⟨b1, g1, z1⟩
      go_wp2_with fail
      go_ret
      exact ⟨rfl, by (exact kKeep)⟩
    · go_enter Try.func10, Try.ntmps10
      go_upto_region 1 with fail
      refine opq (fun w' => (∀ o : Nat, w'.cell? ⟨W.heap.size, o, none⟩ = (#[.int .i64 1, .int .i64 f, .int .i64 t, .bool wr] : Array Value)[o]?) ∧ Grown W w' ∧ W.heap.size + 1 ≤ w'.heap.size) kKeep ?_
      rintro w1 ⟨b1, g1, z1⟩
      go_wp2_with fail
      go_ret
      exact ⟨rfl, by (exact kKeep)⟩
  rw [if_neg (fun h => by omega)] at HQ
  subst HQ
  have d0 : decide (f < 0) = false := by simpa using c0
  have d1 : decide (t < f) = false := by simpa using c1
  have d2 : decide (s < t) = false := by simpa using c2
  rcases hm with ⟨rfl, rfl⟩ | ⟨rfl, rfl⟩
  · go_enter Try.func10, Try.ntmps10
    go_upto_region 1 with fail
    refine opq (fun w' => (∀ o : Nat, w'.cell? ⟨W.heap.size, o, none⟩ = (#[.int .i64 0, .int .i64 f, .int .i64 t, .bool wr] : Array Value)[o]?) ∧ Grown W w' ∧ W.heap.size + 1 ≤ w'.heap.size) kKeep ?_
    rintro w1 ⟨b1, g1, z1⟩
    go_wp2_with fail
    go_ret
    exact ⟨rfl, by (exact kKeep)⟩
  · go_enter Try.func10, Try.ntmps10
    go_upto_region 1 with fail
    refine opq (fun w' => (∀ o : Nat, w'.cell? ⟨W.heap.size, o, none⟩ = (#[.int .i64 1, .int .i64 f, .int .i64 t, .bool wr] : Array Value)[o]?) ∧ Grown W w' ∧ W.heap.size + 1 ≤ w'.heap.size) kKeep ?_
    rintro w1 ⟨b1, g1, z1⟩
    go_wp2_with fail
    go_ret
    exact ⟨rfl, by (exact kKeep)⟩
theorem rsmay_any (x : SpD) (q : Int) (W : World) (hq : Hid (q = spanE x)) : Calls Try.prog 10 #[.agg #[.int .i64 x.m, .int .i64 x.f, .int .i64 x.t, .bool x.w]] W fun e w' => e = .returned (.int .i64 q) ∧ Grown W w' := by
  have HQ := hq.out
  unfold spanE at HQ
  by_cases hm : x.m = 0 ∨ x.m = 1
  · rw [if_neg (fun h => h hm)] at HQ
    refine rsmay_yes x.m (if x.m = 1 then 1024 else 65536) x.f x.t q x.w W ?_ (Lib.hid HQ)
    rcases hm with h | h
    · left; exact ⟨h, by rw [h]; rfl⟩
    · right; exact ⟨h, by rw [h]; rfl⟩
  · rw [if_pos hm] at HQ
    subst HQ
    exact rsmay_no x.m x.f x.t x.w W hm
end Go.Proofs.Ytgbedoffgahhaaa

namespace Go.Proofs.Ytgbedoffgahhaaa
open Go.ChangeShapes Go.WideShapes Go.ChangeAt Go.RowKit
set_option maxRecDepth 20000
set_option linter.unusedVariables false
set_option linter.unusedSimpArgs false
theorem mx_of (a b : Int) : (if a < b then b else a) = max a b := by omega
theorem mn_of (a b : Int) : (if b < a then b else a) = min a b := by omega
set_option maxHeartbeats 4000000 in
theorem sclash_any (x y : SpD) (q : Bool) (W : World) (hq : Hid (q = meets x y)) : Calls Try.prog 22 #[.agg #[.int .i64 x.m, .int .i64 x.f, .int .i64 x.t, .bool x.w], .agg #[.int .i64 y.m, .int .i64 y.f, .int .i64 y.t, .bool y.w]] W fun e w' => e = .returned (.bool q) ∧ Grown W w' := by
  obtain ⟨m, f, t, wr⟩ := x
  obtain ⟨m', f', t', wr'⟩ := y
  have HQ := hq.out
  clear hq
  unfold meets at HQ
  dsimp only at HQ ⊢
  go_enter Try.func22, Try.ntmps22
  go_upto_region 1 with fail
  refine opq (fun w' => (∀ o : Nat, w'.cell? ⟨W.heap.size, o, none⟩ = (#[.int .i64 m, .int .i64 f, .int .i64 t, .bool wr] : Array Value)[o]?) ∧ (∀ o : Nat, w'.cell? ⟨W.heap.size + 1, o, none⟩ = (#[.int .i64 m', .int .i64 f', .int .i64 t', .bool wr'] : Array Value)[o]?) ∧ Grown W w' ∧ W.heap.size + 2 ≤ w'.heap.size) kKeep ?_
  rintro w1 ⟨b1, b2, g1, z1⟩
  go_upto_region 2 with fail
  obtain ⟨c, hc⟩ : ∃ c, decide (max f f' < min t t') = c := ⟨_, rfl⟩
  have hD : decide ((if f < f' then f' else f) < if t' < t then t' else t) = c := by rw [mx_of, mn_of]; exact hc
  obtain ⟨a, ha⟩ : ∃ a, (if f < f' then f' else f) = a := ⟨_, rfl⟩
  obtain ⟨b, hb⟩ : ∃ b, (if t' < t then t' else t) = b := ⟨_, rfl⟩
  simp only [hD]
  simp only [ha, hb]
  rw [hc] at HQ
  clear ha hb
  have HQ' := Lib.hid HQ
  clear HQ hD hc
  have G1 := Lib.hid g1
  clear g1
  cases e0 : (m == m')
  · go_wp2_with fail
    go_ret
    exact ⟨by rw [HQ'.out, e0]; rfl, G1.out⟩
  cases c
  · go_wp2_with fail
    go_ret
    exact ⟨by rw [HQ'.out, e0]; rfl, G1.out⟩
  cases wr <;> cases wr'
  all_goals
    go_wp2_with fail
    go_ret
    exact ⟨by rw [HQ'.out, e0]; rfl, G1.out⟩
end Go.Proofs.Ytgbedoffgahhaaa

namespace Go.Proofs.Ytgbedoffgahhaaa
open Go.ChangeShapes Go.WideShapes Go.ChangeAt Go.RowKit
set_option maxRecDepth 20000
set_option linter.unusedVariables false
set_option linter.unusedSimpArgs false
set_option maxHeartbeats 1000000 in
theorem indexSpans_any (fid : FuncId) (cp : Addr) (p : SpD → Bool) (xs : List SpD) (v : Value) (W : World) (hv : IsSpans W v xs)
    (hE : ∀ (xs : Array Value) (w : World), (callFunc fid xs).run Try.prog w = .ok (.enter fid xs) w)
    (hF : ∀ x ∈ xs, ∀ w, Grown W w → Calls Try.prog fid #[.agg #[.int .i64 x.m, .int .i64 x.f, .int .i64 x.t, .bool x.w], .pointer (some cp)] w fun e w' => e = .returned (.bool (p x)) ∧ Grown w w') :
    Calls Try.prog 29 #[v, .func (.func fid) #[] #[.pointer (some cp)]] W fun e w' => ∃ i : Int, e = .returned (.int .i64 i) ∧ ((0 ≤ i ∧ xs.any p = true) ∨ (i = -1 ∧ xs.any p = false)) ∧ Grown W w' := by
  obtain ⟨A, c1, rfl, a1, a2, a3, a4, a5⟩ := hv
  have hl1 : xs.length ≤ 9223372036854775807 := by unfold maxLen at a2; omega
  have HF := Lib.hid hF
  have HE := Lib.hid hE
  have A5 := Lib.hid a5
  clear a2 a3 a4 hF hE a5
  go_enter Try.func29, Try.ntmps29
  go_wp2_with fail
  go_loopw [8] (fun i wr => ∃ k : Nat, k ≤ xs.length ∧ i = .int .i64 k ∧ Hid (∀ j, j < k → p (xs.getD j default) = false) ∧ Grown W wr) (fun i _ => xs.length - (intOf i).toNat)
  case atStart => exact ⟨0, by omega, rfl, Lib.hid (fun j h => by omega), Grown.refl _⟩
  case round =>
    obtain ⟨k, hk, rfl, hs, hg⟩ := hrel
    by_cases l : k < xs.length
    · obtain ⟨b, off, rfl, hb, hc⟩ := A5.out (by omega)
      obtain ⟨m0, m1, m2, m3⟩ := (hc k l).grow hb (Grown.past hg)
      clear hc
      have hm : xs.getD k default ∈ xs := by simp [List.getD, l]
      obtain ⟨x, hx⟩ : ∃ x, xs.getD k default = x := ⟨_, rfl⟩
      rw [hx] at m0 m1 m2 m3 hm
      have HX := Lib.hid hx
      have HM := Lib.hid hm
      clear hx hm
      have i1 : (0 : Int) ≤ (k : Int) := by omega
      have i2 : (k : Int) < (xs.length : Int) := by omega
      have hE := fun xs w => HE.out xs w
      cases hp : p x with
      | true =>
        go_wp2_with fail
        refine (HF.out x HM.out _ kKeep).mono ?_; rintro e w1 ⟨rfl, g⟩
        rw [hp]
        clear hE
        go_wp2_with fail
        go_ret
        exact ⟨_, rfl, .inl ⟨by omega, List.any_eq_true.2 ⟨x, HM.out, hp⟩⟩, grown_trans hg g⟩
      | false =>
        go_wp2_with fail
        refine (HF.out x HM.out _ kKeep).mono ?_; rintro e w1 ⟨rfl, g⟩
        rw [hp]
        clear hE
        go_wp2_with fail
        go_roundw
        case rel => exact ⟨k + 1, by omega, by go_num, Lib.hid (fun j h => by
          by_cases c : j = k
          · subst c; rw [HX.out, hp]
          · exact hs.out j (by omega)), grown_trans hg g⟩
        case measure => simp [intOf]; omega
    · go_wp2_with fail
      go_ret
      refine ⟨_, rfl, .inr ⟨rfl, ?_⟩, hg⟩
      rw [List.any_eq_false]
      intro x hx
      obtain ⟨j, hj, rfl⟩ := List.getElem_of_mem hx
      have := hs.out j (by omega)
      simpa [List.getD, List.getElem?_eq_getElem hj] using this
theorem containsSpans_any (fid : FuncId) (cp : Addr) (p : SpD → Bool) (xs : List SpD) (v : Value) (W : World) (t : Bool) (hv : IsSpans W v xs)
    (hE : ∀ (xs : Array Value) (w : World), (callFunc fid xs).run Try.prog w = .ok (.enter fid xs) w)
    (hF : ∀ x ∈ xs, ∀ w, Grown W w → Calls Try.prog fid #[.agg #[.int .i64 x.m, .int .i64 x.f, .int .i64 x.t, .bool x.w], .pointer (some cp)] w fun e w' => e = .returned (.bool (p x)) ∧ Grown w w') (ht : Hid (t = xs.any p)) :
    Calls Try.prog 19 #[v, .func (.func fid) #[] #[.pointer (some cp)]] W fun e w' => e = .returned (.bool t) ∧ Grown W w' := by
  have H := Lib.hid (indexSpans_any fid cp p xs v W hv hE hF)
  obtain ⟨A, c1, rfl, a1, a2, a3, a4, a5⟩ := hv
  clear hE hF a1 a2 a3 a4 a5
  go_enter Try.func19, Try.ntmps19
  go_wp2_with fail
  refine H.out.mono ?_
  rintro e w1 ⟨i, rfl, hi, g⟩
  rcases hi with ⟨h0, ha⟩ | ⟨rfl, ha⟩
  · have T : t = true := ht.out.trans ha
    subst T
    go_wp2_with fail
    go_ret
    exact ⟨rfl, g⟩
  · have T : t = false := ht.out.trans ha
    subst T
    go_wp2_with fail
    go_ret
    exact ⟨rfl, g⟩
theorem enters_c11 : ∀ (xs : Array Value) (w : World), (callFunc 21 xs).run Try.prog w = .ok (.enter 21 xs) w := fun xs w => by kernel_rfl
theorem enters_c1 : ∀ (xs : Array Value) (w : World), (callFunc 20 xs).run Try.prog w = .ok (.enter 20 xs) w := fun xs w => by kernel_rfl
set_option maxHeartbeats 1000000 in
theorem c11_any (x y : SpD) (P : Nat) (W : World) (hP : (∀ o : Nat, W.cell? ⟨P, o, none⟩ = (#[.int .i64 x.m, .int .i64 x.f, .int .i64 x.t, .bool x.w] : Array Value)[o]?)) : Calls Try.prog 21 #[.agg #[.int .i64 y.m, .int .i64 y.f, .int .i64 y.t, .bool y.w], .pointer (some ⟨P, 0, none⟩)] W fun e w' => e = .returned (.bool (meets x y)) ∧ Grown W w' := by
  have hlt : P < W.heap.size := cell_lt (hP 0)
  obtain ⟨t, ht⟩ : ∃ t, t = meets x y := ⟨_, rfl⟩
  rw [← ht]
  have HT := Lib.hid ht
  clear ht
  go_enter Try.func21, Try.ntmps21
  go_upto_region 1 with fail
  refine opq (fun w' => (∀ o : Nat, w'.cell? ⟨W.heap.size, o, none⟩ = (#[.int .i64 y.m, .int .i64 y.f, .int .i64 y.t, .bool y.w] : Array Value)[o]?) ∧ (∀ o : Nat, w'.cell? ⟨P, o, none⟩ = (#[.int .i64 x.m, .int .i64 x.f, .int .i64 x.t, .bool x.w] : Array Value)[o]?) ∧ Grown W w' ∧ W.heap.size + 1 ≤ w'.heap.size) kKeep ?_
  rintro w1 ⟨b1, b2, g1, z1⟩
  go_wp2_with fail
  refine (sclash_any x y t _ HT).mono ?_
  rintro e w2 ⟨rfl, g2⟩
  go_wp2_with fail
  go_ret
  exact ⟨rfl, grown_trans g1 g2⟩
set_option maxHeartbeats 1000000 in
theorem c1_any (x : SpD) (b : List SpD) (vb : Value) (P : Nat) (W : World) (hP : (∀ o : Nat, W.cell? ⟨P, o, none⟩ = (#[vb] : Array Value)[o]?)) (hlt : P < W.heap.size) (hb : IsSpans W vb b) : Calls Try.prog 20 #[.agg #[.int .i64 x.m, .int .i64 x.f, .int .i64 x.t, .bool x.w], .pointer (some ⟨P, 0, none⟩)] W fun e w' => e = .returned (.bool (b.any fun y => meets x y)) ∧ Grown W w' := by
  have HB := Lib.hid hb
  obtain ⟨A, c1, rfl, a1, a2, a3, a4, a5⟩ := hb
  clear a1 a2 a3 a4 a5
  obtain ⟨t, ht⟩ : ∃ t, t = b.any fun y => meets x y := ⟨_, rfl⟩
  rw [← ht]
  have HT := Lib.hid ht
  clear ht
  go_enter Try.func20, Try.ntmps20
  go_upto_region 1 with fail
  refine opq (fun w' => (∀ o : Nat, w'.cell? ⟨W.heap.size, o, none⟩ = (#[.int .i64 x.m, .int .i64 x.f, .int .i64 x.t, .bool x.w] : Array Value)[o]?) ∧ (∀ o : Nat, w'.cell? ⟨P, o, none⟩ = (#[.slice A b.length c1] : Array Value)[o]?) ∧ Grown W w' ∧ W.heap.size + 1 ≤ w'.heap.size) kKeep ?_
  rintro w1 ⟨b1, b2, g1, z1⟩
  have B1 := Lib.hid b1
  have G1 := Lib.hid g1
  go_wp2_with fail
  refine (containsSpans_any 21 ⟨W.heap.size, 0, none⟩ (fun y => meets x y) b _ _ t (HB.out.grow (Grown.past kKeep)) enters_c11 (fun y hy w g => c11_any x y W.heap.size w (box_grown (grown_trans kKeep g) B1.out (by omega))) HT).mono ?_
  rintro e w2 ⟨rfl, g2⟩
  go_wp2_with fail
  go_ret
  exact ⟨rfl, by (exact kKeep)⟩
set_option maxHeartbeats 1000000 in
theorem clashS_any (a b : List SpD) (va vb : Value) (t : Bool) (W : World) (ha : IsSpans W va a) (hb : IsSpans W vb b) (ht : Hid (t = clashD a b)) : Calls Try.prog 11 #[va, vb] W fun e w' => e = .returned (.bool t) ∧ Grown W w' := by
  have HA := Lib.hid ha
  have HB := Lib.hid hb
  obtain ⟨A, c1, rfl, a1, a2, a3, a4, a5⟩ := ha
  obtain ⟨B, c2, rfl, b1, b2, b3, b4, b5⟩ := hb
  clear a1 a2 a3 a4 a5 b1 b2 b3 b4 b5
  go_enter Try.func11, Try.ntmps11
  go_upto_region 1 with fail
  refine opq (fun w' => (∀ o : Nat, w'.cell? ⟨W.heap.size, o, none⟩ = (#[.slice B b.length c2] : Array Value)[o]?) ∧ Grown W w' ∧ W.heap.size + 1 ≤ w'.heap.size) kKeep ?_
  rintro w1 ⟨b1, g1, z1⟩
  have B1 := Lib.hid b1
  go_wp2_with fail
  refine (containsSpans_any 20 ⟨W.heap.size, 0, none⟩ (fun x => b.any fun y => meets x y) a _ _ t (HA.out.grow (Grown.past kKeep)) enters_c1 (fun x hx w g => c1_any x b _ W.heap.size w (box_grown g B1.out (by omega)) (Nat.lt_of_lt_of_le (show W.heap.size < w1.heap.size by omega) (Grown.past g).2.2.1) (HB.out.grow (Grown.past (grown_trans g1 g)))) ht).mono ?_
  rintro e w2 ⟨rfl, g2⟩
  go_wp2_with fail
  go_ret
  exact ⟨rfl, grown_trans g1 g2⟩
end Go.Proofs.Ytgbedoffgahhaaa

namespace Go.Proofs.Ytgbedoffgahhaaa
open Go.ChangeShapes Go.WideShapes Go.ChangeAt Go.RowKit
set_option maxRecDepth 20000
set_option linter.unusedVariables false
set_option linter.unusedSimpArgs false
theorem spans_cut {W : World} {A : Option Addr} {n cap : Nat} {xs : List SpD} (k : Nat) (hk : k ≤ n) (h : IsSpans W (.slice A n cap) xs) : IsSpans W (.slice A k cap) (xs.take k) := by
  obtain ⟨A', cap', e, h2, h3, h4, h5, h6⟩ := h
  simp only [Value.slice.injEq] at e
  obtain ⟨rfl, rfl, rfl⟩ := e
  have hl : (xs.take k).length = k := by rw [List.length_take]; omega
  refine ⟨A, cap, by rw [hl], by omega, h3, h4, fun x hx => h5 x (List.mem_of_mem_take hx), fun hp => ?_⟩
  obtain ⟨b, off, e, hb, hc⟩ := h6 (by omega)
  refine ⟨b, off, e, hb, fun i hi => ?_⟩
  have := hc i (by omega)
  simpa [List.getD, List.getElem?_take_of_lt (show i < k by omega)] using this
set_option maxHeartbeats 1000000 in
theorem few_any (xs : List SpD) (v : Value) (W : World) (hv : IsSpans W v xs) : Calls Try.prog 8 #[v] W fun e w' => ∃ v', e = .returned v' ∧ IsSpans W v' (xs.take 40) ∧ w' = W := by
  have HV := Lib.hid hv
  obtain ⟨A, c1, rfl, a1, a2, a3, a4, a5⟩ := hv
  have hl1 : xs.length ≤ 9223372036854775807 := by unfold maxLen at a2; omega
  clear a3 a4 a5 a2
  by_cases c : 40 < xs.length
  · have d1 : decide ((40 : Int) < (xs.length : Int)) = true := by simp; omega
    have i1 : (40 : Int) ≤ (c1 : Int) := by omega
    go_enter Try.func8, Try.ntmps8
    go_wp2_with fail
    go_ret
    exact ⟨_, rfl, spans_cut 40 (by omega) HV.out, rfl⟩
  · have d1 : decide ((40 : Int) < (xs.length : Int)) = false := by simp; omega
    go_enter Try.func8, Try.ntmps8
    go_wp2_with fail
    go_ret
    exact ⟨_, rfl, by rw [List.take_of_length_le (by omega)]; exact HV.out, rfl⟩
set_option maxHeartbeats 4000000 in
theorem rclash_any (a b : List SpD) (va vb : Value) (W : World) (t : Bool) (ha : IsSpans W va a) (hb : IsSpans W vb b) (ht : Hid (t = clashD a b)) : Calls Try.prog 12 #[va, vb] W fun e w' => e = .returned (.bool t) ∧ Grown W w' := by
  obtain ⟨A, ca, rfl, a1, a2, a3, a4, a5⟩ := ha
  obtain ⟨B, cb, rfl, b1, b2, b3, b4, b5⟩ := hb
  have hl1 : a.length ≤ 9223372036854775807 := by unfold maxLen at a2; omega
  have hl2 : b.length ≤ 9223372036854775807 := by unfold maxLen at b2; omega
  have A5 := Lib.hid a5
  have B5 := Lib.hid b5
  clear a2 a3 a4 a5 b2 b3 b4 b5
  go_enter Try.func12, Try.ntmps12
  go_wp2_with fail
  go_loopw [4, 5] (fun s i wr => ∃ k : Nat, k ≤ a.length ∧ s = .bool false ∧ i = .int .i64 k ∧ Hid (∀ j, j < k → (b.any fun y => meets (a.getD j default) y) = false) ∧ Grown W wr) (fun _ i _ => a.length - (intOf i).toNat)
  case atStart => exact ⟨0, by omega, rfl, rfl, Lib.hid (fun j h => by omega), Grown.refl _⟩
  case round =>
    obtain ⟨k, hk, rfl, rfl, hs, hg⟩ := hrel
    obtain ⟨w8, h8⟩ : ∃ w8, w8 = wr := ⟨_, rfl⟩
    subst h8
    by_cases l : k < a.length
    · obtain ⟨bb, off, rfl, hbb, hc⟩ := A5.out (by omega)
      have AT := Lib.hid (fun w (g : Grown W w) => (hc k l).grow hbb (Grown.past g))
      have hm : a.getD k default ∈ a := by simp [List.getD, l]
      obtain ⟨x, hx⟩ : ∃ x, a.getD k default = x := ⟨_, rfl⟩
      rw [hx] at AT hm
      have HX := Lib.hid hx
      have HM := Lib.hid hm
      clear hc hm hx
      have i1 : (0 : Int) ≤ (k : Int) := by omega
      have i2 : (k : Int) < (a.length : Int) := by omega
      go_wp2_with fail
      go_loopw [4, 6] (fun s i wr => ∃ n : Nat, n ≤ b.length ∧ s = .bool false ∧ i = .int .i64 n ∧ Hid (∀ j, j < n → meets x (b.getD j default) = false) ∧ Grown W wr) (fun _ i _ => b.length - (intOf i).toNat)
      case atStart => exact ⟨0, by omega, rfl, rfl, Lib.hid (fun j h => by omega), hg⟩
      case round =>
        obtain ⟨n, hn, rfl, rfl, hs2, hg2⟩ := hrel
        by_cases l2 : n < b.length
        · obtain ⟨bc, off2, rfl, hbc, hc2⟩ := B5.out (by omega)
          obtain ⟨m0, m1, m2, m3⟩ := AT.out wr hg2
          have hm2 : b.getD n default ∈ b := by simp [List.getD, l2]
          obtain ⟨y, hy⟩ : ∃ y, b.getD n default = y := ⟨_, rfl⟩
          rw [hy] at hm2
          have ATY := Lib.hid (fun w (g : Grown W w) => by have := (hc2 n l2).grow hbc (Grown.past g); rw [hy] at this; exact this)
          have HY := Lib.hid hy
          have HM2 := Lib.hid hm2
          clear hc2 hm2 hy
          have j1 : (0 : Int) ≤ (n : Int) := by omega
          have j2 : (n : Int) < (b.length : Int) := by omega
          go_upto_region 8 with fail
          refine opq (fun w' => (∀ o : Nat, w'.cell? ⟨wr.heap.size, o, none⟩ = (#[.int .i64 x.m, .int .i64 x.f, .int .i64 x.t, .bool x.w] : Array Value)[o]?) ∧ Grown W w' ∧ w'.heap.size = wr.heap.size + 1) ⟨by (exact kKeep), by (exact kKeep), by simp⟩ ?_
          rintro w3 ⟨x1, g3, z3⟩
          obtain ⟨n0, n1, n2, n3⟩ := ATY.out w3 g3
          have Z3 := Lib.hid z3
          clear z3
          go_upto_region 9 with fail
          obtain ⟨Y, hY⟩ : ∃ Y, w3.heap.size = Y := ⟨_, rfl⟩
          try simp only [hY]
          refine opq (fun w' => (∀ o : Nat, w'.cell? ⟨wr.heap.size, o, none⟩ = (#[.int .i64 x.m, .int .i64 x.f, .int .i64 x.t, .bool x.w] : Array Value)[o]?) ∧ (∀ o : Nat, w'.cell? ⟨Y, o, none⟩ = (#[.int .i64 y.m, .int .i64 y.f, .int .i64 y.t, .bool y.w] : Array Value)[o]?) ∧ Grown W w') (by have := Z3.out; subst hY; (exact kKeep)) ?_
          rintro w4 ⟨x1, x2, g4⟩
          clear hY
          have G4 := Lib.hid g4
          clear m0 m1 m2 m3 n0 n1 n2 n3 g4 g3
          have E := Lib.hid (show meets x y = (x.m == y.m && decide (max x.f y.f < min x.t y.t) && (x.w || y.w)) from rfl)
          obtain ⟨c, hc⟩ : ∃ c, decide (max x.f y.f < min x.t y.t) = c := ⟨_, rfl⟩
          rw [hc] at E
          have hD : decide ((if x.f < y.f then y.f else x.f) < if y.t < x.t then y.t else x.t) = c := by rw [mx_of, mn_of]; exact hc
          obtain ⟨p, hp⟩ : ∃ p, (if x.f < y.f then y.f else x.f) = p := ⟨_, rfl⟩
          obtain ⟨q, hq⟩ : ∃ q, (if y.t < x.t then y.t else x.t) = q := ⟨_, rfl⟩
          rw [hp, hq] at hD
          cases e0 : (x.m == y.m)
          · go_wp2_with fail
            go_roundw
            case rel => exact ⟨n + 1, by omega, rfl, by go_num, Lib.hid (fun j h => by
              by_cases c : j = n
              · subst c; rw [HY.out, E.out, e0]; rfl
              · exact hs2.out j (by omega)), G4.out⟩
            case measure => simp [intOf]; omega
          obtain ⟨u, hu⟩ : ∃ u, x.w = u := ⟨_, rfl⟩
          obtain ⟨v, hv⟩ : ∃ v, y.w = v := ⟨_, rfl⟩
          rw [hu] at x1
          rw [hv] at x2
          rw [hu, hv] at E
          cases u <;> cases v
          · go_wp2_with fail
            go_roundw
            case rel => exact ⟨n + 1, by omega, rfl, by go_num, Lib.hid (fun j h => by
              by_cases c : j = n
              · subst c; rw [HY.out, E.out, e0]; simp
              · exact hs2.out j (by omega)), G4.out⟩
            case measure => simp [intOf]; omega
          all_goals
            cases c
            · go_wp2_with fail
              go_roundw
              case rel => exact ⟨n + 1, by omega, rfl, by go_num, Lib.hid (fun j h => by
                by_cases c : j = n
                · subst c; rw [HY.out, E.out, e0]; simp
                · exact hs2.out j (by omega)), G4.out⟩
              case measure => simp [intOf]; omega
            · go_wp2_with fail
              go_ret
              have T : clashD a b = true := List.any_eq_true.2 ⟨x, HM.out, List.any_eq_true.2 ⟨y, HM2.out, by rw [E.out, e0]; simp⟩⟩
              exact ⟨by rw [ht.out, T]; rfl, G4.out⟩
        · go_wp2_with fail
          go_roundw
          case rel => exact ⟨k + 1, by omega, rfl, by go_num, Lib.hid (fun j h => by
            by_cases c : j = k
            · subst c
              rw [HX.out, List.any_eq_false]
              intro y hy
              obtain ⟨j, hj, rfl⟩ := List.getElem_of_mem hy
              have := hs2.out j (by omega)
              simpa [List.getD, List.getElem?_eq_getElem hj] using this
            · exact hs.out j (by omega)), hg2⟩
          case measure => simp [intOf]; omega
    · go_wp2_with fail
      go_ret
      have T : clashD a b = false := by
        unfold clashD
        rw [List.any_eq_false]
        intro x hx
        obtain ⟨j, hj, rfl⟩ := List.getElem_of_mem hx
        have := hs.out j (by omega)
        simpa [List.getD, List.getElem?_eq_getElem hj] using this
      exact ⟨by rw [ht.out, T]; rfl, hg⟩
end Go.Proofs.Ytgbedoffgahhaaa

namespace Go.Proofs.Ytgbedoffgahhaaa
open Go.ChangeShapes Go.WideShapes Go.ChangeAt Go.RowKit
set_option maxRecDepth 20000
set_option linter.unusedVariables false
set_option linter.unusedSimpArgs false
theorem spans_lit {w : World} {b : Nat} {x : SpD} (h : (∀ o : Nat, w.cell? ⟨b, o, none⟩ = (#[.int .i64 x.m, .int .i64 x.f, .int .i64 x.t, .bool x.w] : Array Value)[o]?)) (wf : SpWf x) : IsSpans w (.slice (some ⟨b, 0, none⟩) 1 1) [x] :=
  ⟨some ⟨b, 0, none⟩, 1, rfl, Nat.le_refl _, by unfold maxLen; decide, (fun h => by cases h), by simpa using wf, fun _ => ⟨b, 0, rfl, cell_lt (h 0), fun i hi => by
    obtain rfl : i = 0 := by simp at hi; omega
    exact ⟨h 0, h 1, h 2, h 3⟩⟩⟩
theorem engine_tile (W : World) : Calls Try.prog 18 #[.agg #[.int .i64 3, .int .i64 0, .int .i64 0, .int .i64 0, .int .i64 0, .int .i64 0, .int .i64 0, .int .i64 0, .int .i64 0, .int .i64 0, .int .i64 0, .int .i64 0, .int .i64 0, .int .i64 0]] W fun e w' => e = .returned (.int .i64 1) ∧ Grown W w' := by
  go_enter Try.func18, Try.ntmps18
  go_upto_region 1 with fail
  refine opq (fun w' => w'.cell? ⟨W.heap.size, 0, none⟩ = some (.int .i64 3) ∧ Grown W w') ⟨by rw [box_new rfl]; rfl, by (exact kKeep)⟩ ?_
  rintro w1 ⟨b1, g1⟩
  go_wp2_with fail
  go_ret
  exact ⟨rfl, g1⟩
set_option maxHeartbeats 2000000 in
theorem shown_any (W : World) : Calls Try.prog 7 #[] W fun e w' => e = .returned (.bool true) ∧ Past W w' := by
  go_enter Try.func7, Try.ntmps7
  go_upto_region 3 with fail
  obtain ⟨P, hP⟩ : ∃ P, W.heap.size = P := ⟨_, rfl⟩
  refine opq (fun w' => (∀ o : Nat, w'.cell? ⟨W.heap.size, o, none⟩ = (#[.int .i64 0, .int .i64 0, .int .i64 4, .bool false] : Array Value)[o]?) ∧ (∀ o : Nat, w'.cell? ⟨W.heap.size + 1, o, none⟩ = (#[.int .i64 0, .int .i64 3, .int .i64 5, .bool true] : Array Value)[o]?) ∧ Past W w') kKeep ?_
  rintro w1 ⟨b1, b2, p1⟩
  have s1 := Lib.hid (spans_lit (x := ⟨0, 0, 4, false⟩) b1 (by unfold SpWf; decide))
  have s2 := Lib.hid (spans_lit (x := ⟨0, 3, 5, true⟩) b2 (by unfold SpWf; decide))
  clear b1 b2 hP
  go_wp2_with (first
    | (go_at_call 11; with_reducible refine (clashS_any _ _ _ _ true _ s1.out s2.out (Lib.hid (by decide))).mono ?_; rintro e w2 ⟨rfl, g2⟩; have t1 := Lib.hid (s1.out.grow (Grown.past g2)))
    | (go_at_call 11; with_reducible refine (clashS_any _ _ _ _ false _ t1.out t1.out (Lib.hid (by decide))).mono ?_; rintro e w3 ⟨rfl, g3⟩)
    | (go_at_call 18; with_reducible refine (engine_tile _).mono ?_; rintro e w4 ⟨rfl, g4⟩))
  go_ret
  exact ⟨rfl, p1.trans ((Grown.past g2).trans ((Grown.past g3).trans (Grown.past g4)))⟩
end Go.Proofs.Ytgbedoffgahhaaa

namespace Go.Proofs.Ytgbedoffgahhaaa
open Go.ChangeShapes Go.WideShapes Go.ChangeAt Go.RowKit
set_option maxRecDepth 20000
set_option linter.unusedVariables false
set_option linter.unusedSimpArgs false
theorem IsSpans.form {W : World} {v : Value} {xs : List SpD} (h : IsSpans W v xs) : ∃ (A : Option Addr) (cap : Nat), v = .slice A xs.length cap ∧ xs.length ≤ cap ∧ cap ≤ maxLen := by
  obtain ⟨A, cap, e, h2, h3, _⟩ := h
  exact ⟨A, cap, e, h2, h3⟩
theorem IsSpans.at {W : World} {A : Option Addr} {n cap : Nat} {xs : List SpD} (h : IsSpans W (.slice A n cap) xs) {k : Nat} (hk : k < xs.length) : ∃ b off, A = some ⟨b, off, none⟩ ∧ n = xs.length ∧ ∀ w, Past W w → SpAt w b (off + k * 4) (xs.getD k default) := by
  obtain ⟨A', cap', e, h2, h3, h4, h5, h6⟩ := h
  simp only [Value.slice.injEq] at e
  obtain ⟨rfl, rfl, rfl⟩ := e
  obtain ⟨b, off, e, hb, hc⟩ := h6 (by omega)
  exact ⟨b, off, e, rfl, fun w g => (hc k hk).grow hb g⟩
set_option maxHeartbeats 4000000 in
theorem clash_walk (W : World) (va : Value) (a : List SpD) (hva : IsSpans W va a) (vb : Value) (b : List SpD) (hvb : IsSpans W vb b) : Calls Try.prog 3 #[va, vb] W fun e w' => e = .returned (.bool true) ∧ Past W w' := by
  have HA := Lib.hid hva
  have HB := Lib.hid hvb
  obtain ⟨A0, ca0, rfl, _, _⟩ := hva.form
  obtain ⟨B0, cb0, rfl, _, _⟩ := hvb.form
  clear hva hvb
  go_enter Try.func3, Try.ntmps3
  go_upto_region 2 with (go_at_call 7; with_reducible refine (shown_any _).mono ?_; rintro e w1 ⟨rfl, p1⟩)
  have HA1 := Lib.hid (HA.out.grow p1)
  have HB1 := Lib.hid (HB.out.grow p1)
  clear HA HB
  go_upto_region 3 with (go_at_call 8; with_reducible refine (few_any a _ _ HA1.out).mono ?_; rintro e w2 ⟨va, rfl, ha, rfl⟩)
  go_upto_region 4 with (go_at_call 8; with_reducible refine (few_any b _ _ HB1.out).mono ?_; rintro e w2 ⟨vb, rfl, hb, rfl⟩)
  obtain ⟨x, hx⟩ : ∃ x, a.take 40 = x := ⟨_, rfl⟩
  obtain ⟨y, hy⟩ : ∃ y, b.take 40 = y := ⟨_, rfl⟩
  rw [hx] at ha
  rw [hy] at hb
  have HX := Lib.hid ha
  have HY := Lib.hid hb
  have lx : x.length ≤ 40 := by rw [← hx, List.length_take]; omega
  obtain ⟨A, ca, rfl, _, _⟩ := ha.form
  obtain ⟨B, cb, rfl, _, _⟩ := hb.form
  have P1 := Lib.hid p1
  clear ha hb hx hy HA1 HB1 p1
  go_wp2_with fail
  go_loopw [4, 6] (fun s i wr => ∃ k : Nat, k ≤ x.length ∧ s = .bool false ∧ i = .int .i64 k ∧ Hid (Past w2 wr)) (fun _ i _ => x.length - (intOf i).toNat)
  case atStart => exact ⟨0, by omega, rfl, rfl, Lib.hid (Past.refl _)⟩
  case round =>
    obtain ⟨k, hk, rfl, rfl, PR⟩ := hrel
    by_cases l : k < x.length
    · obtain ⟨bb, off, rfl, _, hc⟩ := HX.out.at l
      obtain ⟨s, hs⟩ : ∃ s, x.getD k default = s := ⟨_, rfl⟩
      rw [hs] at hc
      have HC := Lib.hid hc
      obtain ⟨q, hq⟩ : ∃ q, q = spanE s := ⟨_, rfl⟩
      have HQ := Lib.hid hq
      clear hc hs hq
      have i1 : (0 : Int) ≤ (k : Int) := by omega
      have i2 : (k : Int) < (x.length : Int) := by omega
      have q0 : (q != q) = false := by simp
      go_upto_region 7 with fail
      go_cut [28] (fun c w' => c = .bool false ∧ Past w2 w')
      case first =>
        obtain ⟨m0, m1, m2, m3⟩ := HC.out wr PR.out
        go_region_with (first
          | (go_at_call 9; (with_reducible refine (smay_any s q _ HQ).mono ?_); rintro e w4 ⟨rfl, g4⟩; have PC := Lib.hid (Past.trans (c := w4) (by first | exact PC.out | exact PR.out.drew) (Grown.past g4)); obtain ⟨m0', m1', m2', m3'⟩ := HC.out w4 PC.out)
          | (go_at_call 10; (with_reducible refine (rsmay_any s q _ HQ).mono ?_); rintro e w4 ⟨rfl, g4⟩; have PC := Lib.hid (Past.trans (c := w4) (by first | exact PC.out | exact PR.out.drew) (Grown.past g4)); obtain ⟨m0', m1', m2', m3'⟩ := HC.out w4 PC.out))
        all_goals (go_wp2_with fail; go_meet; exact ⟨rfl, PC.out⟩)
      case rest =>
      obtain ⟨rfl, pc⟩ := hcut
      go_wp2_with fail
      go_roundw
      case rel => exact ⟨k + 1, by omega, rfl, by go_num, Lib.hid pc⟩
      case measure => simp [intOf]; omega
    · obtain ⟨t, ht⟩ : ∃ t, t = clashD x y := ⟨_, rfl⟩
      have HT := Lib.hid ht
      have HT' := Lib.hid (ht.trans (clash_comm x y))
      have tt : (t == t) = true := by simp
      have X1 := Lib.hid (HX.out.grow PR.out)
      have Y1 := Lib.hid (HY.out.grow PR.out)
      clear ht HX HY
      go_wp2_with (first
        | (go_at_call 11; (with_reducible refine (clashS_any x y _ _ t _ X1.out Y1.out HT).mono ?_); rintro e w4 ⟨rfl, g4⟩; have X2 := Lib.hid (X1.out.grow (Grown.past g4)); have Y2 := Lib.hid (Y1.out.grow (Grown.past g4)); clear X1 Y1)
        | (go_at_call 12; (with_reducible refine (rclash_any x y _ _ _ t X2.out Y2.out HT).mono ?_); rintro e w5 ⟨rfl, g5⟩; have X3 := Lib.hid (X2.out.grow (Grown.past g5)); have Y3 := Lib.hid (Y2.out.grow (Grown.past g5)); clear X2 Y2)
        | (go_at_call 11; (with_reducible refine (clashS_any x y _ _ t _ X3.out Y3.out HT).mono ?_); rintro e w6 ⟨rfl, g6⟩; have X4 := Lib.hid (X3.out.grow (Grown.past g6)); have Y4 := Lib.hid (Y3.out.grow (Grown.past g6)); clear X3 Y3)
        | (go_at_call 11; (with_reducible refine (clashS_any y x _ _ t _ Y4.out X4.out HT').mono ?_); rintro e w7 ⟨rfl, g7⟩))
      go_ret
      exact ⟨rfl, P1.out.trans (PR.out.trans ((Grown.past g4).trans ((Grown.past g5).trans ((Grown.past g6).trans (Grown.past g7)))))⟩
end Go.Proofs.Ytgbedoffgahhaaa

namespace Go.Proofs.Ytgbedoffgahhaaa
open Go.ChangeShapes Go.WideShapes Go.ChangeAt Go.RowKit
set_option maxRecDepth 20000
set_option linter.unusedVariables false
theorem infoSp : (Try.prog.info? 28).map (fun i => (i.zero, i.size, i.bytes)) = some (some (.agg #[.int .i64 0, .int .i64 0, .int .i64 0, .bool false]), 4, 32) := by kernel_rfl
def spCells (x : SpD) : List Value := [.int .i64 x.m, .int .i64 x.f, .int .i64 x.t, .bool x.w]
def spsCells (xs : List SpD) : List Value := xs.flatMap spCells
theorem spsCells_len (xs : List SpD) : (spsCells xs).length = xs.length * 4 := by
  induction xs with
  | nil => rfl
  | cons x xs ih => simp only [spsCells, List.flatMap_cons, List.length_append] at ih ⊢; rw [ih]; simp [spCells]; omega
theorem spsCells_snoc (xs : List SpD) (x : SpD) : spsCells (xs ++ [x]) = spsCells xs ++ spCells x := by simp [spsCells]
theorem spsCells_at (xs : List SpD) (i j : Nat) (hi : i < xs.length) (hj : j < 4) : (spsCells xs)[i * 4 + j]? = (spCells (xs.getD i default))[j]? := by
  induction xs generalizing i with
  | nil => simp at hi
  | cons x xs ih =>
    simp only [spsCells, List.flatMap_cons]
    cases i with
    | zero =>
      rw [Nat.zero_mul, Nat.zero_add, List.getElem?_append_left (by simp [spCells]; omega)]
      simp
    | succ i =>
      rw [List.getElem?_append_right (by simp [spCells]; omega)]
      have e : (i + 1) * 4 + j - (spCells x).length = i * 4 + j := by simp [spCells]; omega
      rw [e]
      simp only [List.length_cons] at hi
      have := ih i (by omega)
      simp only [spsCells] at this
      rw [this]
      simp

def OwnSps (w : World) (base : Nat) (v : Value) (xs : List SpD) : Prop := w.ownsRow base 28 4 v xs.length (spsCells xs)

theorem sps_of_own {w : World} {base : Nat} {v : Value} {xs : List SpD} (ho : OwnSps w base v xs) (wf : ∀ x ∈ xs, SpWf x) : IsSpans w v xs := by
  obtain ⟨hl, h⟩ := ho
  rcases h with ⟨rfl, h0⟩ | ⟨b, cap, cur, rfl, hb, hg, hn, hm, hs, ht⟩
  · have : xs = [] := List.eq_nil_of_length_eq_zero h0
    subst this
    exact ⟨none, 0, rfl, Nat.le_refl _, Nat.zero_le _, fun _ => rfl, by simp, by simp⟩
  · refine ⟨some ⟨b, 0, none⟩, cap, rfl, hn, hm, (fun h => by cases h), wf, fun hp => ⟨b, 0, rfl, (Array.getElem?_eq_some_iff.1 hg).1, fun i hi => ?_⟩⟩
    have key : ∀ j, j < 4 → w.cell? ⟨b, 0 + i * 4 + j, none⟩ = (spCells (xs.getD i default))[j]? := fun j hj => by
      rw [← spsCells_at xs i j hi hj, ← ht, List.getElem?_take_of_lt (by omega)]
      simp [World.cell?, hg]
    exact ⟨key 0 (by omega), key 1 (by omega), key 2 (by omega), key 3 (by omega)⟩

theorem sp_one (x : SpD) : ∀ u ∈ spCells x, u.oneCell' = true := by
  intro u hu
  simp only [spCells, List.mem_cons, List.not_mem_nil, or_false] at hu
  rcases hu with rfl | rfl | rfl | rfl <;> rfl
theorem sps_one' (xs : List SpD) : ∀ u ∈ spsCells xs, u.oneCell' = true := by
  intro u hu
  simp only [spsCells, List.mem_flatMap] at hu
  obtain ⟨x, _, h⟩ := hu
  exact sp_one x u h

theorem ownSps_new {w : World} {base : Nat} (hb : base ≤ w.heap.size) : OwnSps (w.alloc (.cells #[] 28)) base (.slice (some ⟨w.heap.size, 0, none⟩) 0 0) [] := World.ownsRow_lit w #[] 0 hb (by decide) (by simp)
theorem ownSps_nil (w : World) (base : Nat) : OwnSps w base (.slice none 0 0) [] := ⟨by simp [spsCells], .inl ⟨rfl, rfl⟩⟩
theorem OwnSps.past {w w' : World} {base : Nat} {v : Value} {xs : List SpD} (h : OwnSps w base v xs) (g : Past w w') : OwnSps w' base v xs := own_past' h g
/-- append of one span to a row that the call owns. -/
theorem wpList_append_sp {ops : Array Oper} {Q : Exit → Act → World → Prop} {rest : List Oper} {o : Oper} {a : Act} {w : World} (hgd : o.guard = none) (s x : Operand) (ho : o.op = .call { callee := .builtin .append, args := #[s, x], argTypes := #[22, 22] })
    (base : Nat) (v : Value) (xs : List SpD) (hs : a.eval s = v) (hown : OwnSps w base v xs) (y : SpD) (b c : Nat) (hx : a.eval x = .slice (some ⟨b, 0, none⟩) 1 c) (hy : (∀ o : Nat, w.cell? ⟨b, o, none⟩ = (#[.int .i64 y.m, .int .i64 y.f, .int .i64 y.t, .bool y.w] : Array Value)[o]?)) (hm : xs.length + 1 ≤ 1000000) (hbase : base ≤ w.heap.size)
    (h : ∀ v' w', OwnSps w' base v' (xs ++ [y]) → w.grownBy w' v.ownBlock → wpList Try.prog ops Q rest (a.put o.dst v') w') : wpList Try.prog ops Q (o :: rest) a w := by
  obtain ⟨i, hi, hz, hsz, hb⟩ := info_parts infoSp
  refine wpList_append_own _ hgd s x 22 ho base 28 i _ 4 32 Try.underlying22 hi hz hsz hb rfl (by decide) v xs.length (spsCells xs) hs hown ⟨b, 0, none⟩ 1 c (spCells y) hx rfl (fun j u hu => ?_) (sp_one y) (by unfold maxLen; omega) (by omega) hbase ?_
  · rw [add_plain, Nat.zero_add]
    have := hy j
    rw [this]
    simpa [spCells] using hu
  · intro v' w' ow g _
    refine h v' w' ?_ g
    unfold OwnSps
    rw [spsCells_snoc]
    simpa using ow
end Go.Proofs.Ytgbedoffgahhaaa

namespace Go.Proofs.Ytgbedoffgahhaaa
open Go
theorem any_lean {P : Program} {Q : Exit → Act → World → Prop} {ops : List Oper} {a : Act} {w : World} (S : World → Prop) (ups : List (Tmp × Value)) (lates : List (Nat × Tmp)) (nost : List Nat) (I : Nat → (Nat → Value) → World → Prop) (deps kills later : List (Nat × List Nat)) (fin : List Nat)
    (hok : leanOK .any ops.toArray lates nost deps kills later fin = true) (hu : ((ups.map (·.1) ++ lates.map (·.2)).all fun t => ops.any fun o => o.dst == some t) = true) (hd : ∀ q ∈ lates, q.2 < a.tmps.size) (hS : S w) (hdr : ∀ w, S w → S w.drew)
    (hE : EarlyX P ops.toArray S (fun v => fillA (fillA a ups) (latesV lates v)) I deps (lates.map (·.1) ++ nost) 0 ops) (hL : LateX P ops.toArray S (fun v => fillA (fillA a ups) (latesV lates v)) I deps kills later (lates.map (·.1) ++ nost) 0 ops)
    (hQ : ∀ v w, S w → (∀ i, fin.contains i = true → I i v w) → Q .normal (fillA (fillA a ups) (latesV lates v)) w) : wpAny P .any ops.toArray Q ops.toArray.size (Array.replicate ops.toArray.size false) a w.drew := by
  have no : ∀ (t : Tmp) (j : Nat) (o : Oper), ops.toArray[j]? = some o → (Array.replicate ops.toArray.size false).getD j true = true → False := by
    intro t j o hj hr
    have := (Array.getElem?_eq_some_iff.1 hj).1
    rw [Array.getD_eq_getD_getElem?, Array.getElem?_replicate, if_pos this] at hr
    cases hr
  refine (wpAny_lean (a0 := fillA a ups) lates nost I deps kills later fin hok (fun q hq => by rw [fill_size]; exact hd q hq) hE hL hQ _ (Array.replicate ops.toArray.size false) a w.drew (fun _ => undef) (by simp) ?_ ⟨?_, ?_, fun t ht => ?_⟩ (hdr w hS) (fun i o ho hl => (no 0 i o ho hl).elim) (fun j hj hl _ => ?_))
  · unfold left
    exact Nat.le_trans (List.length_filter_le _ _) (by simp)
  · rw [fill_defers, fill_defers]
  · rw [fill_size, fill_size]
  · have key : ∀ s, s ∈ ups.map (·.1) ++ lates.map (·.2) → s ≠ t := by
      intro s hs e
      subst e
      have := List.all_eq_true.1 hu s hs
      rw [List.any_eq_true] at this
      obtain ⟨o, ho, hb⟩ := this
      obtain ⟨i, hi, hoi⟩ := List.getElem_of_mem ho
      have hoi' : ops.toArray[i]? = some o := by rw [List.getElem?_toArray]; exact List.getElem?_eq_some_iff.2 ⟨hi, hoi⟩
      exact no s i o hoi' (ht i o hoi' (by simpa using hb))
    rw [fill_off _ t (fun p hp => ?_), fill_off _ t (fun p hp => key p.1 (List.mem_append_left _ (List.mem_map.2 ⟨p, hp, rfl⟩)))]
    unfold latesV at hp
    obtain ⟨q, hq, rfl⟩ := List.mem_map.1 hp
    exact key q.2 (List.mem_append_right _ (List.mem_map.2 ⟨q, hq, rfl⟩))
  · exfalso
    have hjl : j < ops.toArray.size := by
      apply Classical.byContradiction
      intro c
      have h1 := hok
      unfold leanOK at h1
      simp only [Bool.and_eq_true] at h1
      obtain ⟨⟨⟨⟨⟨⟨_, h2⟩, h3⟩, _⟩, _⟩, _⟩, _⟩ := h1
      rcases List.mem_append.1 (List.contains_iff_mem.1 hj) with h | h
      · obtain ⟨q, hq, rfl⟩ := List.mem_map.1 h
        have := List.all_eq_true.1 h2 q hq
        rw [Array.getElem?_eq_none (by omega)] at this
        cases this
      · have := List.all_eq_true.1 h3 j h
        rw [Array.getElem?_eq_none (by omega)] at this
        simp at this
    rw [Array.getD_eq_getD_getElem?, Array.getElem?_replicate, if_pos hjl] at hl
    cases hl

theorem any_past {P : Program} {Q : Exit → Act → World → Prop} {ops : List Oper} {a : Act} {w : World} (W : World) (ups : List (Tmp × Value)) (lates : List (Nat × Tmp)) (J : Nat → Value → World → Prop) (deps : List (Nat × List Nat)) (fin : List Nat) (hJ : ∀ i x w w', Past w w' → J i x w → J i x w')
    (hok : leanOK .any ops.toArray lates [] deps [] [] fin = true) (hu : ((ups.map (·.1) ++ lates.map (·.2)).all fun t => ops.any fun o => o.dst == some t) = true) (hd : ∀ q ∈ lates, q.2 < a.tmps.size) (hS : Past W w)
    (hE : EarlyX P ops.toArray (Past W) (fun v => fillA (fillA a ups) (latesV lates v)) (fun i v w => J i (v i) w) deps (lates.map (·.1) ++ []) 0 ops) (hL : LateP P ops.toArray W (fun v => fillA (fillA a ups) (latesV lates v)) J deps (lates.map (·.1) ++ []) 0 ops)
    (hQ : ∀ v w, Past W w → (∀ i, fin.contains i = true → J i (v i) w) → Q .normal (fillA (fillA a ups) (latesV lates v)) w) : wpAny P .any ops.toArray Q ops.toArray.size (Array.replicate ops.toArray.size false) a w.drew :=
  any_lean (Past W) ups lates [] (fun i v w => J i (v i) w) deps [] [] fin hok hu hd hS (fun _ h => h) hE (lateP_x hJ hL) hQ
end Go.Proofs.Ytgbedoffgahhaaa

namespace Go.Proofs.Ytgbedoffgahhaaa
open Go.ChangeShapes Go.WideShapes Go.ChangeAt Go.RowKit
set_option maxRecDepth 20000
set_option linter.unusedVariables false
set_option linter.unusedSimpArgs false
theorem box_upd {w : World} {b : Nat} {cs : Array Value} (h : (∀ o : Nat, w.cell? ⟨b, o, none⟩ = (cs : Array Value)[o]?)) (i : Nat) (hi : i < cs.size) (u : Value) : (∀ o : Nat, (w.setCell ⟨b, i, none⟩ u).cell? ⟨b, o, none⟩ = ((cs.setIfInBounds i u) : Array Value)[o]?) := by
  intro o
  by_cases c : o = i
  · subst c
    rw [Array.getElem?_setIfInBounds_self_of_lt hi]
    exact World.cell?_setCell_same w _ _ ((h o).trans (Array.getElem?_eq_getElem hi))
  · rw [World.cell?_setCell_other _ _ _ _ (by simp [c]), Array.getElem?_setIfInBounds_ne (fun e => c e.symm)]
    exact h o
theorem opqb {P : Program} {f : Func} {Q : Ending → World → Prop} {e : Exit} {a : Act} {w : World} (S : World → Prop) (h : S w) (k : ∀ w', S w' → bodyPost P f Q e a w') : bodyPost P f Q e a w := k w h
theorem results_cell_one {fn : Func} {p : Tmp} {ty : TypeId} (h : fn.results = #[.cell p ty]) (tmps : Array Value) (P : Program) (w : World) :
    (results fn tmps).run P w = ((asAddr (tmps.getD p undef)).run P w).andThen fun a w₁ => (loadVar ty a).run P w₁ := by
  simp only [results, h]
  simp [Sem.run_bind, Result.andThen]
/-- A result that is a box of its own. -/
theorem ret_cell {P : Program} {fn : Func} {a : Act} {w : World} {R : Ending → World → Prop} {p : Tmp} {ty : TypeId} (h : fn.results = #[.cell p ty]) (b : Nat) (cells : Array Value) (d : TypeDesc) (hp : a.tmps.getD p undef = .pointer (some ⟨b, 0, none⟩)) (hb : (∀ o : Nat, w.cell? ⟨b, o, none⟩ = (cells : Array Value)[o]?))
    (hu : P.underlying ty = some d) (hd : d.isRow = true) (hi : (P.info? ty).map (·.size) = some cells.size) (hdf : a.defers = []) (hR : R (.returned (.agg cells)) w) : bodyPost P fn R .ret a w := by
  refine bodyPost_ret (v := .agg cells) ?_ hdf hR
  rw [results_cell_one h, hp]
  have hl := run_loadVar_mid (P := P) w b 0 ty cells.toList d (fun j v hv => by rw [Nat.zero_add, hb j]; simpa using hv) hu hd (by simpa using hi)
  have e1 : (asAddr (.pointer (some ⟨b, 0, none⟩))).run P w = .ok ⟨b, 0, none⟩ w := rfl
  rw [e1]
  simp only [Result.andThen]
  rw [hl]
theorem SP4 : (Try.prog.info? 28).map (·.size) = some 4 := by kernel_rfl
theorem RUN3 : (Try.prog.info? 91).map (·.size) = some 3 := by kernel_rfl
theorem read_any (m a n q : Int) (W : World) (hq : wrap64 (a + n) = q) : Calls Try.prog 40 #[.agg #[.int .i64 m, .int .i64 a, .int .i64 n]] W fun e w' => e = .returned (.agg #[.int .i64 m, .int .i64 a, .int .i64 q, .bool false]) ∧ Grown W w' := by
  go_enter Try.func40, Try.ntmps40
  go_upto_region 1 with fail
  refine opq (fun w' => (∀ o : Nat, w'.cell? ⟨W.heap.size, o, none⟩ = (#[.int .i64 m, .int .i64 a, .int .i64 n] : Array Value)[o]?) ∧ (∀ o : Nat, w'.cell? ⟨W.heap.size + 1, o, none⟩ = (#[.int .i64 0, .int .i64 0, .int .i64 0, .bool false] : Array Value)[o]?) ∧ (∀ o : Nat, w'.frozen? ⟨W.heap.size + 1, o, none⟩ = false) ∧ Grown W w' ∧ W.heap.size + 2 ≤ w'.heap.size) kKeep ?_
  rintro w1 ⟨b1, b2, f2, g1, z1⟩
  go_wp2_with fail
  refine opqb (fun w' => (∀ o : Nat, w'.cell? ⟨W.heap.size + 1, o, none⟩ = (#[.int .i64 m, .int .i64 a, .int .i64 q, .bool false] : Array Value)[o]?) ∧ Grown W w') ⟨box_upd (box_upd (box_upd (box_upd b2 0 (by simp) _) 1 (by simp) _) 2 (by simp) _) 3 (by simp) _, by (exact kKeep)⟩ ?_
  rintro w2 ⟨b3, g3⟩
  exact ret_cell rfl (W.heap.size + 1) _ _ rfl b3 Try.underlying28 rfl SP4 rfl ⟨rfl, g3⟩
theorem written_any (m a n q : Int) (W : World) (hq : wrap64 (a + n) = q) : Calls Try.prog 41 #[.agg #[.int .i64 m, .int .i64 a, .int .i64 n]] W fun e w' => e = .returned (.agg #[.int .i64 m, .int .i64 a, .int .i64 q, .bool true]) ∧ Grown W w' := by
  have RA := Lib.hid (fun w => read_any m a n q w hq)
  clear hq
  go_enter Try.func41, Try.ntmps41
  go_upto_region 1 with fail
  refine opq (fun w' => (∀ o : Nat, w'.cell? ⟨W.heap.size, o, none⟩ = (#[.int .i64 m, .int .i64 a, .int .i64 n] : Array Value)[o]?) ∧ (∀ o : Nat, w'.cell? ⟨W.heap.size + 1, o, none⟩ = (#[.int .i64 0, .int .i64 0, .int .i64 0, .bool false] : Array Value)[o]?) ∧ (∀ o : Nat, w'.frozen? ⟨W.heap.size + 1, o, none⟩ = false) ∧ Grown W w' ∧ W.heap.size + 2 ≤ w'.heap.size) kKeep ?_
  rintro w1 ⟨b1, b2, f2, g1, z1⟩
  have B2 := Lib.hid b2
  have F2 := Lib.hid f2
  have G1 := Lib.hid g1
  clear b2 f2 g1
  go_upto_region 2 with (go_at_call 40; (with_reducible refine (RA.out _).mono ?_); rintro e w2 ⟨rfl, g2⟩; have b3 := box_grown g2 B2.out (by omega); have f3 := free_past (Grown.past g2) F2.out (by omega); have g3 := grown_trans G1.out g2; have z2 := Nat.le_trans z1 (Grown.past g2).2.2.1)
  obtain ⟨Q, hQ⟩ : ∃ Q, w2.heap.size = Q := ⟨_, rfl⟩
  have hQ' : W.heap.size + 2 ≤ Q := by omega
  try simp only [hQ]
  refine opq (fun w' => (∀ o : Nat, w'.cell? ⟨Q, o, none⟩ = (#[.int .i64 m, .int .i64 a, .int .i64 q, .bool false] : Array Value)[o]?) ∧ (∀ o : Nat, w'.frozen? ⟨Q, o, none⟩ = false) ∧ (∀ o : Nat, w'.cell? ⟨W.heap.size + 1, o, none⟩ = (#[.int .i64 0, .int .i64 0, .int .i64 0, .bool false] : Array Value)[o]?) ∧ (∀ o : Nat, w'.frozen? ⟨W.heap.size + 1, o, none⟩ = false) ∧ Grown W w') (by subst hQ; (exact kKeep)) ?_
  rintro w4 ⟨c1, d1, c2, d2, g4⟩
  clear b1 b3 f3 g3 z2 hQ z1 g2
  go_upto_region 3 with fail
  refine opq (fun w' => (∀ o : Nat, w'.cell? ⟨Q, o, none⟩ = (#[.int .i64 m, .int .i64 a, .int .i64 q, .bool true] : Array Value)[o]?) ∧ (∀ o : Nat, w'.cell? ⟨W.heap.size + 1, o, none⟩ = (#[.int .i64 0, .int .i64 0, .int .i64 0, .bool false] : Array Value)[o]?) ∧ (∀ o : Nat, w'.frozen? ⟨W.heap.size + 1, o, none⟩ = false) ∧ Grown W w') ⟨box_upd c1 3 (by simp) _, by (exact kKeep), by (exact kKeep), by (exact kKeep)⟩ ?_
  rintro w5 ⟨c5, e5, d5, g5⟩
  clear c1 d1 c2 d2 g4
  go_wp2_with fail
  refine opqb (fun w' => (∀ o : Nat, w'.cell? ⟨W.heap.size + 1, o, none⟩ = (#[.int .i64 m, .int .i64 a, .int .i64 q, .bool true] : Array Value)[o]?) ∧ Grown W w') ⟨box_upd (box_upd (box_upd (box_upd e5 0 (by simp) _) 1 (by simp) _) 2 (by simp) _) 3 (by simp) _, by (exact kKeep)⟩ ?_
  rintro w2 ⟨b3, g3⟩
  exact ret_cell rfl (W.heap.size + 1) _ _ rfl b3 Try.underlying28 rfl SP4 rfl ⟨rfl, g3⟩
end Go.Proofs.Ytgbedoffgahhaaa

namespace Go.Proofs.Ytgbedoffgahhaaa
open Go.ChangeShapes Go.WideShapes Go.ChangeAt Go.RowKit
set_option maxRecDepth 20000
set_option linter.unusedVariables false
set_option linter.unusedSimpArgs false
set_option maxHeartbeats 2000000 in
theorem node_no (A1 A2 : Option Addr) (n1 c1 n2 c2 : Nat) (ov pv u0 u1 u2 lv : Value) (n : Int) (W : World) (hn : (n2 : Int) ≤ n) (h2 : n2 ≤ 9223372036854775807) :
    Calls Try.prog 60 #[.agg #[.slice A1 n1 c1, .slice A2 n2 c2, ov, pv, u0, u1, u2, lv], .int .i64 n] W fun e w' => e = .returned (.tuple #[.slice none 0 0, .int .i64 0, .bool false]) ∧ Grown W w' := by
  have d0 : decide ((n2 : Int) ≤ n) = true := by simpa using hn
  go_enter Try.func60, Try.ntmps60
  go_upto_region 1 with fail
  refine opq (fun w' => (∀ o : Nat, w'.cell? ⟨W.heap.size, o, none⟩ = (#[.slice A1 n1 c1, .slice A2 n2 c2, ov, pv, u0, u1, u2, lv] : Array Value)[o]?) ∧ Grown W w') kKeep ?_
  rintro w1 ⟨b1, g1⟩
  go_wp2_with fail
  exact bodyPost_ret (v := .tuple #[.slice none 0 0, .int .i64 0, .bool false]) (by simp [results, Try.results60, go_sem]) rfl ⟨rfl, g1⟩
set_option maxHeartbeats 2000000 in
theorem node_yes (A1 A2 : Option Addr) (n1 c1 n2 c2 : Nat) (ov pv u0 u1 u2 lv : Value) (ns : List NodeD) (k : Nat) (W : World) (hN : IsNodes W (.slice A2 n2 c2) ns) (hk : k < ns.length) (h1 : n1 ≤ 1000) (h0 : ns.length ≤ 1000) :
    Calls Try.prog 60 #[.agg #[.slice A1 n1 c1, .slice A2 n2 c2, ov, pv, u0, u1, u2, lv], .int .i64 k] W fun e w' => ∃ vi, e = .returned (.tuple #[vi, .int .i64 ((n1 : Int) + (k : Int)), .bool true]) ∧ IsNums .i64 W vi (ns.getD k default).ins ∧ Grown W w' := by
  obtain ⟨A, cap, e, a1, a2, a3, a4, a5⟩ := hN
  simp only [Value.slice.injEq] at e
  obtain ⟨rfl, rfl, rfl⟩ := e
  obtain ⟨b, off, rfl, hb, hc⟩ := a5 (by omega)
  obtain ⟨vi, vw, vb, hin, hcell⟩ := hc k hk
  have y1 : W.cell? ⟨b, off + k * 14 + 1, none⟩ = some vi := by rw [hcell 1 (by omega)]; rfl
  have HI := Lib.hid hin.1
  have d0 : decide ((ns.length : Int) ≤ (k : Int)) = false := by simp; omega
  clear a2 a3 a4 a5 hc hcell hin
  go_enter Try.func60, Try.ntmps60
  go_upto_region 1 with fail
  refine opq (fun w' => (∀ o : Nat, w'.cell? ⟨W.heap.size, o, none⟩ = (#[.slice A1 n1 c1, .slice (some ⟨b, off, none⟩) ns.length c2, ov, pv, u0, u1, u2, lv] : Array Value)[o]?) ∧ w'.cell? ⟨b, off + k * 14 + 1, none⟩ = some vi ∧ Grown W w') ⟨by (exact kKeep), cell_alloc y1 hb, by (exact kKeep)⟩ ?_
  rintro w1 ⟨b1, y2, g1⟩
  go_upto_region 3 with fail
  go_quiet (fail)
  go_wp2_with fail
  exact bodyPost_ret (v := .tuple #[vi, .int .i64 ((n1 : Int) + (k : Int)), .bool true]) (by simp [results, Try.results60, go_sem]) rfl ⟨vi, rfl, HI.out, by (exact kKeep)⟩
end Go.Proofs.Ytgbedoffgahhaaa

namespace Go.Proofs.Ytgbedoffgahhaaa
open Go.ChangeShapes Go.WideShapes Go.ChangeAt Go.RowKit
set_option maxRecDepth 20000
set_option linter.unusedVariables false
set_option linter.unusedSimpArgs false
theorem enters_t1 : ∀ (xs : Array Value) (w : World), (callFunc 61 xs).run Try.prog w = .ok (.enter 61 xs) w := fun xs w => by kernel_rfl
theorem enters_k1 : ∀ (xs : Array Value) (w : World), (callFunc 63 xs).run Try.prog w = .ok (.enter 63 xs) w := fun xs w => by kernel_rfl
theorem IsVals.form {W : World} {v : Value} {xs : List ValD} (h : IsVals W v xs) : ∃ (A : Option Addr) (cap : Nat), v = .slice A xs.length cap ∧ xs.length ≤ cap ∧ cap ≤ maxLen := by
  obtain ⟨A, cap, e, h2, h3, _⟩ := h
  exact ⟨A, cap, e, h2, h3⟩
theorem IsVals.at {W : World} {A : Option Addr} {n cap : Nat} {xs : List ValD} (h : IsVals W (.slice A n cap) xs) {k : Nat} (hk : k < xs.length) : ∃ b off, A = some ⟨b, off, none⟩ ∧ n = xs.length ∧ ∀ w, Past W w → ValAt w b (off + k * 4) (xs.getD k default) := by
  obtain ⟨A', cap', e, h2, h3, h4, h5, h6⟩ := h
  simp only [Value.slice.injEq] at e
  obtain ⟨rfl, rfl, rfl⟩ := e
  obtain ⟨b, off, e, hb, hc⟩ := h6 (by omega)
  exact ⟨b, off, e, rfl, fun w g => (hc k hk).grow hb g⟩
theorem IsNums.at {kd : IntKind} {W : World} {A : Option Addr} {n cap : Nat} {xs : List Int} (h : IsNums kd W (.slice A n cap) xs) {k : Nat} (hk : k < xs.length) : ∃ b off, A = some ⟨b, off, none⟩ ∧ n = xs.length ∧ ∀ w, Past W w → w.cell? ⟨b, off + k, none⟩ = some (.int kd (xs.getD k 0)) := by
  obtain ⟨A', cap', e, h2, h3, h4, h5, h6⟩ := h
  simp only [Value.slice.injEq] at e
  obtain ⟨rfl, rfl, rfl⟩ := e
  obtain ⟨b, off, e, hb, hc⟩ := h6 (by omega)
  exact ⟨b, off, e, rfl, fun w g => (g.cell hb).trans (hc k hk)⟩
theorem IsNums.form' {kd : IntKind} {W : World} {v : Value} {xs : List Int} (h : IsNums kd W v xs) : ∃ (A : Option Addr) (cap : Nat), v = .slice A xs.length cap ∧ xs.length ≤ cap ∧ cap ≤ maxLen := by
  obtain ⟨A, cap, e, h2, h3, _⟩ := h
  exact ⟨A, cap, e, h2, h3⟩
set_option maxHeartbeats 4000000 in
theorem tile1_any (P : Nat) (vs : List ValD) (lv : Value) (k : Nat) (at' many q : Int) (W : World) (hP : W.cell? ⟨P, 7, none⟩ = some lv) (hv : IsVals W lv vs) (hk : k < vs.length) (hq : wrap64 (many * rowI (vs.getD k default).h (vs.getD k default).w (vs.getD k default).c) = q) :
    Calls Try.prog 61 #[.int .i64 k, .int .i64 at', .int .i64 many, .pointer (some ⟨P, 0, none⟩)] W fun e w' => e = .returned (.agg #[.int .i64 1, .int .i64 at', .int .i64 q]) ∧ Grown W w' := by
  have hPl : P < W.heap.size := cell_lt hP
  obtain ⟨A, cap, rfl, a1, a2⟩ := hv.form
  obtain ⟨b, off, rfl, _, hc⟩ := hv.at hk
  have hl1 : vs.length ≤ 9223372036854775807 := by unfold maxLen at a2; omega
  obtain ⟨s, hs⟩ : ∃ s, vs.getD k default = s := ⟨_, rfl⟩
  rw [hs] at hc hq
  obtain ⟨r, hr⟩ : ∃ r, r = rowI s.h s.w s.c := ⟨_, rfl⟩
  rw [← hr] at hq
  have HR := Lib.hid hr
  have HC := Lib.hid hc
  have i1 : (0 : Int) ≤ (k : Int) := by omega
  have i2 : (k : Int) < (vs.length : Int) := by omega
  clear hv hc hs hr a2
  go_enter Try.func61, Try.ntmps61
  go_upto_region 1 with fail
  refine opq (fun w' => w'.cell? ⟨P, 7, none⟩ = some (.slice (some ⟨b, off, none⟩) vs.length cap) ∧ (∀ o : Nat, w'.cell? ⟨W.heap.size, o, none⟩ = (#[.int .i64 0, .int .i64 0, .int .i64 0] : Array Value)[o]?) ∧ (∀ o : Nat, w'.frozen? ⟨W.heap.size, o, none⟩ = false) ∧ Grown W w' ∧ W.heap.size + 1 ≤ w'.heap.size) ⟨cell_alloc hP hPl, by (exact kKeep)⟩ ?_
  rintro w1 ⟨p1, b1, f1, g1, z1⟩
  obtain ⟨m0, m1, m2, m3⟩ := HC.out w1 (Grown.past g1)
  have B1 := Lib.hid b1
  have F1 := Lib.hid f1
  have G1 := Lib.hid g1
  clear b1 f1 g1
  go_wp2_with (go_at_call 62; (with_reducible refine (row_any s.h s.w s.c r _ HR).mono ?_); rintro e w2 ⟨rfl, g2⟩; have b2 := box_grown g2 B1.out (by omega); have f2 := free_past (Grown.past g2) F1.out (by omega); have g3 := grown_trans G1.out g2)
  refine opqb (fun w' => (∀ o : Nat, w'.cell? ⟨W.heap.size, o, none⟩ = (#[.int .i64 1, .int .i64 at', .int .i64 q] : Array Value)[o]?) ∧ Grown W w') ⟨box_upd (box_upd (box_upd b2 0 (by simp) _) 1 (by simp) _) 2 (by simp) _, by (exact kKeep)⟩ ?_
  rintro w3 ⟨b3, g4⟩
  exact ret_cell rfl W.heap.size _ _ rfl b3 Try.underlying91 rfl RUN3 rfl ⟨rfl, g4⟩
def JK (q : Int) (i : Nat) (x : Value) (w : World) : Prop := match i with
  | 12 => x = .int .i64 q
  | _ => True
theorem JK_past {q : Int} {i : Nat} {x : Value} {w w' : World} (p : Past w w') (h : JK q i x w) : JK q i x w' := by
  unfold JK at *
  split at h <;> exact h
set_option maxHeartbeats 4000000 in
theorem kernel1_any (P : Nat) (vs : List ValD) (pl : List Int) (lv pv : Value) (k : Nat) (q : Int) (W : World) (hP : W.cell? ⟨P, 7, none⟩ = some lv) (hp : W.cell? ⟨P, 3, none⟩ = some pv) (hv : IsVals W lv vs) (hpl : IsNums .i64 W pv pl) (hk : k < vs.length) (hk2 : k < pl.length) (hq : Hid (q = sizeI (vs.getD k default).h (vs.getD k default).w (vs.getD k default).c)) :
    Calls Try.prog 63 #[.int .i64 k, .pointer (some ⟨P, 0, none⟩)] W fun e w' => e = .returned (.agg #[.int .i64 0, .int .i64 (pl.getD k 0), .int .i64 q]) ∧ Past W w' := by
  have hPl : P < W.heap.size := cell_lt hP
  obtain ⟨A, cap, rfl, a1, a2⟩ := hv.form
  obtain ⟨b, off, rfl, _, hc⟩ := hv.at hk
  obtain ⟨A2, cap2, rfl, a3, a4⟩ := hpl.form'
  obtain ⟨b2, off2, rfl, _, hc2⟩ := hpl.at hk2
  have hl1 : vs.length ≤ 9223372036854775807 := by unfold maxLen at a2; omega
  have hl2 : pl.length ≤ 9223372036854775807 := by unfold maxLen at a4; omega
  obtain ⟨s, hs⟩ : ∃ s, vs.getD k default = s := ⟨_, rfl⟩
  rw [hs] at hc hq
  obtain ⟨r, hr⟩ : ∃ r, pl.getD k 0 = r := ⟨_, rfl⟩
  rw [hr] at hc2 ⊢
  have HC := Lib.hid hc
  have HC2 := Lib.hid hc2
  have i1 : (0 : Int) ≤ (k : Int) := by omega
  have i2 : (k : Int) < (vs.length : Int) := by omega
  have i3 : (k : Int) < (pl.length : Int) := by omega
  clear hv hc hs hr a2 a4 hc2 hpl
  go_enter Try.func63, Try.ntmps63
  go_upto_region 1 with fail
  refine opq (fun w' => w'.cell? ⟨P, 7, none⟩ = some (.slice (some ⟨b, off, none⟩) vs.length cap) ∧ w'.cell? ⟨P, 3, none⟩ = some (.slice (some ⟨b2, off2, none⟩) pl.length cap2) ∧ (∀ o : Nat, w'.cell? ⟨W.heap.size, o, none⟩ = (#[.int .i64 0, .int .i64 0, .int .i64 0] : Array Value)[o]?) ∧ (∀ o : Nat, w'.frozen? ⟨W.heap.size, o, none⟩ = false) ∧ Past W w' ∧ W.heap.size + 1 ≤ w'.heap.size) ⟨cell_alloc hP hPl, cell_alloc hp hPl, by (exact kKeep)⟩ ?_
  rintro w1 ⟨p1, p2, b1, f1, g1, z1⟩
  have B1 := Lib.hid b1
  have F1 := Lib.hid f1
  have G1 := Lib.hid g1
  have P1 := Lib.hid p1
  have P2 := Lib.hid p2
  have PL : P < w1.heap.size := by omega
  clear b1 f1 g1 p1 p2
  refine wp_region_lastn 14 _ rfl (by kernel_rfl) (by kernel_rfl) ?za
  case za =>
    simp only [List.take_succ_cons, List.take_zero]
    refine any_past w1 [(4, ?va4), (5, ?va5), (6, ?va6), (7, ?va7), (8, ?va8), (9, ?va9), (10, ?va10), (11, ?va11), (12, ?va12), (13, ?va13), (14, ?va14), (15, ?va15), (17, ?va17)] [(12, 16)] (JK q) [(13, [12])] [] (fun i x w w' p h => JK_past p h) (by kernel_rfl) (by kernel_rfl) ?da (Past.refl w1) ?ea ?la ?na
    case da =>
      intro q hq
      simp only [List.mem_cons, List.not_mem_nil, or_false] at hq
      rcases hq with rfl <;> simp
    case ea =>
      simp only [latesV, List.map_cons, List.map_nil, List.cons_append, List.nil_append, List.append_nil, fillA, Act.put, List.setIfInBounds_toArray, List.set_cons_zero, List.set_cons_succ]
      iterate 2 (refine early_cons (fun v w hw hd K hK => ?_) ?_; focus (go_simp; (try simp only [Act.put, List.setIfInBounds_toArray, List.set_cons_zero, List.set_cons_succ]); exact hK))
      refine early_cons (fun v w hw hd K hK => ?_) ?_
      focus
        have y1 := cell_past hw P2.out PL
        go_simp
        (try simp only [Act.put, List.setIfInBounds_toArray, List.set_cons_zero, List.set_cons_succ])
        exact hK
      iterate 2 (refine early_cons (fun v w hw hd K hK => ?_) ?_; focus (go_simp; (try simp only [Act.put, List.setIfInBounds_toArray, List.set_cons_zero, List.set_cons_succ]); exact hK))
      refine early_cons (fun v w hw hd K hK => ?_) ?_
      focus
        have y1 := HC2.out w (G1.out.trans hw)
        go_simp
        (try simp only [Act.put, List.setIfInBounds_toArray, List.set_cons_zero, List.set_cons_succ])
        exact hK
      (refine early_cons (fun v w hw hd K hK => ?_) ?_; focus (go_simp; (try simp only [Act.put, List.setIfInBounds_toArray, List.set_cons_zero, List.set_cons_succ]); exact hK))
      refine early_cons (fun v w hw hd K hK => ?_) ?_
      focus
        have y1 := cell_past hw P1.out PL
        go_simp
        (try simp only [Act.put, List.setIfInBounds_toArray, List.set_cons_zero, List.set_cons_succ])
        exact hK
      iterate 3 (refine early_cons (fun v w hw hd K hK => ?_) ?_; focus (go_simp; (try simp only [Act.put, List.setIfInBounds_toArray, List.set_cons_zero, List.set_cons_succ]); exact hK))
      refine early_cons (fun v w hw hd K hK => ?_) ?_
      focus
        obtain ⟨m0, m1, m2, m3⟩ := HC.out w (G1.out.trans hw)
        go_simp
        (try simp only [Act.put, List.setIfInBounds_toArray, List.set_cons_zero, List.set_cons_succ])
        exact hK
      refine early_skip rfl ?_
      refine early_cons (fun v w hw hd K hK => ?_) ?_
      focus
        have e12 : v 12 = .int .i64 q := hd 12 rfl
        rw [e12] at hK ⊢
        go_simp
        (try simp only [Act.put, List.setIfInBounds_toArray, List.set_cons_zero, List.set_cons_succ])
        exact hK
      exact True.intro
    case la =>
      simp only [latesV, List.map_cons, List.map_nil, List.cons_append, List.nil_append, List.append_nil, fillA, Act.put, List.setIfInBounds_toArray, List.set_cons_zero, List.set_cons_succ]
      refine lateP_skip rfl ?_
      refine lateP_skip rfl ?_
      refine lateP_skip rfl ?_
      refine lateP_skip rfl ?_
      refine lateP_skip rfl ?_
      refine lateP_skip rfl ?_
      refine lateP_skip rfl ?_
      refine lateP_skip rfl ?_
      refine lateP_skip rfl ?_
      refine lateP_skip rfl ?_
      refine lateP_skip rfl ?_
      refine lateP_skip rfl ?_
      refine lateP_cons (fun v w hw hd => ⟨rfl, fun K hK => ?_⟩) ?_
      focus
        (try simp only [Act.put, List.setIfInBounds_toArray, List.set_cons_zero, List.set_cons_succ])
        go_simp
        refine (size_any s.h s.w s.c q _ hq).mono ?_
        rintro e w5 ⟨rfl, g⟩
        exact hK _ _ (Grown.past g) (show JK q 12 _ w5 from rfl)
      refine lateP_skip rfl ?_
      exact True.intro
    case na =>
      intro v w8 hw hd
      simp only [latesV, List.map_cons, List.map_nil, List.cons_append, List.nil_append, List.append_nil, fillA, Act.put, List.setIfInBounds_toArray, List.set_cons_zero, List.set_cons_succ]
      show Oper.wp _ _ _ _ _ _
      have b2 := box_past hw B1.out (by omega)
      have f2 := free_past hw F1.out (by omega)
      have g3 := G1.out.trans hw
      go_wp2_with fail
      refine opqb (fun w' => (∀ o : Nat, w'.cell? ⟨W.heap.size, o, none⟩ = (#[.int .i64 0, .int .i64 r, .int .i64 q] : Array Value)[o]?) ∧ Past W w') ⟨box_upd (box_upd (box_upd b2 0 (by simp) _) 1 (by simp) _) 2 (by simp) _, by (exact kKeep)⟩ ?_
      rintro w3 ⟨b3, g4⟩
      exact ret_cell rfl W.heap.size _ _ rfl b3 Try.underlying91 rfl RUN3 rfl ⟨rfl, g4⟩
end Go.Proofs.Ytgbedoffgahhaaa

namespace Go.Proofs.Ytgbedoffgahhaaa
open Go.ChangeShapes Go.WideShapes Go.ChangeAt Go.RowKit
set_option maxRecDepth 20000
set_option linter.unusedVariables false
set_option linter.unusedSimpArgs false
theorem wf_wrap (x : Int) : (Lit.int .i64 (wrap64 x)).wf = true := by
  have h : -9223372036854775808 ≤ wrap64 x ∧ wrap64 x ≤ 9223372036854775807 := by unfold wrap64; omega
  simpa [Lit.wf, IntKind.min, IntKind.max, IntKind.bits, IntKind.signed] using h
/-- All of a value, in DRAM. -/
noncomputable def wholeS (vs : List ValD) (pl : List Int) (wr : Bool) (i : Nat) : SpD := ⟨0, pl.getD i 0, wrap64 (pl.getD i 0 + sizeI (vs.getD i default).h (vs.getD i default).w (vs.getD i default).c), wr⟩
noncomputable def kernL (vs : List ValD) (pl : List Int) (xs : List Int) (made : Nat) : List SpD := xs.map (fun x => wholeS vs pl false x.toNat) ++ [wholeS vs pl true made]
theorem wholeS_wf {W : World} {pv : Value} {vs : List ValD} {pl : List Int} {wr : Bool} {i : Nat} (h : IsNums .i64 W pv pl) (hi : i < pl.length) : SpWf (wholeS vs pl wr i) := by
  obtain ⟨A, cap, _, _, _, _, h5, _⟩ := h
  refine ⟨(by decide : (Lit.int .i64 0).wf = true), ?_, wf_wrap _⟩
  show (Lit.int .i64 (pl.getD i 0)).wf = true
  exact h5 _ (by simp [List.getD, hi])
def AllIn (n : Nat) (xs : List Int) : Prop := ∀ j, j < xs.length → 0 ≤ xs.getD j 0 ∧ xs.getD j 0 < n
theorem own_weaken {w : World} {b0 base e size n : Nat} {v : Value} {xs : List Value} (hb : b0 ≤ base) (h : w.ownsRow base e size v n xs) : w.ownsRow b0 e size v n xs := by
  refine ⟨h.1, ?_⟩
  rcases h.2 with hn | ⟨b, cap, cur, rfl, hbb, rest⟩
  · exact Or.inl hn
  · exact Or.inr ⟨b, cap, cur, rfl, Nat.le_trans hb hbb, rest⟩
set_option maxHeartbeats 8000000 in
theorem kernel_yes (A1 A2 : Option Addr) (n1 c1 n2 c2 : Nat) (ov pv u0 u1 u2 lv : Value) (ns : List NodeD) (vs : List ValD) (pl : List Int) (c : List Int) (hc : c.length = 14) (k : Nat) (W : World) (hN : IsNodes W (.slice A2 n2 c2) ns) (hk : k < ns.length) (h1 : n1 ≤ 1000) (h0 : ns.length ≤ 1000) (hv : IsVals W lv vs) (hpl : IsNums .i64 W pv pl) (hl : vs.length = n1 + ns.length) (hp : pl.length = vs.length)
    (hin : AllIn vs.length (ns.getD k default).ins) (hin2 : (ns.getD k default).ins.length ≤ 1000) (hck : c.getD 2 0 = k) (hr : c.getD 4 0 = (vs.getD (n1 + k) default).h) :
    Calls Try.prog 43 #[.agg #[.slice A1 n1 c1, .slice A2 n2 c2, ov, pv, u0, u1, u2, lv], .agg ⟨Q8.cellC c⟩] W fun e w' => ∃ v, e = .returned (.tuple #[v, .bool true]) ∧ OwnSps w' W.heap.size v (kernL vs pl (ns.getD k default).ins (n1 + k)) ∧ Past W w' := by
  obtain ⟨Al, cl, rfl, a1, a2⟩ := hv.form
  obtain ⟨Ap, cp, rfl, a3, a4⟩ := hpl.form'
  have hl1 : vs.length ≤ 2000 := by omega
  have HV := Lib.hid hv
  have HPL := Lib.hid hpl
  have HIN := Lib.hid hin
  have HL := Lib.hid hl
  have HP := Lib.hid hp
  obtain ⟨b0, o0, rfl, _, hat⟩ := hv.at (k := n1 + k) (by omega)
  have HAT := Lib.hid hat
  have NY := Lib.hid (fun w (g : Past W w) => node_yes A1 A2 n1 c1 n2 c2 ov (.slice Ap pl.length cp) u0 u1 u2 (.slice (some ⟨b0, o0, none⟩) vs.length cl) ns k w (hN.grow g) hk h1 h0)
  obtain ⟨xs, hxs⟩ : ∃ xs, (ns.getD k default).ins = xs := ⟨_, rfl⟩
  rw [hxs] at HIN hin2 NY ⊢
  obtain ⟨h, hh⟩ : ∃ h, (vs.getD (n1 + k) default).h = h := ⟨_, rfl⟩
  rw [hh] at hr
  have HH := Lib.hid hh
  have CC := Lib.hid (show ((Q8.cellC c)[2]? = some (.int .i64 k) ∧ (Q8.cellC c)[4]? = some (.int .i64 h)) from ⟨by rw [Q8.cellC_at c 2 (by omega), hck], by rw [Q8.cellC_at c 4 (by omega), hr]⟩)
  have sz := Q8.size_cellC hc
  have hkk := Lib.hid hk
  have i1 : (0 : Int) ≤ (n1 : Int) + (k : Int) := by omega
  have i2 : (n1 : Int) + (k : Int) < (vs.length : Int) := by omega
  have hhf : (h != h) = false := by simp
  have kn : k ≤ 1000 := by omega
  clear hv hpl hin hl hp hat hh hN hck hr a1 a2 a3 a4 hxs hk
  obtain ⟨Q, hQ⟩ : ∃ Q, W.heap.size = Q := ⟨_, rfl⟩
  go_enter Try.func43, Try.ntmps43
  go_upto_region 1 with fail
  refine opq (fun w' => (∀ o : Nat, w'.cell? ⟨Q, o, none⟩ = (#[.slice A1 n1 c1, .slice A2 n2 c2, ov, .slice Ap pl.length cp, u0, u1, u2, .slice (some ⟨b0, o0, none⟩) vs.length cl] : Array Value)[o]?) ∧ (∀ o : Nat, w'.cell? ⟨Q + 1, o, none⟩ = (⟨Q8.cellC c⟩ : Array Value)[o]?) ∧ Past W w' ∧ Q + 2 ≤ w'.heap.size) (by subst hQ; (exact kKeep)) ?_
  rintro w1 ⟨b1, b2, p1, z1⟩
  have k2 : w1.cell? ⟨Q + 1, 2, none⟩ = some (.int .i64 k) := by rw [b2 2]; simpa using CC.out.1
  have k4 : w1.cell? ⟨Q + 1, 4, none⟩ = some (.int .i64 h) := by rw [b2 4]; simpa using CC.out.2
  have B1 := Lib.hid b1
  have P1 := Lib.hid p1
  try simp only [hQ]
  have QW : W.heap.size ≤ Q := by omega
  clear b2 p1 hQ
  go_upto_region 2 with (go_at_call 60; (with_reducible refine (NY.out _ P1.out).mono ?_); rintro e w2 ⟨vi, rfl, hvi, g2⟩)
  have P2 := Lib.hid (P1.out.trans (Grown.past g2))
  have B2 := Lib.hid (box_grown g2 B1.out (by omega))
  have c4 := cell_past (Grown.past g2) k4 (by show Q + 1 < _; omega)
  have z2 : Q + 2 ≤ w2.heap.size := Nat.le_trans z1 (Grown.past g2).2.2.1
  have VI := Lib.hid (hvi.grow (Grown.past g2))
  obtain ⟨Ai, ci, rfl, _, _⟩ := hvi.form'
  have b2 := B2.out
  have m0 := (HAT.out w2 P2.out).1
  rw [HH.out] at m0
  clear k2 k4 B1 P1 g2 hvi z1
  go_quiet (fail)
  go_upto_region 5 with fail
  refine opq (fun w' => (∀ o : Nat, w'.cell? ⟨Q, o, none⟩ = (#[.slice A1 n1 c1, .slice A2 n2 c2, ov, .slice Ap pl.length cp, u0, u1, u2, .slice (some ⟨b0, o0, none⟩) vs.length cl] : Array Value)[o]?) ∧ Past w2 w' ∧ Past W w' ∧ Q + 2 ≤ w'.heap.size) ⟨by (exact kKeep), (Past.refl _).drewN, P2.out.drewN, by (exact kKeep)⟩ ?_
  rintro w3 ⟨b3, g3, p3, z3⟩
  have B3 := Lib.hid b3
  have P3 := Lib.hid p3
  have V3 := Lib.hid (VI.out.grow g3)
  have HV3 := Lib.hid (HV.out.grow p3)
  have HPL3 := Lib.hid (HPL.out.grow p3)
  clear b2 m0 c4 B2 P2 b3 p3 VI HAT NY HV HPL g3 HH CC
  go_wp2_with fail
  go_loopw [10, 38] (fun v i wr => ∃ j : Nat, j ≤ xs.length ∧ i = .int .i64 j ∧ Hid (OwnSps wr w3.heap.size v ((xs.take j).map fun x => wholeS vs pl false x.toNat)) ∧ Hid (Past w3 wr)) (fun _ i _ => xs.length - (intOf i).toNat)
  case atStart => exact ⟨0, by omega, rfl, Lib.hid (ownSps_nil _ _), Lib.hid (Past.refl _)⟩
  case round =>
    obtain ⟨j, hj, rfl, OWN, PR⟩ := hrel
    have b4 := box_past PR.out B3.out (by omega)
    have B4 := Lib.hid b4
    have Z4 := Lib.hid (show w3.heap.size ≤ wr.heap.size from PR.out.2.2.1)
    have HV4 := Lib.hid (HV3.out.grow PR.out)
    have HPL4 := Lib.hid (HPL3.out.grow PR.out)
    by_cases l : j < xs.length
    · obtain ⟨bi, oi, rfl, _, hci⟩ := V3.out.at l
      have y1 := hci wr PR.out
      obtain ⟨x0, x1⟩ := HIN.out j l
      obtain ⟨x, hx⟩ : ∃ x, xs.getD j 0 = x := ⟨_, rfl⟩
      rw [hx] at y1 x0 x1
      obtain ⟨m, rfl⟩ : ∃ m : Nat, x = m := ⟨x.toNat, by omega⟩
      have hm : m < vs.length := by omega
      have HX := Lib.hid (show (xs.take (j + 1)).map (fun x => wholeS vs pl false x.toNat) = (xs.take j).map (fun x => wholeS vs pl false x.toNat) ++ [wholeS vs pl false m] by
        rw [List.take_add_one, List.map_append]
        have : xs[j]? = some (m : Int) := by have h2 := hx; simp only [List.getD, List.getElem?_eq_getElem l, Option.getD_some] at h2; rw [List.getElem?_eq_getElem l, h2]
        rw [this]; simp)
      have LK := Lib.hid (show ((xs.take j).map (fun x => wholeS vs pl false x.toNat)).length = j by simp; omega)
      have q1 : (0 : Int) ≤ (j : Int) := by omega
      have q2 : (j : Int) < (xs.length : Int) := by omega
      clear hci hx
      obtain ⟨q, hq⟩ : ∃ q, q = sizeI (vs.getD m default).h (vs.getD m default).w (vs.getD m default).c := ⟨_, rfl⟩
      obtain ⟨t, ht⟩ : ∃ t, wrap64 (pl.getD m 0 + q) = t := ⟨_, rfl⟩
      have WS := Lib.hid (show wholeS vs pl false m = ⟨0, pl.getD m 0, t, false⟩ by unfold wholeS; rw [← hq, ht])
      rw [WS.out] at HX
      have KC := Lib.hid (fun w hp hp2 hv hpl => kernel1_any Q vs pl (.slice (some ⟨b0, o0, none⟩) vs.length cl) (.slice Ap pl.length cp) m q w hp hp2 hv hpl hm (by have := HP.out; omega) (Lib.hid hq))
      have RC := Lib.hid (fun w => read_any 0 (pl.getD m 0) q t w ht)
      obtain ⟨pm, hpm⟩ : ∃ pm, pl.getD m 0 = pm := ⟨_, rfl⟩
      rw [hpm] at KC RC HX
      clear hq ht WS hpm
      go_wp2_with (first
        | (go_at_call 63; (refine (KC.out _ (B4.out 7) (B4.out 3) HV4.out HPL4.out).mono ?_); rintro e w4 ⟨rfl, g4⟩; have OWN4 := Lib.hid (OWN.out.past g4); have P4 := Lib.hid (PR.out.trans g4); clear OWN PR b4 B4)
        | (go_at_call 40; (with_reducible refine (RC.out _).mono ?_); rintro e w5 ⟨rfl, g5⟩; have OWN5 := Lib.hid (OWN4.out.past (Grown.past g5)); have P5 := Lib.hid (P4.out.trans (Grown.past g5)); have LT := Lib.hid (World.ownsRow.lt OWN5.out); have Z5 := Lib.hid (show w3.heap.size ≤ w5.heap.size from P5.out.2.2.1); clear OWN4 P4)
        | (at_builtin; refine wpList_append_sp rfl (.tmp 42) (.tmp 47) rfl w3.heap.size _ _ rfl (OWN5.out.past ((Past.refl _).alloc _)) ⟨0, pm, t, false⟩ w5.heap.size 1 rfl (box_new rfl) ?c4 ?c5 ?_))
      case c4 => first | omega | (rw [LK.out]; omega)
      case c5 => have := Z5.out; first | omega | (simp; omega)
      intro v4 w6 hown6 hgrow
      have P6 := Lib.hid (show Past w3 w6 from (P5.out.alloc _).grownBy hgrow (fun j hj => (LT.out j hj).1))
      have OWN6 := Lib.hid (show OwnSps w6 w3.heap.size v4 ((xs.take (j + 1)).map fun x => wholeS vs pl false x.toNat) by rw [HX.out]; first | exact hown6 | (rw [List.map_take]; exact hown6))
      clear hown6 hgrow
      go_wp2_with fail
      go_roundw
      case rel => exact ⟨j + 1, by omega, by go_num, OWN6, P6⟩
      case measure => simp [intOf]; omega
    · have e : j = xs.length := by omega
      subst e
      have hm : n1 + k < vs.length := by omega
      obtain ⟨q, hq⟩ : ∃ q, q = sizeI (vs.getD (n1 + k) default).h (vs.getD (n1 + k) default).w (vs.getD (n1 + k) default).c := ⟨_, rfl⟩
      obtain ⟨t, ht⟩ : ∃ t, wrap64 (pl.getD (n1 + k) 0 + q) = t := ⟨_, rfl⟩
      have WS := Lib.hid (show wholeS vs pl true (n1 + k) = ⟨0, pl.getD (n1 + k) 0, t, true⟩ by unfold wholeS; rw [← hq, ht])
      have HX := Lib.hid (show kernL vs pl xs (n1 + k) = (xs.map fun x => wholeS vs pl false x.toNat) ++ [wholeS vs pl true (n1 + k)] from rfl)
      rw [WS.out] at HX
      have OW := Lib.hid (show OwnSps wr w3.heap.size u10 (xs.map fun x => wholeS vs pl false x.toNat) by have := OWN.out; rw [List.take_length] at this; exact this)
      have LK := Lib.hid (show (xs.map (fun x => wholeS vs pl false x.toNat)).length = xs.length by simp)
      have KC := Lib.hid (fun w hp hp2 hv hpl => kernel1_any Q vs pl (.slice (some ⟨b0, o0, none⟩) vs.length cl) (.slice Ap pl.length cp) (n1 + k) q w hp hp2 hv hpl hm (by have := HP.out; omega) (Lib.hid hq))
      have RC := Lib.hid (fun w => written_any 0 (pl.getD (n1 + k) 0) q t w ht)
      obtain ⟨pm, hpm⟩ : ∃ pm, pl.getD (n1 + k) 0 = pm := ⟨_, rfl⟩
      rw [hpm] at KC RC HX
      have hnk : ((n1 + k : Nat) : Int) = (n1 : Int) + (k : Int) := by omega
      rw [hnk] at KC
      clear hq ht WS hpm OWN
      go_wp2_with (first
        | (go_at_call 63; (refine (KC.out _ (B4.out 7) (B4.out 3) HV4.out HPL4.out).mono ?_); rintro e w4 ⟨rfl, g4⟩; have OWN4 := Lib.hid (OW.out.past g4); have P4 := Lib.hid (PR.out.trans g4); clear OW PR b4 B4)
        | (go_at_call 41; (with_reducible refine (RC.out _).mono ?_); rintro e w5 ⟨rfl, g5⟩; have OWN5 := Lib.hid (OWN4.out.past (Grown.past g5)); have P5 := Lib.hid (P4.out.trans (Grown.past g5)); have LT := Lib.hid (World.ownsRow.lt OWN5.out); have Z5 := Lib.hid (show w3.heap.size ≤ w5.heap.size from P5.out.2.2.1); clear OWN4 P4)
        | (at_builtin; refine wpList_append_sp rfl (.tmp 50) (.tmp 55) rfl w3.heap.size _ _ rfl (OWN5.out.past ((Past.refl _).alloc _)) ⟨0, pm, t, true⟩ w5.heap.size 1 rfl (box_new rfl) ?c4 ?c5 ?_))
      case c4 => first | omega | (rw [LK.out]; omega)
      case c5 => have := Z5.out; first | omega | (simp; omega)
      intro v4 w6 hown6 hgrow
      have P6 := Lib.hid (show Past w3 w6 from (P5.out.alloc _).grownBy hgrow (fun j hj => (LT.out j hj).1))
      have OWN6 := Lib.hid (show OwnSps w6 W.heap.size v4 (kernL vs pl xs (n1 + k)) by rw [HX.out]; exact own_weaken (P3.out.2.2.1) hown6)
      clear hown6 hgrow
      go_wp2_with fail
      go_ret2
      exact ⟨v4, rfl, OWN6.out, P3.out.trans P6.out⟩
end Go.Proofs.Ytgbedoffgahhaaa

namespace Go.Proofs.Ytgbedoffgahhaaa
open Go.ChangeShapes Go.WideShapes Go.ChangeAt Go.RowKit
set_option maxRecDepth 20000
set_option linter.unusedVariables false
set_option linter.unusedSimpArgs false
/-- So many rows of a value, in the scratchpad. -/
noncomputable def rowsS (vs : List ValD) (wr : Bool) (at' many : Int) (i : Nat) : SpD := ⟨1, at', wrap64 (at' + wrap64 (many * rowI (vs.getD i default).h (vs.getD i default).w (vs.getD i default).c)), wr⟩
noncomputable def tileG (vs : List ValD) (c xs : List Int) (j : Nat) : SpD := rowsS vs false (c.getD (8 + j) 0) (c.getD (12 + j) 0) (xs.getD j 0).toNat
noncomputable def tileL (vs : List ValD) (c xs : List Int) (made : Nat) : List SpD := (List.range xs.length).map (tileG vs c xs) ++ [rowsS vs true (c.getD 7 0) (c.getD 4 0) made]
set_option maxHeartbeats 16000000 in
theorem tile_yes (A1 A2 : Option Addr) (n1 c1 n2 c2 : Nat) (ov pv u0 u1 u2 lv : Value) (ns : List NodeD) (vs : List ValD) (c : List Int) (hc : c.length = 14) (k : Nat) (W : World) (hN : IsNodes W (.slice A2 n2 c2) ns) (hk : k < ns.length) (h1 : n1 ≤ 1000) (h0 : ns.length ≤ 1000) (hv : IsVals W lv vs) (hl : vs.length = n1 + ns.length)
    (hin : AllIn vs.length (ns.getD k default).ins) (hin2 : (ns.getD k default).ins.length ≤ 2) (hck : c.getD 2 0 = k) (hfr : 0 ≤ c.getD 3 0 ∧ c.getD 3 0 ≤ 1000 ∧ 0 ≤ c.getD 4 0 ∧ c.getD 4 0 ≤ 1000) (hr : c.getD 3 0 + c.getD 4 0 ≤ (vs.getD (n1 + k) default).h) :
    Calls Try.prog 42 #[.agg #[.slice A1 n1 c1, .slice A2 n2 c2, ov, pv, u0, u1, u2, lv], .agg ⟨Q8.cellC c⟩] W fun e w' => ∃ v, e = .returned (.tuple #[v, .bool true]) ∧ OwnSps w' W.heap.size v (tileL vs c (ns.getD k default).ins (n1 + k)) ∧ Past W w' := by
  obtain ⟨Al, cl, rfl, a1, a2⟩ := hv.form
  have hl1 : vs.length ≤ 2000 := by omega
  have HV := Lib.hid hv
  have HIN := Lib.hid hin
  have HL := Lib.hid hl
  obtain ⟨b0, o0, rfl, _, hat⟩ := hv.at (k := n1 + k) (by omega)
  have HAT := Lib.hid hat
  have NY := Lib.hid (fun w (g : Past W w) => node_yes A1 A2 n1 c1 n2 c2 ov pv u0 u1 u2 (.slice (some ⟨b0, o0, none⟩) vs.length cl) ns k w (hN.grow g) hk h1 h0)
  obtain ⟨xs, hxs⟩ : ∃ xs, (ns.getD k default).ins = xs := ⟨_, rfl⟩
  rw [hxs] at HIN hin2 NY ⊢
  obtain ⟨h, hh⟩ : ∃ h, (vs.getD (n1 + k) default).h = h := ⟨_, rfl⟩
  rw [hh] at hr
  have HH := Lib.hid hh
  obtain ⟨fi, hfi⟩ : ∃ fi, c.getD 3 0 = fi := ⟨_, rfl⟩
  obtain ⟨ro, hro⟩ : ∃ ro, c.getD 4 0 = ro := ⟨_, rfl⟩
  obtain ⟨pa, hpa⟩ : ∃ pa, c.getD 7 0 = pa := ⟨_, rfl⟩
  rw [hfi, hro] at hfr hr
  have CC := Lib.hid (show ((Q8.cellC c)[2]? = some (.int .i64 k) ∧ (Q8.cellC c)[3]? = some (.int .i64 fi) ∧ (Q8.cellC c)[4]? = some (.int .i64 ro) ∧ (Q8.cellC c)[7]? = some (.int .i64 pa)) from ⟨by rw [Q8.cellC_at c 2 (by omega), hck], by rw [Q8.cellC_at c 3 (by omega), hfi], by rw [Q8.cellC_at c 4 (by omega), hro], by rw [Q8.cellC_at c 7 (by omega), hpa]⟩)
  have TL := Lib.hid (show tileL vs c xs (n1 + k) = (List.range xs.length).map (tileG vs c xs) ++ [rowsS vs true pa ro (n1 + k)] by unfold tileL; rw [hpa, hro])
  have HC14 := Lib.hid hc
  have sz := Q8.size_cellC hc
  have hkk := Lib.hid hk
  have i1 : (0 : Int) ≤ (n1 : Int) + (k : Int) := by omega
  have i2 : (n1 : Int) + (k : Int) < (vs.length : Int) := by omega
  obtain ⟨f1, f2, f3, f4⟩ := hfr
  have hsum : wrap64 (fi + ro) = fi + ro := by unfold wrap64; omega
  have HS := Lib.hid hsum
  have hhf : decide (h < fi + ro) = false := by simp; omega
  have kn : k ≤ 1000 := by omega
  clear hv hin hl hat hh hN hck hr a1 a2 hxs hk hfi hro hpa hc hsum
  obtain ⟨Q, hQ⟩ : ∃ Q, W.heap.size = Q := ⟨_, rfl⟩
  go_enter Try.func42, Try.ntmps42
  go_upto_region 1 with fail
  refine opq (fun w' => (∀ o : Nat, w'.cell? ⟨Q, o, none⟩ = (#[.slice A1 n1 c1, .slice A2 n2 c2, ov, pv, u0, u1, u2, .slice (some ⟨b0, o0, none⟩) vs.length cl] : Array Value)[o]?) ∧ (∀ o : Nat, w'.cell? ⟨Q + 1, o, none⟩ = (⟨Q8.cellC c⟩ : Array Value)[o]?) ∧ Past W w' ∧ Q + 2 ≤ w'.heap.size) (by subst hQ; (exact kKeep)) ?_
  rintro w1 ⟨b1, b2, p1, z1⟩
  have k2 : w1.cell? ⟨Q + 1, 2, none⟩ = some (.int .i64 k) := by rw [b2 2]; simpa using CC.out.1
  have k3 : w1.cell? ⟨Q + 1, 3, none⟩ = some (.int .i64 fi) := by rw [b2 3]; simpa using CC.out.2.1
  have k4 : w1.cell? ⟨Q + 1, 4, none⟩ = some (.int .i64 ro) := by rw [b2 4]; simpa using CC.out.2.2.1
  have B1 := Lib.hid b1
  have P1 := Lib.hid p1
  have C1 := Lib.hid b2
  try simp only [hQ]
  have QW : W.heap.size ≤ Q := by omega
  clear b2 p1 hQ
  go_upto_region 2 with (go_at_call 60; (with_reducible refine (NY.out _ P1.out).mono ?_); rintro e w2 ⟨vi, rfl, hvi, g2⟩)
  have P2 := Lib.hid (P1.out.trans (Grown.past g2))
  have B2 := Lib.hid (box_grown g2 B1.out (by omega))
  have C2 := Lib.hid (box_grown g2 C1.out (by omega))
  have c3 := cell_past (Grown.past g2) k3 (by show Q + 1 < _; omega)
  have c4 := cell_past (Grown.past g2) k4 (by show Q + 1 < _; omega)
  have z2 : Q + 2 ≤ w2.heap.size := Nat.le_trans z1 (Grown.past g2).2.2.1
  have VI := Lib.hid (hvi.grow (Grown.past g2))
  obtain ⟨Ai, ci, rfl, _, _⟩ := hvi.form'
  have b2 := B2.out
  have m0 := (HAT.out w2 P2.out).1
  rw [HH.out] at m0
  clear k2 k3 k4 B1 C1 P1 g2 hvi z1
  have hsum := HS.out
  go_quiet (fail)
  clear hsum
  go_upto_region 6 with fail
  refine opq (fun w' => (∀ o : Nat, w'.cell? ⟨Q, o, none⟩ = (#[.slice A1 n1 c1, .slice A2 n2 c2, ov, pv, u0, u1, u2, .slice (some ⟨b0, o0, none⟩) vs.length cl] : Array Value)[o]?) ∧ (∀ o : Nat, w'.cell? ⟨Q + 1, o, none⟩ = (⟨Q8.cellC c⟩ : Array Value)[o]?) ∧ Past w2 w' ∧ Past W w' ∧ Q + 2 ≤ w'.heap.size) ⟨by (exact kKeep), box_drewN C2.out, (Past.refl _).drewN, P2.out.drewN, by (exact kKeep)⟩ ?_
  rintro w3 ⟨b3, d3, g3, p3, z3⟩
  have B3 := Lib.hid b3
  have C3 := Lib.hid d3
  have P3 := Lib.hid p3
  have V3 := Lib.hid (VI.out.grow g3)
  have HV3 := Lib.hid (HV.out.grow p3)
  clear b2 m0 c3 c4 B2 C2 P2 b3 d3 p3 VI HAT NY HV g3 HH HS
  have hE := enters_t1
  go_wp2_with fail
  go_loopw [10, 41] (fun v i wr => ∃ j : Nat, j ≤ xs.length ∧ i = .int .i64 j ∧ Hid (OwnSps wr w3.heap.size v ((List.range j).map (tileG vs c xs))) ∧ Hid (Past w3 wr)) (fun _ i _ => xs.length - (intOf i).toNat)
  case atStart => exact ⟨0, by omega, rfl, Lib.hid (ownSps_nil _ _), Lib.hid (Past.refl _)⟩
  case round =>
    obtain ⟨j, hj, rfl, OWN, PR⟩ := hrel
    have b4 := box_past PR.out B3.out (by omega)
    have B4 := Lib.hid b4
    have C4 := Lib.hid (box_past PR.out C3.out (by omega))
    have HV4 := Lib.hid (HV3.out.grow PR.out)
    by_cases l : j < xs.length
    · obtain ⟨bi, oi, rfl, _, hci⟩ := V3.out.at l
      have y1 := hci wr PR.out
      obtain ⟨x0, x1⟩ := HIN.out j l
      obtain ⟨x, hx⟩ : ∃ x, xs.getD j 0 = x := ⟨_, rfl⟩
      rw [hx] at y1 x0 x1
      obtain ⟨m, rfl⟩ : ∃ m : Nat, x = m := ⟨x.toNat, by omega⟩
      have hm : m < vs.length := by omega
      obtain ⟨aa, haa⟩ : ∃ a, c.getD (8 + j) 0 = a := ⟨_, rfl⟩
      obtain ⟨mm, hmm⟩ : ∃ a, c.getD (12 + j) 0 = a := ⟨_, rfl⟩
      have HX := Lib.hid (show (List.range (j + 1)).map (tileG vs c xs) = (List.range j).map (tileG vs c xs) ++ [rowsS vs false aa mm m] by
        rw [List.range_succ, List.map_append]
        simp only [List.map_cons, List.map_nil, tileG]
        rw [hx, haa, hmm]; rfl)
      have LK := Lib.hid (show ((List.range j).map (tileG vs c xs)).length = j by simp)
      have CA : ∀ w, Past wr w → w.cell? ⟨Q + 1, 8 + j, none⟩ = some (.int .i64 aa) ∧ w.cell? ⟨Q + 1, 12 + j, none⟩ = some (.int .i64 mm) := fun w g => by
        have hcc := box_past g C4.out (by have := PR.out.2.2.1; omega)
        have e1 := Q8.boxC_cell hcc (j := 8 + j) (by rw [HC14.out]; omega)
        have e2 := Q8.boxC_cell hcc (j := 12 + j) (by rw [HC14.out]; omega)
        rw [haa] at e1
        rw [hmm] at e2
        exact ⟨e1, e2⟩
      have CAH := Lib.hid CA
      have q1 : (0 : Int) ≤ (j : Int) := by omega
      have q2 : (j : Int) < (xs.length : Int) := by omega
      have q3 : (j : Int) < 2 := by omega
      clear hci hx haa hmm CA
      obtain ⟨q, hq⟩ : ∃ q, wrap64 (mm * rowI (vs.getD m default).h (vs.getD m default).w (vs.getD m default).c) = q := ⟨_, rfl⟩
      obtain ⟨t, ht⟩ : ∃ t, wrap64 (aa + q) = t := ⟨_, rfl⟩
      have WS := Lib.hid (show rowsS vs false aa mm m = ⟨1, aa, t, false⟩ by unfold rowsS; rw [hq, ht])
      rw [WS.out] at HX
      have KC := Lib.hid (fun w hp hv => tile1_any Q vs (.slice (some ⟨b0, o0, none⟩) vs.length cl) m aa mm q w hp hv hm hq)
      have RC := Lib.hid (fun w => read_any 1 aa q t w ht)
      clear hq ht WS
      have zr : Q + 2 ≤ wr.heap.size := Nat.le_trans z3 PR.out.2.2.1
      obtain ⟨ca, cb⟩ := CAH.out wr (Past.refl wr)
      go_upto_region 9 with fail
      refine wp_region_lastn 15 _ rfl (by kernel_rfl) (by kernel_rfl) ?za
      case za =>
        simp only [List.take_succ_cons, List.take_zero]
        refine any_mixd [11, 12, 13, 14] (fun w' => w'.cell? ⟨Q + 1, 8 + j, none⟩ = some (.int .i64 aa) ∧ w'.cell? ⟨Q + 1, 12 + j, none⟩ = some (.int .i64 mm)) [(46, ?va46), (47, ?va47), (48, ?va48), (49, ?va49), (50, ?va50), (51, ?va51), (52, ?va52), (53, ?va53), (54, ?va54), (55, ?va55), (56, ?va56)] [46, 47, 48, 49, 50, 51, 52, 53, 54, 55, 56] (by kernel_rfl) rfl (by kernel_rfl) ⟨ca, cb⟩ (fun w h => h) ?alla ?fina
        case alla =>
          simp only [fillA, Act.put, List.setIfInBounds_toArray, List.set_cons_zero, List.set_cons_succ]
          iterate 15 (first | refine forced rfl ?_ | (refine reads (fun w hw K hK => ?_) ?_; focus ((have hS := Lib.hid hw); go_split_ands; go_simp; (try simp only [Act.put, List.setIfInBounds_toArray, List.set_cons_zero, List.set_cons_succ]); exact hK)))
          exact True.intro
        case fina =>
          simp only [fillA, Act.put, List.setIfInBounds_toArray, List.set_cons_zero, List.set_cons_succ]
          refine mix_at 57 rfl rfl (fun K hK => ?_)
          simp only [Act.put, List.setIfInBounds_toArray, List.set_cons_zero, List.set_cons_succ] at hK
          go_simp
          refine (KC.out wr.drew (by show wr.cell? _ = _; exact B4.out 7) (HV4.out.grow ((Past.refl wr).drew))).mono ?_
          rintro e w4 ⟨rfl, g4⟩
          have G4 := Lib.hid (show Past wr w4 from (Past.refl wr).drew.trans (Grown.past g4))
          have OWN4 := Lib.hid (OWN.out.past G4.out)
          refine hK _ _ (CAH.out w4 G4.out) ?_
          clear hK g4
          (try simp only [Act.put, List.setIfInBounds_toArray, List.set_cons_zero, List.set_cons_succ])
          refine mix_at 58 rfl rfl (fun K hK => ?_)
          simp only [Act.put, List.setIfInBounds_toArray, List.set_cons_zero, List.set_cons_succ] at hK
          go_simp
          refine (RC.out w4).mono ?_
          rintro e w5 ⟨rfl, g5⟩
          have G5 := Lib.hid (show Past wr w5 from G4.out.trans (Grown.past g5))
          have OWN5 := Lib.hid (OWN.out.past G5.out)
          have P5 := Lib.hid (PR.out.trans G5.out)
          have LT := Lib.hid (World.ownsRow.lt OWN5.out)
          have Z5 := Lib.hid (show w3.heap.size ≤ w5.heap.size from P5.out.2.2.1)
          refine hK _ _ (CAH.out w5 G5.out) ?_
          clear hK g5 G4 OWN4
          (try simp only [Act.put, List.setIfInBounds_toArray, List.set_cons_zero, List.set_cons_succ])
          refine mix_at 59 rfl rfl (fun K hK => ?_)
          simp only [Act.put, List.setIfInBounds_toArray, List.set_cons_zero, List.set_cons_succ] at hK
          go_simp
          refine hK _ _ (CAH.out _ (G5.out.alloc _)) ?_
          clear hK
          (try simp only [Act.put, List.setIfInBounds_toArray, List.set_cons_zero, List.set_cons_succ])
          refine mix_at 60 rfl rfl (fun K hK => ?_)
          simp only [Act.put, List.setIfInBounds_toArray, List.set_cons_zero, List.set_cons_succ] at hK
          obtain ⟨i0, hi0, hz0, hz1, hz2⟩ := info_parts infoSp
          refine wp_append_own _ (.tmp 46) (.tmp 59) 22 rfl w3.heap.size 28 i0 _ 4 32 Try.underlying22 hi0 hz0 hz1 hz2 rfl (by decide) _ _ _ rfl (World.ownsRow.alloc OWN5.out _) ⟨w5.heap.size, 0, none⟩ 1 1 (spCells ⟨1, aa, t, false⟩) rfl rfl (fun j u hu => cells_new' w5 _ 28 j u hu) (sp_one _) ?c4 ?c5 ?c6 ?_
          case c4 => rw [LK.out]; unfold maxLen; omega
          case c5 => rw [LK.out]; omega
          case c6 => have := Z5.out; simp; omega
          intro v6 w6 hown6 hgrow _
          have P6 := Lib.hid (show Past w3 w6 from (P5.out.alloc _).grownBy hgrow (fun j hj => (LT.out j hj).1))
          have OWN6 := Lib.hid (show OwnSps w6 w3.heap.size v6 ((List.range (j + 1)).map (tileG vs c xs)) by
            rw [HX.out]
            unfold OwnSps
            rw [spsCells_snoc]
            simp only [List.length_append, List.length_cons, List.length_nil]
            exact hown6)
          have s6 : w6.cell? ⟨Q + 1, 8 + j, none⟩ = some (.int .i64 aa) ∧ w6.cell? ⟨Q + 1, 12 + j, none⟩ = some (.int .i64 mm) := by
            obtain ⟨e1, e2⟩ := CAH.out _ (G5.out.alloc (.cells #[.int .i64 1, .int .i64 aa, .int .i64 t, .bool false] 28))
            have hb : Q + 1 < w5.heap.size := by have := G5.out.2.2.1; omega
            have ne : ∀ o, w6.cell? ⟨Q + 1, o, none⟩ = (w5.alloc (.cells #[.int .i64 1, .int .i64 aa, .int .i64 t, .bool false] 28)).cell? ⟨Q + 1, o, none⟩ := fun o => World.cell?_of_block (hgrow.block (Q + 1) (by simp; omega) (fun e => by have := (LT.out (Q + 1) e.symm).1; omega))
            exact ⟨(ne _).trans e1, (ne _).trans e2⟩
          refine hK _ _ s6 ?_
          clear hK hown6 hgrow s6 OWN OWN5
          (try simp only [Act.put, List.setIfInBounds_toArray, List.set_cons_zero, List.set_cons_succ])
          refine mix_nil ?_
          show Oper.wp _ _ _ _ _ _
          go_simp
          go_wp2_with fail
          go_roundw
          case rel => exact ⟨j + 1, by omega, by go_num, OWN6, P6⟩
          case measure => simp [intOf]; omega
    · have e : j = xs.length := by omega
      subst e
      have hm : n1 + k < vs.length := by omega
      obtain ⟨q, hq⟩ : ∃ q, wrap64 (ro * rowI (vs.getD (n1 + k) default).h (vs.getD (n1 + k) default).w (vs.getD (n1 + k) default).c) = q := ⟨_, rfl⟩
      obtain ⟨t, ht⟩ : ∃ t, wrap64 (pa + q) = t := ⟨_, rfl⟩
      have WS := Lib.hid (show rowsS vs true pa ro (n1 + k) = ⟨1, pa, t, true⟩ by unfold rowsS; rw [hq, ht])
      have HX := TL
      rw [WS.out] at HX
      have LK := Lib.hid (show ((List.range xs.length).map (tileG vs c xs)).length = xs.length by simp)
      have KC := Lib.hid (fun w hp hv => tile1_any Q vs (.slice (some ⟨b0, o0, none⟩) vs.length cl) (n1 + k) pa ro q w hp hv hm hq)
      have RC := Lib.hid (fun w => written_any 1 pa q t w ht)
      have hnk : ((n1 + k : Nat) : Int) = (n1 : Int) + (k : Int) := by omega
      rw [hnk] at KC
      have k7 : wr.cell? ⟨Q + 1, 7, none⟩ = some (.int .i64 pa) := by rw [C4.out 7]; simpa using CC.out.2.2.2
      have k4 : wr.cell? ⟨Q + 1, 4, none⟩ = some (.int .i64 ro) := by rw [C4.out 4]; simpa using CC.out.2.2.1
      clear hq ht WS
      go_wp2_with (first
        | (go_at_call 61; (refine (KC.out _ (B4.out 7) HV4.out).mono ?_); rintro e w4 ⟨rfl, g4⟩; have OWN4 := Lib.hid (OWN.out.past (Grown.past g4)); have P4 := Lib.hid (PR.out.trans (Grown.past g4)); clear OWN PR b4 B4)
        | (go_at_call 41; (with_reducible refine (RC.out _).mono ?_); rintro e w5 ⟨rfl, g5⟩; have OWN5 := Lib.hid (OWN4.out.past (Grown.past g5)); have P5 := Lib.hid (P4.out.trans (Grown.past g5)); have LT := Lib.hid (World.ownsRow.lt OWN5.out); have Z5 := Lib.hid (show w3.heap.size ≤ w5.heap.size from P5.out.2.2.1); clear OWN4 P4)
        | (at_builtin; refine wpList_append_sp rfl (.tmp 62) (.tmp 71) rfl w3.heap.size _ _ rfl (OWN5.out.past ((Past.refl _).alloc _)) ⟨1, pa, t, true⟩ w5.heap.size 1 rfl (box_new rfl) ?c4 ?c5 ?_))
      case c4 => first | omega | (rw [LK.out]; omega)
      case c5 => have := Z5.out; first | omega | (simp; omega)
      intro v4 w6 hown6 hgrow
      have P6 := Lib.hid (show Past w3 w6 from (P5.out.alloc _).grownBy hgrow (fun j hj => (LT.out j hj).1))
      have OWN6 := Lib.hid (show OwnSps w6 W.heap.size v4 (tileL vs c xs (n1 + k)) by rw [HX.out]; exact own_weaken (P3.out.2.2.1) hown6)
      clear hown6 hgrow
      go_wp2_with fail
      go_ret2
      exact ⟨v4, rfl, OWN6.out, P3.out.trans P6.out⟩
end Go.Proofs.Ytgbedoffgahhaaa

namespace Go.Proofs.Ytgbedoffgahhaaa
open Go.ChangeShapes Go.WideShapes Go.ChangeAt Go.RowKit
set_option maxRecDepth 20000
set_option linter.unusedVariables false
set_option linter.unusedSimpArgs false
/-- A new box of three cells. -/
def Bx3 (W w : World) (x : Value) : Prop := ∃ b, x = .pointer (some ⟨b, 0, none⟩) ∧ W.heap.size ≤ b ∧ (∃ p q r : Value, (∀ o : Nat, w.cell? ⟨b, o, none⟩ = (#[p, q, r] : Array Value)[o]?)) ∧ (∀ o : Nat, w.frozen? ⟨b, o, none⟩ = false)
theorem Bx3.alloc {W w : World} {x : Value} (h : Bx3 W w x) (cs : Array Value) (t : TypeId) : Bx3 W (w.alloc (.cells cs t)) x := by
  obtain ⟨b, e, hb, ⟨p, q, r, hx⟩, hf⟩ := h
  exact ⟨b, e, hb, ⟨p, q, r, box_old hx (cell_lt (hx 0))⟩, free_alloc hf⟩
theorem Bx3.set {W w : World} {x : Value} (h : Bx3 W w x) (b' i : Nat) (hi : i < 3) (u : Value) : Bx3 W (w.setCell ⟨b', i, none⟩ u) x := by
  obtain ⟨b, e, hb, ⟨p, q, r, hx⟩, hf⟩ := h
  refine ⟨b, e, hb, ?_, free_set hf⟩
  by_cases c : b' = b
  · subst c
    have := box_upd hx i (by simpa using hi) u
    match i, hi with
    | 0, _ => exact ⟨u, q, r, this⟩
    | 1, _ => exact ⟨p, u, r, this⟩
    | 2, _ => exact ⟨p, q, u, this⟩
  · exact ⟨p, q, r, box_set hx c⟩
def IS (W : World) (i : Nat) (v : Nat → Value) (w : World) : Prop := match i with
  | 16 => Bx3 W w (v 16)
  | 17 => Bx3 W w (v 17)
  | _ => True
theorem IS_keep {W w w' : World} {v : Nat → Value} {j : Nat} {x : Value} (k : ∀ y, Bx3 W w y → Bx3 W w' y) : ∀ i, i ≠ j → IS W i v w → IS W i (updV v j x) w' := by
  intro i hne h
  unfold IS at *
  split at h
  · rw [updV_ne v x hne]; exact k _ h
  · rw [updV_ne v x hne]; exact k _ h
  · trivial
set_option maxHeartbeats 8000000 in
theorem spans_node (sv : Array Value) (s0 s1 s2 s3 s4 s5 s6 s7 : Value) (hsv : sv = #[s0, s1, s2, s3, s4, s5, s6, s7]) (c : List Int) (hc : c.length = 14) (W : World) (R : Value → World → Prop) (hk : c.getD 0 0 = 3 ∨ c.getD 0 0 = 4)
    (hT : c.getD 0 0 = 3 → ∀ w, Past W w → Calls Try.prog 42 #[.agg #[s0, s1, s2, s3, s4, s5, s6, s7], .agg ⟨Q8.cellC c⟩] w fun e w' => ∃ v b, e = .returned (.tuple #[v, .bool b]) ∧ R (.tuple #[v, .bool b]) w' ∧ Past w w')
    (hK : c.getD 0 0 = 4 → ∀ w, Past W w → Calls Try.prog 43 #[.agg #[s0, s1, s2, s3, s4, s5, s6, s7], .agg ⟨Q8.cellC c⟩] w fun e w' => ∃ v b, e = .returned (.tuple #[v, .bool b]) ∧ R (.tuple #[v, .bool b]) w' ∧ Past w w') :
    Calls Try.prog 28 #[.agg #[s0, s1, s2, s3, s4, s5, s6, s7], .agg ⟨Q8.cellC c⟩] W fun e w' => ∃ v b, e = .returned (.tuple #[v, .bool b]) ∧ R (.tuple #[v, .bool b]) w' ∧ Past W w' := by
  have HT := Lib.hid hT
  have HK := Lib.hid hK
  clear hT hK
  obtain ⟨x0, x1, x2, x3, x4, x5, x6, x7, x8, x9, x10, x11, x12, x13, rfl⟩ := Q8.fourteen hc
  have HTT := Lib.hid (show x0 = 3 → ∀ w, Past W w → Calls Try.prog 42 #[.agg #[s0, s1, s2, s3, s4, s5, s6, s7], .agg #[.int .i64 x0, .int .i64 x1, .int .i64 x2, .int .i64 x3, .int .i64 x4, .int .i64 x5, .int .i64 x6, .int .i64 x7, .int .i64 x8, .int .i64 x9, .int .i64 x10, .int .i64 x11, .int .i64 x12, .int .i64 x13]] w fun e w' => ∃ v b, e = .returned (.tuple #[v, .bool b]) ∧ R (.tuple #[v, .bool b]) w' ∧ Past w w' from HT.out)
  have HKT := Lib.hid (show x0 = 4 → ∀ w, Past W w → Calls Try.prog 43 #[.agg #[s0, s1, s2, s3, s4, s5, s6, s7], .agg #[.int .i64 x0, .int .i64 x1, .int .i64 x2, .int .i64 x3, .int .i64 x4, .int .i64 x5, .int .i64 x6, .int .i64 x7, .int .i64 x8, .int .i64 x9, .int .i64 x10, .int .i64 x11, .int .i64 x12, .int .i64 x13]] w fun e w' => ∃ v b, e = .returned (.tuple #[v, .bool b]) ∧ R (.tuple #[v, .bool b]) w' ∧ Past w w' from HK.out)
  have HKK := Lib.hid (show x0 = 3 ∨ x0 = 4 from hk)
  show Calls Try.prog 28 #[.agg #[s0, s1, s2, s3, s4, s5, s6, s7], .agg #[.int .i64 x0, .int .i64 x1, .int .i64 x2, .int .i64 x3, .int .i64 x4, .int .i64 x5, .int .i64 x6, .int .i64 x7, .int .i64 x8, .int .i64 x9, .int .i64 x10, .int .i64 x11, .int .i64 x12, .int .i64 x13]] W _
  obtain ⟨pr, hpr⟩ : ∃ x, wrap64 (x4 * x5) = x := ⟨_, rfl⟩
  have HPR := Lib.hid hpr
  clear hc hpr hk HT HK
  obtain ⟨Q, hQ⟩ : ∃ Q, W.heap.size = Q := ⟨_, rfl⟩
  go_enter Try.func28, Try.ntmps28
  go_upto_region 1 with fail
  refine opq (fun w' => (∀ o : Nat, w'.cell? ⟨Q, o, none⟩ = (#[s0, s1, s2, s3, s4, s5, s6, s7] : Array Value)[o]?) ∧ (∀ o : Nat, w'.cell? ⟨Q + 1, o, none⟩ = (#[.int .i64 x0, .int .i64 x1, .int .i64 x2, .int .i64 x3, .int .i64 x4, .int .i64 x5, .int .i64 x6, .int .i64 x7, .int .i64 x8, .int .i64 x9, .int .i64 x10, .int .i64 x11, .int .i64 x12, .int .i64 x13] : Array Value)[o]?) ∧ Past W w' ∧ Q + 2 ≤ w'.heap.size) (by subst hQ; (exact kKeep)) ?_
  rintro w1 ⟨b1, b2, p1, z1⟩
  try simp only [hQ]
  have QW : W.heap.size ≤ Q := by omega
  have B1 := Lib.hid b1
  have B2 := Lib.hid b2
  have P1 := Lib.hid p1
  have CE := Lib.hid (fun (w : World) (g : Past w1 w) => box_past g B2.out (by omega))
  clear b1 b2 p1 hQ
  refine wp_region_lean (Past w1) [(8, ?va8), (9, ?va9), (10, ?va10), (11, ?va11), (12, ?va12), (13, ?va13), (14, ?va14), (15, ?va15), (16, ?va16), (17, ?va17), (18, ?va18), (19, ?va19), (20, ?va20), (21, ?va21), (22, ?va22), (23, ?va23)] [(16, 6), (17, 7)] [18, 19] (IS w1) [(18, [16]), (19, [17])] [] [] [] (by kernel_rfl) (by kernel_rfl) (by kernel_rfl) ?da (Past.refl w1) (fun _ h => h) ?ea ?la ?na
  case da =>
    intro q hq
    simp only [List.mem_cons, List.not_mem_nil, or_false] at hq
    rcases hq with rfl | rfl <;> simp
  case ea =>
    simp only [latesV, List.map_cons, List.map_nil, List.cons_append, List.nil_append, List.append_nil, fillA, Act.put, List.setIfInBounds_toArray, List.set_cons_zero, List.set_cons_succ]
    refine early_cons (fun v w hw hd K hK => ?_) ?_
    focus
      go_simp
      (try simp only [Act.put, List.setIfInBounds_toArray, List.set_cons_zero, List.set_cons_succ])
      exact hK
    refine early_cons (fun v w hw hd K hK => ?_) ?_
    focus
      have y := CE.out w hw
      go_simp
      (try simp only [Act.put, List.setIfInBounds_toArray, List.set_cons_zero, List.set_cons_succ])
      exact hK
    refine early_cons (fun v w hw hd K hK => ?_) ?_
    focus
      go_simp
      (try simp only [Act.put, List.setIfInBounds_toArray, List.set_cons_zero, List.set_cons_succ])
      exact hK
    refine early_cons (fun v w hw hd K hK => ?_) ?_
    focus
      have y := CE.out w hw
      go_simp
      (try simp only [Act.put, List.setIfInBounds_toArray, List.set_cons_zero, List.set_cons_succ])
      exact hK
    refine early_cons (fun v w hw hd K hK => ?_) ?_
    focus
      go_simp
      (try simp only [Act.put, List.setIfInBounds_toArray, List.set_cons_zero, List.set_cons_succ])
      exact hK
    refine early_cons (fun v w hw hd K hK => ?_) ?_
    focus
      have y := CE.out w hw
      go_simp
      (try simp only [Act.put, List.setIfInBounds_toArray, List.set_cons_zero, List.set_cons_succ])
      exact hK
    refine early_cons (fun v w hw hd K hK => ?_) ?_
    focus
      have y := HPR.out
      go_simp
      (try simp only [Act.put, List.setIfInBounds_toArray, List.set_cons_zero, List.set_cons_succ])
      exact hK
    refine early_cons (fun v w hw hd K hK => ?_) ?_
    focus
      go_simp
      (try simp only [Act.put, List.setIfInBounds_toArray, List.set_cons_zero, List.set_cons_succ])
      exact hK
    refine early_cons (fun v w hw hd K hK => ?_) ?_
    focus
      go_simp
      (try simp only [Act.put, List.setIfInBounds_toArray, List.set_cons_zero, List.set_cons_succ])
      exact hK
    refine early_cons (fun v w hw hd K hK => ?_) ?_
    focus
      have y := CE.out w hw
      go_simp
      (try simp only [Act.put, List.setIfInBounds_toArray, List.set_cons_zero, List.set_cons_succ])
      exact hK
    refine early_cons (fun v w hw hd K hK => ?_) ?_
    focus
      go_simp
      (try simp only [Act.put, List.setIfInBounds_toArray, List.set_cons_zero, List.set_cons_succ])
      exact hK
    refine early_cons (fun v w hw hd K hK => ?_) ?_
    focus
      have y := CE.out w hw
      go_simp
      (try simp only [Act.put, List.setIfInBounds_toArray, List.set_cons_zero, List.set_cons_succ])
      exact hK
    refine early_cons (fun v w hw hd K hK => ?_) ?_
    focus
      go_simp
      (try simp only [Act.put, List.setIfInBounds_toArray, List.set_cons_zero, List.set_cons_succ])
      exact hK
    refine early_cons (fun v w hw hd K hK => ?_) ?_
    focus
      have y := CE.out w hw
      go_simp
      (try simp only [Act.put, List.setIfInBounds_toArray, List.set_cons_zero, List.set_cons_succ])
      exact hK
    refine early_cons (fun v w hw hd K hK => ?_) ?_
    focus
      have y := HPR.out
      go_simp
      (try simp only [Act.put, List.setIfInBounds_toArray, List.set_cons_zero, List.set_cons_succ])
      exact hK
    refine early_cons (fun v w hw hd K hK => ?_) ?_
    focus
      go_simp
      (try simp only [Act.put, List.setIfInBounds_toArray, List.set_cons_zero, List.set_cons_succ])
      exact hK
    refine early_skip rfl ?_
    refine early_skip rfl ?_
    refine early_skip rfl ?_
    refine early_skip rfl ?_
    exact True.intro
  case la =>
    simp only [latesV, List.map_cons, List.map_nil, List.cons_append, List.nil_append, List.append_nil, fillA, Act.put, List.setIfInBounds_toArray, List.set_cons_zero, List.set_cons_succ]
    iterate 16 refine late_skip rfl ?_
    refine late_cons (fun v w hw hd => ⟨rfl, fun K hK => ?_⟩) ?_
    focus
      (try simp only [Act.put, List.setIfInBounds_toArray, List.set_cons_zero, List.set_cons_succ])
      go_simp
      exact hK _ _ (hw.alloc _) ⟨w.heap.size, by rw [updV_same], hw.2.2.1, ⟨_, _, _, box_new rfl⟩, by (exact kKeep)⟩ (fun i hne _ _ hI => IS_keep (fun y h => h.alloc _ _) i hne hI)
    refine late_cons (fun v w hw hd => ⟨rfl, fun K hK => ?_⟩) ?_
    focus
      (try simp only [Act.put, List.setIfInBounds_toArray, List.set_cons_zero, List.set_cons_succ])
      go_simp
      exact hK _ _ (hw.alloc _) ⟨w.heap.size, by rw [updV_same], hw.2.2.1, ⟨_, _, _, box_new rfl⟩, by (exact kKeep)⟩ (fun i hne _ _ hI => IS_keep (fun y h => h.alloc _ _) i hne hI)
    refine late_cons (fun v w hw hd => ⟨rfl, fun K hK => ?_⟩) ?_
    focus
      (try simp only [Act.put, List.setIfInBounds_toArray, List.set_cons_zero, List.set_cons_succ])
      obtain ⟨b, e, hb, ⟨p, q, r, hx⟩, hf⟩ : Bx3 w1 w (v 16) := hd 16 rfl
      rw [e] at hK ⊢
      go_simp
      refine hK undef _ (((hw.setCell (by simpa using hb) _).setCell (by simpa using hb) _).setCell (by simpa using hb) _) True.intro (fun i hne _ _ hI => IS_keep (fun y h => ((h.set b 0 (by omega) _).set b 1 (by omega) _).set b 2 (by omega) _) i hne hI)
    refine late_cons (fun v w hw hd => ⟨rfl, fun K hK => ?_⟩) ?_
    focus
      (try simp only [Act.put, List.setIfInBounds_toArray, List.set_cons_zero, List.set_cons_succ])
      obtain ⟨b, e, hb, ⟨p, q, r, hx⟩, hf⟩ : Bx3 w1 w (v 17) := hd 17 rfl
      rw [e] at hK ⊢
      go_simp
      refine hK undef _ (((hw.setCell (by simpa using hb) _).setCell (by simpa using hb) _).setCell (by simpa using hb) _) True.intro (fun i hne _ _ hI => IS_keep (fun y h => ((h.set b 0 (by omega) _).set b 1 (by omega) _).set b 2 (by omega) _) i hne hI)
    exact True.intro
  case na =>
  intro v w8 hw hd
  simp only [latesV, List.map_cons, List.map_nil, List.cons_append, List.nil_append, List.append_nil, fillA, Act.put, List.setIfInBounds_toArray, List.set_cons_zero, List.set_cons_succ]
  have b8 := box_past hw B1.out (by omega)
  have d8 := box_past hw B2.out (by omega)
  have P8 := Lib.hid (P1.out.trans hw)
  clear hd hw
  have hkk := HKK.out
  clear HKK CE
  rcases hkk with h3 | h4
  · subst h3
    have TT := Lib.hid (HTT.out rfl)
    clear HTT HKT
    go_wp2_with (go_at_call 42; (with_reducible refine (TT.out _ P8.out).mono ?_); rintro e w9 ⟨v9, t9, rfl, hR, g9⟩)
    go_ret2
    exact ⟨v9, t9, rfl, hR, P8.out.trans g9⟩
  · subst h4
    have TT := Lib.hid (HKT.out rfl)
    clear HTT HKT
    go_wp2_with (go_at_call 43; (with_reducible refine (TT.out _ P8.out).mono ?_); rintro e w9 ⟨v9, t9, rfl, hR, g9⟩)
    go_ret2
    exact ⟨v9, t9, rfl, hR, P8.out.trans g9⟩
end Go.Proofs.Ytgbedoffgahhaaa

namespace Go.Proofs.Ytgbedoffgahhaaa
open Go.ChangeShapes Go.WideShapes Go.ChangeAt Go.RowKit
set_option maxRecDepth 20000
set_option linter.unusedVariables false
theorem namedL_app {l r : List ValD} {ns : List Int} (h : namedP l ns) : namedL (l ++ r) ns = namedL l ns := by
  unfold namedL
  refine List.map_congr_left fun i hi => ?_
  obtain ⟨j, hj, rfl⟩ := List.getElem_of_mem hi
  have := h j hj
  have e : ns.getD j 0 = ns[j] := by simp [List.getD, hj]
  rw [e] at this
  exact getD_app_left (by omega)
theorem goS_steps (ns : List NodeD) : ∀ (l r : List ValD), goS ns l = (0, r) → ∀ k, k < ns.length →
    namedP (r.take (l.length + k)) (ns.getD k default).ins ∧ valueE (ns.getD k default) (namedL r (ns.getD k default).ins) = 0 ∧ r.getD (l.length + k) default = valueV (ns.getD k default) (namedL r (ns.getD k default).ins) := by
  induction ns with
  | nil => intro l r _ k hk; simp at hk
  | cons n ns ih =>
    intro l r h k hk
    by_cases hp : namedP l n.ins
    · by_cases he : valueE n (namedL l n.ins) = 0
      · rw [goS_ok hp he] at h
        obtain ⟨m, hm, _⟩ := goS_spec ns _ _ h
        have e1 : namedL r n.ins = namedL l n.ins := by
          rw [hm, List.append_assoc]; exact namedL_app hp
        cases k with
        | zero =>
          simp only [List.getD_cons_zero, Nat.add_zero]
          refine ⟨?_, by rw [e1]; exact he, ?_⟩
          · have : r.take l.length = l := by rw [hm, List.append_assoc]; simp
            rw [this]; exact hp
          · rw [e1, hm]; exact getD_app_at
        | succ k =>
          have := ih _ _ h k (by simpa using hk)
          simp only [List.length_append, List.length_cons, List.length_nil] at this
          rw [show l.length + (0 + 1) + k = l.length + (k + 1) by omega] at this
          simp only [List.getD_cons_succ]
          exact this
      · rw [goS_err hp he] at h
        simp only [Prod.mk.injEq] at h
        exact absurd h.1 he
    · rw [goS_no hp] at h
      simp at h

/-- What node k of a graph that may be is made of. -/
structure NodeOk (g : GraphD) (k : Nat) : Prop where
  named : namedP ((valuesL g).take (g.ins.length + k)) (g.nodes.getD k default).ins
  value : valueE (g.nodes.getD k default) (namedL (valuesL g) (g.nodes.getD k default).ins) = 0
  made : (valuesL g).getD (g.ins.length + k) default = valueV (g.nodes.getD k default) (namedL (valuesL g) (g.nodes.getD k default).ins)
theorem node_ok {g : GraphD} (h : valuesE g = 0) {k : Nat} (hk : k < g.nodes.length) : NodeOk g k := by
  obtain ⟨_, h1, _, _⟩ := values_ok h
  obtain ⟨a, b, c⟩ := goS_steps _ _ _ h1 k hk
  exact ⟨a, b, c⟩
theorem value_parts3 {n : NodeD} {vs : List ValD} (h : valueE n vs = 0) : (hasOp n.op ∧ takesP (opD n.op) n vs) ∧ (∀ j, j < vs.length → mayV (vs.getD j default)) ∧ mayT (madeS n vs) := by
  unfold valueE at h
  split at h
  · omega
  · rename_i h1
    split at h
    · omega
    · rename_i h2
      split at h
      · omega
      · rename_i h3
        split at h
        · omega
        · rename_i h4
          exact ⟨Classical.not_not.mp h1, Classical.not_not.mp h2, Classical.not_not.mp h3⟩


theorem ins_two {n : NodeD} {vs : List ValD} (h : valueE n vs = 0) : vs.length ≤ 2 := by
  obtain ⟨o1, o2⟩ := (value_parts3 h).1.1
  have l := (value_parts3 h).1.2.1
  rcases (show n.op = 1 ∨ n.op = 2 ∨ n.op = 3 ∨ n.op = 4 ∨ n.op = 5 ∨ n.op = 6 ∨ n.op = 7 ∨ n.op = 8 ∨ n.op = 9 ∨ n.op = 10 ∨ n.op = 11 ∨ n.op = 12 by omega) with c | c | c | c | c | c | c | c | c | c | c | c
  all_goals
    rw [c] at l
    have l' : (vs.length : Int) = 1 ∨ (vs.length : Int) = 2 := by first | exact .inl l | exact .inr l
    omega
/-- What a call of region.Of wants of a node. -/
theorem node_facts {g : GraphD} (h : valuesE g = 0) {k : Nat} (hk : k < g.nodes.length) : (valuesL g).length = g.ins.length + g.nodes.length ∧ g.ins.length ≤ 4 ∧ g.nodes.length ≤ 12 ∧ (∀ j, j < (g.nodes.getD k default).ins.length → 0 ≤ (g.nodes.getD k default).ins.getD j 0 ∧ (g.nodes.getD k default).ins.getD j 0 < (valuesL g).length) ∧ (g.nodes.getD k default).ins.length ≤ 2 := by
  have ok := node_ok h hk
  obtain ⟨hl, _, _⟩ := makes_facts h
  obtain ⟨b1, _, _⟩ := begins_ok (values_ok h).1
  refine ⟨hl, b1.2.1, b1.2.2.1, fun j hj => ?_, ?_⟩
  · have := ok.named j hj
    rw [List.length_take] at this
    omega
  · have := ins_two ok.value
    unfold namedL at this
    simpa using this
end Go.Proofs.Ytgbedoffgahhaaa

namespace Go.Proofs.Ytgbedoffgahhaaa
open Go.ChangeShapes Go.WideShapes Go.ChangeAt Go.RowKit
set_option maxRecDepth 20000
set_option linter.unusedVariables false
set_option linter.unusedSimpArgs false
/-- The first error of a row of spans. -/
def firstE : List SpD → Int
  | [] => 0
  | x :: l => if spanE x ≠ 0 then spanE x else firstE l
theorem first_at {l : List SpD} {j : Nat} (hj : j < l.length) (h : ∀ i, i < j → spanE (l.getD i default) = 0) (e : spanE (l.getD j default) ≠ 0) : firstE l = spanE (l.getD j default) := by
  induction l generalizing j with
  | nil => simp at hj
  | cons x l ih =>
    cases j with
    | zero => simp only [List.getD_cons_zero] at e ⊢; unfold firstE; rw [if_pos e]
    | succ j =>
      have h0 := h 0 (by omega)
      simp only [List.getD_cons_zero] at h0
      simp only [List.getD_cons_succ] at e ⊢
      unfold firstE
      rw [if_neg (by rw [h0]; simp)]
      exact ih (by simpa using hj) (fun i hi => by have := h (i + 1) (by omega); simpa using this) e
theorem first_none {l : List SpD} (h : ∀ i, i < l.length → spanE (l.getD i default) = 0) : firstE l = 0 := by
  induction l with
  | nil => rfl
  | cons x l ih =>
    have h0 := h 0 (by simp)
    simp only [List.getD_cons_zero] at h0
    unfold firstE
    rw [if_neg (by rw [h0]; simp)]
    exact ih (fun i hi => by have := h (i + 1) (by simpa using hi); simpa using this)
def RB (W : World) (L : List SpD) (x : Value) (w : World) : Prop := ∃ v, x = .tuple #[v, .bool true] ∧ OwnSps w W.heap.size v L
set_option maxHeartbeats 16000000 in
theorem of_node (g : GraphD) (iv nv ov pv u0 u1 u2 : Value) (pl : List Int) (c : List Int) (hc : c.length = 14) (W : World) (hg : IsGraph W (.agg #[iv, nv, ov]) g) (hcut : Cut g) (h0 : valuesE g = 0) (hpl : IsNums .i64 W pv pl) (hp : pl.length = (valuesL g).length) (hm : Q8.mayE c = 0) (k : Nat) (hk : k < g.nodes.length) (hck : c.getD 2 0 = k) (L : List SpD)
    (kind : (c.getD 0 0 = 3 ∧ (0 ≤ c.getD 3 0 ∧ c.getD 3 0 ≤ 1000 ∧ 0 ≤ c.getD 4 0 ∧ c.getD 4 0 ≤ 1000) ∧ c.getD 3 0 + c.getD 4 0 ≤ ((valuesL g).getD (g.ins.length + k) default).h ∧ L = tileL (valuesL g) c (g.nodes.getD k default).ins (g.ins.length + k)) ∨
      (c.getD 0 0 = 4 ∧ c.getD 4 0 = ((valuesL g).getD (g.ins.length + k) default).h ∧ L = kernL (valuesL g) pl (g.nodes.getD k default).ins (g.ins.length + k))) (hL : ∀ x ∈ L, SpWf x) :
    Calls Try.prog 15 #[.agg #[iv, nv, ov, pv, u0, u1, u2], .agg ⟨Q8.cellC c⟩] W fun e w' => ∃ v, e = .returned (.tuple #[v, .int .i64 (firstE L)]) ∧ (firstE L = 0 → OwnSps w' W.heap.size v L) ∧ Past W w' := by
  have HG := Lib.hid hg
  obtain ⟨f1, f2, f3, f4, f5⟩ := node_facts h0 hk
  obtain ⟨a, b, d, e, hi, hn, ho⟩ := hg
  simp only [Value.agg.injEq, Array.mk.injEq, List.cons.injEq, and_true] at e
  obtain ⟨rfl, rfl, rfl⟩ := e
  obtain ⟨A1, c1, rfl, i1, i2⟩ := hi.form
  obtain ⟨A2, c2, rfl, n1, n2⟩ : ∃ (A : Option Addr) (cap : Nat), nv = .slice A g.nodes.length cap ∧ g.nodes.length ≤ cap ∧ cap ≤ maxLen := by
    obtain ⟨A, cap, e, h2, h3, _⟩ := hn
    exact ⟨A, cap, e, h2, h3⟩
  obtain ⟨Ap, cp, rfl, q1, q2⟩ := hpl.form'
  obtain ⟨vs, hvs⟩ : ∃ vs, valuesL g = vs := ⟨_, rfl⟩
  have VA := Lib.hid (fun w (p : Past W w) => by have := values_any g _ w (HG.out.grow p) hcut; unfold ValuesPost at this; rw [h0, hvs] at this; exact this)
  rw [hvs] at hp kind f1 f4
  have MA := Lib.hid (fun w => by have := Q8.may_any c hc w; rw [hm] at this; exact this)
  have HPL := Lib.hid hpl
  have hpl1 : pl.length ≤ 16 := by omega
  have hpv : ((pl.length : Int) != (vs.length : Int)) = false := by rw [hp]; simp
  have SPN := Lib.hid (fun (w : World) (p : Past W w) (lv : Value) (hv : IsVals w lv vs) => spans_node _ (.slice A1 g.ins.length c1) (.slice A2 g.nodes.length c2) ov (.slice Ap pl.length cp) u0 u1 u2 lv rfl c hc w (RB W L) (by rcases kind with h | h; exact .inl h.1; exact .inr h.1)
    (fun h3 w' p' => by
      rcases kind with ⟨q0, qb, qr, qL⟩ | ⟨q0, _⟩
      · refine (tile_yes A1 A2 g.ins.length c1 g.nodes.length c2 ov (.slice Ap pl.length cp) u0 u1 u2 lv g.nodes vs c hc k w' (hn.grow (p.trans p')) hk (by omega) (by omega) (hv.grow p') f1 f4 f5 hck qb qr).mono ?_
        rintro e w2 ⟨v, rfl, ow, pz⟩
        exact ⟨v, true, rfl, ⟨v, rfl, by rw [qL]; exact own_weaken (p.trans p').2.2.1 ow⟩, pz⟩
      · rw [h3] at q0; cases q0)
    (fun h4 w' p' => by
      rcases kind with ⟨q0, _⟩ | ⟨q0, qr, qL⟩
      · rw [h4] at q0; cases q0
      · refine (kernel_yes A1 A2 g.ins.length c1 g.nodes.length c2 ov (.slice Ap pl.length cp) u0 u1 u2 lv g.nodes vs pl c hc k w' (hn.grow (p.trans p')) hk (by omega) (by omega) (hv.grow p') (HPL.out.grow (p.trans p')) f1 hp f4 (by omega) hck qr).mono ?_
        rintro e w2 ⟨v, rfl, ow, pz⟩
        exact ⟨v, true, rfl, ⟨v, rfl, by rw [qL]; exact own_weaken (p.trans p').2.2.1 ow⟩, pz⟩))
  have HL := Lib.hid hL
  have hLl : L.length ≤ 3 := by
    rcases kind with ⟨_, _, _, h⟩ | ⟨_, _, h⟩
    · have : L.length = (g.nodes.getD k default).ins.length + 1 := by rw [h]; unfold tileL; rw [List.length_append, List.length_map, List.length_range]; rfl
      omega
    · have : L.length = (g.nodes.getD k default).ins.length + 1 := by rw [h]; unfold kernL; rw [List.length_append, List.length_map]; rfl
      omega
  have hvl : vs.length ≤ 16 := by omega
  obtain ⟨x0, x1, x2, x3, x4, x5, x6, x7, x8, x9, x10, x11, x12, x13, rfl⟩ := Q8.fourteen hc
  have MB := Lib.hid (show ∀ w, Calls Try.prog 27 #[.agg #[.int .i64 x0, .int .i64 x1, .int .i64 x2, .int .i64 x3, .int .i64 x4, .int .i64 x5, .int .i64 x6, .int .i64 x7, .int .i64 x8, .int .i64 x9, .int .i64 x10, .int .i64 x11, .int .i64 x12, .int .i64 x13]] w fun e w' => e = .returned (.int .i64 0) ∧ Past w w' from MA.out)
  have SPB := Lib.hid (show ∀ (w : World) (p : Past W w) (lv : Value) (hv : IsVals w lv vs), Calls Try.prog 28 #[.agg #[.slice A1 g.ins.length c1, .slice A2 g.nodes.length c2, ov, .slice Ap pl.length cp, u0, u1, u2, lv], .agg #[.int .i64 x0, .int .i64 x1, .int .i64 x2, .int .i64 x3, .int .i64 x4, .int .i64 x5, .int .i64 x6, .int .i64 x7, .int .i64 x8, .int .i64 x9, .int .i64 x10, .int .i64 x11, .int .i64 x12, .int .i64 x13]] w fun e w' => ∃ v b, e = .returned (.tuple #[v, .bool b]) ∧ RB W L (.tuple #[v, .bool b]) w' ∧ Past w w' from SPN.out)
  show Calls Try.prog 15 #[.agg #[.slice A1 g.ins.length c1, .slice A2 g.nodes.length c2, ov, .slice Ap pl.length cp, u0, u1, u2], .agg #[.int .i64 x0, .int .i64 x1, .int .i64 x2, .int .i64 x3, .int .i64 x4, .int .i64 x5, .int .i64 x6, .int .i64 x7, .int .i64 x8, .int .i64 x9, .int .i64 x10, .int .i64 x11, .int .i64 x12, .int .i64 x13]] W _
  have lg1 : g.ins.length ≤ 4 := f2
  have lg2 : g.nodes.length ≤ 12 := f3
  clear hc hm hck kind hL f1 f2 f3 f4 f5 hi hn ho hpl hp MA SPN i1 i2 n1 n2 q1 q2 HPL hvs HG hcut h0 hk
  obtain ⟨Q, hQ⟩ : ∃ Q, W.heap.size = Q := ⟨_, rfl⟩
  go_enter Try.func15, Try.ntmps15
  go_upto_region 1 with fail
  refine opq (fun w' => (∀ o : Nat, w'.cell? ⟨Q, o, none⟩ = (#[.slice A1 g.ins.length c1, .slice A2 g.nodes.length c2, ov, .slice Ap pl.length cp, u0, u1, u2] : Array Value)[o]?) ∧ (∀ o : Nat, w'.cell? ⟨Q + 1, o, none⟩ = (#[.int .i64 x0, .int .i64 x1, .int .i64 x2, .int .i64 x3, .int .i64 x4, .int .i64 x5, .int .i64 x6, .int .i64 x7, .int .i64 x8, .int .i64 x9, .int .i64 x10, .int .i64 x11, .int .i64 x12, .int .i64 x13] : Array Value)[o]?) ∧ Past W w' ∧ Q + 2 ≤ w'.heap.size) (by subst hQ; (exact kKeep)) ?_
  rintro w1 ⟨b1, b2, p1, z1⟩
  try simp only [hQ]
  have QW : W.heap.size ≤ Q := by omega
  clear hQ
  go_upto_region 2 with (go_at_call 26; (with_reducible refine (VA.out _ p1).mono ?_); rintro e w2 ⟨lv, rfl, hv2, g2⟩; have b3 := box_past g2 b1 (by omega); have d3 := box_past g2 b2 (by omega); have p2 := p1.trans g2; have z2 := Nat.le_trans z1 g2.2.2.1; clear b1 b2 p1 g2 z1)
  obtain ⟨Al, cl, rfl, _, _⟩ := hv2.form
  have HV2 := Lib.hid hv2
  clear hv2
  go_upto_region 5 with (go_at_call 27; (with_reducible refine (MB.out _).mono ?_); rintro e w3 ⟨rfl, g3⟩; have b4 := box_past g3 b3 (by omega); have d4 := box_past g3 d3 (by omega); have p3 := p2.trans g3; have z3 := Nat.le_trans z2 g3.2.2.1; have HV3 := Lib.hid (HV2.out.grow g3); clear b3 d3 p2 g3 z2)
  go_upto_region 10 with (go_at_call 28; (with_reducible refine (SPB.out _ p3 _ HV3.out).mono ?_); rintro e w4 ⟨v4, t4, rfl, ⟨v5, e5, own5⟩, g4⟩; simp only [Value.tuple.injEq, Array.mk.injEq, List.cons.injEq, Value.bool.injEq, and_true] at e5; obtain ⟨rfl, rfl⟩ := e5;  have p4 := p3.trans g4; clear b4 d4 p3 z3 g4)
  obtain ⟨As, cs, rfl, hs1, hs2⟩ := own_slice' own5
  have OW := Lib.hid own5
  have IL := Lib.hid (sps_of_own own5 HL.out)
  have P4 := Lib.hid p4
  clear own5 p4 hs2
  go_wp2_with fail
  go_loopw [46] (fun i wr => ∃ j : Nat, j ≤ L.length ∧ i = .int .i64 j ∧ Hid (∀ i, i < j → spanE (L.getD i default) = 0) ∧ Hid (Past w4 wr)) (fun i _ => L.length - (intOf i).toNat)
  case atStart => exact ⟨0, by omega, rfl, Lib.hid (fun i hi => by omega), Lib.hid (Past.refl _)⟩
  case round =>
    obtain ⟨j, hj, rfl, ALL, PR⟩ := hrel
    by_cases l : j < L.length
    · obtain ⟨bs, os, rfl, _, hat⟩ := IL.out.at l
      obtain ⟨m0, m1, m2, m3⟩ := hat wr PR.out
      obtain ⟨s, hs⟩ : ∃ s, L.getD j default = s := ⟨_, rfl⟩
      rw [hs] at m0 m1 m2 m3
      have HS := Lib.hid hs
      have i1 : (0 : Int) ≤ (j : Int) := by omega
      have i2 : (j : Int) < (L.length : Int) := by omega
      obtain ⟨q, hq⟩ : ∃ q, q = spanE s := ⟨_, rfl⟩
      have HQ := Lib.hid hq
      clear hat hs hq
      go_upto_region 15 with fail
      refine opq (fun w' => (∀ o : Nat, w'.cell? ⟨wr.heap.size, o, none⟩ = (#[.int .i64 s.m, .int .i64 s.f, .int .i64 s.t, .bool s.w] : Array Value)[o]?) ∧ Past w4 w') ⟨by (exact kKeep), PR.out.alloc _⟩ ?_
      rintro w5 ⟨b5, p5⟩
      have P5 := Lib.hid p5
      clear m0 m1 m2 m3 p5
      go_upto_region 16 with (go_at_call 9; (with_reducible refine (smay_any s q _ HQ).mono ?_); rintro e w6 ⟨rfl, g6⟩; have P6 := Lib.hid (P5.out.trans (Grown.past g6)); clear b5 g6)
      by_cases h : q = 0
      · have d1 : (q != 0) = false := by simp [h]
        have NX := Lib.hid (show ∀ i, i < j + 1 → spanE (L.getD i default) = 0 from fun i hi => by
          by_cases c : i = j
          · subst c; rw [HS.out, ← HQ.out]; exact h
          · exact ALL.out i (by omega))
        clear h
        go_wp2_with fail
        go_roundw
        case rel => exact ⟨j + 1, by omega, by go_num, NX, P6⟩
        case measure => simp [intOf]; omega
      · have d1 : (q != 0) = true := by simp [h]
        have FE := Lib.hid (show firstE L = q by rw [first_at l ALL.out (by rw [HS.out, ← HQ.out]; exact h), HS.out]; exact HQ.out.symm)
        have HN := Lib.hid h
        clear h
        go_wp2_with fail
        go_ret2
        exact ⟨.slice none 0 0, by rw [FE.out]; rfl, fun h => absurd (FE.out.symm.trans h) HN.out, P4.out.trans P6.out⟩
    · have FE := Lib.hid (show firstE L = 0 from first_none (fun i hi => ALL.out i (by omega)))
      go_wp2_with fail
      go_ret2
      exact ⟨.slice As L.length cs, by rw [FE.out]; rfl, fun _ => OW.out.past PR.out, P4.out.trans PR.out⟩
end Go.Proofs.Ytgbedoffgahhaaa

namespace Go.Proofs.Ytgbedoffgahhaaa
open Go.ChangeShapes Go.WideShapes Go.ChangeAt Go.RowKit
set_option maxRecDepth 20000
set_option linter.unusedVariables false
set_option linter.unusedSimpArgs false
theorem infoInt : (Try.prog.info? 3).map (fun i => (i.zero, i.size, i.bytes)) = some (some (.int .i64 0), 1, 8) := by kernel_rfl
/-- A row of int that a call owns. -/
def OwnI (w : World) (base : Nat) (v : Value) (xs : List Int) : Prop := w.ownsRow base 3 1 v xs.length (xs.map (Value.int .i64))
theorem OwnI.past {w w' : World} {base : Nat} {v : Value} {l : List Int} (h : OwnI w base v l) (g : Past w w') : OwnI w' base v l := by
  obtain ⟨hl, h⟩ := h
  refine ⟨hl, ?_⟩
  rcases h with ⟨rfl, h0⟩ | ⟨b, cap, cur, rfl, hb, hg, hn, hm, hs, ht⟩
  · exact .inl ⟨rfl, h0⟩
  · exact .inr ⟨b, cap, cur, rfl, hb, (g.2.2.2 b (Array.getElem?_eq_some_iff.1 hg).1).trans hg, hn, hm, hs, ht⟩
theorem numsI_of_own {w : World} {base : Nat} {v : Value} {xs : List Int} (ho : OwnI w base v xs) (wf : ∀ x ∈ xs, (Lit.int .i64 x).wf = true) : IsNums .i64 w v xs := by
  obtain ⟨hl, h⟩ := ho
  rcases h with ⟨rfl, h0⟩ | ⟨b, cap, cur, rfl, hb, hg, hn, hm, hs, ht⟩
  · have : xs = [] := List.eq_nil_of_length_eq_zero h0
    subst this
    exact ⟨none, 0, rfl, Nat.le_refl _, Nat.zero_le _, fun _ => rfl, by simp, by simp⟩
  · refine ⟨some ⟨b, 0, none⟩, cap, rfl, hn, hm, (fun h => by cases h), wf, fun hp => ⟨b, 0, rfl, (Array.getElem?_eq_some_iff.1 hg).1, fun i hi => ?_⟩⟩
    have key : w.cell? ⟨b, 0 + i, none⟩ = (xs.map (Value.int .i64))[i]? := by
      rw [← ht, List.getElem?_take_of_lt (by omega)]
      simp [World.cell?, hg]
    rw [key]
    simp [List.getD, hi]
theorem OwnI.lt {w : World} {base : Nat} {v : Value} {l : List Int} (h : OwnI w base v l) {k : Nat} (hk : v.ownBlock = some k) : base ≤ k := (World.ownsRow.lt h k hk).1
theorem ownI_lit (w : World) : OwnI (w.alloc (.cells #[] 3)) w.heap.size (.slice (some ⟨w.heap.size, 0, none⟩) 0 0) [] := World.ownsRow_lit w #[] 0 (Nat.le_refl _) (by decide) rfl
theorem OwnI.alloc {w : World} {base : Nat} {v : Value} {l : List Int} (h : OwnI w base v l) (x : Obj) : OwnI (w.alloc x) base v l := World.ownsRow.alloc h x
/-- append of a row of int to one that the call owns. -/
theorem wpList_append_i {ops : Array Oper} {Q : Exit → Act → World → Prop} {rest : List Oper} {o : Oper} {a : Act} {w : World} (hgd : o.guard = none) (s x : Operand) (ho : o.op = .call { callee := .builtin .append, args := #[s, x], argTypes := #[34, 34] })
    (base : Nat) (v : Value) (xs : List Int) (hs : a.eval s = v) (hown : OwnI w base v xs) (ys : List Int) (A : Option Addr) (n cap : Nat) (hx : a.eval x = .slice A n cap) (hy : IsNums .i64 w (.slice A n cap) ys) (hm : xs.length + ys.length ≤ 1000000) (hbase : base ≤ w.heap.size)
    (h : ∀ v' w', OwnI w' base v' (xs ++ ys) → w.grownBy w' v.ownBlock → wpList Try.prog ops Q rest (a.put o.dst v') w') : wpList Try.prog ops Q (o :: rest) a w := by
  obtain ⟨i, hi, hz, hsz, hb⟩ := info_parts infoInt
  obtain ⟨A', cap', e, h2, h3, h4, h5, h6⟩ := hy
  simp only [Value.slice.injEq] at e
  obtain ⟨rfl, rfl, rfl⟩ := e
  by_cases hp : 0 < ys.length
  · obtain ⟨b, off, rfl, hbl, hc⟩ := h6 hp
    refine wpList_append_own _ hgd s x 34 ho base 3 i _ 1 8 Try.underlying34 hi hz hsz hb rfl (by decide) v xs.length (xs.map (Value.int .i64)) hs hown ⟨b, off, none⟩ ys.length cap (ys.map (Value.int .i64)) hx (by simp) (fun j u hu => ?_) (by intro u hu; simp only [List.mem_map] at hu; obtain ⟨z, _, rfl⟩ := hu; rfl) (by unfold maxLen; omega) (by omega) hbase ?_
    · rw [add_plain]
      have hj : j < ys.length := by
        by_cases q : j < ys.length
        · exact q
        · rw [List.getElem?_eq_none (by simpa using q)] at hu; cases hu
      rw [hc j hj]
      rw [← hu]
      simp [List.getD, hj]
    · intro v' w' ow g _
      exact h v' w' (by unfold OwnI; simpa using ow) g
  · have e0 : ys = [] := List.eq_nil_of_length_eq_zero (by omega)
    subst e0
    simp only [List.length_nil] at hx h4
    cases A with
    | none =>
      obtain rfl := h4 rfl
      have hr := run_append_owned_none (P := Try.prog) w base 34 o.type 3 i 1 Try.underlying34 hi v xs.length (xs.map (Value.int .i64)) hown
      refine wpList_plain hgd fun K hK => ?_
      unfold Oper.wp execOp
      simp only [ho, resolve, invoke, builtin, Sem.run_bind, Sem.run_pure, Result.andThen_ok, List.map_toArray, List.map_cons, List.map_nil, hs, hx, hr]
      exact hK _ _ (h v w (by simpa using hown) (World.grownBy.refl _ _))
    | some ad =>
      refine wpList_append_own _ hgd s x 34 ho base 3 i _ 1 8 Try.underlying34 hi hz hsz hb rfl (by decide) v xs.length (xs.map (Value.int .i64)) hs hown ad 0 cap [] hx rfl (fun j u hu => by simp at hu) (by simp) (by unfold maxLen; omega) (by omega) hbase ?_
      intro v' w' ow g _
      exact h v' w' (by unfold OwnI; simpa using ow) g

section
variable {H : Type} {enc : TypeId × Value → H} {W : World}
theorem seven {α : Type} {l : List α} (h : l.length = 7) : ∃ a b c d e f g, l = [a, b, c, d, e, f, g] := by
  match l, h with
  | [a, b, c, d, e, f, g], _ => exact ⟨a, b, c, d, e, f, g, rfl⟩
theorem cellsImg : Try.prog.cellsOf 40 = 7 := by kernel_rfl
theorem open_graph_trod {fuel : Nat} {a b c : Value} {x : DataW H × List MemPlace} (hf : DataW.trod enc Try.prog W 0 (fun _ => true) true fuel 36 [a, b, c] = some x) : ∃ g, IsGraph W (.agg #[a, b, c]) g := by
  obtain ⟨_, y0, h0⟩ := field Try.underlying36 hf 0 _ rfl
  obtain ⟨_, y1, h1⟩ := field Try.underlying36 hf 1 _ rfl
  simp [cells29] at h0
  simp [cells38] at h1
  obtain ⟨ins, hi⟩ := open_vals h0
  obtain ⟨nodes, hn⟩ := open_nodes h1
  obtain ⟨outs, ho⟩ := field_nums Try.underlying36 hf 2 _ rfl rfl Try.underlying34 Try.underlying3 cells22 cells3 (c := c) rfl
  exact ⟨⟨ins, nodes, outs⟩, a, b, c, rfl, hi, hn, ho⟩
/-- An image, but for what its streams are. -/
def IsIm (W : World) (v : Value) (x : GraphD × List Int) : Prop := ∃ (iv nv ov pv : Value) (A5 : Option Addr) (n5 c5 : Nat) (A6 : Option Addr) (n6 c6 : Nat) (A7 : Option Addr) (n7 c7 : Nat), v = .agg #[iv, nv, ov, pv, .slice A5 n5 c5, .slice A6 n6 c6, .slice A7 n7 c7] ∧ IsGraph W (.agg #[iv, nv, ov]) x.1 ∧ IsNums .i64 W pv x.2
theorem cellsStr3 : Try.prog.cellsOf 38 = 3 := by kernel_rfl
theorem cellsStr : Try.prog.cellsOf 37 = 1 := by kernel_rfl
theorem cellsCmd14 : Try.prog.cellsOf 57 = 14 := by kernel_rfl
theorem str3_read {fuel : Nat} {a b c : Value} {x : DataW H × List MemPlace} (h : DataW.trod enc Try.prog W 0 (fun _ => true) true fuel 38 [a, b, c] = some x) :
    ∃ m y z u, DataW.trod enc Try.prog W 0 (fun _ => true) true m 37 [a] = some y ∧ DataW.trod enc Try.prog W 0 (fun _ => true) true m 37 [b] = some z ∧ DataW.trod enc Try.prog W 0 (fun _ => true) true m 37 [c] = some u := by
  match fuel, h with
  | 0, h => simp [DataW.trod] at h
  | m + 1, h =>
    unfold DataW.trod at h
    rw [Try.underlying38] at h
    simp [show List.range 3 = [0, 1, 2] from rfl, cellsStr] at h
    have h := h.2
    rcases e0 : DataW.trod enc Try.prog W 0 (fun _ => true) true m 37 [a] with _ | y
    · rw [e0] at h; simp at h
    · rcases e1 : DataW.trod enc Try.prog W 0 (fun _ => true) true m 37 [b] with _ | z
      · rw [e0, e1] at h; simp at h
      · rcases e2 : DataW.trod enc Try.prog W 0 (fun _ => true) true m 37 [c] with _ | u
        · rw [e0, e1, e2] at h; simp at h
        · exact ⟨m, y, z, u, e0, e1, e2⟩
theorem open_str {fuel : Nat} {v : Value} {x : DataW H × List MemPlace} (h : DataW.trod enc Try.prog W 0 (fun _ => true) true fuel 37 [v] = some x) : ∃ (A : Option Addr) (n c : Nat), v = .slice A n c := by
  obtain ⟨A, len, cap, ev, _⟩ := open_rows Try.underlying37 cellsCmd14 (by omega) h
  exact ⟨A, len, cap, ev⟩
theorem open_im {r : Reach} {b0 : Nat} {v : Value} {d : DataW H} {p : List MemPlace} (hv : Value.okWide Try.prog W r b0 40 v) (h : DataW.Trod enc Try.prog W 0 (fun _ => true) true 40 v d p) : ∃ i, IsIm W v i := by
  obtain ⟨cs, rfl, hsz⟩ := okWide_struct Try.underlying40 hv
  rw [cellsImg] at hsz
  obtain ⟨l⟩ := cs
  obtain ⟨iv, nv, ov, pv, u0, u1, u2, rfl⟩ := seven hsz
  obtain ⟨fuel, hf⟩ := h
  have hf' : DataW.trod enc Try.prog W 0 (fun _ => true) true fuel 40 [iv, nv, ov, pv, u0, u1, u2] = some (d, p) := hf
  obtain ⟨_, y0, h0⟩ := field Try.underlying40 hf' 0 _ rfl
  obtain ⟨_, y2, h2⟩ := field Try.underlying40 hf' 2 _ rfl
  simp [cells40] at h0
  simp [cellsStr3] at h2
  obtain ⟨g, hg⟩ := open_graph_trod h0
  obtain ⟨pl, hp⟩ := field_nums Try.underlying40 hf' 1 _ rfl rfl Try.underlying34 Try.underlying3 cells22 cells3 (c := pv) rfl
  obtain ⟨_, _, _, _, k0, k1, k2⟩ := str3_read h2
  obtain ⟨A5, n5, c5, rfl⟩ := open_str k0
  obtain ⟨A6, n6, c6, rfl⟩ := open_str k1
  obtain ⟨A7, n7, c7, rfl⟩ := open_str k2
  exact ⟨(g, pl), iv, nv, ov, pv, A5, n5, c5, A6, n6, c6, A7, n7, c7, rfl, hg, hp⟩
theorem cellsByte : Try.prog.cellsOf 5 = 1 := by kernel_rfl
theorem cellsBytes3 : Try.prog.cellsOf 41 = 3 := by kernel_rfl
theorem bytes3_read {fuel : Nat} {a b c : Value} {x : DataW H × List MemPlace} (h : DataW.trod enc Try.prog W 0 (fun _ => true) true fuel 41 [a, b, c] = some x) :
    ∃ m y z u, DataW.trod enc Try.prog W 0 (fun _ => true) true m 5 [a] = some y ∧ DataW.trod enc Try.prog W 0 (fun _ => true) true m 5 [b] = some z ∧ DataW.trod enc Try.prog W 0 (fun _ => true) true m 5 [c] = some u := by
  match fuel, h with
  | 0, h => simp [DataW.trod] at h
  | m + 1, h =>
    unfold DataW.trod at h
    rw [Try.underlying41] at h
    simp [show List.range 3 = [0, 1, 2] from rfl, cellsByte] at h
    have h := h.2
    rcases e0 : DataW.trod enc Try.prog W 0 (fun _ => true) true m 5 [a] with _ | y
    · rw [e0] at h; simp at h
    · rcases e1 : DataW.trod enc Try.prog W 0 (fun _ => true) true m 5 [b] with _ | z
      · rw [e0, e1] at h; simp at h
      · rcases e2 : DataW.trod enc Try.prog W 0 (fun _ => true) true m 5 [c] with _ | u
        · rw [e0, e1, e2] at h; simp at h
        · exact ⟨m, y, z, u, e0, e1, e2⟩
theorem open_bytes3 {r : Reach} {b0 : Nat} {v : Value} {d : DataW H} {p : List MemPlace} (hv : Value.okWide Try.prog W r b0 41 v) (h : DataW.Trod enc Try.prog W 0 (fun _ => true) true 41 v d p) : ∃ x : Int × Int × Int, v = .agg #[.int .u8 x.1, .int .u8 x.2.1, .int .u8 x.2.2] ∧ (Lit.int .u8 x.1).wf = true ∧ (Lit.int .u8 x.2.1).wf = true ∧ (Lit.int .u8 x.2.2).wf = true := by
  obtain ⟨cs, rfl, hsz, _⟩ : ∃ cs, v = .agg cs ∧ cs.size = Try.prog.cellsOf 41 ∧ Row.okWide Try.prog W r b0 41 cs := by simpa [Value.okWide, Try.underlying41] using hv
  rw [cellsBytes3] at hsz
  obtain ⟨l⟩ := cs
  obtain ⟨a, b, c, rfl⟩ := three (l := l) hsz
  obtain ⟨fuel, hf⟩ := h
  obtain ⟨m, y, z, u, h1, h2, h3⟩ := bytes3_read hf
  obtain ⟨n1, e1, _, w1⟩ := DataW.trod_int Try.underlying5 h1
  obtain ⟨n2, e2, _, w2⟩ := DataW.trod_int Try.underlying5 h2
  obtain ⟨n3, e3, _, w3⟩ := DataW.trod_int Try.underlying5 h3
  simp at e1 e2 e3
  subst e1 e2 e3
  exact ⟨(n1, n2, n3), rfl, w1, w2, w3⟩
end
/-! ### In numbers -/
theorem size_le {h w c : Int} (m : mayS h w c) : 1 ≤ sizeI h w c ∧ sizeI h w c ≤ 2048 := by
  have m0 := m
  obtain ⟨h1, h2, h3, h4, h5, h6⟩ := m
  unfold sizeI
  rw [if_pos m0]
  obtain ⟨p1, p2⟩ := mul_bd h1 h2 h3 h4
  obtain ⟨p3, p4⟩ := mul_bd p1 p2 h5 h6
  omega
theorem row_le {h w c : Int} (m : mayS h w c) : 1 ≤ rowI h w c ∧ rowI h w c ≤ 128 := by
  have m0 := m
  obtain ⟨h1, h2, h3, h4, h5, h6⟩ := m
  unfold rowI
  rw [if_pos m0]
  obtain ⟨p1, p2⟩ := mul_bd h3 h4 h5 h6
  omega
def placesL (n : Nat) : List Int := (List.range n).map fun (i : Nat) => 2048 * (i : Int)
theorem places_len (n : Nat) : (placesL n).length = n := by simp [placesL]
theorem places_at {n i : Nat} (h : i < n) : (placesL n).getD i 0 = 2048 * (i : Int) := by simp [placesL, List.getD, h]
theorem places_succ (n : Nat) : placesL (n + 1) = placesL n ++ [2048 * (n : Int)] := by simp [placesL, List.range_succ]
theorem places_wf {n : Nat} (h : n ≤ 1000) : ∀ x ∈ placesL n, (Lit.int .i64 x).wf = true := by
  intro x hx
  simp only [placesL, List.mem_map, List.mem_range] at hx
  obtain ⟨i, hi, rfl⟩ := hx
  simp [Lit.wf, IntKind.min, IntKind.max, IntKind.bits, IntKind.signed]; omega
/-- A value at its place. -/
theorem whole_is {vs : List ValD} {wr : Bool} {i : Nat} (hi : i < vs.length) (hn : vs.length ≤ 16) (m : mayV (vs.getD i default)) : wholeS vs (placesL vs.length) wr i = ⟨0, 2048 * (i : Int), 2048 * (i : Int) + sizeI (vs.getD i default).h (vs.getD i default).w (vs.getD i default).c, wr⟩ := by
  unfold wholeS
  rw [places_at hi]
  have := size_le m
  congr 1
  unfold wrap64; omega
theorem wf64 {x : Int} (h : -9223372036854775808 ≤ x ∧ x ≤ 9223372036854775807) : (Lit.int .i64 x).wf = true := by simpa [Lit.wf, IntKind.min, IntKind.max, IntKind.bits, IntKind.signed] using h
theorem whole_ok {vs : List ValD} {wr : Bool} {i : Nat} (hi : i < vs.length) (hn : vs.length ≤ 16) (m : mayV (vs.getD i default)) : spanE (wholeS vs (placesL vs.length) wr i) = 0 ∧ SpWf (wholeS vs (placesL vs.length) wr i) := by
  rw [whole_is hi hn m]
  have hs := size_le m
  obtain ⟨q, hq⟩ : ∃ q, sizeI (vs.getD i default).h (vs.getD i default).w (vs.getD i default).c = q := ⟨_, rfl⟩
  rw [hq] at hs ⊢
  obtain ⟨n, hnn⟩ : ∃ n, vs.length = n := ⟨_, rfl⟩
  rw [hnn] at hi hn
  constructor
  · unfold spanE
    dsimp only
    rw [if_neg (fun h => h (.inl rfl)), if_neg (by rw [if_neg (by decide)]; omega)]
  · exact ⟨wf64 (x := 0) (by omega), wf64 (x := 2048 * (i : Int)) (by omega), wf64 (x := 2048 * (i : Int) + q) (by omega)⟩
end Go.Proofs.Ytgbedoffgahhaaa

namespace Go.Proofs.Ytgbedoffgahhaaa
open Go.ChangeShapes Go.WideShapes Go.ChangeAt Go.RowKit
set_option maxRecDepth 20000
set_option linter.unusedVariables false
set_option linter.unusedSimpArgs false
theorem first_all {l : List SpD} (h : ∀ x ∈ l, spanE x = 0) : firstE l = 0 := first_none (fun i hi => by
  have : l.getD i default ∈ l := by simp [List.getD, List.getElem?_eq_getElem hi]
  exact h _ this)
theorem first_app {l m : List SpD} (h : ∀ x ∈ l, spanE x = 0) : firstE (l ++ m) = firstE m := by
  induction l with
  | nil => rfl
  | cons x l ih =>
    show (if spanE x ≠ 0 then spanE x else firstE (l ++ m)) = firstE m
    rw [if_neg (by rw [h x (by simp)]; simp), ih (fun y hy => h y (by simp [hy]))]
theorem getD_map_lt {α : Type} {f : α → SpD} {l : List α} (d : α) {j : Nat} (h : j < l.length) : (l.map f).getD j default = f (l.getD j d) := by simp [List.getD, List.getElem?_eq_getElem h]
theorem kern_len (vs : List ValD) (pl xs : List Int) (made : Nat) : (kernL vs pl xs made).length = xs.length + 1 := by simp [kernL]
theorem kern_at {vs : List ValD} {pl xs : List Int} {made j : Nat} (h : j < xs.length) : (kernL vs pl xs made).getD j default = wholeS vs pl false (xs.getD j 0).toNat := by
  unfold kernL
  rw [List.getD, List.getElem?_append_left (by simpa using h), ← List.getD, getD_map_lt 0 h]
theorem kern_last {vs : List ValD} {pl xs : List Int} {made : Nat} : (kernL vs pl xs made).getD xs.length default = wholeS vs pl true made := by
  unfold kernL
  simp [List.getD]
theorem kern_ok {vs : List ValD} {xs : List Int} {made : Nat} (hn : vs.length ≤ 16) (hm : ∀ j, j < vs.length → mayV (vs.getD j default)) (hx : AllIn vs.length xs) (hd : made < vs.length) :
    firstE (kernL vs (placesL vs.length) xs made) = 0 ∧ ∀ x ∈ kernL vs (placesL vs.length) xs made, SpWf x := by
  have key : ∀ x ∈ kernL vs (placesL vs.length) xs made, spanE x = 0 ∧ SpWf x := by
    intro x h
    unfold kernL at h
    rcases List.mem_append.1 h with h | h
    · obtain ⟨i, hi, rfl⟩ := List.mem_map.1 h
      obtain ⟨j, hj, rfl⟩ := List.getElem_of_mem hi
      have e : xs.getD j 0 = xs[j] := by simp [List.getD, hj]
      have := hx j hj
      rw [e] at this
      exact whole_ok (by omega) hn (hm _ (by omega))
    · simp only [List.mem_cons, List.not_mem_nil, or_false] at h
      subst h
      exact whole_ok hd hn (hm _ hd)
  exact ⟨first_all (fun x h => (key x h).1), fun x h => (key x h).2⟩
/-- The command of the node in DRAM, and of so many rows of it. -/
def cmdK (k : Nat) (h : Int) : List Int := [4, 0, k, 0, h, 0, 0, 0, 0, 0, 0, 0, 0, 0]
def cmdT (k : Nat) (first rows : Int) : List Int := [3, 0, k, first, rows, 0, 0, 0, 0, 0, 0, 0, 0, 0]
theorem cmdK_may {k : Nat} {h : Int} (hk : k ≤ 11) (h1 : 1 ≤ h) (h2 : h ≤ 16) : Q8.mayE (cmdK k h) = 0 := by
  rw [Q8.mayE_ok]
  exact (Q8.may_kernel rfl).2 ⟨by omega, by omega, rfl, rfl, rfl, rfl, rfl, rfl, rfl, rfl, rfl, rfl, rfl⟩
theorem cmdT_may {k : Nat} {f r : Int} (hk : k ≤ 11) (h1 : 0 ≤ f) (h2 : f ≤ 15) (h3 : 1 ≤ r) (h4 : r ≤ 16) : Q8.mayE (cmdT k f r) = 0 := by
  rw [Q8.mayE_ok]
  exact (Q8.may_tile rfl).2 ⟨by omega, by omega, by omega, by omega, by omega, by omega, by omega, by omega, by omega, by omega, rfl, rfl, rfl⟩
theorem tile_len (vs : List ValD) (c xs : List Int) (made : Nat) : (tileL vs c xs made).length = xs.length + 1 := by simp [tileL]
theorem rows_nought (vs : List ValD) (i : Nat) : rowsS vs false 0 0 i = ⟨1, 0, 0, false⟩ := by
  unfold rowsS
  congr 1
  rw [Int.zero_mul]; unfold wrap64; omega
theorem rows_made {vs : List ValD} {r : Int} {i : Nat} (m : mayV (vs.getD i default)) (h1 : 1 ≤ r) (h2 : r ≤ 16) : rowsS vs true 0 r i = ⟨1, 0, r * rowI (vs.getD i default).h (vs.getD i default).w (vs.getD i default).c, true⟩ ∧ 1 ≤ r * rowI (vs.getD i default).h (vs.getD i default).w (vs.getD i default).c ∧ r * rowI (vs.getD i default).h (vs.getD i default).w (vs.getD i default).c ≤ 2048 := by
  obtain ⟨a, b⟩ := row_le m
  obtain ⟨p1, p2⟩ := mul_bd h1 h2 a b
  refine ⟨?_, by omega, by omega⟩
  unfold rowsS
  congr 1
  unfold wrap64; omega
theorem tile_last {vs : List ValD} {xs : List Int} {k made : Nat} {f r : Int} : (tileL vs (cmdT k f r) xs made).getD xs.length default = rowsS vs true 0 r made := by
  unfold tileL
  simp [List.getD, cmdT]
theorem tile_ok {vs : List ValD} {xs : List Int} {k made : Nat} {f r : Int} (m : mayV (vs.getD made default)) (h1 : 1 ≤ r) (h2 : r ≤ 16) (hx : xs.length ≤ 2) :
    firstE (tileL vs (cmdT k f r) xs made) = (if 1024 < r * rowI (vs.getD made default).h (vs.getD made default).w (vs.getD made default).c then 23 else 0) ∧ ∀ x ∈ tileL vs (cmdT k f r) xs made, SpWf x := by
  obtain ⟨e, a, b⟩ := rows_made m h1 h2
  obtain ⟨q, hq⟩ : ∃ q, r * rowI (vs.getD made default).h (vs.getD made default).w (vs.getD made default).c = q := ⟨_, rfl⟩
  rw [hq] at e a b ⊢
  have g : ∀ x ∈ (List.range xs.length).map (tileG vs (cmdT k f r) xs), x = ⟨1, 0, 0, false⟩ := by
    intro x h
    obtain ⟨j, hj, rfl⟩ := List.mem_map.1 h
    simp only [List.mem_range] at hj
    have : tileG vs (cmdT k f r) xs j = rowsS vs false 0 0 (xs.getD j 0).toNat := by
      unfold tileG
      match j, (show j < 2 by omega) with
      | 0, _ => rfl
      | 1, _ => rfl
    rw [this, rows_nought]
  have t : tileL vs (cmdT k f r) xs made = (List.range xs.length).map (tileG vs (cmdT k f r) xs) ++ [⟨1, 0, q, true⟩] := by
    unfold tileL
    rw [show (cmdT k f r).getD 7 0 = 0 from rfl, show (cmdT k f r).getD 4 0 = r from rfl, e]
  constructor
  · rw [t, first_app (fun x h => by rw [g x h]; decide)]
    by_cases c : 1024 < q
    · rw [if_pos c]
      have se : spanE ⟨1, 0, q, true⟩ = 23 := by
        unfold spanE
        dsimp only
        rw [if_neg (fun h => h (.inr rfl)), if_pos (by rw [if_pos rfl]; omega)]
      unfold firstE
      rw [se]; rfl
    · rw [if_neg c]
      have se : spanE ⟨1, 0, q, true⟩ = 0 := by
        unfold spanE
        dsimp only
        rw [if_neg (fun h => h (.inr rfl)), if_neg (by rw [if_pos rfl]; omega)]
      unfold firstE
      rw [se]; rfl
  · intro x h
    rw [t] at h
    rcases List.mem_append.1 h with h | h
    · rw [g x h]; exact ⟨wf64 (x := 1) (by omega), wf64 (x := 0) (by omega), wf64 (x := 0) (by omega)⟩
    · simp only [List.mem_cons, List.not_mem_nil, or_false] at h
      subst h
      exact ⟨wf64 (x := 1) (by omega), wf64 (x := 0) (by omega), wf64 (x := q) (by omega)⟩
theorem cut_less (g : GraphD) : Cut (lessD g) := by
  unfold lessD fewD
  refine ⟨by simp; omega, fun n hn => ?_⟩
  simp only [List.mem_map] at hn
  obtain ⟨m, _, rfl⟩ := hn
  constructor
  · simp; omega
  · simp; omega
end Go.Proofs.Ytgbedoffgahhaaa
